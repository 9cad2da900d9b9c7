import PyProof.Rows.All
import Wide.All
import OpenK.AllK
import Wide.FinOn
import HandS.Base
import HandS.Call
import HandS.List
import HandS.Comp
import HandS.Ends
import HandS.Dict
import HandS.Iter
import HandS.Text
import HandS.Words
import HandS.Wide
import HandS.Flow
import HandS.Style
import HandS.IsInst
import HandS.ExcInit
import HandS.ExcIs
import HandS.Defaults
import HandS.Walk
import HandS.Codes
import KE.IntTextLaws
import PyProof.ReprRoads
import HandS.WordsExc
import HandS.TryMany
import HandS.ExcOwn
import HandS.ExcField
import KE.GoesEnum
import PyProof.ReprBulk
import HandS.WideBits
import PyProof.EqKinds
import PyProof.FactsAll.dict_1
import PyProof.FactsAll.subtypes_3
import PyProof.FactsAll.subtypes_4
import KE.KExcInit
import PyProof.ExcBaseAll.LookupError
import HandS.CallSlots
import HandS.Conv
import HandS.Deep
import KE.DataFind
import HandS.SetKeys
import HandS.Small
import HandS.SetFor
import PySem.Challenge.RW_guestsalone_k23_whole_nobody_waits_long
set_option Elab.async false
set_option linter.all false
set_option maxRecDepth 100000
set_option maxHeartbeats 8000000
namespace Bk
open PySem PySem.Spec PyProof.Rows L2
/-! ## 1. rules of our own -/
section
variable {X : Cx} {CX : CXT} {k n : Nat} {f : Addr} {fd : FuncData} {ps ks : List Str} {sp : Sp} {E : XK} {x m : Str} {p p1 p2 pos : Pos} {e : Expr} {es : List Expr} {kws : List Keyword} {t tk ta : TA} {g : List Value → List Value → List Value} {gV : List V → List V → List V}
/-- f(k = v, ..): keywords alone -/
theorem pe_callN0 (F : FnOk X.prog X.w X.K X.mg X.base CX k f fd ps sp) (hr : Room k X.A) (hg : Gl X x) (hm : X.mg x = some (.ref f)) (hk : PySem.W.keepIn X.K (.ref f) = true) (hb : KBn X.K fd ps 0 ks g gV) (hx : Passes CX X E)
    (hkw : PK X kws tk) (hall : (backToKw pos (keywordEach kws X.env)).all (·.1.isSome) = true := by rfl) (hks : (backToKw pos (keywordEach kws X.env)).filterMap (·.1) = ks := by rfl)
    (hdb : (x == ("__debug__" : Str)) = false := by decide)
    (hpl : ((backTo pos (starEach [] X.env)).any (·.1) || (backToKw pos (keywordEach kws X.env)).any (·.1.isNone)) = false := by rfl) :
    PE X (.Call (.Name x p) [] kws pos) (tCallN 0 ks.length sp gV E tNil tk) := by
  refine ⟨fun pins s σ H Q I h => ?_⟩
  refine wpAny_Call_Name_kw (ld_glob I hg hm ?_ hdb)
  refine PySem.W.callWith_KW0 (h₀ := X.base) I.ok.mod.kin hk hall ?_ hpl
  refine thn (hkw.run pos pins s σ H _ I h) fun ws s2 ⟨zs, H2, I2, rz, l1, l2, q2⟩ => ⟨I2.kIn, ?_⟩
  rw [hks]
  exact run_fnN (us := []) (vs := []) F hr hb hx I2 .nil rz rfl l2 q2
/-- C.m(e, ..): m a plain def of the class at B (or above it), read off the class -/
theorem pe_cdef {B : Addr} {mc : Value} {ds : List Value} {dvs : List V} {pl : Sem Bool} (F : FnOk X.prog X.w X.K X.mg X.base CX k f fd ps sp) (hr : Room k X.A) (hg : Gl X x) (hm : X.mg x = some (.ref B))
    (rd : PySem.W.readsIn X.K B mc = true) (ga : PySem.W.specialIn X.K (.ref B) "__getattribute__" = some (some (.builtin "type.__getattribute__"))) (at_ : PySem.W.findCls X.K (.ref B) mc m = some (.val (.ref f)))
    (hk : PySem.W.keepIn X.K (.ref f) = true) (hb : Binds X.K fd ps ds) (hd : Vals dvs ds) (hx : Passes CX X E) (ha : PA X (e :: es) t)
    (ht : eval (.Call (.Attribute (.Name x p1) m p2) (e :: es) [] pos) X.env = (do
      let ov ← eval (.Name x p1) X.env
      standAt p2.atName
      let (f, first) ← holding [ov] (getMethod ov m pl)
      callWith pos f first (backTo pos (starEach (e :: es) X.env)) (backToKw pos (keywordEach [] X.env))) := by rfl)
    (hdb : (x == ("__debug__" : Str)) = false := by decide) (he : starEach (e :: es) X.env = (false, eval e X.env) :: starEach es X.env := by rfl) (hpl : (backTo pos (starEach es X.env)).any (·.1) = false := by rfl) :
    PE X (.Call (.Attribute (.Name x p1) m p2) (e :: es) [] pos) (tCall sp dvs E t) := by
  refine ⟨fun pins s σ H Q I h => ?_⟩
  refine PySem.W.methodCall_KW (pl := pl) (ld_glob I hg hm ?_ hdb) ht
  refine PySem.W.method_cls I.kIn ga (PySem.W.cls_value I.kIn rd at_ rfl ?_)
  have I1 := I.tok (s.toks + 1)
  refine PySem.W.callWith_K (h₀ := X.base) I.ok.mod.kin hk (thn (ha.run pos pins _ σ H _ I1 h) fun us s1 ⟨vs, H1, I2, r, q⟩ => ⟨I2.kIn, ?_⟩) he hpl
  exact run_fn F hr hb hd hx I2 r q
/-- C(e, ..) as a value, C an own exception class under ValueError whose own __init__ keeps sp -/
def tMkV (C : Addr) (sp : Sp) (dvs : List V) (ta : TA) : TE := fun σ H Q => ta σ H fun vs H1 => vs.length ≤ 1000 ∧ ∀ a, H1 a = none → sp (.ref a :: (vs ++ dvs)) (upd H1 a (exo a C none)) (fun v H2 => v = .non ∧ Q (.ref a) H2) (fun _ _ _ => False)
theorem pe_oex {C fI : Addr} {ds : List Value} {dvs : List V} (T : OexC X.K C) (iC : PySem.W.findIn X.K (.ref C) "__init__" = some (some (.ref fI))) (tI : PySem.W.typeIn X.K (.ref fI) = some (.type "function"))
    (F1 : FnOk X.prog X.w X.K X.mg X.base CX k fI fd ps sp) (hr : Room (k + 1) X.A) (hb : Binds X.K fd ps ds) (hd : Vals dvs ds) (hx : Passes CX X (fun _ _ _ => False)) (hg : Gl X x) (hm : X.mg x = some (.ref C)) (ha : PA X (e :: es) ta)
    (hdb : (x == ("__debug__" : Str)) = false := by decide) (he : starEach (e :: es) X.env = (false, eval e X.env) :: starEach es X.env := by rfl) (hpl : (backTo pos (starEach es X.env)).any (·.1) = false := by rfl) :
    PE X (.Call (.Name x p) (e :: es) [] pos) (tMkV C sp dvs ta) := by
  refine ⟨fun pins s σ H Q I h => ?_⟩
  obtain ⟨nm, q, N, bs, bm, sn, sub, ab, col, dd, k0, k1, k2, k3, k5, hC, hbm⟩ := T.cls
  refine wpAny_Call_Name_kw (ld_glob I hg hm ?_ hdb)
  refine PySem.W.callWith_K (h₀ := X.base) I.ok.mod.kin T.kC (thn (ha.run pos pins s σ H _ I h) fun us s1 ⟨vs, H1, I1, r1, hz, q1⟩ => ⟨I1.kIn, ?_⟩) he hpl
  show wpAny _ _ (call (.ref C) us) _ _ _
  obtain ⟨hp, g, dr, tk, os⟩ := s1
  have hsz : hp.objs.size ≤ hp.objs.size + 1 := Nat.le_succ _
  have hn : H1 (hp.objs.size + 1) = none := I1.hok.fresh hsz
  have hq := q1 (hp.objs.size + 1) hn
  have kk : ∀ b o, hp.get? b = some o → ((hp.push (PySem.W.kdv_tup us)).push (PySem.HandSPX.excO C hp.objs.size)).get? b = some o := fun b o e => Heap.get?_push_of_some _ (Heap.get?_push_of_some _ e)
  have hget : ((hp.push (PySem.W.kdv_tup us)).push (PySem.HandSPX.excO C hp.objs.size)).get? (hp.objs.size + 1) = some (PySem.HandSPX.excO C hp.objs.size) := by heap_get
  have I2 : Inv X pins σ (upd H1 (hp.objs.size + 1) (exo (hp.objs.size + 1) C none)) ⟨(hp.push (PySem.W.kdv_tup us)).push (PySem.HandSPX.excO C hp.objs.size), g, dr, tk, os⟩ :=
    I1.laid (t' := tk) (a := hp.objs.size + 1) (o := exo (hp.objs.size + 1) C none) (h' := (hp.push (PySem.W.kdv_tup us)).push (PySem.HandSPX.excO C hp.objs.size)) kk hsz (exo_ok hget)
  have r2 : Vals (V.ref (hp.objs.size + 1) :: (vs ++ dvs)) (Value.ref (hp.objs.size + 1) :: (us ++ ds)) := .cons rfl (r1.append hd)
  have hl : (Value.ref (hp.objs.size + 1) :: us ++ ds).length = ps.length := by
    have e := r2.length
    rw [F1.len _ _ _ _ hq] at e
    exact e.symm
  have hus : us.length ≤ sizeLine := by
    rw [← Paired.length r1, sizeLine_eq]
    omega
  refine wpAny_call (PySem.HandSPX.call_own F.excBase_ValueError (fun Y => PySem.HandSPX.refsVE_contains Y bm hbm) (I1.kIn _ _ hC) (PySem.W.looks_findIn I1.kIn iC) (fun self => PySem.W.bind_fn I1.kIn self tI) hus
    (codeAny_mono (F1.run _ X.stack _ _ ⟨Value.ref (hp.objs.size + 1) :: us, []⟩ (Value.ref (hp.objs.size + 1) :: (us ++ ds)) _ _ (fun _ _ _ => False) (hr.make C us []) (I2.env0.make C us []) (hb _ (Value.ref (hp.objs.size + 1) :: us) I2.kIn hl) r2 hq) fun r s' hq' => ?_))
  cases r with
  | error er => exact hx pins σ _ _ er s' I2 hq'
  | ok fl =>
    cases fl with
    | ret u =>
      obtain ⟨v, H2, I3, rv, ev, q2⟩ := I2.after hq'
      subst ev
      exact ⟨rv, .ref (hp.objs.size + 1), H2, I3, rfl, q2⟩
    | next => exact False.elim hq'
    | brk => exact False.elim hq'
    | cont => exact False.elim hq'
/-- repr of a truth -/
def reprB (b : Bool) : Str := if b then "True" else "False"
theorem reprB_inj {a b : Bool} : decide (V.str (reprB a) = V.str (reprB b)) = decide (a = b) := by
  cases a <;> cases b <;> decide +kernel
theorem call_repr_bl : CallR X (.builtin "repr") (fun xs H Q => ∃ b, xs = [.bl b] ∧ Q (.str (reprB b)) H) := by
  intro pins s σ H xs us Q I r h
  obtain ⟨b, rfl, q⟩ := h
  obtain ⟨u, rfl, rfl⟩ := vals1 r
  exact PySem.P.repr_of_bool ⟨.str _, H, I.tok _, ⟨_, rfl⟩, q⟩
end
/-! ### an exception as a value: isinstance, its field -/
end Bk
namespace PySem.W
open PySem PySem.Spec PySem.Calls PyProof.Rows
section
variable {prog : Program} {w : World} {A : Around} {E : Value → Shared → Prop} {s : Shared} {K : Frag} {x D : Addr} {ox : Obj} {od : Option Obj}
theorem bk_findObj {C : Addr} {name : Str} {a g : Value} (hc : (clsIn K C).isSome = true) (ha : findIn K (.ref C) name = some (some a)) (hg : specialIn K a "__get__" = some (some g)) (ht : takesIn K a = some true) : findObj K C od name = some (.bind g a) := by
  obtain ⟨cd, hc⟩ := Option.isSome_iff_exists.mp hc
  unfold findObj
  rw [hc, Option.bind_some, ha, Option.bind_some]
  simp [hg, ht]
theorem bk_class {Q : Option Value → Shared → Prop} (hga : findIn K (.ref D) "__getattribute__" = some (some (.builtin "BaseException.__getattribute__"))) (hgt : findIn K (.ref D) "__getattr__" = some none) (hsub : subIn K (.ref D) (.type "BaseException") = some true)
    (hdct : hasDictIn K D = true) (ha : findIn K (.ref D) "__class__" = some (some (.builtin "object.__class__")))
    (hn : specialIn K (.builtin "object.__class__") "__get__" = some (some (.builtin "getset_descriptor.__get__"))) (htk : takesIn K (.builtin "object.__class__") = some true) (hm : mroIn K D (.type "object") = some true)
    (X : K.In s.heap) (I : InstAt s.heap x ox D od) (h : Q (some (.ref D)) { s with toks := s.toks + 1 }) : wpAny (model prog w) A (getAttr? (.ref x) "__class__") Q E s := by
  have hf : findObj K D od "__class__" = some (.bind (.builtin "getset_descriptor.__get__") (.builtin "object.__class__")) := bk_findObj (by obtain ⟨cd, hc, _⟩ := any_some hdct; rw [hc]; rfl) ha hn htk
  obtain ⟨hp, g, d, t, os⟩ := s
  have L0 := I.type (M := model prog w)
  have L1 := looks_findIn (M := model prog w) X hga
  have L2 := looks_findIn (M := model prog w) X hgt
  have L3 := looks_find (M := model prog w) X I hf
  have sub : Looks (model prog w) hp (isInstance (.ref x) (.type "BaseException")) true := L0.andThen (looks_subIn X hsub)
  have hx0 : (false && onTheHeap (Value.builtin "BaseException.__getattribute__")) = false := rfl
  have hx2 : (Value.builtin "BaseException.__getattribute__" == Value.builtin "object.__getattribute__") = false := by decide +kernel
  have hx1 : (onTheHeap (Value.ref D) && Value.builtin "BaseException.__getattribute__" == Value.builtin "object.__getattribute__") = false := by rw [hx2]; rfl
  unfold getAttr? getAttrBy? getAttrBy
  refine wpAny_bind (wpAny_mkText (wpAny_bind (wpAny_attempt (wpAny_holding (wpAny_bind (L0.at (wpAny_bind (L1.at ?_))))))))
  show wpAny _ _ (if (onTheHeap (Value.ref D) && Value.builtin "BaseException.__getattribute__" == Value.builtin "object.__getattribute__") = true then _ else _) _ _ _
  rw [hx1, if_neg Bool.false_ne_true]
  unfold getAttrByItsOwn hookBefore
  refine wpAny_bind ?_
  rw [if_pos (show onTheHeap (Value.ref D) = true from rfl)]
  refine L2.at ?_
  refine wpAny_bind (wpAny_attempt (wpAny_holding ?_))
  unfold callGetattribute
  rw [hx0, if_neg Bool.false_ne_true]
  unfold boundAndCalled
  rw [PySem.F.excAttr_ValueError.ga.bind (.ref x)]
  refine wpAny_bind (wpAny_pure ?_)
  show wpAny _ _ (call (.builtin "BaseException.__getattribute__") [.ref x, .str "__class__" t]) _ _ _
  refine wpAny_call (codeAny_call_builtin PySem.F.excAttr_ValueError.ga.plain PySem.F.entry_bexc_ga ?_)
  refine @check_slot (model prog w) _ _ ⟨hp, g, d, t + 1, os⟩ "BaseException.__getattribute__" "BaseException" "__getattribute__" (.ref x) [.str "__class__" t] [] _ (by decide +kernel) (by decide +kernel) sub (PySem.F.args_bexc_ga (.ref x) (.str "__class__" t)) ?_
  unfold Builtin.«object.__getattribute__»
  refine wpAny_bind (wpAny_of_eq (a := ((Value.ref x : Value), [Value.str "__class__" t])) (by first | rfl | (simp only [slotArgs]; rfl)) ?_)
  refine wpAny_bind (wpAny_pure (wpAny_bind (L0.at (wpAny_bind (L3.at ?_)))))
  show wpAny _ _ (holding [Value.builtin "object.__class__"] (call (.builtin "getset_descriptor.__get__") [.builtin "object.__class__", .ref x, .ref D]) >>= ret) _ _ _
  refine wpAny_bind (wpAny_holding (wpAny_call (class_get (s := ⟨hp, g, d, t + 1, os⟩) (ox := ox) (od := od) X I hm ?_)))
  refine wpAny_pure ?_
  show wpAny _ _ (handedOut (.ref D)) _ _ _
  rw [handedOut_of (v := .ref D) rfl]
  first
    | exact wpAny_pure (wpAny_pure h)
    | exact wpAny_pure h
    | exact wpAny_pure (wpAny_bind (wpAny_pure (wpAny_pure h)))
theorem bk_kitx (hga : findIn K (.ref D) "__getattribute__" = some (some (.builtin "BaseException.__getattribute__"))) (hgt : findIn K (.ref D) "__getattr__" = some none) (hsub : subIn K (.ref D) (.type "BaseException") = some true) (hdct : hasDictIn K D = true) (ha : findIn K (.ref D) "__class__" = some (some (.builtin "object.__class__")))
    (hn : specialIn K (.builtin "object.__class__") "__get__" = some (some (.builtin "getset_descriptor.__get__"))) (htk : takesIn K (.builtin "object.__class__") = some true) (hm : mroIn K D (.type "object") = some true) :
    KitX K (.ref x) (.ref D) (fun h => InstAt h x ox D od) where
  ty := fun _ _ _ I => I.type
  it := fun _ _ X _ => by
    obtain ⟨cdD, hcD, _⟩ := any_some hdct
    unfold clsIn at hcD
    split at hcD
    · rename_i c' d' cd' sl' ho
      intro A' Q' E' s' k q
      unfold isType loadHead
      exact wpAny_bind (wpAny_loadPart (k _ _ (X _ _ ho)) (wpAny_pure q))
    · cases hcD
  ne := fun h tp dd its n sl X htp => by
    obtain ⟨cdD, hcD, _⟩ := any_some hdct
    refine Bool.eq_false_iff.mpr fun q => ?_
    have e : D = tp := Value.ref.inj (beq_iff_eq.mp q)
    subst e
    unfold clsIn at hcD
    split at hcD
    · rename_i c' d' cd' sl' ho
      have z := (X _ _ ho).symm.trans htp
      cases z
    · cases hcD
  ca := fun X I k => bk_class hga hgt hsub hdct ha hn htk hm X I k
end
end PySem.W
namespace Bk
open PySem PySem.Spec PyProof.Rows L2
/-- at a: an exception of the class at D, its own dict (at dx) holds fs -/
def XV (H : Hp) (a D dx : Addr) (fs : List (Str × V)) : Prop := H a = some (exo a D (some dx)) ∧ H dx = some (exd dx fs)
theorem xv_inst {X : Cx} {pins : List (Addr × Obj)} {σ : L2.St} {H : Hp} {s : Shared} {a D dx : Addr} {fs : List (Str × V)} (I : Inv X pins σ H s) (h : XV H a D dx fs) :
    ∃ (ox od : Obj) (mA : Str → Option Value), PySem.W.InstAt s.heap a ox D (some od) ∧ (∀ f, PySem.W.lookIn f od = some (mA f)) ∧ ∀ f, RelO (fs.lookup f) (mA f) := by
  obtain ⟨t1, ho⟩ := exo_at I.hok h.1
  obtain ⟨mA, hns, rel⟩ := exd_at I.hok h.2
  obtain ⟨od, hod, hl⟩ := lookIn_ns hns
  exact ⟨_, od, mA, ⟨ho, rfl, rfl, hod⟩, hl, rel⟩
/-- isinstance(e, c), e such an exception -/
def rIsX (K : PySem.W.Frag) : List V → Hp → VK → Prop := fun xs H Q => ∃ (a D dx : Addr) (fs : List (Str × V)) (c : V) (u : Value) (b : Bool), xs = [.ref a, c] ∧ XV H a D dx fs ∧ ExcC K D ∧ ClsV c u ∧ PySem.W.kitOne K (.ref D) u = some b ∧ Q (.bl b) H
theorem call_isX {X : Cx} : CallR X (.builtin "isinstance") (rIsX X.K) := by
  intro pins s σ H xs us Q I r h
  obtain ⟨a, D, dx, fs, c, u, b, rfl, xv, C, k, e, q⟩ := h
  obtain ⟨u1, u2, rfl, r1, r2⟩ := vals2 r
  have e2 := k.eq r2
  subst e2
  obtain rfl : u1 = Value.ref a := r1
  obtain ⟨ox, od, mA, J, _, _⟩ := xv_inst I xv
  exact PySem.W.kia_one (PySem.W.bk_kitx (ox := ox) (od := some od) C.hg C.hk C.hs C.hd C.ha C.hn C.ht C.hm) I.kIn J e (fun z => nomatch z) fun tk => ⟨.bl b, H, I.tok tk, rfl, q⟩
/-- isinstance of a value of any form met here -/
def rIs (K : PySem.W.Frag) : List V → Hp → VK → Prop := fun xs H Q => rIsi K xs H Q ∨ rIsX K xs H Q
theorem call_is {X : Cx} : CallR X (.builtin "isinstance") (rIs X.K) := CallR.or call_isi call_isX
end Bk

namespace Bk
open PySem PySem.Spec PyProof.Rows L2
/-! ## 2. a def that may be called by its name -/
structure Cal (P : Program) (w : World) (K : PySem.W.Frag) (mg : Str → Option Value) (base : Heap) (CX : CXT) (k : Nat) (x : Str) (sp : Sp) : Prop where
  ex : ∃ (f : Addr) (fd : FuncData) (ps : List Str) (ds : List Value) (dvs : List V), mg x = some (.ref f) ∧ PySem.W.keepIn K (.ref f) = true ∧ FnOk P w K mg base CX k f fd ps (fun vs H Q E => sp vs H Q E ∧ vs.length = ps.length) ∧ Binds K fd ps [] ∧ ds = [] ∧ dvs = []
/-- the same with keywords: n values by places, then those of the keywords ks; gV orders them -/
structure CalN (P : Program) (w : World) (K : PySem.W.Frag) (mg : Str → Option Value) (base : Heap) (CX : CXT) (k n : Nat) (ks : List Str) (x : Str) (sp : Sp) (gV : List V → List V → List V) : Prop where
  ex : ∃ (f : Addr) (fd : FuncData) (ps : List Str) (g : List Value → List Value → List Value), mg x = some (.ref f) ∧ PySem.W.keepIn K (.ref f) = true ∧ FnOk P w K mg base CX k f fd ps sp ∧ KBn K fd ps n ks g gV
/-- defaults fill up -/
structure CalD (P : Program) (w : World) (K : PySem.W.Frag) (mg : Str → Option Value) (base : Heap) (CX : CXT) (k : Nat) (x : Str) (sp : Sp) (dvs : List V) : Prop where
  ex : ∃ (f : Addr) (fd : FuncData) (ps : List Str) (ds : List Value), mg x = some (.ref f) ∧ PySem.W.keepIn K (.ref f) = true ∧ FnOk P w K mg base CX k f fd ps sp ∧ Binds K fd ps ds ∧ Vals dvs ds
/-- a method's def, by itself -/
structure Own (P : Program) (w : World) (K : PySem.W.Frag) (mg : Str → Option Value) (base : Heap) (CX : CXT) (k : Nat) (f : Addr) (fd : FuncData) (ps : List Str) (sp : Sp) : Prop where
  ok : FnOk P w K mg base CX k f fd ps sp
  bd : Binds K fd ps []
  kp : PySem.W.keepIn K (.ref f) = true
section
variable {X : Cx} {CX : CXT} {k j n : Nat} {ks : List Str} {sp : Sp} {E : XK} {x : Str} {p pos : Pos} {e : Expr} {es : List Expr} {kws : List Keyword} {t tk : TA} {gV : List V → List V → List V} {dvs : List V}
theorem pe_cal (c : CalD X.prog X.w X.K X.mg X.base CX0 k x sp []) (hr : Room j X.A) (hk : k ≤ j) (hg : Gl X x) (ha : PA X (e :: es) t)
    (hdb : (x == ("__debug__" : Str)) = false := by decide) (he : starEach (e :: es) X.env = (false, eval e X.env) :: starEach es X.env := by rfl) (hpl : (backTo pos (starEach es X.env)).any (·.1) = false := by rfl) :
    PE X (.Call (.Name x p) (e :: es) [] pos) (tCall sp [] E0 t) := by
  obtain ⟨f, fd, ps, ds, h1, h2, h3, h4, h5⟩ := c.ex
  exact pe_call h3 (hr.mono hk) hg h1 h2 h4 h5 pass0 ha hdb he hpl
theorem pe_calD (c : CalD X.prog X.w X.K X.mg X.base CX0 k x sp dvs) (hr : Room j X.A) (hk : k ≤ j) (hg : Gl X x) (ha : PA X (e :: es) t)
    (hdb : (x == ("__debug__" : Str)) = false := by decide) (he : starEach (e :: es) X.env = (false, eval e X.env) :: starEach es X.env := by rfl) (hpl : (backTo pos (starEach es X.env)).any (·.1) = false := by rfl) :
    PE X (.Call (.Name x p) (e :: es) [] pos) (tCall sp dvs E0 t) := by
  obtain ⟨f, fd, ps, ds, h1, h2, h3, h4, h5⟩ := c.ex
  exact pe_call h3 (hr.mono hk) hg h1 h2 h4 h5 pass0 ha hdb he hpl
theorem pe_cal0 (c : CalD X.prog X.w X.K X.mg X.base CX0 k x sp []) (hr : Room j X.A) (hk : k ≤ j) (hg : Gl X x) (hdb : (x == ("__debug__" : Str)) = false := by decide) :
    PE X (.Call (.Name x p) [] [] pos) (tCall sp [] E0 tNil) := by
  obtain ⟨f, fd, ps, ds, h1, h2, h3, h4, h5⟩ := c.ex
  exact pe_call0 h3 (hr.mono hk) hg h1 h2 h4 h5 pass0 hdb
theorem pe_calN (c : CalN X.prog X.w X.K X.mg X.base CX0 k n ks x sp gV) (hr : Room k X.A) (hg : Gl X x) (ha : PA X (e :: es) t) (hkw : PK X kws tk)
    (hall : (backToKw pos (keywordEach kws X.env)).all (·.1.isSome) = true := by rfl) (hks : (backToKw pos (keywordEach kws X.env)).filterMap (·.1) = ks := by rfl)
    (hdb : (x == ("__debug__" : Str)) = false := by decide) (he : starEach (e :: es) X.env = (false, eval e X.env) :: starEach es X.env := by rfl)
    (hpl : ((backTo pos (starEach (e :: es) X.env)).any (·.1) || (backToKw pos (keywordEach kws X.env)).any (·.1.isNone)) = false := by rfl) :
    PE X (.Call (.Name x p) (e :: es) kws pos) (tCallN n ks.length sp gV E0 t tk) := by
  obtain ⟨f, fd, ps, g, h1, h2, h3, h4⟩ := c.ex
  exact pe_callN h3 hr hg h1 h2 h4 pass0 ha hkw hall hks hdb he hpl
theorem pe_calN0 (c : CalN X.prog X.w X.K X.mg X.base CX0 k 0 ks x sp gV) (hr : Room k X.A) (hg : Gl X x) (hkw : PK X kws tk)
    (hall : (backToKw pos (keywordEach kws X.env)).all (·.1.isSome) = true := by rfl) (hks : (backToKw pos (keywordEach kws X.env)).filterMap (·.1) = ks := by rfl)
    (hdb : (x == ("__debug__" : Str)) = false := by decide)
    (hpl : ((backTo pos (starEach [] X.env)).any (·.1) || (backToKw pos (keywordEach kws X.env)).any (·.1.isNone)) = false := by rfl) :
    PE X (.Call (.Name x p) [] kws pos) (tCallN 0 ks.length sp gV E0 tNil tk) := by
  obtain ⟨f, fd, ps, g, h1, h2, h3, h4⟩ := c.ex
  exact pe_callN0 h3 hr hg h1 h2 h4 pass0 hkw hall hks hdb hpl
end
theorem CalD.mk' {P : Program} {w : World} {K : PySem.W.Frag} {mg : Str → Option Value} {base : Heap} {CX : CXT} {k : Nat} {x : Str} {sp : Sp} {f : Addr} {fd : FuncData} {ps : List Str} (g : mg x = some (.ref f)) (kp : PySem.W.keepIn K (.ref f) = true) (F : FnOk P w K mg base CX k f fd ps sp) (b : Binds K fd ps []) :
    CalD P w K mg base CX k x sp [] := ⟨f, fd, ps, [], g, kp, F, b, .nil⟩
/-! ## 3. going through a reading -/
section
variable {K : PySem.W.Frag} {σ : L2.St} {H : Hp} {ta tb tc te : TE} {t u : TT} {x y v : V} {Q : VK} {QB : Bool → Hp → Prop} {QL : List V → Hp → Prop} {r r' : R2} {D : Ends} {a b : TS} {tr : TA}
theorem r_var {i : Nat} (h : σ[i]? = some (some v)) (q : Q v H) : tVar i σ H Q := ⟨v, h, q⟩
theorem r_c (q : Q v H) : tC v σ H Q := q
theorem r_op (q : ta σ H fun x H1 => tb σ H1 fun y H2 => r x y H2 Q) : tOp r ta tb σ H Q := q
theorem r_un {r : V → Hp → VK → Prop} (q : ta σ H fun x H1 => r x H1 Q) : tUn r ta σ H Q := q
theorem r_I0 {g : Int → Int → V} {i j : Int} (q : Q (g i j) H) : rI0 g (.int i) (.int j) H Q := ⟨i, j, rfl, rfl, q⟩
theorem r_I {C : Int → Int → Prop} {g : Int → Int → V} {i j : Int} (c : C i j) (q : Q (g i j) H) : rI C g (.int i) (.int j) H Q := ⟨i, j, rfl, rfl, c, q⟩
theorem r_U {g : Int → V} {i : Int} (q : Q (g i) H) : rU g (.int i) H Q := ⟨i, rfl, q⟩
theorem r_eq (s : scal x y = true) (q : Q (.bl (decide (x = y))) H) : rEq x y H Q := ⟨s, q⟩
theorem r_ne (s : scal x y = true) (q : Q (.bl (!decide (x = y))) H) : rNe x y H Q := ⟨s, q⟩
theorem r_nil (q : QL [] H) : tNil σ H QL := q
theorem r_cons (q : ta σ H fun x H1 => tr σ H1 fun xs H2 => QL (x :: xs) H2) : tCons ta tr σ H QL := q
theorem r_call {sp : Sp} {dvs : List V} {E : XK} (q : tr σ H fun vs H1 => sp (vs ++ dvs) H1 Q E) : tCall sp dvs E tr σ H Q := q
theorem r_callN {n m : Nat} {sp : Sp} {gV : List V → List V → List V} {E : XK} {tk : TA} (q : tr σ H fun vs H1 => tk σ H1 fun zs H2 => vs.length = n ∧ zs.length = m ∧ sp (gV vs zs) H2 Q E) : tCallN n m sp gV E tr tk σ H Q := q
theorem r_cb {rc : List V → Hp → VK → Prop} (q : tr σ H fun vs H1 => rc vs H1 Q) : tCB rc tr σ H Q := q
theorem r_ret (q : te σ H D.rt) : tRet te D σ H := q
theorem r_seq (q : a { D with nx := b D } σ H) : tSeq a b D σ H := q
theorem r_asg {g : TG} (q : te σ H fun x H1 => g x σ H1 D.nx) : tAsg te g D σ H := q
theorem r_name {i : Nat} {Qs : L2.St → Hp → Prop} (q : Qs (σ.set i (some v)) H) : gName i v σ H Qs := q
theorem r_if (q : t σ H fun b' H1 => if b' = true then a D σ H1 else b D σ H1) : tIfS t a b D σ H := q
theorem r_next (q : D.nx σ H) : tNext D σ H := q
theorem r_drop (q : te σ H fun _ H1 => D.nx σ H1) : tDrop te D σ H := q
theorem r_test (q : te σ H fun x H' => ∃ k, x = .bl k ∧ QB k H') : tTest te σ H QB := q
theorem r_tB (q : te σ H fun x H' => ∃ k, x = .bl k ∧ QB k H') : tB te σ H QB := q
theorem r_isb {k : Bool} (q : QB k H) : ∃ k', V.bl k = .bl k' ∧ QB k' H := ⟨k, rfl, q⟩
theorem r_isv {k : Bool} {A : Bool → Prop} (q : A k) : ∃ k', V.bl k = .bl k' ∧ A k' := ⟨k, rfl, q⟩
theorem r_not (q : t σ H fun c H1 => QB (!c) H1) : tNot t σ H QB := q
theorem r_and (q : t σ H fun c H1 => if c = true then u σ H1 QB else QB false H1) : tAnd t u σ H QB := q
theorem r_or (q : t σ H fun c H1 => if c = true then QB true H1 else u σ H1 QB) : tOr t u σ H QB := q
theorem r_andV (q : ta σ H fun x H1 => ∃ c, x = .bl c ∧ if c = true then tb σ H1 Q else Q (.bl false) H1) : tAndV ta tb σ H Q := q
theorem r_orV (q : ta σ H fun x H1 => ∃ c, x = .bl c ∧ if c = true then Q (.bl true) H1 else tb σ H1 Q) : tOrV ta tb σ H Q := q
theorem r_notV (q : ta σ H fun x H1 => ∃ c, x = .bl c ∧ Q (.bl (!c)) H1) : tNotV ta σ H Q := q
theorem r_chain (q : ta σ H fun x H1 => tb σ H1 fun y H2 => r x y H2 fun z H3 => ∃ k, z = .bl k ∧ (if k = true then tc σ H3 fun w' H4 => r' y w' H4 Q else Q (.bl false) H3)) : tChain r r' ta tb tc σ H Q := q
theorem r_ifE (q : t σ H fun c H1 => if c = true then ta σ H1 Q else tb σ H1 Q) : tIf t ta tb σ H Q := q
theorem r_isN (q : Q (.bl (decide (x = .non))) H) : (fun x y H Q => y = V.non ∧ Q (.bl (decide (x = .non))) H : R2) x .non H Q := ⟨rfl, q⟩
def NewL (xs : List V) (H : Hp) (Q : VK) : Prop := xs.length ≤ sizeLine ∧ ∀ p, H p = none → Q (.ref p) (upd H p (.lst xs))
def NewT (xs : List V) (H : Hp) (Q : VK) : Prop := xs.length ≤ sizeLine ∧ ∀ p, H p = none → Q (.ref p) (upd H p (.tup xs))
theorem r_lst (q : tr σ H fun xs H1 => NewL xs H1 Q) : tLst tr σ H Q := q
theorem r_tup (q : tr σ H fun xs H1 => NewT xs H1 Q) : tTup tr σ H Q := q
theorem same_upd {p : Addr} {o : HO} (h : H p = none) : Same H (upd H p o) := fun b x e => by
  rw [upd_ne (ne_of_none e h)]
  exact e
/-- a new object: the heap behind it by what stands in it -/
theorem newL {xs : List V} (q : ∀ p H', H p = none → Same H H' → H' p = some (.lst xs) → Q (.ref p) H') (hl : xs.length ≤ 10000 := by exact Nat.le_of_ble_eq_true rfl) : NewL xs H Q :=
  ⟨Nat.le_trans hl (by decide), fun p hp => q p _ hp (same_upd hp) upd_same⟩
theorem newT {xs : List V} (q : ∀ p H', H p = none → Same H H' → H' p = some (.tup xs) → Q (.ref p) H') (hl : xs.length ≤ 10000 := by exact Nat.le_of_ble_eq_true rfl) : NewT xs H Q :=
  ⟨Nat.le_trans hl (by decide), fun p hp => q p _ hp (same_upd hp) upd_same⟩
def NewDK (kvs : List (Key × V)) (H : Hp) (Q : VK) : Prop := ∀ p, H p = none → Q (.ref p) (upd H p (.dK kvs))
theorem r_dnewK (q : NewDK [] H Q) : tDNewK σ H Q := q
theorem newDK {kvs : List (Key × V)} (q : ∀ p H', H p = none → Same H H' → H' p = some (.dK kvs) → Q (.ref p) H') : NewDK kvs H Q := fun p hp => q p _ hp (same_upd hp) upd_same
def MkV (C : Addr) (sp : Sp) (dvs vs : List V) (H : Hp) (Q : VK) : Prop := vs.length ≤ 1000 ∧ ∀ a, H a = none → sp (.ref a :: (vs ++ dvs)) (upd H a (exo a C none)) (fun v H2 => v = .non ∧ Q (.ref a) H2) (fun _ _ _ => False)
theorem r_mkV {C : Addr} {sp : Sp} {dvs : List V} (q : tr σ H fun vs H1 => MkV C sp dvs vs H1 Q) : tMkV C sp dvs tr σ H Q := q
def ForL (J : It) (g : TG) (tb : TS) (D : Ends) (σ : L2.St) (H : Hp) : Prop := ∃ W : Nat → Nat → L2.St → Hp → Prop, (∃ m, W 0 m σ H) ∧ ∀ i m σ H, W i m σ H →
  (J.stop i H ∧ D.nx σ H) ∨ (J.go i H ∧ ∃ N : L2.St → Hp → Prop, (∀ σ' H', N σ' H' → ∃ m', m' < m ∧ W (i + 1) m' σ' H') ∧ ∀ x H', J.yld i H x H' → g x σ H' fun σ2 H2 => tb { D with nx := N, ct := N, bk := D.nx } σ2 H2)
theorem r_for {wi : TI} {g : TG} (q : wi σ H fun J H1 => ForL J g a D σ H1) : tFor wi g a D σ H := q
theorem r_iList {tl : TE} {R : It → Hp → Prop} (q : tl σ H fun x H1 => ∃ p, x = .ref p ∧ (∃ xs, SqL K H1 p xs) ∧ R (Itl K p) H1) : iList K tl σ H R := q
theorem r_iTup {tl : TE} {R : It → Hp → Prop} (q : tl σ H fun x H1 => ∃ p, x = .ref p ∧ (∃ xs, SqT K H1 p xs) ∧ R (Itt K p) H1) : iTup K tl σ H R := q
theorem r_iRng1 {R : It → Hp → Prop} (q : tr σ H fun vs H1 => ∃ j : Int, vs = [.int j] ∧ -(2 ^ 62) ≤ j ∧ j < 2 ^ 62 ∧ R (Itr 0 j.toNat) H1) : iRng1 tr σ H R := q
theorem r_iRng2 {R : It → Hp → Prop} (q : tr σ H fun vs H1 => ∃ i j : Int, vs = [.int i, .int j] ∧ (-(2 ^ 62) ≤ i ∧ i < 2 ^ 62 ∧ -(2 ^ 62) ≤ j ∧ j < 2 ^ 62) ∧ R (Itr i (j - i).toNat) H1) : iRng2 tr σ H R := q
theorem r_ixL {p : Addr} {xs : List V} {i : Int} (h : SqL K H p xs) (ha : atI xs i = some v) (q : Q v H) : rIxL K (.ref p) (.int i) H Q := ⟨p, xs, i, v, rfl, rfl, h, ha, q⟩
theorem r_ixT {p : Addr} {xs : List V} {i : Int} (h : SqT K H p xs) (ha : atI xs i = some v) (q : Q v H) : rIxT K (.ref p) (.int i) H Q := ⟨p, xs, i, v, rfl, rfl, h, ha, q⟩
theorem r_gSub {to ti : TE} {ts : TSet} {Qs : L2.St → Hp → Prop} (q : to σ H fun o H1 => ti σ H1 fun i H2 => ts o i v H2 fun H3 => Qs σ H3) : gSub to ti ts v σ H Qs := q
theorem r_bm {T : String} {rm : V → List V → Hp → VK → Prop} {to : TE} (q : to σ H fun x H1 => tyV K T x H1 ∧ tr σ H1 fun xs H2 => rm x xs H2 Q) : tBM K T rm to tr σ H Q := q
theorem iteNF {A B : Prop} (h : B) : if (!true) = true then A else B := iteF h
theorem iteNT {A B : Prop} (h : A) : if (!false) = true then A else B := iteT h
theorem iteD {c A B : Prop} [Decidable c] (hc : c) (h : A) : if decide c = true then A else B := by rw [decide_eq_true hc]; exact iteT h
theorem iteDn {c A B : Prop} [Decidable c] (hc : ¬ c) (h : B) : if decide c = true then A else B := by rw [decide_eq_false hc]; exact iteF h
theorem iteND {c A B : Prop} [Decidable c] (hc : c) (h : B) : if (!decide c) = true then A else B := by rw [decide_eq_true hc]; exact iteF h
theorem iteNDn {c A B : Prop} [Decidable c] (hc : ¬ c) (h : A) : if (!decide c) = true then A else B := by rw [decide_eq_false hc]; exact iteT h
/-- a test that is open: both ways, by what it says -/
theorem iteC {c A B : Prop} [Decidable c] (h1 : c → A) (h2 : ¬ c → B) : if decide c = true then A else B := by
  by_cases h : c
  · exact iteD h (h1 h)
  · exact iteDn h (h2 h)
theorem iteNC {c A B : Prop} [Decidable c] (h1 : ¬ c → A) (h2 : c → B) : if (!decide c) = true then A else B := by
  by_cases h : c
  · exact iteND h (h2 h)
  · exact iteNDn h (h1 h)
theorem iteB {b : Bool} {A B : Prop} (h1 : b = true → A) (h2 : b = false → B) : if b = true then A else B := by
  cases b
  · exact iteF (h2 rfl)
  · exact iteT (h1 rfl)
theorem iteNB {b : Bool} {A B : Prop} (h1 : b = false → A) (h2 : b = true → B) : if (!b) = true then A else B := by
  cases b
  · exact iteT (h1 rfl)
  · exact iteF (h2 rfl)
theorem r_m1 {rm : V → List V → Hp → VK → Prop} {to te : TE} (q : to σ H fun x H1 => (∃ a, x = .str a) ∧ te σ H1 fun y H2 => rm x [y] H2 Q) : tM1 rm to te σ H Q := q
theorem r_len {z : Str} (h : z.length ≤ 100000) (q : Q (.int z.length) H) : ∃ z', [V.str z] = [V.str z'] ∧ z'.length ≤ sizeLine ∧ Q (.int z'.length) H := ⟨z, rfl, Nat.le_trans h (by decide), q⟩
theorem sqL {p : Addr} {xs : List V} (h : H p = some (.lst xs)) : SqL K H p xs := .inl (.inl h)
theorem sqT {p : Addr} {xs : List V} (h : H p = some (.tup xs)) : SqT K H p xs := .inl (.inl h)
end
end Bk

namespace Bk
open PySem PySem.Spec PyProof.Rows L2
/-! ## 4. what isinstance answers -/
def IsA (K : PySem.W.Frag) (H : Hp) (x : V) (T : String) (b : Bool) : Prop :=
  (∃ t, TyX K H x t ∧ PySem.W.kitOne K t (.type T) = some b) ∨ (∃ (a D dx : Addr) (fs : List (Str × V)), x = .ref a ∧ XV H a D dx fs ∧ ExcC K D ∧ PySem.W.kitOne K (.ref D) (.type T) = some b)
section
variable {K : PySem.W.Frag} {H H' : Hp} {x : V} {T : String} {b : Bool} {Q : VK}
theorem r_is (h : IsA K H x T b) (q : Q (.bl b) H) : rIs K [x, .ty T] H Q := by
  rcases h with ⟨t, h1, h2⟩ | ⟨a, D, dx, fs, rfl, h1, h2, h3⟩
  · exact .inl ⟨x, .ty T, t, .type T, b, rfl, .ty T, h1, h2, q⟩
  · exact .inr ⟨a, D, dx, fs, .ty T, .type T, b, rfl, h1, h2, .ty T, h3, q⟩
theorem isa_int {i : Int} (h : kitB "int" T = some b := by decide +kernel) : IsA K H (.int i) T b := .inl ⟨.type "int", .base (.int i), kit_ty h⟩
theorem isa_bl {c : Bool} (h : kitB "bool" T = some b := by decide +kernel) : IsA K H (.bl c) T b := .inl ⟨.type "bool", .base (.bl c), kit_ty h⟩
theorem isa_str {z : Str} (h : kitB "str" T = some b := by decide +kernel) : IsA K H (.str z) T b := .inl ⟨.type "str", .base (.str z), kit_ty h⟩
theorem isa_non (h : kitB "NoneType" T = some b := by decide +kernel) : IsA K H .non T b := .inl ⟨.type "NoneType", .base .non, kit_ty h⟩
theorem isa_lst {a : Addr} {xs : List V} (e : H a = some (.lst xs)) (h : kitB "list" T = some b := by decide +kernel) : IsA K H (.ref a) T b := .inl ⟨.type "list", .base (.lst e), kit_ty h⟩
theorem isa_tup {a : Addr} {xs : List V} (e : H a = some (.tup xs)) (h : kitB "tuple" T = some b := by decide +kernel) : IsA K H (.ref a) T b := .inl ⟨.type "tuple", .base (.tup e), kit_ty h⟩
theorem isa_dK {a : Addr} {kvs : List (Key × V)} (e : H a = some (.dK kvs)) (h : kitB "dict" T = some b := by decide +kernel) : IsA K H (.ref a) T b := .inl ⟨.type "dict", .base (.dK e), kit_ty h⟩
theorem isa_exc {a D dx : Addr} {fs : List (Str × V)} (e : XV H a D dx fs) (C : ExcC K D) (h : PySem.W.kitOne K (.ref D) (.type T) = some b) : IsA K H (.ref a) T b := .inr ⟨a, D, dx, fs, rfl, e, C, h⟩
end
/-! ## 5. the box of draws -/
def Box (a : Addr) (n : Nat) (H : Hp) : Prop := ∃ x y z : Int, H a = some (.lst [.int x, .int y, .int z]) ∧ 0 ≤ x ∧ 0 ≤ y ∧ y < 2147483629 ∧ 0 ≤ z ∧ z ≤ (n : Int)
/-- all but what stands at a is as it was -/
def But (a : Addr) (H H' : Hp) : Prop := ∀ b o, b ≠ a → H b = some o → H' b = some o
theorem But.refl {a : Addr} {H : Hp} : But a H H := fun _ _ _ h => h
theorem But.trans {a : Addr} {H H1 H2 : Hp} (x : But a H H1) (y : But a H1 H2) : But a H H2 := fun b o n e => y b o n (x b o n e)
theorem But.same {a : Addr} {H H1 H2 : Hp} (x : But a H H1) (y : Same H1 H2) : But a H H2 := fun b o n e => y b o (x b o n e)
theorem But.of {a : Addr} {H H1 : Hp} (y : Same H H1) : But a H H1 := fun b o _ e => y b o e
theorem But.upd {a : Addr} {H : Hp} {o : HO} : But a H (upd H a o) := fun b u n e => by rw [upd_ne n]; exact e
theorem Box.same {a : Addr} {n : Nat} {H H' : Hp} (h : Box a n H) (s : Same H H') : Box a n H' := by
  obtain ⟨x, y, z, e, r⟩ := h
  exact ⟨x, y, z, s _ _ e, r⟩
theorem Box.mono {a : Addr} {n m : Nat} {H : Hp} (h : Box a n H) (l : n ≤ m) : Box a m H := by
  obtain ⟨x, y, z, e, r1, r2, r3, r4, r5⟩ := h
  exact ⟨x, y, z, e, r1, r2, r3, r4, by omega⟩
theorem Box.ne {a p : Addr} {n : Nat} {H : Hp} (h : Box a n H) (hp : H p = none) : p ≠ a := by
  obtain ⟨x, y, z, e, _⟩ := h
  exact (ne_of_none e hp).symm
theorem Box.ne_tup {a p : Addr} {n : Nat} {H : Hp} {xs : List V} (h : Box a n H) (hp : H p = some (.tup xs)) : p ≠ a := by
  obtain ⟨x, y, z, e, _⟩ := h
  exact fun q => by rw [q, e] at hp; cases hp
def spCell (K : PySem.W.Frag) : Sp := fun vs H Q _ => ∃ (a : Addr) (ns : List Int) (k : Nat), vs = [.ref a, .int k] ∧ SqL K H a (ns.map V.int) ∧ k ≤ 100000 ∧ ∀ c, Q (.int c) H
def spBox : Sp := fun vs H Q _ => ∃ c : Int, vs = [.int c] ∧ ∀ p H', H p = none → Same H H' → Box p 0 H' → Q (.ref p) H'
def spTake : Sp := fun vs H Q _ => ∃ (a : Addr) (n : Nat) (size : Int), vs = [.ref a, .int size] ∧ Box a n H ∧ n < 1000000 ∧ 0 < size ∧ size < 2 ^ 128 ∧
  ∀ d H', 0 ≤ d → d < size → Box a (n + 1) H' → But a H H' → Q (.int d) H'
theorem cdiv {i j : Int} (h : 0 < j) (h2 : j < 2 ^ 128) : CDivW i j := wide_div (b := 128) h (by omega) (by decide) (by decide)
theorem cmul {i j : Int} (h1 : -(2 ^ 128) < i) (h2 : i < 2 ^ 128) (h3 : -(2 ^ 128) < j) (h4 : j < 2 ^ 128) : CMulW i j := wide_mul (a := 128) (b := 128) (by omega) (by omega) (by decide) (by decide) (by decide)
theorem at_map {ns : List Int} {k : Nat} (h : k < ns.length) : atI (ns.map V.int) ((k : Nat) : Int) = some (.int ns[k]) := atI_nat (by rw [List.getElem?_map, List.getElem?_eq_getElem h]; rfl)
end Bk

namespace Bk
open PySem PySem.Spec PyProof.Rows L2
theorem sameBut {H H' : Hp} {D : Addr} {o : HO} (h : Same H H') (n : H D = none) : Same H (upd H' D o) := fun b u e => by
  rw [upd_ne (ne_of_none e n)]
  exact h b u e
/-! ## 6. a comprehension over a text's signs, all of it -/
section
variable {K : PySem.W.Frag} {σ : L2.St} {H : Hp} {Q : VK} {te : TE}
/-- the list of p of each sign -/
theorem r_lcStr {i0 j : Nat} {vs : List Nat} {z : Str} (p : Nat → V) (hv : σ[i0]? = some (some (.str z))) (hz : z.length ≤ 100000)
    (hw : ∀ x, wipe ((wipe σ vs).set j (some x)) vs = wipe σ vs)
    (ht : ∀ (c : Nat) (H' : Hp) (Q' : VK), c ∈ z.cps.toList → Same H H' → (∀ H2, Same H' H2 → Q' (p c) H2) → te ((wipe σ vs).set j (some (.str ⟨#[c]⟩))) H' Q')
    (q : ∀ D H', H D = none → Same H H' → H' D = some (.lst (z.cps.toList.map p)) → Q (.ref D) H') :
    tLc (iStr (tVar i0)) (gName j) tYes te vs σ H Q := by
  refine ⟨_, hv, z, rfl, fun D hD => ?_⟩
  refine lc_it (n := z.cps.size) walk_str (fun i H' => Same H H' ∧ H' D = some (.lst ((z.cps.toList.take i).map p))) ⟨same_upd hD, by rw [upd_same]; rfl⟩ (fun _ _ _ _ => trivial) ?_ ?_
  · rintro i x H1 H2 hi ⟨sm, e⟩ ⟨rfl, c, hc, rfl⟩
    have hc' : z.cps.toList[i]? = some c := by rw [Array.getElem?_toList]; exact hc
    refine ⟨hw _, ?_⟩
    show te _ _ _
    refine ht c _ _ (List.mem_of_getElem? hc') sm fun H3 s3 => ⟨_, s3 _ _ e, ?_, sameBut (sm.trans s3) hD, ?_⟩
    · have l : ((z.cps.toList.take i).map p).length ≤ z.cps.size := by
        rw [List.length_map, List.length_take, Array.length_toList]
        omega
      have hz' : z.cps.size ≤ 100000 := hz
      exact Nat.lt_of_le_of_lt (Nat.le_trans l hz') (by decide)
    · rw [upd_same, List.take_add_one, hc', List.map_append]
      rfl
  · rintro H1 ⟨sm, e⟩
    refine q D H1 hD sm ?_
    rw [e]
    have l : z.cps.size = z.cps.toList.length := (Array.length_toList).symm
    rw [l, List.take_length]
/-- all([p(sign) for sign in text]) -/
theorem r_allStr {i0 j : Nat} {vs : List Nat} {z : Str} (p : Nat → Bool) (hv : σ[i0]? = some (some (.str z))) (hz : z.length ≤ 100000)
    (hw : ∀ x, wipe ((wipe σ vs).set j (some x)) vs = wipe σ vs)
    (ht : ∀ (c : Nat) (H' : Hp) (Q' : VK), c ∈ z.cps.toList → Same H H' → (∀ H2, Same H' H2 → Q' (.bl (p c)) H2) → te ((wipe σ vs).set j (some (.str ⟨#[c]⟩))) H' Q')
    (q : ∀ H', Same H H' → Q (.bl (z.cps.toList.all p)) H') :
    tCB (rAll K) (tCons (tLc (iStr (tVar i0)) (gName j) tYes te vs) tNil) σ H Q := by
  refine r_cb (r_cons ?_)
  refine r_lcStr (fun c => .bl (p c)) hv hz hw ht fun D H' nD sm e => ?_
  refine r_nil ⟨D, z.cps.toList.map p, rfl, sqL ?_, ?_⟩
  · rw [e, List.map_map]
    rfl
  · rw [List.all_map]
    exact q H' sm
end
/-! ## 7. draws, items, slices -/
section
variable {K : PySem.W.Frag} {σ : L2.St} {H : Hp} {Q : VK} {E : XK} {te : TE} {tl th : TO} {QO : Option Int → Hp → Prop}
theorem r_take {a : Addr} {n : Nat} {size : Int} (hB : Box a n H) (q : ∀ d H', 0 ≤ d → d < size → Box a (n + 1) H' → But a H H' → Q (.int d) H') (hn : n < 1000000 := by omega) (h0 : 0 < size := by decide) (h1 : size < 2 ^ 128 := by decide) : spTake [.ref a, .int size] H Q E :=
  ⟨a, n, size, rfl, hB, hn, h0, h1, q⟩
theorem r_ixS {z : Str} {d : Int} (h0 : 0 ≤ d) (h1 : d < (z.cps.toList.length : Int)) (hz : z.length ≤ 100000) (q : ∀ c, z.cps.toList[d.toNat]? = some c → Q (.str ⟨#[c]⟩) H) : rIxS (.str z) (.int d) H Q := by
  have l : d.toNat < z.cps.toList.length := by omega
  obtain ⟨c, hc⟩ : ∃ c, z.cps.toList[d.toNat]? = some c := ⟨_, List.getElem?_eq_getElem l⟩
  refine ⟨z, d, c, rfl, rfl, Nat.le_trans hz (by decide), ?_, q c hc⟩
  have e : d = ((d.toNat : Nat) : Int) := by omega
  rw [e]
  exact atI_nat hc
theorem r_ixLo {p : Addr} {xs : List V} {d : Int} (h : SqL K H p xs) (h0 : 0 ≤ d) (h1 : d < (xs.length : Int)) (q : ∀ v, v ∈ xs → xs[d.toNat]? = some v → Q v H) : rIxL K (.ref p) (.int d) H Q := by
  have l : d.toNat < xs.length := by omega
  obtain ⟨v, hv⟩ : ∃ v, xs[d.toNat]? = some v := ⟨_, List.getElem?_eq_getElem l⟩
  refine r_ixL h (v := v) ?_ (q v (List.mem_of_getElem? hv) hv)
  have e : d = ((d.toNat : Nat) : Int) := by omega
  rw [e]
  exact atI_nat hv
theorem r_sl {r : V → Option Int → Option Int → Hp → VK → Prop} (q : te σ H fun x H1 => tl σ H1 fun l H2 => th σ H2 fun u H3 => r x l u H3 Q) : tSl r te tl th σ H Q := q
theorem r_noPart (q : QO none H) : tNoPart σ H QO := q
theorem r_part (q : te σ H fun x H1 => ∃ i, x = .int i ∧ QO (some i) H1) : tPart te σ H QO := q
theorem r_isi {i : Int} {A : Int → Prop} (q : A i) : ∃ i', V.int i = .int i' ∧ A i' := ⟨i, rfl, q⟩
theorem r_slS {z : Str} {lo hi : Option Int} (hz : z.length ≤ 100000) (q : ∀ y : Str, y.length ≤ z.length → Q (.str y) H) : rSlS (.str z) lo hi H Q := ⟨z, rfl, Nat.le_trans hz (by decide), q _ (cutS_length z lo hi)⟩
end
theorem r_cut {a b : TS} {D : Ends} {σ : L2.St} {H : Hp} (Mid : L2.St → Hp → Prop) (h1 : a { D with nx := Mid } σ H) (h2 : ∀ σ' H', Mid σ' H' → b D σ' H') : C8.tCut a b D σ H := ⟨Mid, h1, h2⟩
theorem str_len_add (x y : Str) : (x ++ y).length = x.length + y.length := by
  have h : ∀ z : Str, z.length = z.cps.toList.length := fun z => (Array.length_toList).symm
  rw [h, h, h]; show (TL.tl (x ++ y)).length = _; rw [TL.tl_append]
  exact List.length_append
theorem lt1 {c d : Nat} : decide ([c] < [d]) = decide (c < d) := by
  by_cases h : c < d
  · rw [decide_eq_true h]
    exact decide_eq_true (List.Lex.rel h)
  · rw [decide_eq_false h]
    refine decide_eq_false fun z => ?_
    cases z with
    | rel q => exact h q
    | cons q => cases q
theorem sign_tl {c : Nat} : (⟨#[c]⟩ : Str).cps.toList = [c] := rfl
/-- a text begins with this sign -/
theorem starts1 (z : Str) (c : Nat) : Txt.startswith z ⟨#[c]⟩ = decide (z.cps.toList[0]? = some c) := by
  have h := PySem.StrLaws.subAt_one z c 0
  unfold Txt.startswith
  by_cases e : z.cps.toList[0]? = some c
  · obtain ⟨h1, h2⟩ := h.mpr e
    rw [decide_eq_true e, h2, decide_eq_true h1]
    rfl
  · rw [decide_eq_false e]
    by_cases h1 : 0 + (⟨#[c]⟩ : Str).length ≤ z.length
    · rw [decide_eq_true h1, Bool.true_and]
      exact Bool.eq_false_iff.mpr fun h2 => e (h.mp ⟨h1, h2⟩)
    · rw [decide_eq_false h1]
      rfl
end Bk

namespace Bk
open PySem PySem.Spec PyProof.Rows L2
/-! ## 9. defs that are run where no text is being told of a thing -/
structure FnG (P : Program) (w : World) (K : PySem.W.Frag) (mg : Str → Option Value) (base : Heap) (CX : CXT) (k : Nat) (f : Addr) (fd : FuncData) (ps : List Str) (sp : Sp) : Prop where
  len : ∀ vs H Q E, sp vs H Q E → vs.length = ps.length
  go : ∀ (A : Around) (ou : List Env) (s : Shared) (H : Hp) (ar : Args) (us : List Value) (vs : List V) (Q : VK) (E : XK), A.guards = some [] → Room k A → Env0 P w K mg base A ou s H → BindsTo s fd ar (ps.zip us) → Vals vs us → sp vs H Q E →
    codeAny (model P w) A (.call (.ref f) ar) (CR CX ou P w H s Q E) s
section
variable {P : Program} {w : World} {K : PySem.W.Frag} {mg : Str → Option Value} {base : Heap} {CX : CXT} {j k : Nat} {f : Addr} {fd : FuncData} {N ps : List Str} {sp : Sp} {x qual : Str} {st : Stmt}
theorem FnG.of (F : FnOk P w K mg base CX k f fd ps sp) : FnG P w K mg base CX k f fd ps sp := ⟨F.len, fun A ou s H ar us vs Q E _ => F.run A ou s H ar us vs Q E⟩
theorem FnG.up (F : FnG P w K mg base CX j f fd ps sp) (h : j ≤ k) : FnG P w K mg base CX k f fd ps sp := ⟨F.len, fun A ou s H ar us vs Q E g hr => F.go A ou s H ar us vs Q E g (hr.mono h)⟩
/-- by its body -/
theorem fun_okG (F : Fun K x qual st f fd) (S : FnScope N ps (defScope st)) (len : ∀ vs H Q E, sp vs H Q E → vs.length = ps.length)
    (hbody : ∀ (cdv : Value) (A : Around) (ou : List Env) (s : Shared) (H : Hp) (vs : List V) (Q : VK) (E : XK), (A.deeper (envOfC qual (defScope st) s.heap.objs.size f cdv)).guards = some [] → Room k (A.deeper (envOfC qual (defScope st) s.heap.objs.size f cdv)) → sp vs H Q E →
      ∃ t, PSs (cxOf CX0 P w K mg base N qual (defScope st) f cdv A ou s H E).nox (defBody st) t ∧ t { nx := fun _ H' => Q .non H', rt := Q } (start N vs) H) : FnG P w K mg base CX0 (k + 1) f fd ps sp := by
  obtain ⟨oc, od, kV, doc, pm, an, cdv, ct, osl, rfl, lk, hcd⟩ := F.ex
  refine ⟨len, fun A ou s H ar us vs Q E hg hr e0 hb rv hsp => ?_⟩
  have KX : K.In s.heap := e0.mod.kin.keeps fun b o z => (e0.bs b o z).1
  refine Att.call_fn KX (e0.mod.nolimit.keeps fun b o z => (e0.bs b o z).1) lk hcd hr.depth hb ?_ (fun s1 x1 => ?_) S.co S.gen S.kind
  · rw [List.all_eq_true]
    rintro ⟨n, v⟩ hy
    rcases S.par n (List.of_mem_zip hy).1 with q | q <;> simp [q]
  · obtain ⟨t, ht, hq⟩ := hbody cdv A ou s H vs Q E hg (hr.deeper _) hsp
    have I := inv_start (CX := CX0) (E := E) S hr.hd e0 (len _ _ _ _ hsp) rv x1
    refine wpAny_mono (ht.nox.run [] s1 (start N vs) H _ I hq) (fun fl s2 z => ?_) fun _ _ z => z
    cases fl with
    | ret u => exact let ⟨v, _, H2, J, r2, q2⟩ := z; ⟨v, H2, J.os, J.bare, J.base, J.hok, r2, q2⟩
    | next => exact let ⟨_, H2, J, q2⟩ := z; ⟨.non, H2, J.os, J.bare, J.base, J.hok, rfl, q2⟩
    | brk => exact (let ⟨_, _, _, q2⟩ := z; q2 : False).elim
    | cont => exact (let ⟨_, _, _, q2⟩ := z; q2 : False).elim
end
structure CalG (P : Program) (w : World) (K : PySem.W.Frag) (mg : Str → Option Value) (base : Heap) (CX : CXT) (k : Nat) (x : Str) (sp : Sp) : Prop where
  ex : ∃ (f : Addr) (fd : FuncData) (ps : List Str), mg x = some (.ref f) ∧ PySem.W.keepIn K (.ref f) = true ∧ FnG P w K mg base CX k f fd ps sp ∧ Binds K fd ps []
theorem CalG.mk' {P : Program} {w : World} {K : PySem.W.Frag} {mg : Str → Option Value} {base : Heap} {CX : CXT} {k : Nat} {x : Str} {sp : Sp} {f : Addr} {fd : FuncData} {ps : List Str} (g : mg x = some (.ref f)) (kp : PySem.W.keepIn K (.ref f) = true) (F : FnG P w K mg base CX k f fd ps sp) (b : Binds K fd ps []) :
    CalG P w K mg base CX k x sp := ⟨f, fd, ps, g, kp, F, b⟩
section
variable {X : Cx} {k j : Nat} {sp : Sp} {x : Str} {p pos : Pos} {e : Expr} {es : List Expr} {t : TA}
theorem pe_calG (c : CalG X.prog X.w X.K X.mg X.base CX0 k x sp) (ga : X.A.guards = some []) (hr : Room j X.A) (hk : k ≤ j) (hg : Gl X x) (ha : PA X (e :: es) t)
    (hdb : (x == ("__debug__" : Str)) = false := by decide) (he : starEach (e :: es) X.env = (false, eval e X.env) :: starEach es X.env := by rfl) (hpl : (backTo pos (starEach es X.env)).any (·.1) = false := by rfl) :
    PE X (.Call (.Name x p) (e :: es) [] pos) (tCall sp [] E0 t) := by
  obtain ⟨f, fd, ps, h1, h2, h3, h4⟩ := c.ex
  refine ⟨fun pins s σ H Q I h => wpAny_Call_Name_kw (ld_glob I hg h1 (PySem.W.callWith_K (h₀ := X.base) I.ok.mod.kin h2 (thn (ha.run pos pins s σ H _ I h) fun us s1 ⟨vs, H1, I1, r, q⟩ => ⟨I1.kIn, ?_⟩) he hpl) hdb)⟩
  have q' : sp vs H1 Q E0 := by have z : sp (vs ++ []) H1 Q E0 := q; rw [List.append_nil] at z; exact z
  have b := h4 s1 us I1.kIn (by rw [List.append_nil, ← r.length]; exact h3.len _ _ _ _ q')
  rw [List.append_nil] at b
  refine wpAny_call (codeAny_mono (h3.go X.A X.stack s1 H1 ⟨us, []⟩ us vs Q E0 ga (hr.mono hk) I1.env0 b r q') fun rr s2 z => ?_)
  match rr, z with
  | .ok (.ret _), z => exact I1.after z
end
/-! ### the head -/
section
variable {P : Program} {w : World} {K : PySem.W.Frag} {mg mb : Str → Option Value} {s : Shared} {a : Addr} {vs : List Value} {ns : List Int} {H : Hp}
theorem lawG_core {k : Nat} {fa : Addr} {fd : FuncData} {x : Str} {sp : Sp} (KX : K.In s.heap) (hns : s.heap.Ns mainGlobals mg) (hb : s.heap.Ns builtinsNs mb) (hbb : ∀ x : Str, x ≠ "__name__" → mb x = bootBuiltins x) (hlim : s.heap.NoLimit) (hg : s.gens = #[])
    (ha : s.heap.get? a = some { cls := .type "list", data := .seq vs.toArray }) (hr : Room k callerA)
    (F : ∀ base : Heap, K.In base → base.Ns mainGlobals mg → FnG P w K mg base CX0 k fa fd [x] sp) (hbind : ∀ (s : Shared) (u : Value), BindsTo s fd ⟨[u], []⟩ [(x, u)])
    (hO : Only H) (hq : sp [.ref a] H (fun v _ => v = .bl true) fun _ _ _ => False) (ok : HOk P w H s.heap) (hA : ∀ b, H b ≠ none → b = a ∧ K.lookup a = none) :
    codeAny (model P w) callerA (.call (.ref fa) ⟨[.ref a], []⟩) (fun r s' => r = .ok (.ret (.bool true)) ∧ OldK s.heap s'.heap ∧ s'.os = s.os ∧ AllBare s'.gens) s := by
  have un : ∀ {b : Addr} {o : Obj}, s.heap.get? b = some o → (b = a → K.lookup a ≠ none ∨ ∃ es ep, o.data = .dict es ep) → (hidT s.heap H).get? b = some o := fun {b o} e n => hidT_get e (by
    apply Classical.byContradiction
    intro z
    obtain ⟨rfl, kn⟩ := hA b z
    rcases n rfl with q | ⟨es, ep, q⟩
    · exact q kn
    · rw [ha] at e
      cases e
      exact nomatch q)
  have nsK : ∀ {b : Addr} {m : Str → Option Value}, s.heap.Ns b m → (hidT s.heap H).Ns b m := fun ⟨o, es, ep, e, d, r⟩ => ⟨o, es, ep, un e fun _ => .inr ⟨es, ep, d⟩, d, r⟩
  have hKb : K.In (hidT s.heap H) := fun b o e => un (KX b o e) fun z => .inl (by rw [← z, e]; exact Option.some_ne_none o)
  have e0 : Env0 P w K mg (hidT s.heap H) callerA [] s H := ⟨rfl, ⟨hKb, nsK hns, ⟨mb, nsK hb, hbb⟩, hlim.elim fun mc z => ⟨mc, nsK z.1, z.2⟩⟩, fun b o z => of_hidT z, Nat.le_of_eq (hidT_size _ _), trivial, fun _ z => absurd z List.not_mem_nil, ok, .of_eq hg⟩
  refine codeAny_mono ((F _ hKb (nsK hns)).go callerA [] s H ⟨[.ref a], []⟩ [.ref a] [.ref a] _ _ rfl hr e0 (hbind s (.ref a)) (.cons rfl .nil) hq) fun r s' h => ?_
  match r, h with
  | .ok (.ret u), h =>
    obtain ⟨v, H2, os, bare, un2, ok2, rv, q2⟩ := h
    obtain rfl : v = .bl true := q2
    obtain rfl : u = Value.bool true := rv
    refine ⟨rfl, OldK.of_keep fun b o e => ?_, os, bare⟩
    rcases hO b with z | ⟨ob, xs, z⟩
    · exact un2.keep b o e z List.not_mem_nil List.not_mem_nil
    · have o1 := (ok b _ z).1
      have o2 := (ok2 b _ (un2.frzs b ob _ z)).1
      rw [e] at o1
      rw [o1]
      exact o2
theorem lawG {k : Nat} {fa : Addr} {fd : FuncData} {x : Str} {sp : Sp} (KX : K.In s.heap) (hns : s.heap.Ns mainGlobals mg) (hb : s.heap.Ns builtinsNs mb) (hbb : ∀ x : Str, x ≠ "__name__" → mb x = bootBuiltins x) (hlim : s.heap.NoLimit) (hg : s.gens = #[])
    (ha : s.heap.get? a = some { cls := .type "list", data := .seq vs.toArray }) (hi : IntsAre vs ns) (hl : ns.length ≤ sizeLine) (hr : Room k callerA)
    (F : ∀ base : Heap, K.In base → base.Ns mainGlobals mg → FnG P w K mg base CX0 k fa fd [x] sp) (hbind : ∀ (s : Shared) (u : Value), BindsTo s fd ⟨[u], []⟩ [(x, u)])
    (hsp : ∀ H : Hp, Only H → SqL K H a (ns.map V.int) → sp [.ref a] H (fun v _ => v = .bl true) fun _ _ _ => False) :
    codeAny (model P w) callerA (.call (.ref fa) ⟨[.ref a], []⟩) (fun r s' => r = .ok (.ret (.bool true)) ∧ OldK s.heap s'.heap ∧ s'.os = s.os ∧ AllBare s'.gens) s := by
  have rv := vals_ints hi
  cases hk : K.lookup a with
  | some o =>
    have e := KX a o hk
    rw [ha] at e
    cases e
    exact lawG_core KX hns hb hbb hlim hg ha hr F hbind (fun _ => .inl rfl) (hsp (fun _ => none) (fun _ => .inl rfl) (.inr ⟨_, vs.toArray, _, hk, rfl, rfl, rfl, by rw [List.size_toArray, hi.length]; exact hl, rv⟩)) (fun b u z => nomatch z) fun b z => absurd rfl z
  | none =>
    have ke : (fun b => if b = a then some (HO.frz { cls := .type "list", data := .seq vs.toArray } (.lst (ns.map V.int))) else none) a = some (HO.frz { cls := .type "list", data := .seq vs.toArray } (.lst (ns.map V.int))) := if_pos rfl
    have only : ∀ b, (fun b => if b = a then some (HO.frz { cls := .type "list", data := .seq vs.toArray } (.lst (ns.map V.int))) else none) b ≠ none → b = a := fun b z => Classical.byContradiction fun n => z (if_neg n)
    have hO : Only (fun b => if b = a then some (HO.frz { cls := .type "list", data := .seq vs.toArray } (.lst (ns.map V.int))) else none) := fun b => by
      by_cases q : b = a
      · exact .inr ⟨_, _, if_pos q⟩
      · exact .inl (if_neg q)
    refine lawG_core KX hns hb hbb hlim hg ha hr F hbind hO (hsp _ hO (.inl (.inr ⟨_, ke⟩))) (fun b u z => ?_) fun b z => ⟨only b z, hk⟩
    obtain rfl := only b fun y => nomatch z.symm.trans y
    have z2 := ke.symm.trans z
    cases z2
    exact ⟨ha, by rw [List.length_map]; exact hl, vs, _, rv, ha⟩
end
theorem walk_ofG {l : PySem.W.OpenLaw} {n k : Nat} {q : Program} {loose : List Str} {XP : (Str → Option Value) → Heap → Prop} {YP : World → Heap → Prop} {d : DefRec} {K : Params → PySem.W.Frag} {sp : World → Sp} {x : Str}
    (hn : l.most = some n) (hn2 : n ≤ sizeLine) (hdf : d.params.defaults = []) (hr : Room k callerA) (hY : ∀ (w : World) (h : Heap), YP w h → (K w.params).In h)
    (F : ∀ (w : World) (mg : Str → Option Value) (fa : Addr) (h : Heap), (K w.params).In h → h.Ns mainGlobals mg → mg d.name = some (.ref fa) →
      ∃ fd : FuncData, (∀ (s : Shared) (u : Value), BindsTo s fd ⟨[u], []⟩ [(x, u)]) ∧ ∀ base : Heap, (K w.params).In base → base.Ns mainGlobals mg → FnG l.prog w (K w.params) mg base CX0 k fa fd [x] (sp w))
    (hsp : ∀ (w : World) (H : Hp) (a : Addr) (ns : List Int), ns.length ≤ n → Only H → SqL (K w.params) H a (ns.map V.int) → sp w [.ref a] H (fun v _ => v = .bl true) fun _ _ _ => False) :
    PySem.W.WalkO q loose XP YP l.row.toRowW d [] (fun f vs => PySem.call f vs) :=
  Att.attach_call hn hdf fun w s₀ s₁ mg mb fa o pm cd doc a vs ns G Y ho hd hcd hmg hobj hints hlen hg => by
    obtain ⟨fd, hb, hF⟩ := F w mg fa _ (hY w _ Y) G.T.g hmg
    exact lawG (hY w _ Y) G.T.g G.T.b G.T.builtins G.T.nolimit hg hobj hints (Nat.le_trans hlen hn2) hr hF hb fun H hO hS => hsp w H a ns hlen hO hS
/-! ## 10. a thing's text -/
mutual
theorem dp_flat {K : PySem.W.Frag} {H : Hp} : ∀ (d : PyData) (v : V), Dp K H v d → d.hasDict = false
  | .none, _, _ => by simp only [PyData.hasDict]
  | .bool _, _, _ => by simp only [PyData.hasDict]
  | .int _, _, _ => by simp only [PyData.hasDict]
  | .str _, _, _ => by simp only [PyData.hasDict]
  | .list ds, _, h => by
    cases h with
    | lst _ ha => simpa only [PyData.hasDict] using dp_flatAll ds _ ha
  | .tuple ds, _, h => by
    cases h with
    | tup _ ha => simpa only [PyData.hasDict] using dp_flatAll ds _ ha
  | .dict _, _, h => by cases h
theorem dp_flatAll {K : PySem.W.Frag} {H : Hp} : ∀ (ds : List PyData) (vs : List V), DpAll K H vs ds → PyData.hasDictAll ds = false
  | [], _, _ => by simp only [PyData.hasDictAll]
  | d :: ds, _, h => by
    cases h with
    | cons h1 h2 => simp only [PyData.hasDictAll, dp_flat d _ h1, dp_flatAll ds _ h2, Bool.or_false]
end
/-- z is how repr tells v -/
def Shw (K : PySem.W.Frag) (H : Hp) (v : V) (z : Str) : Prop := (∃ d, Dp K H v d ∧ d.showable = true ∧ d.shown.length ≤ sizeLine ∧ d.depth ≤ 60 ∧ z = d.shown) ∨ ∃ a, v = .ref a ∧ H a = some (.dK []) ∧ z = "{}"
section
variable {X : Cx} {j : Nat}
theorem call_repr_shw (ga : X.A.guards = some []) (hr : Room j X.A) : CallR X (.builtin "repr") (fun xs H Q => ∃ v z, xs = [v] ∧ Shw X.K H v z ∧ Q (.str z) H) := by
  intro pins s σ H xs us Q I r h
  obtain ⟨v, z, rfl, hs, q⟩ := h
  obtain ⟨u, rfl, rv⟩ := vals1 r
  have hu := hr.units
  rcases hs with ⟨d, hd, h1, h2, h3, rfl⟩ | ⟨a, rfl, ha, rfl⟩
  · have fin : ∀ {x : Str} {t : Nat}, x = d.shown → EP X pins σ Q (.str x s.toks) { s with toks := t } := fun {x t} e => ⟨.str _, H, I.tok _, ⟨_, rfl⟩, by rw [e]; exact q⟩
    have ref : ∀ {a : Addr}, v = .ref a → wpAny (model X.prog X.w) X.A (call (.builtin "repr") [u]) (EP X pins σ Q) X.xe s := fun {a} e => by
      subst e
      obtain rfl : u = Value.ref a := rv
      obtain ⟨as, rd⟩ := Dp.reads I d (.ref a) _ hd rfl
      exact repr_of_reads' rd h1 (PyData.noDict_hsm (dp_flat d _ hd)) ga (by omega) (fun _ _ e => e) (fun h' u tk hk => ⟨.str _, H, I.kept hk, ⟨_, rfl⟩, q⟩) h2
    cases hd with
    | non =>
      cases rv
      exact PySem.P.repr_of_none (fin (by simp only [PyData.shown]))
    | bl b =>
      cases rv
      exact PySem.P.repr_of_bool (fin (by simp only [PyData.shown]))
    | int i =>
      obtain ⟨t, rfl⟩ := rv
      exact PySem.P.repr_of_int (by simpa only [PyData.showable, decide_eq_true_eq] using h1) (fin (by simp only [PyData.shown]))
    | str x =>
      obtain ⟨t, rfl⟩ := rv
      exact PySem.P.repr_of_str (fin (by simp only [PyData.shown])) (by simpa only [PyData.shown] using h2)
    | lst _ _ => exact ref rfl
    | tup _ _ => exact ref rfl
  · obtain rfl : u = Value.ref a := rv
    obtain ⟨_, hm, vs, kv, o, es, ep, ho, hx, hde, _, pr, _⟩ := I.hok a _ ha
    cases kv
    have e0 : es.toList = [] := by
      have z := pr
      generalize es.toList = l at z
      cases z
      rfl
    have hc : o.cls = .type "dict" := hx.1
    have rd : Reads s.heap (.ref a) (.dict []) [a] := by
      have z : Reads s.heap (.ref a) (.dict []) (a :: [] ++ []) := .dict ho hc hde (by rw [e0]; exact .nil) (by rw [e0]; exact .nil)
      exact z
    have nm : sysModules ∉ [a] := fun z => by
      rw [List.mem_singleton.mp z] at hm
      exact absurd hm (by simp)
    have dp : (PyData.dict []).depth = 1 := by simp [PyData.depth, PyData.depthKv]
    have tx : (PyData.dict []).shown = ("{}" : Str) := by simp [PyData.shown, PyData.shownKv]; rfl
    refine repr_of_reads' rd (by simp only [PyData.showable, PyData.showableKv]) (fun _ => nm) ga (by rw [dp]; omega) (fun _ _ e => e) (fun h' u tk hk => ⟨.str _, H, I.kept hk, ⟨_, rfl⟩, ?_⟩) ?_
    · rw [tx]
      exact q
    · rw [tx]
      decide
end
end Bk

namespace Bk
open PySem PySem.Spec PyProof.Rows L2
/-! ## 11. try: .. except A as e: .. except B as e: .. , what none of them takes does not come -/
abbrev ClA := Value × Nat × (Addr → Value → Option Addr → TS)
def offI (i : Nat) (D : Ends) : Ends := { nx := fun τ G => D.nx (τ.set i none) G, rt := D.rt, bk := fun τ G => D.bk (τ.set i none) G, ct := fun τ G => D.ct (τ.set i none) G }
def wAM (K : PySem.W.Frag) (D : Ends) : List ClA → WX
  | [] => fun _ _ _ _ => False
  | q :: l => fun cls d τ G => ∃ b, PySem.W.exmOne K cls q.1 = some b ∧ (b = true → ∀ a, G a = none → q.2.2 a cls d (offI q.2.1 D) (τ.set q.2.1 (some (.ref a))) G) ∧ (b = false → wAM K D l cls d τ G)
inductive HdA (X : Cx) : List ExceptHandler → List ClA → Prop
  | stop {hds : List ExceptHandler} : HdA X hds []
  | more {x n : Str} {c : Value} {i : Nat} {ts : Addr → Value → Option Addr → TS} {b : Stmt} {bs : List Stmt} {p1 p2 : Pos} {hds : List ExceptHandler} {l : List ClA} (nm : Names X x c) (hi : X.N[i]? = some n) (hn : X.env.kindOf n = some .local)
      (su : ∀ (a : Addr) (oe : Obj) (cls : Value) (d : Option Addr) (pn : List (Addr × Obj)), Zc cls d oe → (∃ vs, oe.data = .fields vs) → PSs (X.suite a ((a, oe) :: pn)) (b :: bs) (ts a cls d)) (r : HdA X hds l) :
      HdA X (.ExceptHandler (some (.Name x p1)) (some n) (b :: bs) p2 :: hds) ((c, i, ts) :: l)
section
variable {X : Cx} {body : List Stmt} {h₀ : ExceptHandler} {hds : List ExceptHandler} {l : List ClA} {pos : Pos} {tb : WX → TS}
theorem ps_try_asM (st : X.stack = X.env :: X.outer) (fr : X.env.frame = some X.env.locals) (nd : X.N.Nodup)
    (hb : ∀ (W : WX) (pn : List (Addr × Obj)) (xe : Value → Shared → Prop), Takes (X.tr pn xe) W → PassesOwn (model X.prog X.w) X.A X.env xe → PSs (X.tr pn xe) body (tb W))
    (hh : HdA X (h₀ :: hds) l) : PS X (.Try body (h₀ :: hds) [] [] pos) (fun D τ G => tb (wAM X.K D l) D τ G) := by
  refine ⟨fun pins s τ G D I hq => wpAny_Try_except ?_⟩
  have ok := I.ok
  refine wpAny_mono ((hb (wAM X.K D l) (X.pn ++ pins) _ (fun u s2 z => ?_) PassesOwn.looking).run [] s τ G D (I.toTry _) hq) (fun fl s2 z => ?_) (fun _ _ z => z)
  · -- what came out of the body
    obtain ⟨a, B, sI, pins2, τ2, G2, cls, d, rfl, J2, nb, up, sky, na, os, ag, w⟩ := z
    have J : Inv X pins τ2 G2 sI := J2.ofTry ok
    refine Sky.land Zc.steady (show X.A.frames = some (X.env :: X.outer) by rw [ok.frames, st]) fr (by rw [← st]; exact sky) fun h3 fl3 up3 => ?_
    obtain ⟨o3, v3, g3, z3, d3⟩ := fl3.there
    have J3 : Inv X pins τ2 G2 { s2 with heap := h3 } := J.landed nb fl3.1 (up.trans up3) os ag
    have out : a ∉ frs (X.env :: X.outer) := fun m => by
      obtain ⟨_, o4, g4, n4⟩ := fl3.2.2.1.mem m
      rw [g3] at g4
      cases g4
      exact n4 _ d3
    have aL : a ≠ X.env.locals := fun e => out (List.mem_filterMap.mpr ⟨X.env, List.mem_cons_self, by rw [fr, e]⟩)
    have aF : a ∉ X.fs := fun m => by
      obtain ⟨e, me, q⟩ := List.mem_filterMap.mp m
      exact out (List.mem_filterMap.mpr ⟨e, List.mem_cons_of_mem _ me, q⟩)
    have S3 := J3.suite g3 d3 na aL aF
    have all : ∀ {hs : List ExceptHandler} {k : List ClA}, HdA X hs k → wAM X.K D k cls d τ2 G2 → wpAny (model X.prog X.w) X.A (handleBy (.ref a) X.env hs) (SP X pins D) X.xe { s2 with heap := h3 } := by
      intro hs k hk
      induction hk with
      | stop => exact fun z => z.elim
      | @more x n c i ts b bs p1 p2 hs2 k2 nm hi hn su r ih =>
        rintro ⟨yes, e1, w1, w2⟩
        refine wpAny_handleBy_cons (codeAny_handlers_test ?_) (fun q => nomatch q)
        have T1 : PySem.W.Looks (model X.prog X.w) h3 (typeOf (.ref a)) cls := fun A Q E s k q => wpAny_typeOf_ref (k _ _ g3) (by rw [z3.1]; exact q)
        have T2 := PySem.W.exm_one (M := model X.prog X.w) J3.kIn T1 e1
        have ask : ∀ {Q : Value → Shared → Prop} {E : Value → Shared → Prop}, Q c { s2 with heap := h3 } → wpAny (model X.prog X.w) (X.A.mark (some (.ref a))) (eval (.Name x p1) X.env) Q E { s2 with heap := h3 } := fun {Q E} q => by
          obtain ⟨g1, g2, m1 | ⟨m1, m2, m3⟩⟩ := nm
          · exact ld_glob (X := X.suite a ((a, o3) :: (X.pn ++ pins))) S3 g1 m1 q g2
          · exact ld_blt (X := X.suite a ((a, o3) :: (X.pn ++ pins))) S3 g1 m1 m2 q m3 g2
        refine ask (T2.here ?_)
        match yes, w1, w2 with
        | false, w1, w2 => exact ih (w2 rfl)
        | true, w1, w2 =>
          refine codeAny_handlers_suite_as (HandSPX.lands_againZ fl3 fun h4 fl4 up4 => ?_)
          obtain ⟨o4, v4, g4, z4, d4⟩ := fl4.there
          have S4 := (J.landed nb fl4.1 ((up.trans up3).trans up4) os ag : Inv X pins τ2 G2 { s2 with heap := h4 }).suite g4 d4 na aL aF
          refine store_ok (X := X.suite a ((a, o4) :: (X.pn ++ pins))) (v := .ref a) S4 nd hi (.inl hn) rfl (fun s5 S5 => ?_) (.inr hn)
          refine wpAny_mono ((su a o4 cls d (X.pn ++ pins) z4 ⟨_, d4⟩).run [] s5 _ G2 _ S5 (w1 rfl a na)) (fun fl s6 z6 => ?_) fun _ _ z6 => z6.elim
          have back : ∀ {τ6 : L2.St} {G6 : Hp} {R : Shared → Prop}, Inv (X.suite a ((a, o4) :: (X.pn ++ pins))) [] τ6 G6 s6 → (∀ s7, Inv X pins (τ6.set i none) G6 s7 → R s7) →
              wpAny (model X.prog X.w) X.A (do bindName X.env n .none; unbindBehindTheSuite X.env n p2) (fun _ s7 => R s7) X.xe s6 := fun {τ6 G6 R} S6 f => gone_ok (S6.unsuite ok) nd hi hn f
          match fl, z6 with
          | .next, ⟨_, _, S6, q6⟩ => exact back S6 fun s7 J7 => ⟨_, _, J7, q6⟩
          | .brk, ⟨_, _, S6, q6⟩ => exact back S6 fun s7 J7 => ⟨_, _, J7, q6⟩
          | .cont, ⟨_, _, S6, q6⟩ => exact back S6 fun s7 J7 => ⟨_, _, J7, q6⟩
          | .ret u, ⟨_, _, _, S6, r6, q6⟩ => exact back S6 fun s7 J7 => ⟨_, _, _, J7, r6, q6⟩
    exact all hh w
  · match fl, z with
    | .next, ⟨_, _, J, q⟩ => exact wpAny_execs_nil ⟨_, _, J.ofTry ok, q⟩
    | .brk, ⟨_, _, J, q⟩ => exact ⟨_, _, J.ofTry ok, q⟩
    | .cont, ⟨_, _, J, q⟩ => exact ⟨_, _, J.ofTry ok, q⟩
    | .ret u, ⟨_, _, _, J, r, q⟩ => exact ⟨_, _, _, J.ofTry ok, r, q⟩
end
end Bk

namespace Bk
open PySem PySem.Spec PyProof.Rows L2
/-! ## 12. enumerate of a tuple -/
theorem meets_enum1 {v : Value} {o : Obj} {S : Heap → Prop} (B : Begins v o S) :
    Meets (Builtin.«enumerate.__new__» ⟨[.type "enumerate", v], []⟩) (fun _ R s => S s.heap ∧
      R (.ok (.ret (.ref (s.heap.push o).objs.size))) { s with heap := (s.heap.push o).push { cls := .type "enumerate", data := .fields #[.none, .bool false, .ref s.heap.objs.size, rawInt 0, .none, .none] } }) :=
  .of_wp fun prog w A R s z => by
    obtain ⟨hp, g, d, tk, os⟩ := s
    obtain ⟨z1, z2⟩ := z
    have sub := sub_enumerate
    have it : ∀ {A' : Around} {E : Value → Shared → Prop} {Q : Value → Shared → Prop}, Q (.ref hp.objs.size) ⟨hp.push o, g, d, tk, os⟩ → wpAny (model prog w) A' (pyIter v) Q E ⟨hp, g, d, tk, os⟩ := fun q => B.iter prog w _ _ _ _ z1 q
    wp_walk using it
    refine wpAny_stack_any fun st => wpAny_pure ?_
    split
    · rename_i c _ _ _ _ _
      cases (c == Value.type "enumerate") <;> (wp_walk using it; exact ⟨_, rfl, z2⟩)
    · wp_walk using it
      exact ⟨_, rfl, z2⟩
theorem enum1 {prog : Program} {w : World} {A : Around} {E : Value → Shared → Prop} {s : Shared} {v : Value} {o : Obj} {S : Heap → Prop} {Q : Value → Shared → Prop} (B : Begins v o S) (z : S s.heap)
    (q : ∀ h', IsEnum h' (s.heap.objs.size + 1) s.heap.objs.size 0 .none → h'.get? s.heap.objs.size = some o → h'.objs.size = s.heap.objs.size + 2 → (∀ b u, s.heap.get? b = some u → h'.get? b = some u) → Q (.ref (s.heap.objs.size + 1)) { s with heap := h' }) :
    wpAny (model prog w) A (call (.type "enumerate") [v]) Q E s := by
  refine callType_new F.called_enumerate (by decide) (F.typeCall_enumerate_1 _) (F.newCall_enumerate_1 _) (fun u => F.args_object_init_2 u _) F.entry_enumerate_new (meets_enum1 B) ⟨z, ?_⟩
  have sz : (s.heap.push o).objs.size = s.heap.objs.size + 1 := Heap.size_push ..
  have top := Heap.get?_push_size (s.heap.push o) (o := { cls := .type "enumerate", data := .fields #[.none, .bool false, .ref s.heap.objs.size, rawInt 0, .none, .none] }) rfl
  show _ ∧ _
  rw [sz] at top ⊢
  exact ⟨⟨_, top, rfl⟩, q _ top (Heap.get?_push_of_some _ (Heap.get?_push_size _ B.free)) (by rw [Heap.size_push, sz]) fun b u e => Heap.get?_push_of_some _ (Heap.get?_push_of_some _ e)⟩
/-- the tuple's items in new pairs -/
def Itu (K : PySem.W.Frag) (a : Addr) : It :=
  ⟨fun i H => ∃ (xs : List V) (x : V), SqT K H a xs ∧ xs[i]? = some x, fun i H v H' => ∃ T x, v = .ref T ∧ H T = none ∧ H' = upd H T (.tup [.int (i : Nat), x]) ∧ ∀ xs, SqT K H a xs → xs[i]? = some x, fun i H => ∃ xs : List V, SqT K H a xs ∧ xs.length ≤ i⟩
theorem turn_enumT {P : Program} {w : World} {K : PySem.W.Frag} {elts : List Expr} {kk : Nat} {tpos : Pos} (a e it : Addr) (ai : a ≠ it) (ae : a ≠ e) :
    Turn P w K (.Tuple elts kk tpos) (Itu K a) [e, it] e (fun i h => (∃ old, IsEnum h e it ((i : Nat) : Int) old) ∧ h.IsTupleIter it a i ∧ e ≠ it) where
  mem := List.mem_cons_self
  obj := fun i h st b hb => by
    obtain ⟨⟨old, he⟩, ⟨o, ho, _, hd⟩, _⟩ := st
    rcases List.mem_cons.mp hb with z | z
    · subst z
      exact ⟨_, he, fun v q => nomatch q⟩
    · exact ⟨o, by rw [List.mem_singleton.mp z]; exact ho, fun v q => by rw [hd] at q; exact nomatch q⟩
  keep := fun i h h' st k => ⟨st.1.elim fun old z => ⟨old, k e List.mem_cons_self _ z⟩, st.2.1.at fun o q => k it (List.mem_cons_of_mem _ List.mem_cons_self) o q, st.2.2⟩
  item := by
    intro X hP hw hK hc i pins s σ H E I hf st hg
    subst hP hw hK
    obtain ⟨⟨old, he⟩, hit, ne⟩ := st
    obtain ⟨xs, x, hq, hx⟩ := hg
    obtain ⟨its, rv, p, _⟩ := I.tuple hq
    obtain ⟨u, hu, ru⟩ := rv.get hx
    have e1 := Heap.lt_size he
    have i1 : it < s.heap.objs.size := let ⟨_, q, _⟩ := hit; Heap.lt_size q
    have li : i < its.toArray.size := by
      rw [List.size_toArray]
      exact (List.getElem?_eq_some_iff.mp hu).1
    refine wpAny_pyNext_enum_itemD (Draws.tuple (show X.A.in1.handled = none from I.ok.hd hc) it a ai its.toArray) he ⟨hit, p⟩ li ne (fun z => ?_) fun v h' tk hv ho hs hT _ hk => ?_
    · rcases List.mem_cons.mp z with z | z
      · exact ne z
      · exact ae (List.mem_singleton.mp z).symm
    obtain rfl : v = u := by
      have hv' : its.toArray[i]? = some v := hv
      rw [List.getElem?_toArray, hu] at hv'
      exact (Option.some.inj hv').symm
    refine ⟨_, rfl, wpAny_letOwnedTupleGo_enum (s := { s with heap := h', toks := tk + 1 }) ho fun h2 he2 sb => ?_⟩
    have T2 : h2.get? s.heap.objs.size = some { cls := .type "tuple", data := .seq #[.int i tk, v] } := (sb.2 _ (Nat.ne_of_gt e1)).trans hT
    have fresh := I.hok.fresh (Nat.le_refl s.heap.objs.size)
    have J : Inv X pins σ (upd H s.heap.objs.size (.tup [.int (i : Nat), x])) { s with heap := h2, toks := tk + 1 } :=
      I.turnedNew (ch := [e, it]) (fun b ob hb q => (sb.2 b (fun z => hb (by simp [z]))).trans (hk b ob (fun z => hb (by simp [z])) (fun z => hb (by simp [z])) q)) hf (Nat.le_refl _)
        (show ObjOk X.prog X.w _ h2 _ (.tup [.int (i : Nat), x]) from ⟨Nat.le_of_ble_eq_true rfl, [.int i tk, v], .cons ⟨_, rfl⟩ (.cons ru .nil), ⟨_, T2, rfl, _, rfl⟩⟩)
    refine ⟨.ref s.heap.objs.size, _, J, rfl, ⟨_, x, rfl, fresh, rfl, fun ys hy => by rw [I.tuple_inj hy hq]; exact hx⟩, ⟨⟨v, ?_⟩, hs.1.at fun o q => (sb.2 it (Ne.symm ne)).trans q, ne⟩, fun b hb => ?_⟩
    · rw [show ((i + 1 : Nat) : Int) = (i : Int) + 1 by omega]
      exact he2
    · have lb : b < s.heap.objs.size := by
        rcases List.mem_cons.mp hb with z | z
        · rw [z]; exact e1
        · rw [List.mem_singleton.mp z]; exact i1
      rw [upd_ne (Nat.ne_of_lt lb)]
      exact (hf b hb).1
  done := by
    intro X hP hw hK hc i pins s σ H E I hf st hg
    subst hP hw hK
    obtain ⟨⟨old, he⟩, hit, ne⟩ := st
    obtain ⟨xs, hq, hx⟩ := hg
    obtain ⟨its, rv, p, _⟩ := I.tuple hq
    obtain ⟨f0, f1, f2, f3, f4, f5⟩ := hf it (List.mem_cons_of_mem _ List.mem_cons_self)
    have ln := rv.length
    have hn : its.toArray[i]? = none := by
      rw [List.getElem?_toArray]
      exact List.getElem?_eq_none (by omega)
    have hT : s.TypeIs (.ref e) "enumerate" := ⟨_, he, rfl⟩
    unfold pyNext
    refine wpAny_bind (wpAny_attempt (wpAny_callSpecial?_slot (name := Str.ofString "__next__") hT F.slot_enumerate_next
      (wpAny_call_entry F.slot_enumerate_next hT F.entry_enumerate_next ?_ (F.args_enumerate_next_1 _))))
    show wpAny (model X.prog X.w) _ (field (.ref e) 2 >>= _) _ _ _
    refine wpAny_bind (wpAny_field he rfl (x := .ref it) rfl ?_)
    refine wpAny_bind (wpAny_nextOf_tuple_end (I.ok.hd hc) hit p hn fun h' x he' hx' => ?_)
    obtain ⟨o, ho, hcl⟩ := hx'
    exact wpAny_bind (wpAny_isInstance (T := "StopIteration") (b := true) ⟨o, ho, hcl⟩ isSubtype_stop (wpAny_pure ⟨rfl, I.turned (t' := s.toks) (fun b o hb q => he' b o hb q) f0 f1 f3 f4 f5⟩))
  self := fun A i s Q E st h => let ⟨⟨_, he⟩, _⟩ := st; wpAny_pyIter_enum he h
def iEnumA (K : PySem.W.Frag) (ta : TA) : TI := fun σ H R => ta σ H fun vs H1 => ∃ a xs, vs = [.ref a] ∧ ((SqL K H1 a xs ∧ R (Ite K a) H1) ∨ (SqT K H1 a xs ∧ R (Itu K a) H1))
def iSeqA (K : PySem.W.Frag) (te : TE) : TI := fun σ H R => te σ H fun x H1 => ∃ a xs, x = .ref a ∧ ((SqL K H1 a xs ∧ R (Itl K a) H1) ∨ (SqT K H1 a xs ∧ R (Itt K a) H1))
section
variable {X : Cx} {e tg : Expr} {ta : TA} {te : TE} {p pos tpos : Pos} {elts : List Expr} {kk : Nat}
theorem pi_enumA (hg : Gl X "enumerate") (hm : X.mg "enumerate" = none) (ha : PA X [e] ta) (hs : starEach [e] X.env = [(false, eval e X.env)] := by rfl) : PI X (.Tuple elts kk tpos) (.Call (.Name "enumerate" p) [e] [] pos) (iEnumA X.K ta) := by
  refine ⟨fun pins s σ H R I h => Call_ (ld_blt I hg hm boot_enumerate (PyProof.Rows.callWith_type1 (thn (ha.run pos pins s σ H _ I h) fun us s1 ⟨vs, H1, I1, r1, q1⟩ => ?_) hs rfl))⟩
  obtain ⟨a, xs, rfl, q⟩ := q1
  obtain ⟨u, rfl, rv⟩ := vals1 r1
  obtain rfl : u = Value.ref a := rv
  have near : ∀ {b : Addr}, b ∈ [s1.heap.objs.size + 1, s1.heap.objs.size] → FpOk X pins H1 b := fun {b} hb => by
    have le : s1.heap.objs.size ≤ b := by
      rcases List.mem_cons.mp hb with z | z
      · rw [z]; exact Nat.le_succ _
      · rw [List.mem_singleton.mp z]; exact Nat.le_refl _
    exact I1.fpOk le (I1.hok.fresh le)
  rcases q with ⟨hq, q⟩ | ⟨hq, q⟩
  · obtain ⟨its, rv, p', hz⟩ := I1.list hq
    refine call_enumerate_list p'.isList fun h' he hit _ hk => wpAny_pyIter_enum he ?_
    exact ⟨s1.heap.objs.size + 1, [s1.heap.objs.size + 1, s1.heap.objs.size], _, _, H1, rfl, I1.kept (t' := s1.toks) hk, turn_enum a (s1.heap.objs.size + 1) s1.heap.objs.size, ⟨⟨.none, he⟩, hit, Nat.succ_ne_self _⟩, fun b hb => near hb, q⟩
  · obtain ⟨its, rv, p', hz⟩ := I1.tuple hq
    have la : a < s1.heap.objs.size := let ⟨_, z, _⟩ := p'; Heap.lt_size z
    refine enum1 (begins_tuple a its.toArray) p' fun h' he hit _ hk => wpAny_pyIter_enum he ?_
    exact ⟨s1.heap.objs.size + 1, [s1.heap.objs.size + 1, s1.heap.objs.size], _, _, H1, rfl, I1.kept (t' := s1.toks) hk, turn_enumT a (s1.heap.objs.size + 1) s1.heap.objs.size (Nat.ne_of_lt la) (Nat.ne_of_lt (Nat.lt_succ_of_lt la)), ⟨⟨.none, he⟩, ⟨_, hit, rfl, rfl⟩, Nat.succ_ne_self _⟩, fun b hb => near hb, q⟩
theorem pi_seqA (he : PE X e te) : PI X tg e (iSeqA X.K te) := by
  refine ⟨fun pins s σ H R I h => thn (he.run pins s σ H _ I h) fun v s1 ⟨x, H1, I1, r1, q1⟩ => ?_⟩
  obtain ⟨a, xs, rfl, q⟩ := q1
  obtain rfl : v = Value.ref a := r1
  have near : ∀ {b : Addr}, b ∈ [s1.heap.objs.size] → FpOk X pins H1 b := fun {b} hb => by
    rw [List.mem_singleton.mp hb]
    exact I1.fpOk (Nat.le_refl _) (I1.hok.fresh (Nat.le_refl _))
  have J : ∀ {o : Obj}, Inv X pins σ H1 { s1 with heap := s1.heap.push o } := fun {o} => I1.kept (t' := s1.toks) fun b u z => Heap.get?_push_of_some _ z
  rcases q with ⟨hq, q⟩ | ⟨hq, q⟩
  · obtain ⟨its, rv, p', hz⟩ := I1.list hq
    exact wpAny_pyIter_list p'.isList ⟨s1.heap.objs.size, [s1.heap.objs.size], _, _, H1, rfl, J, turn_list a _, ⟨_, Heap.get?_push_size _ rfl, rfl, rfl⟩, fun b hb => near hb, q⟩
  · obtain ⟨its, rv, p', hz⟩ := I1.tuple hq
    exact wpAny_pyIter_tuple (show s1.heap.IsTuple a its.toArray from p') ⟨s1.heap.objs.size, [s1.heap.objs.size], _, _, H1, rfl, J, turn_tuple a _, ⟨_, Heap.get?_push_size _ rfl, rfl, rfl⟩, fun b hb => near hb, q⟩
end
section
variable {K : PySem.W.Frag} {a : Addr} {xs : List V}
theorem walk_enumT : Walk (Itu K a) xs.length (fun H => SqT K H a xs) (YPair (fun i => some (.int (i : Nat))) (fun i => xs[i]?)) :=
  ⟨fun i _ hi q => ⟨xs, xs[i], q, List.getElem?_eq_getElem hi⟩, fun _ q => ⟨xs, q, Nat.le_refl _⟩, fun i H v H' _ q ⟨T, x, h1, h2, h3, h4⟩ => ⟨T, .int (i : Nat), x, h1, h2, h3, rfl, h4 xs q⟩⟩
end
end Bk

namespace Bk
open PySem PySem.Spec PyProof.Rows L2
/-! ## 13. defs that refuse -/
/-- what a refusal is: a new own exception of the class at C, v its only field -/
def Refuse (C : Addr) (v : V) (H : Hp) (E : XK) : Prop := ∀ d H', H d = none → Same H H' → H' d = some (.xd [("found", v)]) → E (.ref C) (some d) H'
theorem Refuse.same {C : Addr} {v : V} {H H' : Hp} {E : XK} (r : Refuse C v H E) (s : Same H H') (n : ∀ d, H' d = none → H d = none) : Refuse C v H' E := fun d H2 hd s2 e => r d H2 (n d hd) (s.trans s2) e
def noE : XK := fun _ _ _ => False
structure CalX (P : Program) (w : World) (K : PySem.W.Frag) (mg : Str → Option Value) (base : Heap) (k : Nat) (x : Str) (sp : Sp) : Prop where
  ex : ∃ (f : Addr) (fd : FuncData) (ps : List Str), mg x = some (.ref f) ∧ PySem.W.keepIn K (.ref f) = true ∧ FnOk P w K mg base (L2.CX P w) k f fd ps sp ∧ Binds K fd ps []
theorem CalX.mk' {P : Program} {w : World} {K : PySem.W.Frag} {mg : Str → Option Value} {base : Heap} {k : Nat} {x : Str} {sp : Sp} {f : Addr} {fd : FuncData} {ps : List Str} (g : mg x = some (.ref f)) (kp : PySem.W.keepIn K (.ref f) = true) (F : FnOk P w K mg base (L2.CX P w) k f fd ps sp) (b : Binds K fd ps []) :
    CalX P w K mg base k x sp := ⟨f, fd, ps, g, kp, F, b⟩
/-- with keywords alone -/
structure CalNX (P : Program) (w : World) (K : PySem.W.Frag) (mg : Str → Option Value) (base : Heap) (k : Nat) (ks : List Str) (x : Str) (sp : Sp) (gV : List V → List V → List V) : Prop where
  ex : ∃ (f : Addr) (fd : FuncData) (ps : List Str) (g : List Value → List Value → List Value), mg x = some (.ref f) ∧ PySem.W.keepIn K (.ref f) = true ∧ FnOk P w K mg base (L2.CX P w) k f fd ps sp ∧ KBn K fd ps 0 ks g gV
theorem CalNX.mk' {P : Program} {w : World} {K : PySem.W.Frag} {mg : Str → Option Value} {base : Heap} {k : Nat} {ks : List Str} {x : Str} {sp : Sp} {gV : List V → List V → List V} {f : Addr} {fd : FuncData} {ps : List Str} {g : List Value → List Value → List Value} (a : mg x = some (.ref f)) (kp : PySem.W.keepIn K (.ref f) = true)
    (F : FnOk P w K mg base (L2.CX P w) k f fd ps sp) (b : KBn K fd ps 0 ks g gV) : CalNX P w K mg base k ks x sp gV := ⟨f, fd, ps, g, a, kp, F, b⟩
section
variable {X : Cx} {k j : Nat} {ks : List Str} {sp : Sp} {x : Str} {p pos : Pos} {e : Expr} {es : List Expr} {kws : List Keyword} {t tk : TA} {W : WX} {gV : List V → List V → List V}
/-- in a def that may let it out itself -/
theorem pe_calX {E : XK} (c : CalX X.prog X.w X.K X.mg X.base k x sp) (hr : Room j X.A) (hk : k ≤ j) (hg : Gl X x) (tk : Takes X (fun cls d _ H => E cls d H)) (ha : PA X (e :: es) t)
    (hdb : (x == ("__debug__" : Str)) = false := by decide) (he : starEach (e :: es) X.env = (false, eval e X.env) :: starEach es X.env := by rfl) (hpl : (backTo pos (starEach es X.env)).any (·.1) = false := by rfl) :
    PE X (.Call (.Name x p) (e :: es) [] pos) (tCall sp [] E t) := by
  obtain ⟨f, fd, ps, h1, h2, h3, h4⟩ := c.ex
  exact pe_call h3 (hr.mono hk) hg h1 h2 h4 .nil (passes_call tk fun _ _ _ _ h => h) ha hdb he hpl
theorem pass_no : Passes (L2.CX X.prog X.w) X noE := fun _ _ _ _ _ _ _ z => by
  obtain ⟨_, _, _, _, _, _, _, _, _, _, _, _, q⟩ := z
  exact q.elim
/-- where it is not refused -/
theorem pe_calY (c : CalX X.prog X.w X.K X.mg X.base k x sp) (hr : Room j X.A) (hk : k ≤ j) (hg : Gl X x) (ha : PA X (e :: es) t)
    (hdb : (x == ("__debug__" : Str)) = false := by decide) (he : starEach (e :: es) X.env = (false, eval e X.env) :: starEach es X.env := by rfl) (hpl : (backTo pos (starEach es X.env)).any (·.1) = false := by rfl) :
    PE X (.Call (.Name x p) (e :: es) [] pos) (tCall sp [] noE t) := by
  obtain ⟨f, fd, ps, h1, h2, h3, h4⟩ := c.ex
  exact pe_call h3 (hr.mono hk) hg h1 h2 h4 .nil pass_no ha hdb he hpl
theorem pe_calNY (c : CalNX X.prog X.w X.K X.mg X.base k ks x sp gV) (hr : Room j X.A) (hk : k ≤ j) (hg : Gl X x) (hkw : PK X kws tk)
    (hall : (backToKw pos (keywordEach kws X.env)).all (·.1.isSome) = true := by rfl) (hks : (backToKw pos (keywordEach kws X.env)).filterMap (·.1) = ks := by rfl)
    (hdb : (x == ("__debug__" : Str)) = false := by decide)
    (hpl : ((backTo pos (starEach [] X.env)).any (·.1) || (backToKw pos (keywordEach kws X.env)).any (·.1.isNone)) = false := by rfl) :
    PE X (.Call (.Name x p) [] kws pos) (tCallN 0 ks.length sp gV noE tNil tk) := by
  obtain ⟨f, fd, ps, g, h1, h2, h3, h4⟩ := c.ex
  exact pe_callN0 h3 (hr.mono hk) hg h1 h2 h4 pass_no hkw hall hks hdb hpl
/-- in a try -/
theorem pe_calT (c : CalX X.prog X.w X.K X.mg X.base k x sp) (hr : Room j X.A) (hk : k ≤ j) (hg : Gl X x) (tk : Takes X W) (ha : PA X (e :: es) t)
    (hdb : (x == ("__debug__" : Str)) = false := by decide) (he : starEach (e :: es) X.env = (false, eval e X.env) :: starEach es X.env := by rfl) (hpl : (backTo pos (starEach es X.env)).any (·.1) = false := by rfl) :
    PE X (.Call (.Name x p) (e :: es) [] pos) (tCallS sp (WE W) t) := by
  obtain ⟨f, fd, ps, h1, h2, h3, h4⟩ := c.ex
  exact pe_callS h3 (hr.mono hk) hg h1 h2 h4 (passAt tk) ha hdb he hpl
end
section
variable {K : PySem.W.Frag} {σ : L2.St} {H : Hp} {Q : VK} {D : Ends} {l : List ClA} {q : ClA} {cls : Value} {d : Option Addr}
theorem r_callS {sp : Sp} {E : L2.St → XK} {t : TA} (z : t σ H fun vs H1 => sp vs H1 Q (E σ)) : tCallS sp E t σ H Q := z
theorem r_try {tb : WX → TS} (z : tb (wAM K D l) D σ H) : (fun D τ G => tb (wAM K D l) D τ G) D σ H := z
theorem w_hit (h : PySem.W.exmOne K cls q.1 = some true) (z : ∀ a, H a = none → q.2.2 a cls d (offI q.2.1 D) (σ.set q.2.1 (some (.ref a))) H) : wAM K D (q :: l) cls d σ H := ⟨true, h, fun _ => z, fun y => absurd y.symm Bool.false_ne_true⟩
theorem w_miss (h : PySem.W.exmOne K cls q.1 = some false) (z : wAM K D l cls d σ H) : wAM K D (q :: l) cls d σ H := ⟨false, h, fun y => absurd y Bool.false_ne_true, fun _ => z⟩
theorem r_raise {t : L2.St → Hp → XK → Prop} {W : WX} (z : t σ H fun cls d H' => W cls d σ H') : (fun (_ : Ends) (τ : L2.St) (G : Hp) => t τ G fun cls d G' => W cls d τ G') D σ H := z
/-- raise C(v), C's own __init__ being this -/
def spInit (C : Addr) : Sp := fun vs H Q _ => ∃ (a : Addr) (x : V), vs = [.ref a, x] ∧ H a = some (exo a C none) ∧ ∀ dx, H dx = none → dx ≠ a → Q .non (upd (upd H dx (exd dx [("found", x)])) a (exo a C (some dx)))
theorem r_mkO {C : Addr} {v : V} {E : XK} (z : Refuse C v H E) : [v].length ≤ 1000 ∧ ∀ a, H a = none → spInit C (.ref a :: ([v] ++ [])) (upd H a (exo a C none))
    (fun u H2 => u = .non ∧ ∃ (d : Addr) (fs : List (Str × V)), H2 a = some (exo a C (some d)) ∧ H2 d = some (exd d fs) ∧ H d = none ∧ E (.ref C) (some d) (upd (del H2 a) d (.xd fs))) (fun _ _ _ => False) := by
  refine ⟨Nat.le_of_ble_eq_true rfl, fun a ha => ⟨a, v, rfl, upd_same, fun dx hd ne => ⟨rfl, dx, [("found", v)], upd_same, ?_, ?_, ?_⟩⟩⟩
  · rw [upd_ne ne, upd_same]
  · rw [upd_ne ne] at hd
    exact hd
  · rw [upd_ne ne] at hd
    refine z dx _ hd (fun b o e => ?_) upd_same
    have h1 : b ≠ a := ne_of_none e ha
    have h2 : b ≠ dx := ne_of_none e hd
    rw [upd_ne h2]
    show del _ a b = some o
    unfold del
    rw [if_neg h1, upd_ne h1, upd_ne h2, upd_ne h1]
    exact e
end
/-! ## 14. isinstance of several classes -/
def rIs2 (K : PySem.W.Frag) : List V → Hp → VK → Prop := fun xs H Q => rIsi K xs H Q ∨ rIsiT K xs H Q
theorem call_is2 {X : Cx} : CallR X (.builtin "isinstance") (rIs2 X.K) := CallR.or call_isi call_isiT
def IsB (K : PySem.W.Frag) (H : Hp) (x : V) (T U : String) (b : Bool) : Prop := ∃ t, TyX K H x t ∧ PySem.W.kitAny K t [.type T, .type U] = some b
theorem kit2 {K : PySem.W.Frag} {t : Value} {T U : String} {a b : Bool} (h : PySem.W.kitOne K t (.type T) = some a) (h2 : PySem.W.kitOne K t (.type U) = some b) : PySem.W.kitAny K t [.type T, .type U] = some (a || b) := by
  cases a with
  | true => exact kitAny_cons h (fun z => nomatch z) (fun _ => rfl)
  | false => exact kitAny_cons h (fun _ => by cases b with
      | true => exact kitAny_cons h2 (fun z => nomatch z) (fun _ => rfl)
      | false => exact kitAny_cons h2 (fun _ => kitAny_nil) (fun z => nomatch z)) (fun z => nomatch z)
section
variable {K : PySem.W.Frag} {H H' : Hp} {x : V} {T U : String} {b c : Bool} {Q : VK} {tp : Addr}
theorem r_is2 (h : IsB K H x T U b) (e : H tp = some (.tup [.ty T, .ty U])) (q : Q (.bl b) H) : rIs2 K [x, .ref tp] H Q := by
  obtain ⟨t, h1, h2⟩ := h
  exact .inr ⟨x, tp, [.ty T, .ty U], t, [.type T, .type U], b, rfl, e, .cons (.ty T) (.cons (.ty U) .nil), h1, h2, q⟩
theorem r_is1 (h : ∃ t, TyX K H x t ∧ PySem.W.kitOne K t (.type T) = some b) (q : Q (.bl b) H) : rIs2 K [x, .ty T] H Q := by
  obtain ⟨t, h1, h2⟩ := h
  exact .inl ⟨x, .ty T, t, .type T, b, rfl, .ty T, h1, h2, q⟩
end
/-! ## 15. a comprehension, by what each turn gives -/
section
variable {J : It} {n : Nat} {G : Hp → Prop} {Y : Nat → Hp → V → Hp → Prop} {g : TG} {tt : TT} {te : TE} {vs : List Nat} {σ : L2.St} {H : Hp} {D : Addr} {Q : VK}
theorem lc_by (w : Walk J n G Y) (p : Nat → Option V) (hD : H D = none) (hn : n ≤ 10000) (hG : ∀ H', Same H H' → G H')
    (hs : ∀ i x H1 H2 (Q' : VK) (R' : Hp → Prop), i < n → Same H H1 → Y i H1 x H2 → (∀ v, p i = some v → ∀ H3, Same H1 H3 → Q' v H3) → (p i = none → ∀ H3, Same H1 H3 → R' H3) →
      g x (wipe σ vs) H2 fun τ H3 => wipe τ vs = wipe σ vs ∧ tt τ H3 fun b H4 => if b = true then te τ H4 Q' else R' H4)
    (q : ∀ H', Same H H' → H' D = some (.lst ((List.range n).filterMap p)) → Q (.ref D) H') :
    ∃ W : Nat → Nat → Hp → Prop, (∃ m, W 0 m (upd H D (.lst []))) ∧ ∀ i m H, W i m H →
      (J.stop i H ∧ Q (.ref D) H) ∨ (J.go i H ∧ ∃ Nx : Hp → Prop, (∀ H', Nx H' → ∃ m', m' < m ∧ W (i + 1) m' H') ∧ ∀ x H', J.yld i H x H' → g x (wipe σ vs) H' fun σ2 H2 => wipe σ2 vs = wipe σ vs ∧ tt σ2 H2 fun b H3 =>
        if b = true then te σ2 H3 fun y H4 => ∃ acc, H4 D = some (.lst acc) ∧ acc.length < sizeLine ∧ Nx (upd H4 D (.lst (acc ++ [y]))) else Nx H3) := by
  refine lc_it w (fun i G => Same H G ∧ G D = some (.lst ((List.range i).filterMap p))) ⟨same_upd hD, by rw [upd_same]; rfl⟩ (fun i G _ z => hG G z.1) (fun i x H1 H2 hi ⟨sm, e⟩ y => ?_) fun G z => q G z.1 z.2
  refine hs i x H1 H2 _ _ hi sm y (fun v hv H3 s3 => ⟨_, s3 _ _ e, ?_, sameBut (sm.trans s3) hD, ?_⟩) fun hv H3 s3 => ⟨sm.trans s3, ?_⟩
  · have l := List.length_filterMap_le p (List.range i)
    rw [List.length_range] at l
    exact Nat.lt_of_le_of_lt (Nat.le_trans l (Nat.le_trans (Nat.le_of_lt hi) hn)) (by decide)
  · rw [upd_same, List.range_succ, List.filterMap_append]
    simp only [List.filterMap_cons, List.filterMap_nil, hv]
  · rw [s3 _ _ e, List.range_succ, List.filterMap_append]
    simp only [List.filterMap_cons, List.filterMap_nil, hv, List.append_nil]
end
end Bk

namespace Bk
open PySem PySem.Spec PyProof.Rows L2
/-! ## 8. binding with keywords -/
theorem vals_rev : ∀ {zs : List V} {ws : List Value}, Vals zs ws → Vals zs.reverse ws.reverse
  | _, _, .nil => .nil
  | _, _, .cons r t => by
    rw [List.reverse_cons, List.reverse_cons]
    exact (vals_rev t).append (.cons r .nil)
section
variable {K : PySem.W.Frag} {x qual : Str} {params : Arguments} {body : List Stmt} {scope : Scope} {kws : List (Str × V)} {f : Addr} {fd : FuncData} {ps : List Str}
theorem kbinds0 (F : FunD K x qual params body scope [] kws f fd) (n : Nat) (ks : List Str) (ms : List (Str × V)) (g : {α : Type} → List α → List α → List α → List α) (hk : kws ≠ []) (hms : ∀ q ∈ ms, q ∈ kws)
    (hrel : ∀ {vs mz zs : List V} {us mv ws : List Value}, Vals vs us → Vals mz mv → Vals zs ws → Vals (g vs mz zs) (g us mv ws))
    (h : ∀ (D : Addr) (doc pm : Value) (an : Option Addr) (cdv ct : Value) (us mv ws : List Value), us.length = n → mv.length = ms.length → ws.length = ks.length →
      KwChain D ((ms.map (·.1)).zip mv) (bindArgs (PySem.W.fnOf x qual params body scope .none (.ref D) doc pm an cdv ct) ⟨us, ks.zip ws⟩) (ps.zip (g us mv ws))) :
    ∃ mv : List Value, KBn K fd ps n ks (fun us ws => g us mv ws) (fun vs zs => g vs (ms.map (·.2)) zs) := by
  obtain ⟨oc, od, dV, kV, doc, pm, an, cdv, ct, osl, rfl, lk, hcd, hD, hK⟩ := F.ex
  rcases hD with ⟨_, rfl⟩ | ⟨e, _⟩
  · rcases hK with e | ⟨D, rfl, hq⟩
    · exact absurd e hk
    · obtain ⟨mv, hl, rk, hks⟩ := kwd_vals (ms := ms) fun q hm => hq q (hms q hm)
      refine ⟨mv, ⟨fun s us ws X l1 l2 => ?_, fun r1 r2 => hrel r1 rk r2⟩⟩
      exact BindsTo.of_looks fun M => KwChain.looks X hks (h D doc pm an cdv ct us mv ws l1 hl l2)
  · exact absurd rfl e
/-- keywords alone or beside values, no defaults -/
theorem kbPlain {st : Stmt} {f : Addr} {fd : FuncData} (F : Fun K x qual st f fd) (n : Nat) (ks : List Str) (g : {α : Type} → List α → List α → List α)
    (hrel : ∀ {vs zs : List V} {us ws : List Value}, Vals vs us → Vals zs ws → Vals (g vs zs) (g us ws))
    (h : ∀ (kV doc pm : Value) (an : Option Addr) (cdv ct : Value) (us ws : List Value), us.length = n → ws.length = ks.length → bindArgs (PySem.W.fnOf x qual (defArgs st) (defBody st) (defScope st) .none kV doc pm an cdv ct) ⟨us, ks.zip ws⟩ = pure (ps.zip (g us ws))) :
    KBn K fd ps n ks (fun us ws => g us ws) (fun vs zs => g vs zs) := by
  obtain ⟨oc, od, kV, doc, pm, an, cdv, ct, osl, rfl, lk, hcd⟩ := F.ex
  exact ⟨fun s us ws X l1 l2 => .of_eq (h kV doc pm an cdv ct us ws l1 l2), fun r1 r2 => hrel r1 r2⟩
end
theorem kit_sub {K : PySem.W.Frag} {C : Addr} {T : String} {b : Bool} (hm : PySem.W.kitMeta T = true) (h : PySem.W.subIn K (.ref C) (.type T) = some b) : PySem.W.kitOne K (.ref C) (.type T) = some b := by
  unfold PySem.W.kitOne PySem.W.kitCls
  rw [if_neg (fun z => by cases (beq_iff_eq.mp z))]
  show (if PySem.W.kitMeta T = true then PySem.W.subIn K (.ref C) (.type T) else none) = some b
  rw [if_pos hm]
  exact h
theorem CalN.mk' {P : Program} {w : World} {K : PySem.W.Frag} {mg : Str → Option Value} {base : Heap} {CX : CXT} {k n : Nat} {ks : List Str} {x : Str} {sp : Sp} {gV : List V → List V → List V} {f : Addr} {fd : FuncData} {ps : List Str} {g : List Value → List Value → List Value} (a : mg x = some (.ref f)) (kp : PySem.W.keepIn K (.ref f) = true) (F : FnOk P w K mg base CX k f fd ps sp) (b : KBn K fd ps n ks g gV) :
    CalN P w K mg base CX k n ks x sp gV := ⟨f, fd, ps, g, a, kp, F, b⟩
/-! ### within a comprehension: K by name -/
theorem call_isK {X : Cx} {K : PySem.W.Frag} (h : X.K = K) : CallR X (.builtin "isinstance") (rIs K) := by
  subst h
  exact call_is
theorem pg_tupK {X : Cx} {K : PySem.W.Frag} {es : List Expr} {k : Nat} {t : TGs} {n : Nat} {pos : Pos} (e : X.K = K) (hc : X.calm = true) (h : PGs X es t) (hn : (assignEach es X.env).length = n := by rfl) (hst : (assignEach es X.env).findIdx? (·.1) = none := by rfl) :
    PG X (.Tuple es k pos) (gTup K n t) := by
  subst e
  exact pg_tup hc h hn hst
theorem butSame {p : Addr} {H H1 H2 : Hp} (s : Same H H1) (n : H p = none) (b : But p H1 H2) : Same H H2 := fun c o e => b c o (ne_of_none e n) (s c o e)
end Bk

namespace Bk
open PySem PySem.Spec PyProof.Rows L2
/-! ## 16. things whose text is short -/
mutual
def smallD : PyData → Bool
  | .none | .bool _ => true
  | .int i => decide (i.natAbs < 10 ^ 38)
  | .str x => x.cps.toList.all fun c => decide (c < 16 ^ 8)
  | .list xs | .tuple xs => smallL xs
  | .dict _ => false
def smallL : List PyData → Bool
  | [] => true
  | x :: xs => smallD x && smallL xs
end
mutual
theorem small_ok : ∀ d : PyData, smallD d = true → d.showable = true ∧ d.leavesShort 40 = true
  | .none, _ => ⟨rfl, rfl⟩
  | .bool _, _ => ⟨rfl, rfl⟩
  | .int i, h => by
    have h' : i.natAbs < 10 ^ 38 := by simpa only [smallD, decide_eq_true_eq] using h
    have l1 := int_text_length_le10 (k := 38) (by decide) h'
    refine ⟨?_, ?_⟩
    · simp only [PyData.showable, decide_eq_true_eq]
      by_cases z : i.natAbs = 0
      · rw [z]; decide
      · have z2 := (Nat.log2_lt z (k := 128)).mpr (Nat.lt_of_lt_of_le h' (by decide))
        omega
    · simp only [PyData.leavesShort]
      refine decide_eq_true ?_
      have e : (PyData.shown (.int i)).length = (toString i).length := by
        simp only [PyData.shown]
        exact PySem.ofString_length _
      omega
  | .str x, h => ⟨by simp only [PyData.showable], by simpa only [smallD, PyData.leavesShort] using h⟩
  | .list xs, h => by simpa only [PyData.showable, PyData.leavesShort] using small_okL xs (by simpa only [smallD] using h)
  | .tuple xs, h => by simpa only [PyData.showable, PyData.leavesShort] using small_okL xs (by simpa only [smallD] using h)
  | .dict _, h => by simp only [smallD] at h; exact nomatch h
theorem small_okL : ∀ xs : List PyData, smallL xs = true → PyData.showableAll xs = true ∧ PyData.leavesShortAll 40 xs = true
  | [], _ => ⟨rfl, rfl⟩
  | x :: xs, h => by
    have h' : smallD x = true ∧ smallL xs = true := by simpa only [smallL, Bool.and_eq_true] using h
    obtain ⟨a, b⟩ := small_ok x h'.1
    obtain ⟨c, d⟩ := small_okL xs h'.2
    exact ⟨by simp only [PyData.showableAll, a, c, Bool.and_true], by simp only [PyData.leavesShortAll, b, d, Bool.and_true]⟩
end
section
variable {K : PySem.W.Frag} {H H' : Hp} {v : V} {a : Addr} {xs : List V}
theorem shw_of {d : PyData} (h : Dp K H v d) (s : smallD d = true) (b : d.bulk ≤ 20000) (e : d.depth ≤ 60) : Shw K H v d.shown := by
  obtain ⟨h1, h2⟩ := small_ok d s
  have h3 := PyData.shown_le_bulk 40 (by decide) d h2
  exact .inl ⟨d, h, h1, by rw [sizeLine_eq]; omega, e, rfl⟩
theorem shw_dK (e : H a = some (.dK [])) : Shw K H (.ref a) "{}" := .inr ⟨a, rfl, e, rfl⟩
/-- a thing within a list -/
def Itm (K : PySem.W.Frag) (H : Hp) (v : V) : Prop := ∃ d, Dp K H v d ∧ smallD d = true ∧ d.bulk ≤ 100 ∧ d.depth ≤ 20
theorem itm_shw (h : Itm K H v) : ∃ z, Shw K H v z := let ⟨_, h1, h2, h3, h4⟩ := h; ⟨_, shw_of h1 h2 (by omega) (by omega)⟩
theorem itms : ∀ {xs : List V}, (∀ y ∈ xs, Itm K H y) → ∃ ds, DpAll K H xs ds ∧ smallL ds = true ∧ PyData.bulkAll ds ≤ 101 * xs.length ∧ PyData.depthAll ds ≤ 20
  | [], _ => ⟨[], .nil, rfl, Nat.le_refl _, Nat.zero_le _⟩
  | y :: ys, h => by
    obtain ⟨d, h1, h2, h3, h4⟩ := h y List.mem_cons_self
    obtain ⟨ds, g1, g2, g3, g4⟩ := itms fun z hz => h z (List.mem_cons_of_mem _ hz)
    refine ⟨d :: ds, .cons h1 g1, by simp only [smallL, h2, g2, Bool.and_true], ?_, ?_⟩
    · simp only [PyData.bulkAll, List.length_cons]
      omega
    · simp only [PyData.depthAll]
      omega
theorem shw_lst (h : SqL K H a xs) (i : ∀ y ∈ xs, Itm K H y) (l : xs.length ≤ 150) : ∃ z, Shw K H (.ref a) z := by
  obtain ⟨ds, g1, g2, g3, g4⟩ := itms i
  exact ⟨_, shw_of (.lst h g1) (by simpa only [smallD] using g2) (by simp only [PyData.bulk]; omega) (by simp only [PyData.depth]; omega)⟩
theorem shw_tup (h : SqT K H a xs) (i : ∀ y ∈ xs, Itm K H y) (l : xs.length ≤ 150) : ∃ z, Shw K H (.ref a) z := by
  obtain ⟨ds, g1, g2, g3, g4⟩ := itms i
  exact ⟨_, shw_of (.tup h g1) (by simpa only [smallD] using g2) (by simp only [PyData.bulk]; omega) (by simp only [PyData.depth]; omega)⟩
/-! scalars -/
def datS : V → PyData
  | .bl b => .bool b
  | .int i => .int i
  | .str z => .str z
  | _ => .none
def smS : V → Bool
  | .non | .bl _ => true
  | .int i => decide (i.natAbs < 10 ^ 38)
  | .str z => decide (z.length ≤ 90) && z.cps.toList.all fun c => decide (c < 16 ^ 8)
  | _ => false
theorem datS_ok (h : smS v = true) : Dp K H v (datS v) ∧ smallD (datS v) = true ∧ (datS v).bulk ≤ 100 ∧ (datS v).depth = 0 := by
  cases v with
  | non => exact ⟨.non, by simp only [datS, smallD], by simp [datS, PyData.bulk], by simp only [datS, PyData.depth]⟩
  | bl b => exact ⟨.bl b, by simp only [datS, smallD], by simp [datS, PyData.bulk], by simp only [datS, PyData.depth]⟩
  | int i => exact ⟨.int i, by simpa only [datS, smallD, smS] using h, by simp [datS, PyData.bulk], by simp only [datS, PyData.depth]⟩
  | str z =>
    have h' : z.length ≤ 90 ∧ (z.cps.toList.all fun c => decide (c < 16 ^ 8)) = true := by
      have z2 := Bool.and_eq_true_iff.mp (show (decide (z.length ≤ 90) && z.cps.toList.all fun c => decide (c < 16 ^ 8)) = true from h)
      exact ⟨of_decide_eq_true z2.1, z2.2⟩
    have hz : z.cps.size ≤ 90 := h'.1
    exact ⟨.str z, by simpa only [datS, smallD] using h'.2, by simp only [datS, PyData.bulk]; omega, by simp only [datS, PyData.depth]⟩
  | _ => exact nomatch h
theorem itm_sc (h : smS v = true) : Itm K H v := let ⟨h1, h2, h3, h4⟩ := datS_ok h; ⟨_, h1, h2, h3, by omega⟩
theorem shw_sc (h : smS v = true) : Shw K H v (datS v).shown := let ⟨h1, h2, h3, h4⟩ := datS_ok h; shw_of h1 h2 (by omega) (by omega)
theorem datSs : ∀ {xs : List V}, xs.all smS = true → DpAll K H xs (xs.map datS) ∧ smallL (xs.map datS) = true ∧ PyData.bulkAll (xs.map datS) ≤ 101 * xs.length ∧ PyData.depthAll (xs.map datS) = 0
  | [], _ => ⟨.nil, rfl, Nat.le_refl _, rfl⟩
  | y :: ys, h => by
    rw [List.all_cons, Bool.and_eq_true] at h
    obtain ⟨h1, h2, h3, h4⟩ := datS_ok (K := K) (H := H) h.1
    obtain ⟨g1, g2, g3, g4⟩ := datSs h.2
    rw [List.map_cons]
    refine ⟨.cons h1 g1, by simp only [smallL, h2, g2, Bool.and_true], ?_, ?_⟩
    · simp only [PyData.bulkAll, List.length_cons]
      omega
    · simp only [PyData.depthAll, h4, g4]
      rfl
theorem shw_lsc (h : SqL K H a xs) (i : xs.all smS = true) (l : xs.length ≤ 150) : Shw K H (.ref a) (PyData.list (xs.map datS)).shown := by
  obtain ⟨g1, g2, g3, g4⟩ := datSs (K := K) (H := H) i
  exact shw_of (.lst h g1) (by simpa only [smallD] using g2) (by simp only [PyData.bulk]; omega) (by simp only [PyData.depth]; omega)
theorem shw_tsc (h : SqT K H a xs) (i : xs.all smS = true) (l : xs.length ≤ 150) : Shw K H (.ref a) (PyData.tuple (xs.map datS)).shown := by
  obtain ⟨g1, g2, g3, g4⟩ := datSs (K := K) (H := H) i
  exact shw_of (.tup h g1) (by simpa only [smallD] using g2) (by simp only [PyData.bulk]; omega) (by simp only [PyData.depth]; omega)
end
theorem smS_int {i : Int} (h : i.natAbs < 10 ^ 38) : smS (.int i) = true := decide_eq_true h
theorem smS_bls {bs : List Bool} : (bs.map V.bl).all smS = true := by
  rw [List.all_map]
  exact List.all_eq_true.mpr fun _ _ => rfl
end Bk

namespace Bk
open PySem PySem.Spec PyProof.Rows L2
/-! ## 18. what k03 left for all -/
theorem seqT {K : PySem.W.Frag} {H H' : Hp} {a : Addr} {xs : List V} (s : Same H H') (h : SqT K H a xs) : SqT K H' a xs := by
  rcases h with (h | ⟨o, h⟩) | h
  · exact .inl (.inl (s _ _ h))
  · exact .inl (.inr ⟨o, s _ _ h⟩)
  · exact .inr h
theorem Refuse.on {C : Addr} {v : V} {H H' : Hp} {E : XK} (r : Refuse C v H E) (s : Same H H') : Refuse C v H' E := fun d H2 hd s2 e => r d H2 (s.free hd) (s.trans s2) e
section
variable {K : PySem.W.Frag} {H : Hp} {a : Addr} {T U : String} {b c : Bool}
theorem isb_lst {xs : List V} (e : H a = some (.lst xs)) (h : kitB "list" T = some b := by decide +kernel) (h2 : kitB "list" U = some c := by decide +kernel) : IsB K H (.ref a) T U (b || c) := ⟨.type "list", .base (.lst e), kit2 (kit_ty h) (kit_ty h2)⟩
theorem isb_tup {xs : List V} (e : H a = some (.tup xs)) (h : kitB "tuple" T = some b := by decide +kernel) (h2 : kitB "tuple" U = some c := by decide +kernel) : IsB K H (.ref a) T U (b || c) := ⟨.type "tuple", .base (.tup e), kit2 (kit_ty h) (kit_ty h2)⟩
theorem isb_dK {kvs : List (Key × V)} (e : H a = some (.dK kvs)) (h : kitB "dict" T = some b := by decide +kernel) (h2 : kitB "dict" U = some c := by decide +kernel) : IsB K H (.ref a) T U (b || c) := ⟨.type "dict", .base (.dK e), kit2 (kit_ty h) (kit_ty h2)⟩
theorem isb_int {i : Int} (h : kitB "int" T = some b := by decide +kernel) (h2 : kitB "int" U = some c := by decide +kernel) : IsB K H (.int i) T U (b || c) := ⟨.type "int", .base (.int i), kit2 (kit_ty h) (kit_ty h2)⟩
theorem isb_bl {k : Bool} (h : kitB "bool" T = some b := by decide +kernel) (h2 : kitB "bool" U = some c := by decide +kernel) : IsB K H (.bl k) T U (b || c) := ⟨.type "bool", .base (.bl k), kit2 (kit_ty h) (kit_ty h2)⟩
theorem isb_str {z : Str} (h : kitB "str" T = some b := by decide +kernel) (h2 : kitB "str" U = some c := by decide +kernel) : IsB K H (.str z) T U (b || c) := ⟨.type "str", .base (.str z), kit2 (kit_ty h) (kit_ty h2)⟩
theorem isb_non (h : kitB "NoneType" T = some b := by decide +kernel) (h2 : kitB "NoneType" U = some c := by decide +kernel) : IsB K H .non T U (b || c) := ⟨.type "NoneType", .base .non, kit2 (kit_ty h) (kit_ty h2)⟩
end
theorem r_yes {σ : L2.St} {H : Hp} {te : TE} {Q : VK} {R : Hp → Prop} (q : te σ H Q) : tYes σ H (fun b H4 => if b = true then te σ H4 Q else R H4) := by
  show if true = true then te σ H Q else R H
  exact iteT q
section
variable {K : PySem.W.Frag} {σ : L2.St} {H : Hp} {Q : VK} {i0 j j1 j2 : Nat} {vs : List Nat} {a : Addr} {xs : List V} {te : TE} {tt : TT}
/-- over a list or a tuple -/
theorem lcA (p : Nat → V) (hv : σ[i0]? = some (some (.ref a))) (hs : SqL K H a xs ∨ SqT K H a xs) (hl : xs.length ≤ 10000) (hw : ∀ x, wipe ((wipe σ vs).set j (some x)) vs = wipe σ vs)
    (ht : ∀ (i : Nat) (y : V) (H' : Hp) (Q' : VK), xs[i]? = some y → Same H H' → (∀ H2, Same H' H2 → Q' (p i) H2) → te ((wipe σ vs).set j (some y)) H' Q')
    (q : ∀ D H', H D = none → Same H H' → H' D = some (.lst ((List.range xs.length).map p)) → Q (.ref D) H') : tLc (iSeqA K (tVar i0)) (gName j) tYes te vs σ H Q := by
  have go : ∀ {J : It} {G : Hp → Prop}, Walk J xs.length G (YAt xs) → (∀ H', Same H H' → G H') → ∀ D, H D = none → _ := fun {J G} wk hG D hD =>
    lc_by (g := gName j) (tt := tYes) (te := te) (vs := vs) (σ := σ) (Q := Q) wk (fun i => some (p i)) hD hl hG (fun i y H1 H2 Q' R' hi sm ⟨e, hy⟩ h1 _ => ⟨hw _, by
      subst e
      exact r_yes (ht i y H2 Q' hy sm (h1 _ rfl))⟩) fun H' sm e => q D H' hD sm (by
      rw [e]
      show some (HO.lst (List.filterMap (some ∘ p) _)) = _
      rw [List.filterMap_eq_map])
  refine ⟨_, hv, a, xs, rfl, ?_⟩
  rcases hs with hs | hs
  · exact .inl ⟨hs, go walk_list fun H' sm => sm.seq hs⟩
  · exact .inr ⟨hs, go walk_tup fun H' sm => seqT sm hs⟩
/-- enumerate of a list or a tuple, some left out -/
theorem lcE (p : Nat → V → Option V) (hv : σ[i0]? = some (some (.ref a))) (hs : SqL K H a xs ∨ SqT K H a xs) (hl : xs.length ≤ 10000) (hw : ∀ x y, wipe (((wipe σ vs).set j1 (some x)).set j2 (some y)) vs = wipe σ vs)
    (ht : ∀ (i : Nat) (y : V) (H' : Hp) (Q' : VK) (R' : Hp → Prop), xs[i]? = some y → Same H H' → (∀ v, p i y = some v → ∀ H2, Same H' H2 → Q' v H2) → (p i y = none → ∀ H2, Same H' H2 → R' H2) →
      tt (((wipe σ vs).set j1 (some (.int i))).set j2 (some y)) H' fun b H4 => if b = true then te (((wipe σ vs).set j1 (some (.int i))).set j2 (some y)) H4 Q' else R' H4)
    (q : ∀ D H', H D = none → Same H H' → H' D = some (.lst ((List.range xs.length).filterMap fun i => xs[i]?.bind (p i))) → Q (.ref D) H') :
    tLc (iEnumA K (tCons (tVar i0) tNil)) (gTup K 2 (gCons (gName j1) (gCons (gName j2) gNil))) tt te vs σ H Q := by
  have go : ∀ {J : It} {G : Hp → Prop}, Walk J xs.length G (YPair (fun i => some (.int (i : Nat))) (fun i => xs[i]?)) → (∀ H', Same H H' → G H') → ∀ D, H D = none → _ := fun {J G} wk hG D hD =>
    lc_by (g := gTup K 2 (gCons (gName j1) (gCons (gName j2) gNil))) (tt := tt) (te := te) (vs := vs) (σ := σ) (Q := Q) wk (fun i => xs[i]?.bind (p i)) hD hl hG (fun i v H1 H2 Q' R' hi sm ⟨Tn, x, y, e1, nT, e2, hx, hy⟩ h1 h2 => by
      subst e1 e2
      injection hx with hx
      subst hx
      have sT := same_upd (o := .tup [.int (i : Nat), y]) nT
      have ey : xs[i]?.bind (p i) = p i y := by
        rw [show xs[i]? = some y from hy]
        rfl
      refine ⟨Tn, _, rfl, sqT upd_same, rfl, .int i, _, rfl, y, _, rfl, rfl, hw _ _, ?_⟩
      exact ht i y _ Q' R' hy (sm.trans sT) (fun v hv H3 s3 => h1 v (by rw [ey]; exact hv) H3 (sT.trans s3)) fun hn H3 s3 => h2 (by rw [ey]; exact hn) H3 (sT.trans s3)) fun H' sm e => q D H' hD sm e
  refine ⟨_, hv, a, xs, rfl, ?_⟩
  rcases hs with hs | hs
  · exact .inl ⟨hs, go walk_enum fun H' sm => sm.seq hs⟩
  · exact .inr ⟨hs, go walk_enumT fun H' sm => seqT sm hs⟩
end
theorem map_getD {α : Type} (f : V → α) (d : V) (xs : List V) : (List.range xs.length).map (fun i => f (xs.getD i d)) = xs.map f := by
  refine List.ext_getElem (by simp) fun i h1 h2 => ?_
  simp only [List.getElem_map, List.getElem_range]
  have h : i < xs.length := by simpa using h1
  rw [List.getD_eq_getElem?_getD, List.getElem?_eq_getElem h]
  rfl
/-! ## 17. comprehensions over a list, a tuple, a range -/
section
variable {K : PySem.W.Frag} {σ : L2.St} {H : Hp} {Q : VK} {i0 j : Nat} {vs : List Nat} {a : Addr} {xs : List V} {te : TE}
theorem lc_map {J : It} {n : Nat} {G : Hp → Prop} {Y : Nat → Hp → V → Hp → Prop} {D : Addr} (wk : Walk J n G Y) (hY : ∀ i H1 x H2, i < n → Y i H1 x H2 → H2 = H1) (p : Nat → V) (hl : n ≤ 10000) (hG : ∀ H', Same H H' → G H') (hw : ∀ x, wipe ((wipe σ vs).set j (some x)) vs = wipe σ vs)
    (ht : ∀ (i : Nat) (y : V) (H1 H' : Hp) (Q' : VK), i < n → Y i H1 y H' → Same H H' → (∀ H2, Same H' H2 → Q' (p i) H2) → te ((wipe σ vs).set j (some y)) H' Q')
    (q : ∀ D H', H D = none → Same H H' → H' D = some (.lst ((List.range n).map p)) → Q (.ref D) H') (hD : H D = none) : ∃ W : Nat → Nat → Hp → Prop, (∃ m, W 0 m (upd H D (.lst []))) ∧ ∀ i m H, W i m H →
      (J.stop i H ∧ Q (.ref D) H) ∨ (J.go i H ∧ ∃ Nx : Hp → Prop, (∀ H', Nx H' → ∃ m', m' < m ∧ W (i + 1) m' H') ∧ ∀ x H', J.yld i H x H' → gName j x (wipe σ vs) H' fun σ2 H2 => wipe σ2 vs = wipe σ vs ∧ tYes σ2 H2 fun b H3 =>
        if b = true then te σ2 H3 fun y H4 => ∃ acc, H4 D = some (.lst acc) ∧ acc.length < sizeLine ∧ Nx (upd H4 D (.lst (acc ++ [y]))) else Nx H3) :=
  lc_by (g := gName j) (tt := tYes) (te := te) (vs := vs) (σ := σ) (Q := Q) wk (fun i => some (p i)) hD hl hG (fun i y H1 H2 Q' R' hi sm e h1 _ => ⟨hw _, by
    obtain rfl := hY i _ _ _ hi e
    exact r_yes (ht i y H2 H2 Q' hi e sm (h1 _ rfl))⟩) fun H' sm e => q D H' hD sm (by
      rw [e]
      show some (HO.lst (List.filterMap (some ∘ p) _)) = _
      rw [List.filterMap_eq_map])
theorem lcT (p : Nat → V) (hv : σ[i0]? = some (some (.ref a))) (hs : SqT K H a xs) (hl : xs.length ≤ 10000) (hw : ∀ x, wipe ((wipe σ vs).set j (some x)) vs = wipe σ vs)
    (ht : ∀ (i : Nat) (y : V) (H' : Hp) (Q' : VK), xs[i]? = some y → Same H H' → (∀ H2, Same H' H2 → Q' (p i) H2) → te ((wipe σ vs).set j (some y)) H' Q')
    (q : ∀ D H', H D = none → Same H H' → H' D = some (.lst ((List.range xs.length).map p)) → Q (.ref D) H') : tLc (iTup K (tVar i0)) (gName j) tYes te vs σ H Q :=
  ⟨_, hv, a, rfl, ⟨xs, hs⟩, fun D hD => lc_map (j := j) walk_tup (fun _ _ _ _ _ z => z.1) p hl (fun H' sm => seqT sm hs) hw (fun i y H1 H' Q' _ e sm k => ht i y H' Q' e.2 sm k) q hD⟩
theorem lcL (p : Nat → V) (hv : σ[i0]? = some (some (.ref a))) (hs : SqL K H a xs) (hl : xs.length ≤ 10000) (hw : ∀ x, wipe ((wipe σ vs).set j (some x)) vs = wipe σ vs)
    (ht : ∀ (i : Nat) (y : V) (H' : Hp) (Q' : VK), xs[i]? = some y → Same H H' → (∀ H2, Same H' H2 → Q' (p i) H2) → te ((wipe σ vs).set j (some y)) H' Q')
    (q : ∀ D H', H D = none → Same H H' → H' D = some (.lst ((List.range xs.length).map p)) → Q (.ref D) H') : tLc (iList K (tVar i0)) (gName j) tYes te vs σ H Q :=
  ⟨_, hv, a, rfl, ⟨xs, hs⟩, fun D hD => lc_map (j := j) walk_list (fun _ _ _ _ _ z => z.1) p hl (fun H' sm => sm.seq hs) hw (fun i y H1 H' Q' _ e sm k => ht i y H' Q' e.2 sm k) q hD⟩
/-- what is drawn at each turn: the box changes -/
theorem lcDraw {n m : Nat} {bx : Addr} (p : V → Prop) (hb : Box bx m H) (hl : n ≤ 1000) (hw : ∀ x, wipe ((wipe σ vs).set j (some x)) vs = wipe σ vs)
    (ht : ∀ (i : Nat) (H' : Hp) (Q' : VK), i < n → Box bx (m + i) H' → (∀ v H2, p v → Box bx (m + i + 1) H2 → But bx H' H2 → Q' v H2) → te ((wipe σ vs).set j (some (.int i))) H' Q')
    (q : ∀ D H' xs, H D = none → But bx H H' → Box bx (m + n) H' → H' D = some (.lst xs) → xs.length = n → (∀ v ∈ xs, p v) → Q (.ref D) H') : tLc (iRng1 (tCons (tC (.int n)) tNil)) (gName j) tYes te vs σ H Q := by
  refine ⟨_, rfl, by omega, by omega, fun D hD => ?_⟩
  have nD : D ≠ bx := hb.ne hD
  rw [Int.toNat_natCast]
  refine lc_it (g := gName j) (tt := tYes) (te := te) (vs := vs) (σ := σ) (n := n) walk_range (fun i G => But bx H G ∧ Box bx (m + i) G ∧ ∃ xs, G D = some (.lst xs) ∧ xs.length = i ∧ ∀ v ∈ xs, p v)
    ⟨.of (same_upd hD), hb.same (same_upd hD), [], upd_same, rfl, fun _ z => nomatch z⟩ (fun _ _ _ _ => trivial) (fun i x H1 H2 hi ⟨bt, hB, xs, e, l, hp⟩ y => ?_) fun G ⟨bt, hB, xs, e, l, hp⟩ => q D G xs hD bt hB e l hp
  obtain ⟨rfl, rfl⟩ := y
  refine ⟨hw _, ?_⟩
  show te ((wipe σ vs).set j (some (.int (0 + (i : Int))))) _ _
  rw [Int.zero_add]
  refine ht i H2 _ hi hB fun v H3 pv hB3 b3 => ⟨xs, b3 _ _ nD e, by rw [l]; exact Nat.lt_of_lt_of_le hi (Nat.le_trans hl (by decide)), ?_, ?_, xs ++ [v], upd_same, by rw [List.length_append, l]; rfl, fun u hu => ?_⟩
  · exact fun b o ne e0 => by
      have z := b3 _ _ ne (bt _ _ ne e0)
      rw [upd_ne (ne_of_none e0 hD)]
      exact z
  · obtain ⟨x1, y1, z1, eB, r⟩ := hB3
    exact ⟨x1, y1, z1, by rw [upd_ne nD.symm]; exact eB, r⟩
  · rcases List.mem_append.mp hu with z | z
    · exact hp u z
    · rw [List.mem_singleton.mp z]; exact pv
end
/-- except C as e: return (tag, e.found) -/
theorem caught_at {K : PySem.W.Frag} {C d : Addr} {i : Nat} {σ : L2.St} {H' : Hp} {D : Ends} {l : List ClA} {v : V} {tag : Str} (e : PySem.W.exmOne K (.ref C) (.ref C) = some true) (hi : i < σ.length) (ed : H' d = some (.xd [("found", v)]))
    (q : ∀ p H2, H' p = none → Same H' H2 → H2 p = some (.tup [.str tag, v]) → D.rt (.ref p) H2) :
    wAM K D ((.ref C, i, fun a cls d => tRet (tTup (tCons (tC (.str tag)) (tCons (tXf a cls d C "found" (tVar i)) tNil)))) :: l) (.ref C) (some d) σ H' := by
  refine w_hit e fun a na => ?_
  show tRet (tTup (tCons (tC (.str tag)) (tCons (tXf a (.ref C) (some d) C "found" (tVar i)) tNil))) (offI i D) (σ.set i (some (.ref a))) H'
  refine r_ret (r_tup (r_cons (r_c (r_cons ?_))))
  refine ⟨.ref a, List.getElem?_set_self hi, rfl, rfl, d, _, v, rfl, ed, rfl, ?_⟩
  exact r_nil (newT fun p H2 np s2 e2 => q p H2 np s2 e2)
theorem fm_congr {α β : Type} {f g : α → Option β} : ∀ {l : List α}, (∀ x ∈ l, f x = g x) → l.filterMap f = l.filterMap g
  | [], _ => rfl
  | x :: l, h => by
    rw [List.filterMap_cons, List.filterMap_cons, h x List.mem_cons_self, fm_congr fun y hy => h y (List.mem_cons_of_mem _ hy)]
section
variable {K : PySem.W.Frag} {H : Hp} {x y : V} {Q : VK}
theorem r_neSame {d : PyData} (h1 : Dp K H x d) (h2 : Dp K H y d) (s : SeqAt.shaped d = true) (q : Q (.bl false) H) : rNeD K x y H Q :=
  ⟨d, d, h1, h2, s, s, by rw [SeqAt.eqv_refl d (SeqAt.canLay_of_shaped s)]; exact q⟩
end
theorem box_upd {bx a : Addr} {n : Nat} {H : Hp} {o : HO} (h : Box bx n H) (ne : a ≠ bx) : Box bx n (upd H a o) := by
  obtain ⟨x, y, z, e, r⟩ := h
  exact ⟨x, y, z, by rw [upd_ne ne.symm]; exact e, r⟩
theorem but_upd {bx a : Addr} {H0 H : Hp} {o : HO} (b : But bx H0 H) (fr : H0 a = none) : But bx H0 (upd H a o) := fun c u ne e => by
  rw [upd_ne (ne_of_none e fr)]
  exact b c u ne e
theorem cut_to {xs : List V} {m : Nat} (h : m ≤ xs.length) : cutV xs none (some (m : Int)) = xs.take m := by
  unfold cutV
  rw [HT.sIx_none, HT.sIx_nat, Nat.min_eq_left h, List.drop_zero, Nat.sub_zero]
theorem cut_from {xs : List V} {m : Nat} (h : m ≤ xs.length) : cutV xs (some (m : Int)) none = xs.drop m := by
  unfold cutV
  rw [HT.sIx_none, HT.sIx_nat, Nat.min_eq_left h]
  exact List.take_of_length_le (by rw [List.length_drop]; exact Nat.le_refl _)
section
variable {H : Hp} {Q : VK} {a b : Addr} {xs ys : List V} {lo hi : Option Int}
theorem r_slL {K : PySem.W.Frag} (h : SqL K H a xs) (e : cutV xs lo hi = ys) (q : ∀ p H', H p = none → Same H H' → H' p = some (.lst ys) → Q (.ref p) H') : rSlL K (.ref a) lo hi H Q :=
  ⟨a, xs, rfl, h, fun p n => q p _ n (same_upd n) (by rw [upd_same, e])⟩
theorem r_cat (h1 : H a = some (.lst xs)) (h2 : H b = some (.lst ys)) (q : ∀ p H', H p = none → Same H H' → H' p = some (.lst (xs ++ ys)) → Q (.ref p) H') (l : xs.length + ys.length ≤ 10000 := by omega) : rCat (.ref a) (.ref b) H Q :=
  ⟨a, b, xs, ys, rfl, rfl, h1, h2, Nat.le_trans l (by decide), fun p n => q p _ n (same_upd n) upd_same⟩
end
theorem shw_tup2 {K : PySem.W.Frag} {H : Hp} {a b : Addr} {xs : List V} (h : SqT K H a xs) (h2 : SqT K H b xs) (i : ∀ y ∈ xs, Itm K H y) (l : xs.length ≤ 150) : ∃ z, Shw K H (.ref a) z ∧ Shw K H (.ref b) z := by
  obtain ⟨ds, g1, g2, g3, g4⟩ := itms i
  exact ⟨_, shw_of (.tup h g1) (by simpa only [smallD] using g2) (by simp only [PyData.bulk]; omega) (by simp only [PyData.depth]; omega),
    shw_of (.tup h2 g1) (by simpa only [smallD] using g2) (by simp only [PyData.bulk]; omega) (by simp only [PyData.depth]; omega)⟩
theorem but_none {a c : Addr} {H G : Hp} (b : But a H G) (ne : c ≠ a) (h : G c = none) : H c = none := by
  cases e : H c with
  | none => rfl
  | some o => exact nomatch h.symm.trans (b _ _ ne e)
theorem r_par {i j : Nat} {ta : TA} {D : Ends} {σ : L2.St} {H : Hp} (q : ta σ H fun vs H1 => ∃ v w, vs = [v, w] ∧ D.nx ((σ.set i (some v)).set j (some w)) H1) : tPar i j ta D σ H := q
theorem small_int {i : Int} (h0 : -100000 ≤ i) (h1 : i ≤ 100000) : smS (.int i) = true := smS_int (Nat.lt_of_lt_of_le (show i.natAbs < 1000000 by omega) (by decide))
structure Exc (K : PySem.W.Frag) (C f : Addr) : Prop where
  ox : OexC K C
  i : PySem.W.findIn K (.ref C) "__init__" = some (some (.ref f))
  t : PySem.W.typeIn K (.ref f) = some (.type "function")
  nf : PySem.W.findIn K (.ref C) "found" = some none
  xf : XfC K C
def spGE (K : PySem.W.Frag) : Sp := fun vs H Q _ => ∃ (a C : Addr) (x : V), vs = [.ref a, x] ∧ OexC K C ∧ H a = some (exo a C none) ∧ Q .non H
def wholeV (x : V) (lo hi : Int) : Bool := match x with
  | .int i => decide (lo ≤ i) && decide (i ≤ hi)
  | _ => false
/-- a thing of which isinstance(.., int) is known -/
def WD (K : PySem.W.Frag) (H : Hp) (x : V) : Prop := (∃ i, x = .int i) ∨ (∃ b, x = .bl b) ∨ (IsA K H x "int" false ∧ ∀ l h, wholeV x l h = false)
def spWhole (K : PySem.W.Frag) : Sp := fun vs H Q _ => ∃ (x : V) (lo hi : Int), vs = [x, .int lo, .int hi] ∧ WD K H x ∧ Q (.bl (wholeV x lo hi)) H
def wd (x : V) : Bool := wholeV x 0 4095
def spIsWord (K : PySem.W.Frag) : Sp := fun vs H Q _ => ∃ x : V, vs = [x] ∧ WD K H x ∧ Q (.bl (wd x)) H
def spCheck (K : PySem.W.Frag) (CW : Addr) : Sp := fun vs H Q E => ∃ x : V, vs = [x] ∧ WD K H x ∧ ((wd x = true ∧ Q .non H) ∨ (wd x = false ∧ Refuse CW x H E))
theorem wd_int {i : Int} (h0 : 0 ≤ i) (h1 : i ≤ 4095) : wd (.int i) = true := by
  show (decide (0 ≤ i) && decide (i ≤ 4095)) = true
  rw [decide_eq_true h0, decide_eq_true h1]
  rfl
end Bk

namespace Bk
open PySem PySem.Spec PyProof.Rows L2
/-! ## 19. a text is no dict -/
theorem str_not_dict (x : Str) (t : Tok) (d : Addr) (o : Obj) (es : Array DictEntry) (ep : Nat) (hd : o.data = .dict es ep) (hc : o.cls = .type "dict") :
    Meets (Builtin.«str.__eq__» ⟨[.str x t, .ref d], []⟩) (fun _ R s => s.heap.get? d = some o ∧ R (.ok (.ret .notImplemented)) s) :=
  .of_wp fun prog w A R s h => by
    obtain ⟨hp, g, dr, tk, os⟩ := s
    obtain ⟨hl, h⟩ := h
    obtain ⟨c, dd, dt, sl⟩ := o
    subst hd hc
    wp_walk using wpAny_load hl
    exact ⟨_, rfl, h⟩
theorem dict_not_str (x : Str) (t : Tok) (d : Addr) (o : Obj) (es : Array DictEntry) (ep : Nat) (hd : o.data = .dict es ep) (hc : o.cls = .type "dict") :
    Meets (Builtin.«dict.__eq__» ⟨[.ref d, .str x t], []⟩) (fun _ R s => s.heap.get? d = some o ∧ R (.ok (.ret .notImplemented)) s) :=
  .of_wp fun prog w A R s h => by
    obtain ⟨hp, g, dr, tk, os⟩ := s
    obtain ⟨hl, h⟩ := h
    obtain ⟨c, dd, dt, sl⟩ := o
    subst hd hc
    have f1 := F.sub_str_dict
    wp_walk using wpAny_load hl
    exact ⟨_, rfl, h⟩
def rEqSD : R2 := fun x y H Q => ∃ (z : Str) (a : Addr) (kvs : List (Key × V)), x = .str z ∧ y = .ref a ∧ H a = some (.dK kvs) ∧ Q (.bl false) H
section
variable {X : Cx}
theorem op_eqSD (hu : X.A.units < cLine) : OpR X (compareOp .Eq) rEqSD := by
  intro pins s σ H x y v u Q I rx ry h
  obtain ⟨z, a, kvs, rfl, rfl, e, q⟩ := h
  obtain ⟨t, rfl⟩ := rx
  obtain rfl : u = Value.ref a := ry
  obtain ⟨_, _, vs, _, o, es, ep, ho, hx, hd, _⟩ := I.hok a _ e
  have hc : o.cls = .type "dict" := hx.1
  exact SeqAt.rc_eq_decline_or (k := false) (typeIs_str s z t) ⟨_, ho, hc⟩ (by decide) F.sub_dict_str F.slot_str_eq F.slot_dict_eq_refl
    (fun _ hq => call_meets F.slot_str_eq (typeIs_str s z t) F.entry_str_eq (F.args_str_eq_2 _ _) (str_not_dict z t a o es ep hd hc) ⟨ho, hq⟩)
    (fun _ hq => call_meets F.slot_dict_eq_refl ⟨_, ho, hc⟩ F.entry_dict_eq (F.args_dict_eq_2 _ _) (dict_not_str z t a o es ep hd hc) ⟨ho, hq⟩)
    (fun _ hq => wpAny_of_eq (rfl : isSame (.str z t) (.ref a) = pure false) hq) (.inr hu) ⟨.bl false, H, I, rfl, q⟩
/-- a text beside any thing -/
def rEqS (K : PySem.W.Frag) : R2 := fun x y H Q => (rEq x y H Q ∨ rEqD K x y H Q) ∨ rEqSD x y H Q
theorem op_eqS (hu : X.A.units + 64 < cLine) : OpR X (compareOp .Eq) (rEqS X.K) := OpR.or (OpR.or op_eq (op_eqD hu)) (op_eqSD (by omega))
end
/-! ## 20. refusing defs called with keywords beside values, or with defaults -/
structure CalMX (P : Program) (w : World) (K : PySem.W.Frag) (mg : Str → Option Value) (base : Heap) (k n : Nat) (ks : List Str) (x : Str) (sp : Sp) (gV : List V → List V → List V) : Prop where
  ex : ∃ (f : Addr) (fd : FuncData) (ps : List Str) (g : List Value → List Value → List Value), mg x = some (.ref f) ∧ PySem.W.keepIn K (.ref f) = true ∧ FnOk P w K mg base (L2.CX P w) k f fd ps sp ∧ KBn K fd ps n ks g gV
theorem CalMX.mk' {P : Program} {w : World} {K : PySem.W.Frag} {mg : Str → Option Value} {base : Heap} {k n : Nat} {ks : List Str} {x : Str} {sp : Sp} {gV : List V → List V → List V} {f : Addr} {fd : FuncData} {ps : List Str} {g : List Value → List Value → List Value} (a : mg x = some (.ref f)) (kp : PySem.W.keepIn K (.ref f) = true)
    (F : FnOk P w K mg base (L2.CX P w) k f fd ps sp) (b : KBn K fd ps n ks g gV) : CalMX P w K mg base k n ks x sp gV := ⟨f, fd, ps, g, a, kp, F, b⟩
structure CalXD (P : Program) (w : World) (K : PySem.W.Frag) (mg : Str → Option Value) (base : Heap) (k : Nat) (x : Str) (sp : Sp) (dvs : List V) : Prop where
  ex : ∃ (f : Addr) (fd : FuncData) (ps : List Str) (ds : List Value), mg x = some (.ref f) ∧ PySem.W.keepIn K (.ref f) = true ∧ FnOk P w K mg base (L2.CX P w) k f fd ps sp ∧ Binds K fd ps ds ∧ Vals dvs ds
def tCallNS (n m : Nat) (sp : Sp) (gV : List V → List V → List V) (E : L2.St → XK) (t tk : TA) : TE := fun σ H Q => t σ H fun vs H1 => tk σ H1 fun zs H2 => vs.length = n ∧ zs.length = m ∧ sp (gV vs zs) H2 Q (E σ)
section
variable {X : Cx} {k j n : Nat} {ks : List Str} {sp : Sp} {x : Str} {p pos : Pos} {e : Expr} {es : List Expr} {kws : List Keyword} {t tk : TA} {W : WX} {gV : List V → List V → List V} {dvs : List V}
theorem r_callNS {n m : Nat} {E : L2.St → XK} {σ : L2.St} {H : Hp} {Q : VK} (q : t σ H fun vs H1 => tk σ H1 fun zs H2 => vs.length = n ∧ zs.length = m ∧ sp (gV vs zs) H2 Q (E σ)) : tCallNS n m sp gV E t tk σ H Q := q
theorem pe_calMY (c : CalMX X.prog X.w X.K X.mg X.base k n ks x sp gV) (hr : Room j X.A) (hk : k ≤ j) (hg : Gl X x) (ha : PA X (e :: es) t) (hkw : PK X kws tk)
    (hall : (backToKw pos (keywordEach kws X.env)).all (·.1.isSome) = true := by rfl) (hks : (backToKw pos (keywordEach kws X.env)).filterMap (·.1) = ks := by rfl)
    (hdb : (x == ("__debug__" : Str)) = false := by decide) (he : starEach (e :: es) X.env = (false, eval e X.env) :: starEach es X.env := by rfl)
    (hpl : ((backTo pos (starEach (e :: es) X.env)).any (·.1) || (backToKw pos (keywordEach kws X.env)).any (·.1.isNone)) = false := by rfl) :
    PE X (.Call (.Name x p) (e :: es) kws pos) (tCallN n ks.length sp gV noE t tk) := by
  obtain ⟨f, fd, ps, g, h1, h2, h3, h4⟩ := c.ex
  exact pe_callN h3 (hr.mono hk) hg h1 h2 h4 pass_no ha hkw hall hks hdb he hpl
theorem pe_calYD (c : CalXD X.prog X.w X.K X.mg X.base k x sp dvs) (hr : Room j X.A) (hk : k ≤ j) (hg : Gl X x) (ha : PA X (e :: es) t)
    (hdb : (x == ("__debug__" : Str)) = false := by decide) (he : starEach (e :: es) X.env = (false, eval e X.env) :: starEach es X.env := by rfl) (hpl : (backTo pos (starEach es X.env)).any (·.1) = false := by rfl) :
    PE X (.Call (.Name x p) (e :: es) [] pos) (tCall sp dvs noE t) := by
  obtain ⟨f, fd, ps, ds, h1, h2, h3, h4, h5⟩ := c.ex
  exact pe_call h3 (hr.mono hk) hg h1 h2 h4 h5 pass_no ha hdb he hpl
/-- in a try -/
theorem pe_calMT (c : CalMX X.prog X.w X.K X.mg X.base k n ks x sp gV) (hr : Room j X.A) (hk : k ≤ j) (hg : Gl X x) (tkW : Takes X W) (ha : PA X (e :: es) t) (hkw : PK X kws tk)
    (hall : (backToKw pos (keywordEach kws X.env)).all (·.1.isSome) = true := by rfl) (hks : (backToKw pos (keywordEach kws X.env)).filterMap (·.1) = ks := by rfl)
    (hdb : (x == ("__debug__" : Str)) = false := by decide) (he : starEach (e :: es) X.env = (false, eval e X.env) :: starEach es X.env := by rfl)
    (hpl : ((backTo pos (starEach (e :: es) X.env)).any (·.1) || (backToKw pos (keywordEach kws X.env)).any (·.1.isNone)) = false := by rfl) :
    PE X (.Call (.Name x p) (e :: es) kws pos) (tCallNS n ks.length sp gV (WE W) t tk) := by
  obtain ⟨f, fd, ps, g, h1, h2, h3, h4⟩ := c.ex
  refine ⟨fun pins s σ H Q I h => ?_⟩
  refine wpAny_Call_Name_kw (ld_glob I hg h1 (PySem.W.callWith_KW (h₀ := X.base) I.ok.mod.kin h2 hall (thn (ha.run pos pins s σ H _ I h) fun us s1 ⟨vs, H1, I1, r, q⟩ => ?_) hpl he) hdb)
  refine thn (hkw.run pos pins s1 σ H1 _ I1 q) fun ws s2 ⟨zs, H2, I2, rz, l1, l2, q2⟩ => ⟨I2.kIn, ?_⟩
  rw [hks]
  refine wpAny_call (codeAny_mono (h3.run X.A X.stack s2 H2 ⟨us, ks.zip ws⟩ (g us ws) (gV vs zs) Q (WE W σ) (hr.mono hk) I2.env0 (h4.to s2 us ws I2.kIn (r.length.symm.trans l1) (rz.length.symm.trans l2)) (h4.rel r rz) q2) fun rr s3 z => ?_)
  match rr, z with
  | .error u, z => exact passAt tkW σ pins H2 s2 u s3 I2 z
  | .ok (.ret _), z => exact I2.after z
end
theorem ix_listK {X : Cx} {K : PySem.W.Frag} (h : X.K = K) : IxR X (rIxL K) := by
  subst h
  exact ix_list
theorem ix_tupK {X : Cx} {K : PySem.W.Frag} (h : X.K = K) : IxR X (rIxT K) := by
  subst h
  exact ix_tup
end Bk

namespace Bk
open PySem PySem.Spec PySem.Calls PyProof.Rows L2
/-! ## 20a. own exception classes under ValueError, LookupError or KeyError -/
/-- what a built-in __init__ of errors must be -/
structure IniF (B initId : String) : Prop where
  init : Slot B "__init__" initId
  entry : entryFor table initId = some Builtin.«BaseException.__init__»
  split : splitId initId = some (B, "__init__")
  kind : builtinKind initId = some .slot
  row : Manifest.signature? initId = some ⟨.positional, "*", B, .self, [⟨"args", .varPos, false⟩]⟩
  noStar : (B != "*") = true
theorem inf_of {B newId initId : String} (F : ExcCallFacts B newId initId) : IniF B initId := ⟨F.init, F.initEntry, F.initSplit, F.initKind, F.initRow, F.noStar⟩
theorem inf_KE : IniF "KeyError" "KeyError.__init__" where
  init := .of (owner := "KeyError") (n := "__init__") (by rw [typeLookup_type, builtinLookup_eq_fast]; kernel_rfl) (by decide +kernel) (by decide +kernel) (by decide +kernel)
    (by first | exact .inl (by decide +kernel) | exact .inr (by decide +kernel)) (by rw [isSubtype_type]; kernel_rfl)
  entry := entryFor_alias (id' := "BaseException.__init__") (by rw [fastTable_eq_tree]; kernel_rfl) (by first | rfl | decide +kernel) (by decide +kernel) (by rw [fastTable_eq_tree]; kernel_rfl)
  split := by kernel_rfl
  kind := by kernel_rfl
  row := by kernel_rfl
  noStar := by decide +kernel
section
variable {M : Model} {prog : Program} {w : World} {A : Around} {E : Value → Shared → Prop} {R : Result → Shared → Prop} {h : Heap} {g : Array GenState} {d : Drawn} {t : Nat} {os : OsState}
variable {nm q : Str} {C N : Addr} {bs bm bmB : List Value} {hdct : Bool} {sn : List Str} {sub : List Value} {ab : Bool} {col : Option Bool} {dd : Option Addr} {k0 k1 k2 k3 k5 : Option Value} {B newId i0 IB initId : String} {rest : List Value}
theorem checkNewW (F : ExcBaseFacts B newId i0 bmB) (hB : bm.contains (.type B) = true) {Q : Unit → Shared → Prop} (hC : h.get? C = some (excClassObj nm q C N bs bm hdct sn sub ab col dd k0 k1 k2 k3 k5 newId)) (hq : Q () ⟨h, g, d, t, os⟩) :
    wpAny M A (checkBuiltinCall newId ⟨.ref C :: rest, []⟩) Q E ⟨h, g, d, t, os⟩ := by
  have cB : (Value.ref C :: bm).contains (.type B) = true := by rw [List.contains_cons, hB, Bool.or_true]
  have star := F.noStar
  simp only [checkBuiltinCall, F.newKind, F.newSplit, F.newRow]
  repeat (first | refine wpAny_loadPart_at hC ?_ | (refine wpAny_isSubtype_exc hC ?_; rw [cB]) | refine wpAny_staticBase_exc hC ?_ | refine wpAny_madeBy_exc hC ?_ | simp only [bne_self_eq_false, Bool.false_eq_true, if_false] | wp_step)
  exact hq
theorem checkInitW (F : IniF IB initId) (hI : bm.contains (.type IB) = true) {e : Addr} {oe : Obj} {Q : Unit → Shared → Prop} (hC : h.get? C = some (excClassObj nm q C N bs bm hdct sn sub ab col dd k0 k1 k2 k3 k5 newId)) (he : h.get? e = some oe) (hcls : oe.cls = .ref C) (hq : Q () ⟨h, g, d, t, os⟩) :
    wpAny M A (checkBuiltinCall initId ⟨.ref e :: rest, []⟩) Q E ⟨h, g, d, t, os⟩ := by
  have cI : (Value.ref C :: bm).contains (.type IB) = true := by rw [List.contains_cons, hI, Bool.or_true]
  have star := F.noStar
  simp only [checkBuiltinCall, F.kind, F.split, F.row]
  repeat (first | (with_reducible refine wpAny_loadPart_at he ?_; rw [hcls]) | with_reducible refine wpAny_loadPart_at hC ?_ | (with_reducible refine wpAny_isSubtype_exc hC ?_; rw [cI]) | wp_step)
  refine wpAny_onRaise ?_
  rw [show ∀ (a b : String) (n : Nat), Bind.check ⟨.positional, "*", IB, .self, [⟨"args", .varPos, false⟩]⟩ a b n (List.map (fun x => x.fst) ({ pos := Value.ref e :: rest } : Args).kw) = pure () from fun a b n => check_star_args _ _ _ _ _ _]
  exact wpAny_pure hq
theorem newW (F : ExcBaseFacts B newId i0 bmB) (hB : bm.contains (.type B) = true) (hA : bm.contains (.type "AttributeError") = false) (hN : bm.contains (.type "NameError") = false) (hC : h.get? C = some (excClassObj nm q C N bs bm hdct sn sub ab col dd k0 k1 k2 k3 k5 newId)) (hrest : rest.length ≤ sizeLine)
    (hq : R (.ok (.ret (.ref (h.objs.size + 1)))) ⟨(h.push (PySem.W.kdv_tup rest)).push (PySem.HandSPX.excO C h.objs.size), g, d, t, os⟩) : codeAny (model prog w) A (.builtin newId ⟨.ref C :: rest, []⟩) R ⟨h, g, d, t, os⟩ := by
  have hends := F.ends
  have cB : (Value.ref C :: bm).contains (.type B) = true := by rw [List.contains_cons, hB, Bool.or_true]
  have cA : (Value.ref C :: bm).contains (.type "AttributeError") = false := by rw [List.contains_cons, hA]; rfl
  have cN : (Value.ref C :: bm).contains (.type "NameError") = false := by rw [List.contains_cons, hN]; rfl
  refine codeAny_builtinAt F.entry ?_
  unfold Builtin.«BaseException.__new__»
  refine PySem.wpAt_bind ?_
  show PySem.wpAt _ _ _ (stack >>= _) _ _ _
  refine PySem.wpAt_bind (PySem.wpAt_stack fun p below => PySem.wpAt_of_wpAny ?_)
  wp_walk
  refine PySem.wpAt_of_wpAny ?_
  rw [F.owner]
  repeat (first | with_reducible refine wpAny_madeHere_exc F.canon hC ?_ | with_reducible refine wpAny_loadPart_at hC ?_ | (with_reducible refine wpAny_isSubtype_exc hC ?_; first | rw [cB] | rw [cA] | rw [cN]) | wp_step)
  show R _ _
  rw [Heap.size_push]
  exact hq
theorem typeCallW (F : ExcBaseFacts B newId i0 bmB) (hB : bm.contains (.type B) = true) (hA : bm.contains (.type "AttributeError") = false) (hN : bm.contains (.type "NameError") = false) {fI : Addr} {Q : Fin → Shared → Prop} (hC : h.get? C = some (excClassObj nm q C N bs bm hdct sn sub ab col dd k0 k1 k2 k3 k5 newId))
    (hi : PySem.W.Looks (model prog w) h (typeLookup (.ref C) "__init__") (some (.ref fI))) (hb : ∀ self, PySem.W.Looks (model prog w) h (bindSpecial (.ref fI) self) (.ref fI, [self])) (hrest : rest.length ≤ sizeLine) {kw : List (Str × Value)} {Af : Around}
    (hq : codeAny (model prog w) A (.call (.ref fI) ⟨.ref (h.objs.size + 1) :: rest, []⟩) (fun r s' => match r with | .ok (.ret v) => v = .none ∧ Q (.done (.ret (.ref (h.objs.size + 1)))) s' | .ok _ => False | .error e => E e s') ⟨(h.push (PySem.W.kdv_tup rest)).push (PySem.HandSPX.excO C h.objs.size), g, d, t, os⟩) :
    wpAny (model prog w) A (Builtin.«type.__call__» ⟨.ref C :: rest, []⟩) Q E ⟨h, g, d, t, os⟩ := by
  repeat (first | with_reducible refine wpAny_loadPart_at hC ?_ | with_reducible refine wpAny_madeBy_exc hC ?_ | wp_step)
  refine codeAny_call_builtin_code (Code.quiet_builtin _ F.quiet) (checkNewW F hB hC ?_)
  refine newW F hB hA hN hC hrest ?_
  show wpAny _ _ _ _ _ _
  have k : ∀ c o, h.get? c = some o → ((h.push (PySem.W.kdv_tup rest)).push (PySem.HandSPX.excO C h.objs.size)).get? c = some o := fun c o e => Heap.get?_push_of_some _ (Heap.get?_push_of_some _ e)
  have hC1 := k _ _ hC
  have hget : ((h.push (PySem.W.kdv_tup rest)).push (PySem.HandSPX.excO C h.objs.size)).get? (h.objs.size + 1) = some (PySem.HandSPX.excO C h.objs.size) := by heap_get
  have cC : (Value.ref C :: bm).contains (.ref C) = true := by simp
  have i1 := hi.keeps k
  have b1 := (hb (.ref (h.objs.size + 1))).keeps k
  unfold isInstance
  repeat (first | with_reducible refine wpAny_loadPart_at hget ?_ | (with_reducible refine wpAny_isSubtype_exc hC1 ?_; rw [cC]) | wp_step)
  show wpAny _ _ (typeLookup (.ref C) _) _ _ _
  refine i1.at (wpAny_holding (wpAny_bind (b1.at (wpAny_bind (wpAny_call (codeAny_mono hq fun r s' z => ?_))))))
  rcases r with e | (v | _ | _ | _) <;> first | exact z | exact z.elim | skip
  obtain ⟨rfl, z⟩ := z
  first
    | exact wpAny_pure (wpAny_pure z)
    | (wp_walk; exact z)
theorem callW (F : ExcBaseFacts B newId i0 bmB) (hB : bm.contains (.type B) = true) (hA : bm.contains (.type "AttributeError") = false) (hN : bm.contains (.type "NameError") = false) {fI : Addr} (hC : h.get? C = some (excClassObj nm q C N bs bm hdct sn sub ab col dd k0 k1 k2 k3 k5 newId))
    (hi : PySem.W.Looks (model prog w) h (typeLookup (.ref C) "__init__") (some (.ref fI))) (hb : ∀ self, PySem.W.Looks (model prog w) h (bindSpecial (.ref fI) self) (.ref fI, [self])) (hrest : rest.length ≤ sizeLine)
    (hq : codeAny (model prog w) (A.under (.builtin "type.__call__" ⟨.ref C :: rest, []⟩)) (.call (.ref fI) ⟨.ref (h.objs.size + 1) :: rest, []⟩) (PySem.W.InitBack (h.objs.size + 1) R) ⟨(h.push (PySem.W.kdv_tup rest)).push (PySem.HandSPX.excO C h.objs.size), g, d, t, os⟩) :
    codeAny (model prog w) A (.call (.ref C) ⟨rest, []⟩) R ⟨h, g, d, t, os⟩ := by
  have f1 := PySem.tc_lookup
  have f2 := PySem.tc_bind (.ref C)
  have hTy : (⟨h, g, d, t, os⟩ : Shared).TypeIs (.ref C) "type" := ⟨_, hC, rfl⟩
  refine codeAny_of_tree ?_
  show wpAny _ _ (callAny (.ref C) _) _ _ _
  repeat (any_goals (first | assumption | with_reducible refine wpAny_loadPart_at hC ?_ | wp_step))
  refine ⟨rfl, codeAny_call_builtin_at (Code.quiet_builtin _ (by decide +kernel)) entry_typeCall (wpAny_check_type_call_sub hC (typeCallW F hB hA hN hC hi hb hrest (kw := []) (Af := A) ?_))⟩
  refine codeAny_mono hq fun r s' z => ?_
  rcases r with e | (v | _ | _ | _) <;> exact z
theorem initW (F : IniF IB initId) (hI : bm.contains (.type IB) = true) {e t0 : Addr} (hC : h.get? C = some (excClassObj nm q C N bs bm hdct sn sub ab col dd k0 k1 k2 k3 k5 newId)) (he : h.get? e = some (PySem.HandSPX.excO C t0)) (hrest : rest.length ≤ sizeLine)
    (hq : ∀ h' t1, (∀ c o, c ≠ e → h.get? c = some o → h'.get? c = some o) → h'.get? e = some (PySem.HandSPX.excO C t1) → R (.ok (.ret .none)) ⟨h', g, d, t, os⟩) : codeAny (model prog w) A (.call (.builtin initId) ⟨.ref e :: rest, []⟩) R ⟨h, g, d, t, os⟩ := by
  refine codeAny_call_builtin F.init.plain F.entry (checkInitW F hI hC he rfl ?_)
  wp_walk
  refine hq _ h.objs.size (fun c o hc ho => ?_) ?_
  · rw [Heap.get?_update_other _ _ (Ne.symm hc)]
    exact Heap.get?_push_of_some _ ho
  · rw [Heap.get?_update_self _ (Heap.get?_push_of_some _ he) rfl]
    rfl
end
inductive Bs where
  | ve
  | le
  | ke
def Bs.nm : Bs → String
  | .ve => "ValueError"
  | .le => "LookupError"
  | .ke => "KeyError"
/-- whose __new__ it is -/
def Bs.nb : Bs → String
  | .ve => "ValueError"
  | _ => "LookupError"
def Bs.new : Bs → String
  | .ve => "ValueError.__new__"
  | _ => "LookupError.__new__"
def Bs.init : Bs → String
  | .ve => "ValueError.__init__"
  | .le => "LookupError.__init__"
  | .ke => "KeyError.__init__"
def Bs.tl : Bs → List Value
  | .ve => [.type "ValueError", .type "Exception", .type "BaseException", .type "object"]
  | .le => [.type "LookupError", .type "Exception", .type "BaseException", .type "object"]
  | .ke => [.type "KeyError", .type "LookupError", .type "Exception", .type "BaseException", .type "object"]
theorem Bs.f : ∀ b : Bs, ∃ i0 bmB, ExcBaseFacts b.nb b.new i0 bmB
  | .ve => ⟨_, _, F.excBase_ValueError⟩
  | .le => ⟨_, _, F.excBase_LookupError⟩
  | .ke => ⟨_, _, F.excBase_LookupError⟩
theorem Bs.i : ∀ b : Bs, IniF b.nm b.init
  | .ve => inf_of F.excBase_ValueError.toExcCallFacts
  | .le => inf_of F.excBase_LookupError.toExcCallFacts
  | .ke => inf_KE
theorem pass_KE (self : Value) : refuseLoop self "__setattr__" [.type "KeyError", .type "LookupError", .type "Exception", .type "BaseException", .type "object"] = pure () := by kernel_rfl
theorem Bs.pass : ∀ (b : Bs) (self : Value), refuseLoop self "__setattr__" b.tl = pure ()
  | .ve, self => F.store_ValueError.passes self
  | .le, self => F.store_LookupError.passes self
  | .ke, self => pass_KE self
theorem Bs.obj (b : Bs) : b.tl.contains (.type "object") = true := by cases b <;> decide +kernel
theorem Bs.hB (b : Bs) : b.tl.contains (.type b.nb) = true := by cases b <;> decide +kernel
theorem Bs.hI (b : Bs) : b.tl.contains (.type b.nm) = true := by cases b <;> decide +kernel
theorem Bs.hA (b : Bs) : b.tl.contains (.type "AttributeError") = false := by cases b <;> decide +kernel
theorem Bs.hN (b : Bs) : b.tl.contains (.type "NameError") = false := by cases b <;> decide +kernel
/-- own classes, then the built-in one's line -/
inductive Tail (b : Bs) : List Value → Prop
  | here : Tail b b.tl
  | own (C : Addr) {l : List Value} : Tail b l → Tail b (.ref C :: l)
section
variable {b : Bs} {l : List Value}
theorem Tail.pass (h : Tail b l) (self : Value) : refuseLoop self "__setattr__" l = pure () := by
  induction h with
  | here => exact b.pass self
  | own C _ ih => rw [refuseLoop_ref]; exact ih
theorem Tail.has (h : Tail b l) (X : String) : l.contains (.type X) = b.tl.contains (.type X) := by
  induction h with
  | here => rfl
  | own C _ ih => rw [List.contains_cons, ih]; rfl
theorem Tail.ne (h : Tail b l) : l.isEmpty = false := by
  cases h with
  | here => cases b <;> rfl
  | own C _ => rfl
end
section
open Builtin Builtin.ObjectAttr
variable {prog : Program} {w : World} {A : Around} {E : Value → Shared → Prop} {R : Result → Shared → Prop} {hp : Heap} {g : Array GenState} {d : Drawn} {t : Nat} {os : OsState}
/-- the first field of an exception -/
theorem osaT {K : PySem.W.Frag} {b : Bs} {name : Str} {tk : Tok} {v : Value} {x C : Addr} {fv : Array Value} {cd : ClassData} (X : K.In hp) (hx : hp.get? x = some { cls := .ref C, data := .fields fv }) (hcd : PySem.W.clsIn K C = some cd) (hm : Tail b cd.mro) (hh : cd.hasDict = true) (ha : PySem.W.findIn K (.ref C) name = some none)
    (hq : ∀ h' tk' dx, (∀ c o, c ≠ x → hp.get? c = some o → h'.get? c = some o) → hp.objs.size ≤ dx → dx ≠ x → h'.get? x = some { cls := .ref C, dict := some dx, data := .fields fv } → h'.Ns1 dx (fun y => if y = name then some v else none) → R (.ok (.ret .none)) ⟨h', g, d, tk', os⟩) :
    codeAny (model prog w) A (.call (.builtin "object.__setattr__") ⟨[.ref x, .str name tk, v], []⟩) R ⟨hp, g, d, t, os⟩ := by
  have I : PySem.W.InstAt hp x { cls := .ref C, data := .fields fv } C none := ⟨hx, rfl, rfl, trivial⟩
  have SF := F.store_object
  have hob : cd.mro.contains (.type "object") = true := (hm.has "object").trans b.obj
  have hxs : x ≠ hp.objs.size := Nat.ne_of_lt (Heap.lt_size hx)
  have isO : PySem.W.Looks (model prog w) hp (isInstance (.ref x) (.type "object")) true :=
    I.type.andThen (PySem.W.looks_mroIn X (by unfold PySem.W.mroIn; rw [hcd, Option.bind_some, if_neg (by rw [hm.ne]; decide), hob]))
  have lineL : PySem.W.Looks (model prog w) hp (mroOf (.ref C)) cd.mro := (PySem.W.looks_clsIn X hcd).andThen .now
  have noTaker : PySem.W.Looks (model prog w) hp (storeTaker? none) none := .now
  have clsL : PySem.W.Looks (model prog w) hp (classData C) cd := PySem.W.looks_clsIn X hcd
  refine codeAny_call_builtin SF.slot.plain SF.entry (@PySem.W.check_slot (model prog w) _ _ ⟨hp, g, d, t, os⟩ "object.__setattr__" "object" "__setattr__" (.ref x) [.str name tk, v] [] _ SF.kind SF.split isO (SF.args (.ref x) (.str name tk) v) ?_)
  rw [PySem.W.osa_eq, refuse_eq]
  refine wpAny_bind (wpAny_bind (I.type.at (wpAny_bind (lineL.at ?_))))
  rw [hm.pass]
  refine wpAny_pure (wpAny_bind (I.type.at (wpAny_bind ((PySem.W.looks_findIn X ha).at (wpAny_bind (noTaker.at ?_))))))
  show wpAny _ _ (storeInOwnDict (.ref x) (.ref C) (.str name tk) name v false) _ _ _
  obtain ⟨nm, bs, mro, ns, qn, hd, sn, sb, ab, col, del⟩ := cd
  dsimp only at hh
  subst hh
  unfold storeInOwnDict ownDictForStores
  repeat (first | with_reducible refine PySem.HandSPX.store_in_new ?_ ?_ | with_reducible refine wpAny_loadPart_at hx ?_ | with_reducible refine clsL.at ?_ | wp_step)
  · exact ⟨_, #[], _, (Heap.get?_update_ne _ _ _ _ hxs.symm).trans (Heap.get?_push_at rfl rfl), rfl, fun e he => absurd he (by simp), fun _ => rfl⟩
  · intro h' tk' hn' hs
    have hx1 : (hp.push { cls := .type "dict", data := .dict #[] }).get? x = some { cls := .ref C, data := .fields fv } := Heap.get?_push_of_some _ hx
    refine hq h' tk' hp.objs.size (fun c o hc ho => ?_) (Nat.le_refl _) hxs.symm ?_ hn'
    · have z1 := hs.2 c (Nat.ne_of_lt (Heap.lt_size ho))
      exact z1.trans ((Heap.get?_update_ne _ _ _ _ hc).trans (Heap.get?_push_of_some _ ho))
    · exact (hs.2 x hxs).trans (Heap.get?_update_self _ hx1 rfl)
end
/-- what the written part says of the class -/
structure OexT (K : PySem.W.Frag) (b : Bs) (C : Addr) : Prop where
  cls : ∃ nm q N bs bm sn sub ab col dd k0 k1 k2 k3 k5, K.lookup C = some (excClassObj nm q C N bs bm true sn sub ab col dd k0 k1 k2 k3 k5 b.new) ∧ Tail b bm
  sa : PySem.W.findIn K (.ref C) "__setattr__" = some (some (.builtin "object.__setattr__"))
  exC : PySem.W.subIn K (.ref C) (.type "BaseException") = some true
  tyC : PySem.W.typeIn K (.ref C) = some (.type "type")
  kC : PySem.W.keepIn K (.ref C) = true
section
variable {X : Cx} {pins : List (Addr × Obj)} {σ : L2.St} {H : Hp} {s : Shared} {a C dx : Addr} {f : Str} {y : V} {u : Value} {b : Bs} {Q : Unit → Shared → Prop} {E : Value → Shared → Prop} {A : Around}
theorem ost_newT (T : OexT X.K b C) (I : Inv X pins σ H s) (e : H a = some (exo a C none)) (hno : PySem.W.findIn X.K (.ref C) f = some none) (ry : RelV y u)
    (h : ∀ dx s', H dx = none → dx ≠ a → Inv X pins σ (upd (upd H dx (exd dx [(f, y)])) a (exo a C (some dx))) s' → Q () s') : wpAny (model X.prog X.w) A (setAttr (.ref a) f u) Q E s := by
  obtain ⟨nm, q, N, bs, bm, sn, sub, ab, col, dd, k0, k1, k2, k3, k5, hC, hbm⟩ := T.cls
  obtain ⟨t1, ho⟩ := exo_at I.hok e
  obtain ⟨hp, g, d, t, os⟩ := s
  have hcl : PySem.W.clsIn X.K C = some { name := nm, bases := bs, mro := .ref C :: bm, ns := N, qualname := q, hasDict := true, slotNames := sn, subclasses := sub, abstract := ab, collection := col, hasDel := false } := by
    unfold PySem.W.clsIn
    rw [hC] <;> rfl
  refine PySem.W.set_plain I.kIn (ox := { cls := .ref C, dict := none, data := .fields #[.ref t1, .none, .none, .none, .bool false, .none] }) (od := none) ⟨ho, rfl, rfl, trivial⟩ T.sa ?_
  refine osaT I.kIn ho hcl (.own C hbm) rfl hno fun h' tk' dx k dn dne hx hn => ?_
  have hnd : H dx = none := I.hok.fresh dn
  have nd : ∀ {c : Addr} {o : Obj}, hp.get? c = some o → c ≠ dx := fun {c o} z => Nat.ne_of_lt (Nat.lt_of_lt_of_le (Heap.lt_size z) dn)
  have na : ∀ {c : Addr}, H c = none → c ≠ a := fun {c} n z => by
    rw [z, e] at n
    exact nomatch n
  have un : Un X.fs [] H (upd (upd H dx (exd dx [(f, y)])) a (exo a C (some dx))) hp h' := by
    refine ⟨fun c o z n _ _ => k c o (na n) z, fun c o z n _ _ => ⟨o.slots, k c o (na n) z⟩, fun c o z n _ => by rw [upd_ne (na n), upd_ne (nd z)]; exact n, fun c o z _ => ?_, fun c xs z => ?_, fun c o v z => ?_, fun c ps z => ⟨#[], ?_⟩⟩
    · by_cases hc : c = a
      · exact ⟨_, by rw [hc]; exact hx⟩
      · exact ⟨o, k c o hc z⟩
    · rw [upd_ne (at_ne e z exo_tup), upd_ne (ne_of_none z hnd)]; exact z
    · rw [upd_ne (at_ne e z exo_frz), upd_ne (ne_of_none z hnd)]; exact z
    · rw [upd_ne (at_ne e z exo_tbl), upd_ne (ne_of_none z hnd), z]; simp
  refine h dx _ hnd dne (I.un (t' := tk') un fun c o z => ?_)
  by_cases hc : c = a
  · subst hc
    rw [upd_same] at z
    obtain rfl := Option.some.inj z
    exact exo_ok hx
  · rw [upd_ne hc] at z
    by_cases hd : c = dx
    · subst hd
      rw [upd_same] at z
      obtain rfl := Option.some.inj z
      exact exd_ok hn (relO_put (fs := []) ry fun _ => True.intro)
    · rw [upd_ne hd] at z
      refine (I.hok c o z).stay (fun c2 v hc2 z2 => k c2 v ?_ z2) (fun c2 z2 => ?_) fun c2 xs z2 => ?_
      · rcases hc2 with q2 | q2
        · rw [q2]; exact hc
        · exact at_ne e q2 exo_own
      · rw [upd_ne (at_ne e z2 exo_own), upd_ne (ne_of_none z2 hnd)]; exact z2
      · rw [upd_ne (at_ne e z2 exo_tup), upd_ne (ne_of_none z2 hnd)]; exact z2
/-- the built-in class's __init__: nothing of it is told -/
theorem oinitT {us : List Value} {Q : Value → Shared → Prop} (T : OexT X.K b C) (I : Inv X pins σ H s) (e : H a = some (exo a C none)) (hl : us.length ≤ sizeLine) (h : ∀ s', Inv X pins σ H s' → Q .none s') : wpAny (model X.prog X.w) A (call (.builtin b.init) (.ref a :: us)) Q E s := by
  obtain ⟨nm, q, N, bs, bm, sn, sub, ab, col, dd, k0, k1, k2, k3, k5, hC, hbm⟩ := T.cls
  obtain ⟨t1, ho⟩ := exo_at I.hok e
  obtain ⟨hp, g, d, t, os⟩ := s
  refine wpAny_call (initW b.i ((hbm.has _).trans b.hI) (I.kIn _ _ hC) ho hl fun h' t2 k hx => ?_)
  have J := I.write (t' := t) (x := a) (e := a) (o := exo a C none) (by rw [e]; exact True.intro) (.inl rfl) k ⟨_, hx⟩ (exo_ok hx)
  have eu : upd H a (exo a C none) = H := funext fun c => by
    by_cases hc : c = a
    · rw [hc, upd_same, e]
    · rw [upd_ne hc]
  exact h _ (eu ▸ J)
end
def tBaI (K : PySem.W.Frag) (b : Bs) (ta : TA) : TE := fun σ H Q => ta σ H fun vs H1 => ∃ (a C : Addr) (ws : List V), vs = .ref a :: ws ∧ ws.length ≤ 1000 ∧ OexT K b C ∧ H1 a = some (exo a C none) ∧ Q .non H1
/-- self.f = e, the first one -/
def tOsN (K : PySem.W.Frag) (f : Str) (to te : TE) : TS := fun D σ H => te σ H fun y H1 => to σ H1 fun x H2 => ∃ (b : Bs) (a C : Addr), x = .ref a ∧ OexT K b C ∧ PySem.W.findIn K (.ref C) f = some none ∧
  H2 a = some (exo a C none) ∧ ∀ dx, H2 dx = none → dx ≠ a → D.nx σ (upd (upd H2 dx (exd dx [(f, y)])) a (exo a C (some dx)))
section
variable {X : Cx} {o e : Expr} {es : List Expr} {to te : TE} {ta : TA} {f : Str} {p p' p1 p2 pos : Pos}
theorem typ_LE : typeOf (.type "LookupError") = pure (.type "type") := by kernel_rfl
theorem pe_veI {pl : Sem Bool} (hg : Gl X "ValueError") (hm : X.mg "ValueError" = none) (vV : PySem.W.findCls X.K (.type "ValueError") (.type "type") "__init__" = some (.val (.builtin "ValueError.__init__"))) (ha : PA X (e :: es) ta)
    (hc : eval (.Call (.Attribute (.Name "ValueError" p1) "__init__" p2) (e :: es) [] pos) X.env = (do
      let ov ← eval (.Name "ValueError" p1) X.env
      standAt p2.atName
      let (f, first) ← holding [ov] (getMethod ov "__init__" pl)
      callWith pos f first (backTo pos (starEach (e :: es) X.env)) (backToKw pos (keywordEach [] X.env))) := by rfl)
    (he : starEach (e :: es) X.env = (false, eval e X.env) :: starEach es X.env := by rfl) (hpl : (backTo pos (starEach es X.env)).any (·.1) = false := by rfl) :
    PE X (.Call (.Attribute (.Name "ValueError" p1) "__init__" p2) (e :: es) [] pos) (tBaI X.K .ve ta) := by
  refine ⟨fun pins s σ H Q I h => PySem.W.methodCall_KW (ld_blt I hg hm PyProof.Rows.Boot.«ValueError» ?_ (by decide) (by decide)) hc⟩
  obtain ⟨m, fr⟩ := I.fr
  refine PySem.W.method_type fr I.ok.mod.kin PySem.OEX.typ_VE (by decide +kernel) vV (by decide +kernel) ?_
  refine PyProof.Rows.callWith_method1 (thn (ha.run pos pins _ σ H _ (I.tok _) h) fun us s1 ⟨vs, H1, I1, r1, a, C, ws, ev, hl, T, ea, q⟩ => ?_) he hpl
  subst ev
  cases r1 with
  | @cons _ u0 _ ur ra rw' =>
    obtain rfl : u0 = Value.ref a := ra
    exact oinitT T I1 ea (by rw [← Paired.length rw', sizeLine_eq]; omega) fun s' J => ⟨.non, H1, J, rfl, q⟩
theorem pe_leI {pl : Sem Bool} (hg : Gl X "LookupError") (hm : X.mg "LookupError" = none) (vV : PySem.W.findCls X.K (.type "LookupError") (.type "type") "__init__" = some (.val (.builtin "LookupError.__init__"))) (ha : PA X (e :: es) ta)
    (hc : eval (.Call (.Attribute (.Name "LookupError" p1) "__init__" p2) (e :: es) [] pos) X.env = (do
      let ov ← eval (.Name "LookupError" p1) X.env
      standAt p2.atName
      let (f, first) ← holding [ov] (getMethod ov "__init__" pl)
      callWith pos f first (backTo pos (starEach (e :: es) X.env)) (backToKw pos (keywordEach [] X.env))) := by rfl)
    (he : starEach (e :: es) X.env = (false, eval e X.env) :: starEach es X.env := by rfl) (hpl : (backTo pos (starEach es X.env)).any (·.1) = false := by rfl) :
    PE X (.Call (.Attribute (.Name "LookupError" p1) "__init__" p2) (e :: es) [] pos) (tBaI X.K .le ta) := by
  refine ⟨fun pins s σ H Q I h => PySem.W.methodCall_KW (ld_blt I hg hm PyProof.Rows.Boot.«LookupError» ?_ (by decide) (by decide)) hc⟩
  obtain ⟨m, fr⟩ := I.fr
  refine PySem.W.method_type fr I.ok.mod.kin typ_LE (by decide +kernel) vV (by decide +kernel) ?_
  refine PyProof.Rows.callWith_method1 (thn (ha.run pos pins _ σ H _ (I.tok _) h) fun us s1 ⟨vs, H1, I1, r1, a, C, ws, ev, hl, T, ea, q⟩ => ?_) he hpl
  subst ev
  cases r1 with
  | @cons _ u0 _ ur ra rw' =>
    obtain rfl : u0 = Value.ref a := ra
    exact oinitT T I1 ea (by rw [← Paired.length rw', sizeLine_eq]; omega) fun s' J => ⟨.non, H1, J, rfl, q⟩
theorem typ_KE : typeOf (.type "KeyError") = pure (.type "type") := by kernel_rfl
theorem pe_keI {pl : Sem Bool} (hg : Gl X "KeyError") (hm : X.mg "KeyError" = none) (vV : PySem.W.findCls X.K (.type "KeyError") (.type "type") "__init__" = some (.val (.builtin "KeyError.__init__"))) (ha : PA X (e :: es) ta)
    (hc : eval (.Call (.Attribute (.Name "KeyError" p1) "__init__" p2) (e :: es) [] pos) X.env = (do
      let ov ← eval (.Name "KeyError" p1) X.env
      standAt p2.atName
      let (f, first) ← holding [ov] (getMethod ov "__init__" pl)
      callWith pos f first (backTo pos (starEach (e :: es) X.env)) (backToKw pos (keywordEach [] X.env))) := by rfl)
    (he : starEach (e :: es) X.env = (false, eval e X.env) :: starEach es X.env := by rfl) (hpl : (backTo pos (starEach es X.env)).any (·.1) = false := by rfl) :
    PE X (.Call (.Attribute (.Name "KeyError" p1) "__init__" p2) (e :: es) [] pos) (tBaI X.K .ke ta) := by
  refine ⟨fun pins s σ H Q I h => PySem.W.methodCall_KW (ld_blt I hg hm PyProof.Rows.Boot.«KeyError» ?_ (by decide) (by decide)) hc⟩
  obtain ⟨m, fr⟩ := I.fr
  refine PySem.W.method_type fr I.ok.mod.kin typ_KE (by decide +kernel) vV (by decide +kernel) ?_
  refine PyProof.Rows.callWith_method1 (thn (ha.run pos pins _ σ H _ (I.tok _) h) fun us s1 ⟨vs, H1, I1, r1, a, C, ws, ev, hl, T, ea, q⟩ => ?_) he hpl
  subst ev
  cases r1 with
  | @cons _ u0 _ ur ra rw' =>
    obtain rfl : u0 = Value.ref a := ra
    exact oinitT T I1 ea (by rw [← Paired.length rw', sizeLine_eq]; omega) fun s' J => ⟨.non, H1, J, rfl, q⟩
theorem ps_osN (ho : PE X o to) (he : PE X e te) (hs : swapsWith e (some (.Attribute o f p')) pos.line X.env = pure false := by rfl) : PS X (.Assign [.Attribute o f p'] e pos) (tOsN X.K f to te) := by
  refine ⟨fun pins s σ H D I h => plainObj_wpAny_Assign_Attribute (thn (he.run pins s σ H _ I h) fun v s1 ⟨y, H1, I1, r1, q1⟩ => thn (ho.run pins s1 σ H1 _ I1 q1) fun u s2 ⟨x, H2, I2, r2, b, a, C, ex, T, hno, ea, q⟩ => ?_) hs⟩
  subst ex
  obtain rfl : u = Value.ref a := r2
  exact ost_newT T I2 ea hno r1 fun dx s' n ne J => ⟨σ, _, J, q dx n ne⟩
/-- C(e, ..) that is raised -/
theorem pmk_oexT {b : Bs} {CX : CXT} {x : Str} {C fI : Addr} {k : Nat} {fd : FuncData} {ps : List Str} {sp : Sp} {ds : List Value} {dvs : List V} (T : OexT X.K b C) (iC : PySem.W.findIn X.K (.ref C) "__init__" = some (some (.ref fI))) (tI : PySem.W.typeIn X.K (.ref fI) = some (.type "function"))
    (F1 : FnOk X.prog X.w X.K X.mg X.base CX k fI fd ps sp) (hr : Room (k + 1) X.A) (hb : Binds X.K fd ps ds) (hd : Vals dvs ds) (hx : Passes CX X (fun _ _ _ => False)) (hg : Gl X x) (hm : X.mg x = some (.ref C)) (ha : PA X (e :: es) ta)
    (hdb : (x == ("__debug__" : Str)) = false := by decide) (he : starEach (e :: es) X.env = (false, eval e X.env) :: starEach es X.env := by rfl) (hpl : (backTo pos (starEach es X.env)).any (·.1) = false := by rfl) :
    PMk X (.Call (.Name x p) (e :: es) [] pos) (tMkO C sp dvs ta) := by
  intro pins s σ H Q I h
  obtain ⟨nm, q, N, bs, bm, sn, sub, ab, col, dd, k0, k1, k2, k3, k5, hC, hbm⟩ := T.cls
  refine wpAny_Call_Name_kw (ld_glob I hg hm ?_ hdb)
  refine PySem.W.callWith_K (h₀ := X.base) I.ok.mod.kin T.kC (thn (ha.run pos pins s σ H _ I h) fun us s1 ⟨vs, H1, I1, r1, hz, q1⟩ => ⟨I1.kIn, ?_⟩) he hpl
  show wpAny _ _ (call (.ref C) us) _ _ _
  obtain ⟨hp, g, dr, tk, os⟩ := s1
  have hsz : hp.objs.size ≤ hp.objs.size + 1 := Nat.le_succ _
  have hq := q1 (hp.objs.size + 1) (I1.hok.fresh hsz)
  have hget : ((hp.push (PySem.W.kdv_tup us)).push (PySem.HandSPX.excO C hp.objs.size)).get? (hp.objs.size + 1) = some (PySem.HandSPX.excO C hp.objs.size) := by heap_get
  have kk : ∀ c o, hp.get? c = some o → ((hp.push (PySem.W.kdv_tup us)).push (PySem.HandSPX.excO C hp.objs.size)).get? c = some o := fun c o z => Heap.get?_push_of_some _ (Heap.get?_push_of_some _ z)
  have I2 : Inv X pins σ (upd H1 (hp.objs.size + 1) (exo (hp.objs.size + 1) C none)) ⟨(hp.push (PySem.W.kdv_tup us)).push (PySem.HandSPX.excO C hp.objs.size), g, dr, tk, os⟩ :=
    I1.laid (t' := tk) (a := hp.objs.size + 1) (o := exo (hp.objs.size + 1) C none) (h' := (hp.push (PySem.W.kdv_tup us)).push (PySem.HandSPX.excO C hp.objs.size)) kk hsz (exo_ok hget)
  have r2 : Vals (V.ref (hp.objs.size + 1) :: (vs ++ dvs)) (Value.ref (hp.objs.size + 1) :: (us ++ ds)) := .cons rfl (r1.append hd)
  have hl : (Value.ref (hp.objs.size + 1) :: us ++ ds).length = ps.length := r2.length.symm.trans (F1.len _ _ _ _ hq)
  have hus : us.length ≤ sizeLine := by rw [← Paired.length r1, sizeLine_eq]; omega
  obtain ⟨i0, bmB, bf⟩ := b.f
  refine wpAny_call (callW bf ((hbm.has _).trans b.hB) ((hbm.has _).trans b.hA) ((hbm.has _).trans b.hN) (I1.kIn _ _ hC) (PySem.W.looks_findIn I1.kIn iC) (fun self => PySem.W.bind_fn I1.kIn self tI) hus
    (codeAny_mono (F1.run _ X.stack _ _ ⟨Value.ref (hp.objs.size + 1) :: us, []⟩ (Value.ref (hp.objs.size + 1) :: (us ++ ds)) _ _ (fun _ _ _ => False) (hr.make C us []) (I2.env0.make C us []) (hb _ (Value.ref (hp.objs.size + 1) :: us) I2.kIn hl) r2 hq) fun r s' hq' => ?_))
  match r, hq' with
  | .error er, hq' => exact hx pins σ _ _ er s' I2 hq'
  | .ok (.ret u), hq' =>
    obtain ⟨v, H2, os2, bare2, un2, hok2, rv, ev, d, fs, ea, ed, hd1, q2⟩ := hq'
    subst ev
    obtain ⟨h2, g2, d2, t2, os'⟩ := s'
    exact ⟨rv, mk_end (raises_own T.exC T.tyC) I1 hsz kk un2 hok2 os2 bare2 ea ed hd1 q2⟩
end
/-- Base.__init__(self, text) of an own family -/
def spGT (K : PySem.W.Frag) (b : Bs) : Sp := fun vs H Q _ => ∃ (a C : Addr) (x : V), vs = [.ref a, x] ∧ OexT K b C ∧ H a = some (exo a C none) ∧ Q .non H
end Bk

namespace Bk
open PySem PySem.Spec PyProof.Rows L2
/-! ## 21. methods of own classes: what is raised is wished for at the caller's slots -/
structure CalM (P : Program) (w : World) (K : PySem.W.Frag) (mg : Str → Option Value) (base : Heap) (CX : CXT) (k : Nat) (C : Addr) (m : Str) (sp : Sp) : Prop where
  ex : ∃ (f : Addr) (fd : FuncData) (ps : List Str), Meth K C m f ∧ FnOk P w K mg base CX k f fd ps sp ∧ Binds K fd ps []
structure CalMK (P : Program) (w : World) (K : PySem.W.Frag) (mg : Str → Option Value) (base : Heap) (CX : CXT) (k n : Nat) (ks : List Str) (C : Addr) (m : Str) (sp : Sp) (gV : List V → List V → List V) : Prop where
  ex : ∃ (f : Addr) (fd : FuncData) (ps : List Str) (g : List Value → List Value → List Value), Meth K C m f ∧ FnOk P w K mg base CX k f fd ps sp ∧ KBn K fd ps (n + 1) ks g gV
/-- C(..) of a class whose objects are plain -/
structure CalC (P : Program) (w : World) (K : PySem.W.Frag) (mg : Str → Option Value) (base : Heap) (CX : CXT) (k : Nat) (C : Addr) (x : Str) (sp : Sp) : Prop where
  ex : ∃ (f : Addr) (fd : FuncData) (ps : List Str), Mk K C f ∧ FnOk P w K mg base CX k f fd ps sp ∧ Binds K fd ps [] ∧ mg x = some (.ref C)
def tMeS (C : Addr) (m : Str) (sp : Sp) (E : L2.St → XK) (ta : TE) (t : TA) : TE := fun σ H Q => ta σ H fun x H1 => ∃ a dx fs, x = .ref a ∧ H1 a = some (.ins C dx fs) ∧ fs.lookup m = none ∧ t σ H1 fun vs H2 => sp (x :: vs) H2 Q (E σ)
def tMeK (C : Addr) (m : Str) (j : Nat) (sp : Sp) (gV : List V → List V → List V) (E : L2.St → XK) (ta : TE) (tk : TA) : TE := fun σ H Q => ta σ H fun x H1 => ∃ a dx fs, x = .ref a ∧ H1 a = some (.ins C dx fs) ∧ fs.lookup m = none ∧ tk σ H1 fun zs H2 => zs.length = j ∧ sp (gV [x] zs) H2 Q (E σ)
def tMkS (C : Addr) (sp : Sp) (E : L2.St → XK) (t : TA) : TE := fun σ H Q => t σ H fun vs H1 => ∀ x dx, H1 x = none → H1 dx = none → dx ≠ x →
  sp (.ref x :: vs) (upd (upd H1 dx (.own x)) x (.ins C dx [])) (fun v H2 => v = .non ∧ Q (.ref x) H2) (E σ)
section
variable {X : Cx} {CX : CXT} {k j n : Nat} {ks : List Str} {f C : Addr} {fd : FuncData} {ps : List Str} {sp : Sp} {E : L2.St → XK} {x m : Str} {p pos apos : Pos} {e o : Expr} {es : List Expr} {kws : List Keyword} {ta : TE} {t tk : TA} {W : WX} {gV : List V → List V → List V} {g : List Value → List Value → List Value}
theorem ps0 : ∀ σ, PassesAt CX0 X σ ((fun _ => E0) σ) := fun _ _ _ _ _ _ _ h => h.elim
theorem psY : ∀ σ, PassesAt (L2.CX X.prog X.w) X σ ((fun _ => noE) σ) := fun σ pins H s e s' I h => pass_no (X := X) pins σ H s e s' I h
theorem psX {E : XK} (tk : Takes X (fun cls d _ H => E cls d H)) : ∀ σ, PassesAt (L2.CX X.prog X.w) X σ ((fun _ => E) σ) := fun σ pins H s e s' I h => passes_call tk (fun _ _ _ _ z => z) pins σ H s e s' I h
theorem psT (tk : Takes X W) : ∀ σ, PassesAt (L2.CX X.prog X.w) X σ (WE W σ) := passAt tk
/-- o.m(e, ..) -/
theorem pe_mth {pl : Sem Bool} (he : PE X o ta) (cl : Cls X.K C) (c : CalM X.prog X.w X.K X.mg X.base CX k C m sp) (hr : Room j X.A) (hk : k ≤ j) (hx : ∀ σ, PassesAt CX X σ (E σ)) (ha : PA X (e :: es) t)
    (hst : starEach (e :: es) X.env = (false, eval e X.env) :: starEach es X.env := by rfl) (hpl : (backTo pos (starEach es X.env)).any (·.1) = false := by rfl)
    (ht : eval (.Call (.Attribute o m apos) (e :: es) [] pos) X.env = (do
      let ov ← eval o X.env
      standAt apos.atName
      let (f, first) ← holding [ov] (getMethod ov m pl)
      callWith pos f first (backTo pos (starEach (e :: es) X.env)) (backToKw pos (keywordEach [] X.env))) := by rfl) :
    PE X (.Call (.Attribute o m apos) (e :: es) [] pos) (tMeS C m sp E ta t) := by
  obtain ⟨f, fd, ps, hm, F, hb⟩ := c.ex
  refine ⟨fun pins s σ H Q I h => ?_⟩
  refine PySem.W.methodCall_KW (pl := pl) (thn (he.run pins s σ H _ I h) fun u s1 ⟨x, H1, I1, rx, a, dx, fs, ex, ea, l, q⟩ => ?_) ht
  subst ex
  obtain rfl : u = Value.ref a := rx
  refine getmeth_ok I1 ea cl hm l ?_
  refine PySem.W.callWith_K (first := [.ref a]) (h₀ := X.base) I.ok.mod.kin hm.kp (thn (ha.run pos pins s1 σ H1 _ I1 q) fun us s2 ⟨vs, H2, I2, r, q2⟩ => ⟨I2.kIn, ?_⟩) hst hpl
  exact run_fnS (us := .ref a :: us) (vs := .ref a :: vs) F (hr.mono hk) hb (hx σ) I2 (.cons rfl r) q2
/-- o.m() -/
theorem pe_mth0 {pl : Sem Bool} (he : PE X o ta) (cl : Cls X.K C) (c : CalM X.prog X.w X.K X.mg X.base CX k C m sp) (hr : Room j X.A) (hk : k ≤ j) (hx : ∀ σ, PassesAt CX X σ (E σ))
    (ht : eval (.Call (.Attribute o m apos) [] [] pos) X.env = (do
      let ov ← eval o X.env
      standAt apos.atName
      let (f, first) ← holding [ov] (getMethod ov m pl)
      callWith pos f first (backTo pos (starEach [] X.env)) (backToKw pos (keywordEach [] X.env))) := by rfl) :
    PE X (.Call (.Attribute o m apos) [] [] pos) (tMeS C m sp E ta tNil) := by
  obtain ⟨f, fd, ps, hm, F, hb⟩ := c.ex
  refine ⟨fun pins s σ H Q I h => ?_⟩
  refine PySem.W.methodCall_KW (pl := pl) (thn (he.run pins s σ H _ I h) fun u s1 ⟨x, H1, I1, rx, a, dx, fs, ex, ea, l, q⟩ => ?_) ht
  subst ex
  obtain rfl : u = Value.ref a := rx
  refine getmeth_ok I1 ea cl hm l ?_
  exact PySem.W.callWith_K0 (first := [.ref a]) I1.kIn hm.kp (run_fnS (us := [.ref a]) (vs := [.ref a]) F (hr.mono hk) hb (hx σ) I1 (.cons rfl .nil) q)
theorem run_fnNS {pins : List (Addr × Obj)} {σ : L2.St} {H : Hp} {s : Shared} {Q : VK} {us ws : List Value} {vs zs : List V} (F : FnOk X.prog X.w X.K X.mg X.base CX k f fd ps sp) (hr : Room k X.A) (hb : KBn X.K fd ps n ks g gV) (hx : PassesAt CX X σ (E σ))
    (I : Inv X pins σ H s) (r : Vals vs us) (rz : Vals zs ws) (l1 : vs.length = n) (l2 : zs.length = ks.length) (h : sp (gV vs zs) H Q (E σ)) : wpAny (model X.prog X.w) X.A (call (.ref f) us (ks.zip ws)) (EP X pins σ Q) X.xe s := by
  refine wpAny_call (codeAny_mono (F.run X.A X.stack s H ⟨us, ks.zip ws⟩ (g us ws) (gV vs zs) Q (E σ) hr I.env0 (hb.to s us ws I.kIn (r.length.symm.trans l1) (rz.length.symm.trans l2)) (hb.rel r rz) h) fun rr s3 z => ?_)
  match rr, z with
  | .error u, z => exact hx pins H s u s3 I z
  | .ok (.ret _), z => exact I.after z
/-- o.m(k = e, ..) -/
theorem pe_mthK {pl : Sem Bool} (he : PE X o ta) (cl : Cls X.K C) (c : CalMK X.prog X.w X.K X.mg X.base CX k 0 ks C m sp gV) (hr : Room j X.A) (hk : k ≤ j) (hx : ∀ σ, PassesAt CX X σ (E σ)) (hkw : PK X kws tk)
    (hall : (backToKw pos (keywordEach kws X.env)).all (·.1.isSome) = true := by rfl) (hks : (backToKw pos (keywordEach kws X.env)).filterMap (·.1) = ks := by rfl)
    (hpl : ((backTo pos (starEach [] X.env)).any (·.1) || (backToKw pos (keywordEach kws X.env)).any (·.1.isNone)) = false := by rfl)
    (ht : eval (.Call (.Attribute o m apos) [] kws pos) X.env = (do
      let ov ← eval o X.env
      standAt apos.atName
      let (f, first) ← holding [ov] (getMethod ov m pl)
      callWith pos f first (backTo pos (starEach [] X.env)) (backToKw pos (keywordEach kws X.env))) := by rfl) :
    PE X (.Call (.Attribute o m apos) [] kws pos) (tMeK C m ks.length sp gV E ta tk) := by
  obtain ⟨f, fd, ps, g, hm, F, hb⟩ := c.ex
  refine ⟨fun pins s σ H Q I h => ?_⟩
  refine PySem.W.methodCall_KW (pl := pl) (thn (he.run pins s σ H _ I h) fun u s1 ⟨x, H1, I1, rx, a, dx, fs, ex, ea, l, q⟩ => ?_) ht
  subst ex
  obtain rfl : u = Value.ref a := rx
  refine getmeth_ok I1 ea cl hm l ?_
  refine PySem.W.callWith_KW0 (first := [.ref a]) (h₀ := X.base) I.ok.mod.kin hm.kp hall ?_ hpl
  refine thn (hkw.run pos pins s1 σ H1 _ I1 q) fun ws s2 ⟨zs, H2, I2, rz, l2, q2⟩ => ⟨I2.kIn, ?_⟩
  rw [hks]
  exact run_fnNS (us := [.ref a]) (vs := [.ref a]) F (hr.mono hk) hb (hx σ) I2 (.cons rfl .nil) rz rfl l2 q2
theorem run_mkS {pins : List (Addr × Obj)} {σ : L2.St} {H : Hp} {s : Shared} {Q : VK} {us : List Value} {vs : List V} (M : Mk X.K C f) (F : FnOk X.prog X.w X.K X.mg X.base CX k f fd ps sp) (hr : Room (k + 1) X.A) (hb : Binds X.K fd ps [])
    (hx : PassesAt CX X σ (E σ)) (I : Inv X pins σ H s) (r : Vals vs us)
    (h : ∀ x dx, H x = none → H dx = none → dx ≠ x → sp (.ref x :: vs) (upd (upd H dx (.own x)) x (.ins C dx [])) (fun v H2 => v = .non ∧ Q (.ref x) H2) (E σ)) :
    wpAny (model X.prog X.w) X.A (call (.ref C) us) (EP X pins σ Q) X.xe s := by
  have hq := h (s.heap.objs.size + 1) s.heap.objs.size (I.hok.fresh (Nat.le_succ _)) (I.hok.fresh (Nat.le_refl _)) (Nat.ne_of_lt (Nat.lt_succ_self _))
  have I2 := Inv.made (C := C) I
  have r2 : Vals (V.ref (s.heap.objs.size + 1) :: vs) (Value.ref (s.heap.objs.size + 1) :: us) := .cons rfl r
  have hl : (Value.ref (s.heap.objs.size + 1) :: us).length = ps.length := by
    have e := r2.length
    rw [F.len _ _ _ _ hq] at e
    exact e.symm
  have bb := hb { s with heap := _ } (Value.ref (s.heap.objs.size + 1) :: us) I2.kIn (by rw [List.append_nil]; exact hl)
  rw [List.append_nil] at bb
  refine wpAny_call (make_map (f := f) I.kIn M.makes M.init (beq_iff_eq.mp M.fn) (codeAny_mono (F.run _ X.stack _ _ ⟨Value.ref (s.heap.objs.size + 1) :: us, []⟩ (Value.ref (s.heap.objs.size + 1) :: us) _ _ (E σ) (hr.make C us [])
    (I2.env0.make C us []) bb r2 hq) fun r s' hq' => ?_))
  cases r with
  | error e => exact hx pins _ _ e s' I2 hq'
  | ok fl =>
    cases fl with
    | ret u =>
      obtain ⟨v, H', I3, rv, ev, q3⟩ := I2.after hq'
      subst ev
      exact ⟨rv, ⟨V.ref (s.heap.objs.size + 1), H', I3, rfl, q3⟩⟩
    | next => exact False.elim hq'
    | brk => exact False.elim hq'
    | cont => exact False.elim hq'
theorem pe_mk (c : CalC X.prog X.w X.K X.mg X.base CX k C x sp) (hr : Room j X.A) (hk : k + 1 ≤ j) (hg : Gl X x) (hx : ∀ σ, PassesAt CX X σ (E σ)) (ha : PA X (e :: es) t)
    (hdb : (x == ("__debug__" : Str)) = false := by decide) (he : starEach (e :: es) X.env = (false, eval e X.env) :: starEach es X.env := by rfl) (hpl : (backTo pos (starEach es X.env)).any (·.1) = false := by rfl) :
    PE X (.Call (.Name x p) (e :: es) [] pos) (tMkS C sp E t) := by
  obtain ⟨f, fd, ps, M, F, hb, hm⟩ := c.ex
  refine ⟨fun pins s σ H Q I h => ?_⟩
  refine wpAny_Call_Name_kw (ld_glob I hg hm ?_ hdb)
  refine PySem.W.callWith_K (h₀ := X.base) I.ok.mod.kin M.kp (thn (ha.run pos pins s σ H _ I h) fun us s1 ⟨vs, H1, I1, r, q⟩ => ⟨I1.kIn, ?_⟩) he hpl
  exact run_mkS M F (hr.mono hk) hb (hx σ) I1 r q
theorem pe_mk0 (c : CalC X.prog X.w X.K X.mg X.base CX k C x sp) (hr : Room j X.A) (hk : k + 1 ≤ j) (hg : Gl X x) (hx : ∀ σ, PassesAt CX X σ (E σ))
    (hdb : (x == ("__debug__" : Str)) = false := by decide) : PE X (.Call (.Name x p) [] [] pos) (tMkS C sp E tNil) := by
  obtain ⟨f, fd, ps, M, F, hb, hm⟩ := c.ex
  refine ⟨fun pins s σ H Q I h => ?_⟩
  refine wpAny_Call_Name_kw (ld_glob I hg hm ?_ hdb)
  exact PySem.W.callWith_K0 I.kIn M.kp (run_mkS (us := []) (vs := []) M F (hr.mono hk) hb (hx σ) I .nil h)
/-- repr and the like in a guarded def -/
theorem run_fnGS {pins : List (Addr × Obj)} {σ : L2.St} {H : Hp} : True := trivial
end
section
variable {σ : L2.St} {H : Hp} {Q : VK} {C a dx : Addr} {m : Str} {sp : Sp} {E : L2.St → XK} {ta : TE} {t tk : TA} {fs : List (Str × V)}
theorem r_mth (q : ta σ H fun x H1 => ∃ a dx fs, x = .ref a ∧ H1 a = some (.ins C dx fs) ∧ fs.lookup m = none ∧ t σ H1 fun vs H2 => sp (x :: vs) H2 Q (E σ)) : tMeS C m sp E ta t σ H Q := q
theorem r_mthK {j : Nat} {gV : List V → List V → List V} (q : ta σ H fun x H1 => ∃ a dx fs, x = .ref a ∧ H1 a = some (.ins C dx fs) ∧ fs.lookup m = none ∧ tk σ H1 fun zs H2 => zs.length = j ∧ sp (gV [x] zs) H2 Q (E σ)) : tMeK C m j sp gV E ta tk σ H Q := q
theorem r_mkS (q : t σ H fun vs H1 => ∀ x dx, H1 x = none → H1 dx = none → dx ≠ x → sp (.ref x :: vs) (upd (upd H1 dx (.own x)) x (.ins C dx [])) (fun v H2 => v = .non ∧ Q (.ref x) H2) (E σ)) : tMkS C sp E t σ H Q := q
theorem r_fld {K : PySem.W.Frag} {f : Str} {v : V} (q : ta σ H fun x H1 => ∃ a C dx fs v, x = .ref a ∧ H1 a = some (.ins C dx fs) ∧ Cls K C ∧ NoAttr K C f ∧ fs.lookup f = some v ∧ Q v H1) : tFld K ta f σ H Q := q
end
/-! ## 22. refusals whose field has another name -/
def RefuseN (nm : Str) (C : Addr) (v : V) (H : Hp) (E : XK) : Prop := ∀ d H', H d = none → Same H H' → H' d = some (.xd [(nm, v)]) → E (.ref C) (some d) H'
theorem RefuseN.on {nm : Str} {C : Addr} {v : V} {H H' : Hp} {E : XK} (r : RefuseN nm C v H E) (s : Same H H') : RefuseN nm C v H' E := fun d H2 hd s2 e => r d H2 (s.free hd) (s.trans s2) e
def spInitN (nm : Str) (C : Addr) : Sp := fun vs H Q _ => ∃ (a : Addr) (x : V), vs = [.ref a, x] ∧ H a = some (exo a C none) ∧ ∀ dx, H dx = none → dx ≠ a → Q .non (upd (upd H dx (exd dx [(nm, x)])) a (exo a C (some dx)))
theorem r_mkN {nm : Str} {C : Addr} {v : V} {H : Hp} {E : XK} (z : RefuseN nm C v H E) : [v].length ≤ 1000 ∧ ∀ a, H a = none → spInitN nm C (.ref a :: ([v] ++ [])) (upd H a (exo a C none))
    (fun u H2 => u = .non ∧ ∃ (d : Addr) (fs : List (Str × V)), H2 a = some (exo a C (some d)) ∧ H2 d = some (exd d fs) ∧ H d = none ∧ E (.ref C) (some d) (upd (del H2 a) d (.xd fs))) (fun _ _ _ => False) := by
  refine ⟨Nat.le_of_ble_eq_true rfl, fun a ha => ⟨a, v, rfl, upd_same, fun dx hd ne => ⟨rfl, dx, [(nm, v)], upd_same, ?_, ?_, ?_⟩⟩⟩
  · rw [upd_ne ne, upd_same]
  · rw [upd_ne ne] at hd
    exact hd
  · rw [upd_ne ne] at hd
    refine z dx _ hd (fun b o e => ?_) upd_same
    have h1 : b ≠ a := ne_of_none e ha
    have h2 : b ≠ dx := ne_of_none e hd
    rw [upd_ne h2]
    show del _ a b = some o
    unfold del
    rw [if_neg h1, upd_ne h1, upd_ne h2, upd_ne h1]
    exact e
structure ExcN (K : PySem.W.Frag) (nm : Str) (C f : Addr) : Prop where
  ox : OexC K C
  i : PySem.W.findIn K (.ref C) "__init__" = some (some (.ref f))
  t : PySem.W.typeIn K (.ref f) = some (.type "function")
  nf : PySem.W.findIn K (.ref C) nm = some none
  xf : XfC K C
/-! ## 23. a comprehension each turn of which lays a new object, all of them unlike -/
section
variable {J : It} {n : Nat} {G : Hp → Prop} {Y : Nat → Hp → V → Hp → Prop} {g : TG} {te : TE} {vs : List Nat} {σ : L2.St} {H : Hp} {D : Addr} {Q : VK}
theorem lc_new (w : Walk J n G Y) (c : Nat → HO) (hD : H D = none) (hn : n ≤ 10000) (hG : ∀ H', Same H H' → G H')
    (hs : ∀ i x H1 H2 (Q' : VK) (R' : Hp → Prop), i < n → Same H H1 → Y i H1 x H2 → (∀ t H3, H1 t = none → Same H1 H3 → H3 t = some (c i) → Q' (.ref t) H3) →
      g x (wipe σ vs) H2 fun τ H3 => wipe τ vs = wipe σ vs ∧ tYes τ H3 fun b H4 => if b = true then te τ H4 Q' else R' H4)
    (q : ∀ H' (ts : List Addr), Same H H' → H' D = some (.lst (ts.map V.ref)) → ts.length = n → (∀ k t, ts[k]? = some t → H' t = some (c k)) → (D :: ts).Nodup → (∀ t ∈ ts, H t = none) → Q (.ref D) H') :
    ∃ W : Nat → Nat → Hp → Prop, (∃ m, W 0 m (upd H D (.lst []))) ∧ ∀ i m H, W i m H →
      (J.stop i H ∧ Q (.ref D) H) ∨ (J.go i H ∧ ∃ Nx : Hp → Prop, (∀ H', Nx H' → ∃ m', m' < m ∧ W (i + 1) m' H') ∧ ∀ x H', J.yld i H x H' → g x (wipe σ vs) H' fun σ2 H2 => wipe σ2 vs = wipe σ vs ∧ tYes σ2 H2 fun b H3 =>
        if b = true then te σ2 H3 fun y H4 => ∃ acc, H4 D = some (.lst acc) ∧ acc.length < sizeLine ∧ Nx (upd H4 D (.lst (acc ++ [y]))) else Nx H3) := by
  refine lc_it w (fun i G => Same H G ∧ ∃ ts : List Addr, G D = some (.lst (ts.map V.ref)) ∧ ts.length = i ∧ (∀ k t, ts[k]? = some t → G t = some (c k)) ∧ (D :: ts).Nodup ∧ ∀ t ∈ ts, H t = none)
    ⟨same_upd hD, [], upd_same, rfl, (fun _ _ z => nomatch z), (by simp), (fun _ z => nomatch z)⟩ (fun i G _ z => hG G z.1) (fun i x H1 H2 hi ⟨sm, ts, e, l, all, nd, fr⟩ y => ?_) fun G ⟨sm, ts, e, l, all, nd, fr⟩ => q G ts sm e l all nd fr
  refine hs i x H1 H2 _ _ hi sm y fun t H3 nt s3 et => ?_
  have tD : t ≠ D := fun z => by rw [z, e] at nt; exact nomatch nt
  have tts : t ∉ ts := fun z => by
    obtain ⟨k, hk⟩ := List.getElem?_of_mem z
    rw [all k t hk] at nt
    exact nomatch nt
  obtain ⟨nD, nts⟩ := List.nodup_cons.mp nd
  refine ⟨_, s3 _ _ e, by rw [List.length_map, l]; exact Nat.lt_of_lt_of_le hi (Nat.le_trans hn (by decide)), sameBut (sm.trans s3) hD, ts ++ [t], ?_, by rw [List.length_append, l]; rfl, fun k u hk => ?_, ?_, fun u hu => ?_⟩
  · rw [upd_same, List.map_append]
    rfl
  · by_cases hk2 : k < ts.length
    · rw [List.getElem?_append_left hk2] at hk
      have z := s3 _ _ (all k u hk)
      have nu : u ≠ D := fun q => by subst q; exact nD (List.mem_of_getElem? hk)
      rw [upd_ne nu]
      exact z
    · have e3 : k = i := by
        have := (List.getElem?_eq_some_iff.mp hk).1
        rw [List.length_append] at this
        have h1 : [t].length = 1 := rfl
        omega
      subst e3
      rw [List.getElem?_append_right (by omega), l, Nat.sub_self] at hk
      obtain rfl := Option.some.inj hk
      rw [upd_ne tD]
      exact et
  · refine List.nodup_cons.mpr ⟨fun z => ?_, List.nodup_append.mpr ⟨nts, by simp, fun a ha b hb q => ?_⟩⟩
    · rcases List.mem_append.mp z with z | z
      · exact nD z
      · exact tD (List.mem_singleton.mp z).symm
    · rw [List.mem_singleton.mp hb] at q
      exact tts (q ▸ ha)
  · rcases List.mem_append.mp hu with z | z
    · exact fr u z
    · rw [List.mem_singleton.mp z]
      exact sm.free nt
end
/-! ## 24. a list of lists -/
/-- at l: a list of the lists at rows, which hold ws -/
structure LL (H : Hp) (l : Addr) (rows : List Addr) (ws : List (List V)) : Prop where
  at_ : H l = some (.lst (rows.map V.ref))
  len : rows.length = ws.length
  row : ∀ (k : Nat) (r : Addr) (w : List V), rows[k]? = some r → ws[k]? = some w → H r = some (.lst w)
  nd : (l :: rows).Nodup
theorem LL.keep {H H' : Hp} {l : Addr} {rows : List Addr} {ws : List (List V)} (h : LL H l rows ws) (k : ∀ b ∈ l :: rows, H' b = H b) : LL H' l rows ws :=
  ⟨by rw [k l List.mem_cons_self]; exact h.at_, h.len, fun i r w h1 h2 => by rw [k r (List.mem_cons_of_mem _ (List.mem_of_getElem? h1))]; exact h.row i r w h1 h2, h.nd⟩
theorem LL.same {H H' : Hp} {l : Addr} {rows : List Addr} {ws : List (List V)} (h : LL H l rows ws) (s : Same H H') : LL H' l rows ws :=
  ⟨s _ _ h.at_, h.len, fun i r w h1 h2 => s _ _ (h.row i r w h1 h2), h.nd⟩
/-- the row at k grows -/
theorem LL.put {H H' : Hp} {l r : Addr} {rows : List Addr} {ws : List (List V)} {k : Nat} {w w' : List V} (h : LL H l rows ws) (hr : rows[k]? = some r) (hw : ws[k]? = some w) (b : But r H H') (e : H' r = some (.lst w')) : LL H' l rows (ws.set k w') := by
  obtain ⟨nl, nr⟩ := List.nodup_cons.mp h.nd
  have lr : l ≠ r := fun q => nl (q ▸ List.mem_of_getElem? hr)
  refine ⟨b _ _ lr h.at_, by rw [List.length_set]; exact h.len, fun i r2 w2 h1 h2 => ?_, h.nd⟩
  by_cases q : i = k
  · subst q
    rw [hr] at h1
    obtain rfl := Option.some.inj h1
    rw [List.getElem?_set_self (List.getElem?_eq_some_iff.mp hw).1] at h2
    obtain rfl := Option.some.inj h2
    exact e
  · rw [List.getElem?_set_ne (fun z => q z.symm)] at h2
    refine b _ _ (fun z => ?_) (h.row i r2 w2 h1 h2)
    subst z
    exact q ((List.getElem?_inj (List.getElem?_eq_some_iff.mp h1).1 nr).mp (h1.trans hr.symm))
end Bk

namespace Bk
open PySem PySem.Spec PyProof.Rows L2
/-! ## 25. the text of things, dicts among them -/
mutual
/-- v is the thing d; b: a dict may be in it, and each list stands where no dict of modules does -/
inductive Dq (b : Bool) (K : PySem.W.Frag) (H : Hp) : V → PyData → Prop
  | non : Dq b K H .non .none
  | bl (c : Bool) : Dq b K H (.bl c) (.bool c)
  | int (i : Int) : Dq b K H (.int i) (.int i)
  | str (x : Str) : Dq b K H (.str x) (.str x)
  | lst {a : Addr} {xs : List V} {ds : List PyData} : (b = true → a ≠ sysModules) → SqL K H a xs → DqAll b K H xs ds → Dq b K H (.ref a) (.list ds)
  | tup {a : Addr} {xs : List V} {ds : List PyData} : SqT K H a xs → DqAll b K H xs ds → Dq b K H (.ref a) (.tuple ds)
  | dK {a : Addr} {kvs : List (Key × V)} {ps : List (PyData × PyData)} : b = true → H a = some (.dK kvs) → DqAll b K H (kvs.map fun q => kV q.1) (ps.map (·.1)) → DqAll b K H (kvs.map (·.2)) (ps.map (·.2)) → Dq b K H (.ref a) (.dict ps)
inductive DqAll (b : Bool) (K : PySem.W.Frag) (H : Hp) : List V → List PyData → Prop
  | nil : DqAll b K H [] []
  | cons {v : V} {vs : List V} {d : PyData} {ds : List PyData} : Dq b K H v d → DqAll b K H vs ds → DqAll b K H (v :: vs) (d :: ds)
end
mutual
theorem dq_flat {K : PySem.W.Frag} {H : Hp} : ∀ (d : PyData) (v : V), Dq false K H v d → d.hasDict = false
  | .none, _, _ => by simp only [PyData.hasDict]
  | .bool _, _, _ => by simp only [PyData.hasDict]
  | .int _, _, _ => by simp only [PyData.hasDict]
  | .str _, _, _ => by simp only [PyData.hasDict]
  | .list ds, _, h => by
    cases h with
    | lst _ _ ha => simpa only [PyData.hasDict] using dq_flatAll ds _ ha
  | .tuple ds, _, h => by
    cases h with
    | tup _ ha => simpa only [PyData.hasDict] using dq_flatAll ds _ ha
  | .dict _, _, h => by
    cases h with
    | dK e _ _ _ => exact nomatch e
theorem dq_flatAll {K : PySem.W.Frag} {H : Hp} : ∀ (ds : List PyData) (vs : List V), DqAll false K H vs ds → PyData.hasDictAll ds = false
  | [], _, _ => by simp only [PyData.hasDictAll]
  | d :: ds, _, h => by
    cases h with
    | cons h1 h2 => simp only [PyData.hasDictAll, dq_flat d _ h1, dq_flatAll ds _ h2, Bool.or_false]
end
theorem kv_of : ∀ {P : Program} {w : World} {kvs : List (Key × V)} {vs : List (Key × Value)} {es : List DictEntry}, KV kvs vs → Pairs (mixKind P w) es vs → Vals (kvs.map fun q => kV q.1) (es.map (·.key)) ∧ Vals (kvs.map (·.2)) (es.map (·.val))
  | _, _, _, _, _, .nil, .nil => ⟨.nil, .nil⟩
  | P, w, (k, v) :: kvs, (k2, u) :: vs, e :: es, .cons r t, .cons h1 h2 h3 => by
    obtain ⟨a, b⟩ := kv_of (P := P) (w := w) t h3
    obtain ⟨rk, rv⟩ := r
    refine ⟨.cons ?_ a, .cons ?_ b⟩
    · have rk : k = k2 := rk
      subst rk
      rcases keyIs_shape (show keyIs k e.key = true from h1) with ⟨i, t, rfl, z⟩ | ⟨x, t, rfl, z⟩
      · exact ⟨t, z⟩
      · exact ⟨t, z⟩
    · show RelV v e.val
      rw [h2]
      exact rv
section
variable {X : Cx} {pins : List (Addr × Obj)} {σ : L2.St} {H : Hp} {s : Shared} {b : Bool}
mutual
theorem Dq.reads (I : Inv X pins σ H s) : ∀ {d : PyData} {v : V} {u : Value}, Dq b X.K H v d → RelV v u → ∃ as, Reads s.heap u d as ∧ (b = true → sysModules ∉ as)
  | _, _, _, .non, r => by
    cases r
    exact ⟨_, Reads.none, fun _ => by simp⟩
  | _, _, _, .bl b, r => by
    cases r
    exact ⟨_, Reads.bool b, fun _ => by simp⟩
  | _, _, _, .int i, r => by
    obtain ⟨t, rfl⟩ := r
    exact ⟨_, Reads.int i t, fun _ => by simp⟩
  | _, _, _, .str x, r => by
    obtain ⟨t, rfl⟩ := r
    exact ⟨_, Reads.str x t, fun _ => by simp⟩
  | _, _, _, .lst ne hs ha, r => by
    cases r
    obtain ⟨its, rv, ⟨o, n, ho, hc, _, hd⟩, _⟩ := I.list hs
    obtain ⟨as, hr, hn⟩ := Dq.readsAll I ha rv
    exact ⟨_, Reads.list ho hc hd hr, fun z m => by
      rcases List.mem_cons.mp m with m | m
      · exact ne z m.symm
      · exact hn z m⟩
  | _, _, _, .tup hs ha, r => by
    cases r
    obtain ⟨its, rv, ⟨o, ho, hc, n, hd⟩, _⟩ := I.tuple hs
    obtain ⟨as, hr, hn⟩ := Dq.readsAll I ha rv
    exact ⟨_, Reads.tuple ho hc hd hr, hn⟩
  | _, _, _, .dK (a := a) (kvs := kvs) (ps := ps) eb ha h1 h2, r => by
    cases r
    obtain ⟨_, hm, vs, kv, o, es, ep, ho, hx, hde, _, pr, _⟩ := I.hok a _ ha
    obtain ⟨r1, r2⟩ := kv_of kv pr
    obtain ⟨as, q1, n1⟩ := Dq.readsAll I h1 r1
    obtain ⟨bs, q2, n2⟩ := Dq.readsAll I h2 r2
    have rd : Reads s.heap (.ref a) (.dict ps) (a :: as ++ bs) := .dict ho hx.1 hde q1 q2
    exact ⟨_, rd, fun z m => by
      rcases List.mem_append.mp m with m | m
      · rcases List.mem_cons.mp m with m | m
        · rw [← m] at hm
          exact absurd hm (by decide)
        · exact n1 z m
      · exact n2 z m⟩
theorem Dq.readsAll (I : Inv X pins σ H s) : ∀ {ds : List PyData} {vs : List V} {us : List Value}, DqAll b X.K H vs ds → Vals vs us → ∃ as, ReadsAll s.heap us ds as ∧ (b = true → sysModules ∉ as)
  | _, _, _, .nil, r => by
    cases r
    exact ⟨_, ReadsAll.nil, fun _ => by simp⟩
  | _, _, _, .cons h1 h2, r => by
    cases r with
    | cons r1 r2 =>
      obtain ⟨as, q1, n1⟩ := Dq.reads I h1 r1
      obtain ⟨bs, q2, n2⟩ := Dq.readsAll I h2 r2
      exact ⟨_, ReadsAll.cons q1 q2, fun z m => by
        rcases List.mem_append.mp m with m | m
        · exact n1 z m
        · exact n2 z m⟩
end
end
/-- z is how repr tells v -/
def Shq (K : PySem.W.Frag) (H : Hp) (v : V) (z : Str) : Prop := ∃ b d, Dq b K H v d ∧ d.showable = true ∧ d.shown.length ≤ sizeLine ∧ d.depth ≤ 60 ∧ z = d.shown
section
variable {X : Cx} {j : Nat}
theorem call_repr_shq (ga : X.A.guards = some []) (hr : Room j X.A) : CallR X (.builtin "repr") (fun xs H Q => ∃ v z, xs = [v] ∧ Shq X.K H v z ∧ Q (.str z) H) := by
  intro pins s σ H xs us Q I r h
  obtain ⟨v, z, rfl, ⟨b, d, hd, h1, h2, h3, rfl⟩, q⟩ := h
  obtain ⟨u, rfl, rv⟩ := vals1 r
  have hu := hr.units
  have fin : ∀ {x : Str} {t : Nat}, x = d.shown → EP X pins σ Q (.str x s.toks) { s with toks := t } := fun {x t} e => ⟨.str _, H, I.tok _, ⟨_, rfl⟩, by rw [e]; exact q⟩
  have ref : ∀ {a : Addr}, v = .ref a → wpAny (model X.prog X.w) X.A (call (.builtin "repr") [u]) (EP X pins σ Q) X.xe s := fun {a} e => by
    subst e
    obtain rfl : u = Value.ref a := rv
    obtain ⟨as, rd, hn⟩ := Dq.reads I (u := .ref a) hd rfl
    refine repr_of_reads' rd h1 (fun hh => ?_) ga (by omega) (fun _ _ e => e) (fun h' u tk hk => ⟨.str _, H, I.kept hk, ⟨_, rfl⟩, q⟩) h2
    cases b with
    | true => exact hn rfl
    | false =>
      rw [dq_flat d _ hd] at hh
      exact nomatch hh
  cases hd with
  | non =>
    cases rv
    exact PySem.P.repr_of_none (fin (by simp only [PyData.shown]))
  | bl b =>
    cases rv
    exact PySem.P.repr_of_bool (fin (by simp only [PyData.shown]))
  | int i =>
    obtain ⟨t, rfl⟩ := rv
    exact PySem.P.repr_of_int (by simpa only [PyData.showable, decide_eq_true_eq] using h1) (fin (by simp only [PyData.shown]))
  | str x =>
    obtain ⟨t, rfl⟩ := rv
    exact PySem.P.repr_of_str (fin (by simp only [PyData.shown])) (by simpa only [PyData.shown] using h2)
  | lst _ _ _ => exact ref rfl
  | tup _ _ => exact ref rfl
  | dK _ _ _ _ => exact ref rfl
end
mutual
def smQ : PyData → Bool
  | .none | .bool _ => true
  | .int i => decide (i.natAbs < 10 ^ 38)
  | .str x => x.cps.toList.all fun c => decide (c < 16 ^ 8)
  | .list xs | .tuple xs => smQL xs
  | .dict ps => smQK ps
def smQL : List PyData → Bool
  | [] => true
  | x :: xs => smQ x && smQL xs
def smQK : List (PyData × PyData) → Bool
  | [] => true
  | (x, y) :: xs => smQ x && smQ y && smQK xs
end
mutual
theorem smQ_ok : ∀ d : PyData, smQ d = true → d.showable = true ∧ d.leavesShort 40 = true
  | .none, _ => ⟨rfl, rfl⟩
  | .bool _, _ => ⟨rfl, rfl⟩
  | .int i, h => by
    have h' : smallD (.int i) = true := by simpa only [smallD, smQ] using h
    exact small_ok _ h'
  | .str x, h => ⟨by simp only [PyData.showable], by simpa only [smQ, PyData.leavesShort] using h⟩
  | .list xs, h => by simpa only [PyData.showable, PyData.leavesShort] using smQ_okL xs (by simpa only [smQ] using h)
  | .tuple xs, h => by simpa only [PyData.showable, PyData.leavesShort] using smQ_okL xs (by simpa only [smQ] using h)
  | .dict ps, h => by simpa only [PyData.showable, PyData.leavesShort] using smQ_okK ps (by simpa only [smQ] using h)
theorem smQ_okL : ∀ xs : List PyData, smQL xs = true → PyData.showableAll xs = true ∧ PyData.leavesShortAll 40 xs = true
  | [], _ => ⟨rfl, rfl⟩
  | x :: xs, h => by
    have h' : smQ x = true ∧ smQL xs = true := by simpa only [smQL, Bool.and_eq_true] using h
    obtain ⟨a, b⟩ := smQ_ok x h'.1
    obtain ⟨c, d⟩ := smQ_okL xs h'.2
    exact ⟨by simp only [PyData.showableAll, a, c, Bool.and_true], by simp only [PyData.leavesShortAll, b, d, Bool.and_true]⟩
theorem smQ_okK : ∀ xs : List (PyData × PyData), smQK xs = true → PyData.showableKv xs = true ∧ PyData.leavesShortKv 40 xs = true
  | [], _ => ⟨rfl, rfl⟩
  | (x, y) :: xs, h => by
    have h' : (smQ x = true ∧ smQ y = true) ∧ smQK xs = true := by simpa only [smQK, Bool.and_eq_true] using h
    obtain ⟨a, b⟩ := smQ_ok x h'.1.1
    obtain ⟨a2, b2⟩ := smQ_ok y h'.1.2
    obtain ⟨c, d⟩ := smQ_okK xs h'.2
    exact ⟨by simp only [PyData.showableKv, a, a2, c, Bool.and_true], by simp only [PyData.leavesShortKv, b, b2, d, Bool.and_true]⟩
end
section
variable {b : Bool} {K : PySem.W.Frag} {H H' : Hp} {v : V} {a : Addr} {xs : List V}
theorem shq_of {d : PyData} (h : Dq b K H v d) (s : smQ d = true) (l : d.bulk ≤ 390000) (e : d.depth ≤ 60) : Shq K H v d.shown := by
  obtain ⟨h1, h2⟩ := smQ_ok d s
  have h3 := PyData.shown_le_bulk 40 (by decide) d h2
  exact ⟨b, d, h, h1, by rw [sizeLine_eq]; omega, e, rfl⟩
/-- a thing that may stand in a list whose text is asked: m its size -/
def ItQ (b : Bool) (K : PySem.W.Frag) (H : Hp) (m : Nat) (v : V) : Prop := ∃ d, Dq b K H v d ∧ smQ d = true ∧ d.bulk ≤ m ∧ d.depth ≤ 20
theorem ItQ.shq {m : Nat} (h : ItQ b K H m v) (l : m ≤ 390000) : ∃ z, Shq K H v z := let ⟨_, h1, h2, h3, h4⟩ := h; ⟨_, shq_of h1 h2 (by omega) (by omega)⟩
theorem itqs {m : Nat} : ∀ {xs : List V}, (∀ y ∈ xs, ItQ b K H m y) → ∃ ds, DqAll b K H xs ds ∧ smQL ds = true ∧ PyData.bulkAll ds ≤ (m + 1) * xs.length ∧ PyData.depthAll ds ≤ 20
  | [], _ => ⟨[], .nil, rfl, Nat.le_refl _, Nat.zero_le _⟩
  | y :: ys, h => by
    obtain ⟨d, h1, h2, h3, h4⟩ := h y List.mem_cons_self
    obtain ⟨ds, g1, g2, g3, g4⟩ := itqs fun z hz => h z (List.mem_cons_of_mem _ hz)
    refine ⟨d :: ds, .cons h1 g1, by simp only [smQL, h2, g2, Bool.and_true], ?_, ?_⟩
    · simp only [PyData.bulkAll, List.length_cons, Nat.mul_succ]
      omega
    · simp only [PyData.depthAll]
      omega
/-- two lists of the same things are told alike -/
theorem shq_lst2 {m : Nat} {c : Addr} (h : SqL K H a xs) (h2 : SqL K H c xs) (n1 : b = true → a ≠ sysModules) (n2 : b = true → c ≠ sysModules) (i : ∀ y ∈ xs, ItQ b K H m y) (l : (m + 1) * xs.length ≤ 390000) : ∃ z, Shq K H (.ref a) z ∧ Shq K H (.ref c) z := by
  obtain ⟨ds, g1, g2, g3, g4⟩ := itqs i
  exact ⟨_, shq_of (.lst n1 h g1) (by simpa only [smQ] using g2) (by simp only [PyData.bulk]; omega) (by simp only [PyData.depth]; omega),
    shq_of (.lst n2 h2 g1) (by simpa only [smQ] using g2) (by simp only [PyData.bulk]; omega) (by simp only [PyData.depth]; omega)⟩
theorem shq_tup2 {m : Nat} {c : Addr} (h : SqT K H a xs) (h2 : SqT K H c xs) (i : ∀ y ∈ xs, ItQ b K H m y) (l : (m + 1) * xs.length ≤ 390000) : ∃ z, Shq K H (.ref a) z ∧ Shq K H (.ref c) z := by
  obtain ⟨ds, g1, g2, g3, g4⟩ := itqs i
  exact ⟨_, shq_of (.tup h g1) (by simpa only [smQ] using g2) (by simp only [PyData.bulk]; omega) (by simp only [PyData.depth]; omega),
    shq_of (.tup h2 g1) (by simpa only [smQ] using g2) (by simp only [PyData.bulk]; omega) (by simp only [PyData.depth]; omega)⟩
/-- a list of things within a list -/
theorem itq_lst {m M : Nat} (h : SqL K H a xs) (n1 : b = true → a ≠ sysModules) (i : ∀ y ∈ xs, ∃ d, Dq b K H y d ∧ smQ d = true ∧ d.bulk ≤ m ∧ d.depth = 0) (l : (m + 1) * xs.length ≤ M) : ItQ b K H M (.ref a) := by
  have go : ∀ {xs : List V}, (∀ y ∈ xs, ∃ d, Dq b K H y d ∧ smQ d = true ∧ d.bulk ≤ m ∧ d.depth = 0) → ∃ ds, DqAll b K H xs ds ∧ smQL ds = true ∧ PyData.bulkAll ds ≤ (m + 1) * xs.length ∧ PyData.depthAll ds = 0 := by
    intro xs
    induction xs with
    | nil => exact fun _ => ⟨[], .nil, rfl, Nat.le_refl _, rfl⟩
    | cons y ys ih =>
      intro h
      obtain ⟨d, h1, h2, h3, h4⟩ := h y List.mem_cons_self
      obtain ⟨ds, g1, g2, g3, g4⟩ := ih fun z hz => h z (List.mem_cons_of_mem _ hz)
      refine ⟨d :: ds, .cons h1 g1, by simp only [smQL, h2, g2, Bool.and_true], ?_, ?_⟩
      · simp only [PyData.bulkAll, List.length_cons, Nat.mul_succ]
        omega
      · simp only [PyData.depthAll, h4, g4]
        rfl
  obtain ⟨ds, g1, g2, g3, g4⟩ := go i
  exact ⟨_, .lst n1 h g1, by simpa only [smQ] using g2, by simp only [PyData.bulk]; omega, by simp only [PyData.depth, g4]; omega⟩
theorem dqS (h : smS v = true) : Dq b K H v (datS v) ∧ smQ (datS v) = true ∧ (datS v).bulk ≤ 100 ∧ (datS v).depth = 0 := by
  obtain ⟨h1, h2, h3, h4⟩ := datS_ok (K := K) (H := H) h
  refine ⟨?_, ?_, h3, h4⟩
  · cases v with
    | non => exact .non
    | bl b => exact .bl b
    | int i => exact .int i
    | str z => exact .str z
    | _ => exact nomatch h
  · cases v with
    | non => exact rfl
    | bl b => exact rfl
    | int i => simpa only [smallD, smQ, datS] using h2
    | str z => simpa only [smallD, smQ, datS] using h2
    | _ => exact nomatch h
theorem itq_sc (h : smS v = true) : ItQ b K H 100 v := let ⟨h1, h2, h3, h4⟩ := dqS h; ⟨_, h1, h2, h3, by omega⟩
theorem itq_int {i : Int} (h : i.natAbs < 10 ^ 38) : ItQ b K H 0 (.int i) := ⟨.int i, .int i, by simpa only [smQ, decide_eq_true_eq] using h, Nat.le_refl _, by simp only [PyData.depth]; decide⟩
theorem ItQ.mono {m M : Nat} (h : ItQ b K H m v) (l : m ≤ M) : ItQ b K H M v := let ⟨d, h1, h2, h3, h4⟩ := h; ⟨d, h1, h2, by omega, h4⟩
theorem shq_sc (h : smS v = true) : Shq K H v (datS v).shown := let ⟨h1, h2, h3, h4⟩ := dqS (b := false) h; shq_of h1 h2 (by omega) (by omega)
end
/-! new lists and dicts stand where no dict of modules does -/
def NewLB (xs : List V) (H : Hp) (Q : VK) : Prop := xs.length ≤ sizeLine ∧ ∀ p, H p = none → p ≠ sysModules → Q (.ref p) (upd H p (.lst xs))
def tLstB (t : TA) : TE := fun σ H Q => t σ H fun xs H1 => NewLB xs H1 Q
section
variable {X : Cx} {es : List Expr} {t : TA} {pos : Pos}
theorem pe_lstB (h : PA X es t) : PE X (.List es pos) (tLstB t) := by
  refine ⟨fun pins s σ H Q I hq => ?_⟩
  refine wpAny_List_spliced (thn (h.run pos pins s σ H _ I hq) fun us s1 ⟨xs, H1, I1, r, z, q⟩ => ⟨by rw [← r.length]; exact z, ?_⟩)
  have hf : H1 s1.heap.objs.size = none := I1.hok.fresh (Nat.le_refl _)
  refine ⟨.ref s1.heap.objs.size, upd H1 s1.heap.objs.size (.lst xs), I1.laid (t' := s1.toks) (fun b u e => Heap.get?_push_of_some _ e) (Nat.le_refl _) ?_, rfl, q _ hf (Nat.ne_of_gt I1.big)⟩
  exact ⟨z, us, 0, r, Heap.get?_push_size _ rfl⟩
theorem r_lstB {σ : L2.St} {H : Hp} {Q : VK} (q : t σ H fun xs H1 => NewLB xs H1 Q) : tLstB t σ H Q := q
theorem newLB {xs : List V} {H : Hp} {Q : VK} (q : ∀ p H', H p = none → p ≠ sysModules → Same H H' → H' p = some (.lst xs) → Q (.ref p) H') (hl : xs.length ≤ 10000 := by exact Nat.le_of_ble_eq_true rfl) : NewLB xs H Q :=
  ⟨Nat.le_trans hl (by decide), fun p hp ns => q p _ hp ns (same_upd hp) upd_same⟩
end
end Bk

namespace Bk
open PySem PySem.Spec PyProof.Rows L2
/-! ## 26. isinstance of what an except suite holds -/
def rIsH (K : PySem.W.Frag) (a : Addr) (cls : Value) (d : Option Addr) (C : Addr) : List V → Hp → VK → Prop := fun xs H Q => ∃ (c : V) (u : Value) (b : Bool) (dd : Addr) (fs : List (Str × V)), xs = [.ref a, c] ∧ cls = .ref C ∧ d = some dd ∧ H dd = some (.xd fs) ∧ ClsV c u ∧ PySem.W.kitOne K (.ref C) u = some b ∧ Q (.bl b) H
def rIsH2 (K : PySem.W.Frag) (a : Addr) (cls : Value) (d : Option Addr) (C : Addr) : List V → Hp → VK → Prop := fun xs H Q => ∃ (tp : Addr) (cs : List V) (us : List Value) (b : Bool) (dd : Addr) (fs : List (Str × V)), xs = [.ref a, .ref tp] ∧ cls = .ref C ∧ d = some dd ∧ H dd = some (.xd fs) ∧ H tp = some (.tup cs) ∧ Paired ClsV cs us ∧ PySem.W.kitAny K (.ref C) us = some b ∧ Q (.bl b) H
section
variable {X : Cx} {a C : Addr} {oe : Obj} {cls : Value} {d : Option Addr} {pn : List (Addr × Obj)}
theorem held_inst {pins : List (Addr × Obj)} {σ : L2.St} {H : Hp} {s : Shared} {dd : Addr} {fs : List (Str × V)} (I : Inv (X.suite a ((a, oe) :: pn)) pins σ H s) (hz : Zc (.ref C) (some dd) oe) (hf : ∃ vs, oe.data = .fields vs) (ea : H dd = some (.xd fs)) :
    ∃ od, PySem.W.InstAt s.heap a oe C (some od) := by
  obtain ⟨ha, _⟩ := I.pin (a, oe) (List.mem_append_left _ List.mem_cons_self)
  obtain ⟨vs, hd⟩ := hf
  have hx : ObjOk X.prog X.w H s.heap dd (.xd fs) := I.hok dd _ ea
  obtain ⟨mA, hns, hr⟩ := hx
  obtain ⟨od, ho, hl⟩ := lookIn_ns hns
  exact ⟨od, ha, hz.1, by unfold PySem.W.notCls; rw [hd] <;> rfl, by rw [hz.2]; exact ho⟩
theorem call_isH (T : ExcC X.K C) (hz : Zc cls d oe) (hf : ∃ vs, oe.data = .fields vs) : CallR (X.suite a ((a, oe) :: pn)) (.builtin "isinstance") (rIsH X.K a cls d C) := by
  intro pins s σ H xs us Q I r h
  obtain ⟨c, u, b, dd, fs, rfl, ec, ed, ea, k, e, q⟩ := h
  subst ec
  subst ed
  obtain ⟨u1, u2, rfl, r1, r2⟩ := vals2 r
  have e2 := k.eq r2
  subst e2
  obtain rfl : u1 = Value.ref a := r1
  obtain ⟨od, J⟩ := held_inst I hz hf ea
  exact PySem.W.kia_one (PySem.W.bk_kitx (ox := oe) (od := some od) T.hg T.hk T.hs T.hd T.ha T.hn T.ht T.hm) I.kIn J e (fun z => nomatch z) fun tk => ⟨.bl b, H, I.tok tk, rfl, q⟩
theorem call_isH2 (T : ExcC X.K C) (hz : Zc cls d oe) (hf : ∃ vs, oe.data = .fields vs) : CallR (X.suite a ((a, oe) :: pn)) (.builtin "isinstance") (rIsH2 X.K a cls d C) := by
  intro pins s σ H xs us Q I r h
  obtain ⟨tp, cs, ws, b, dd, fs, rfl, ec, ed, ea, hT, k, e, q⟩ := h
  subst ec
  subst ed
  obtain ⟨u1, u2, rfl, r1, r2⟩ := vals2 r
  cases (show u2 = Value.ref tp from r2)
  obtain rfl : u1 = Value.ref a := r1
  obtain ⟨od, J⟩ := held_inst I hz hf ea
  obtain ⟨_, its, rv, o, h1, h2, n, h3⟩ := (show ObjOk X.prog X.w H s.heap tp (.tup cs) from I.hok tp _ hT)
  have e3 := ClsV.all k rv
  subst e3
  obtain ⟨oc, od2, dt, sl⟩ := o
  simp only at h2 h3
  subst h2 h3
  exact PySem.W.kia_tup (PySem.W.bk_kitx (ox := oe) (od := some od) T.hg T.hk T.hs T.hd T.ha T.hn T.ht T.hm) I.kIn J h1 e (fun z => nomatch z) fun tk => ⟨.bl b, H, I.tok tk, rfl, q⟩
end
section
variable {K : PySem.W.Frag} {a C : Addr} {cls : Value} {d : Option Addr} {H : Hp} {Q : VK}
theorem r_isH {dd : Addr} {fs : List (Str × V)} {D : Addr} {b : Bool} (ec : cls = .ref C) (ed : d = some dd) (ea : H dd = some (.xd fs)) (e : PySem.W.kitOne K (.ref C) (.ref D) = some b) (q : Q (.bl b) H) : rIsH K a cls d C [.ref a, .ref D] H Q :=
  ⟨_, _, b, dd, fs, rfl, ec, ed, ea, .own D, e, q⟩
theorem r_isHB {dd : Addr} {fs : List (Str × V)} {T : String} {b : Bool} (ec : cls = .ref C) (ed : d = some dd) (ea : H dd = some (.xd fs)) (e : PySem.W.kitOne K (.ref C) (.type T) = some b) (q : Q (.bl b) H) : rIsH K a cls d C [.ref a, .ty T] H Q :=
  ⟨_, _, b, dd, fs, rfl, ec, ed, ea, .ty T, e, q⟩
theorem r_isH2 {dd tp : Addr} {fs : List (Str × V)} {D1 D2 : Addr} {b c : Bool} (ec : cls = .ref C) (ed : d = some dd) (ea : H dd = some (.xd fs)) (et : H tp = some (.tup [.ref D1, .ref D2])) (e : PySem.W.kitOne K (.ref C) (.ref D1) = some b) (e2 : PySem.W.kitOne K (.ref C) (.ref D2) = some c) (q : Q (.bl (b || c)) H) : rIsH2 K a cls d C [.ref a, .ref tp] H Q := by
  refine ⟨tp, _, [.ref D1, .ref D2], _, dd, fs, rfl, ec, ed, ea, et, .cons (.own D1) (.cons (.own D2) .nil), ?_, q⟩
  cases b with
  | true => exact kitAny_cons e (fun z => nomatch z) (fun _ => rfl)
  | false => exact kitAny_cons e (fun _ => by cases c with
      | true => exact kitAny_cons e2 (fun z => nomatch z) (fun _ => rfl)
      | false => exact kitAny_cons e2 (fun _ => kitAny_nil) (fun z => nomatch z)) (fun z => nomatch z)
theorem kit_own {D : Addr} {b : Bool} (self : PySem.W.subIn K (.ref C) (.ref C) = some true) (hdct : PySem.W.hasDictIn K D = true) (ht : PySem.W.typeIn K (.ref D) = some (.type "type")) (h : PySem.W.subIn K (.ref C) (.ref D) = some b) : PySem.W.kitOne K (.ref C) (.ref D) = some b := by
  obtain ⟨cd, hc, _⟩ := PySem.W.any_some hdct
  unfold PySem.W.kitOne
  by_cases e : C = D
  · subst e
    rw [self] at h
    obtain rfl := Option.some.inj h
    rw [if_pos (beq_self_eq_true _)]
  · rw [if_neg (fun z => e (by injection (beq_iff_eq.mp z)))]
    show (if ((PySem.W.clsIn K D).isSome && PySem.W.typeIn K (.ref D) == some (.type "type")) = true then PySem.W.subIn K (.ref C) (.ref D) else none) = some b
    rw [if_pos (by rw [hc, ht]; rfl)]
    exact h
end
theorem call_list_ofK {X : Cx} {K : PySem.W.Frag} (h : X.K = K) : CallR X (.type "list") (fun xs H Q => ∃ p ys, xs = [.ref p] ∧ (SqL K H p ys ∨ SqT K H p ys) ∧ ∀ l, H l = none → Q (.ref l) (upd H l (.lst ys))) := by
  subst h
  exact call_list_of
theorem call_len_seqK {X : Cx} {K : PySem.W.Frag} (h : X.K = K) : CallR X (.builtin "len") (fun xs H Q => ∃ p ys, xs = [.ref p] ∧ (SqL K H p ys ∨ SqT K H p ys) ∧ Q (.int ys.length) H) := by
  subst h
  exact call_len_seq
/-- all that is asked of an own exception class -/
structure ExcA (K : PySem.W.Frag) (b : Bs) (nm : Str) (C f : Addr) : Prop where
  ox : OexT K b C
  i : PySem.W.findIn K (.ref C) "__init__" = some (some (.ref f))
  t : PySem.W.typeIn K (.ref f) = some (.type "function")
  nf : PySem.W.findIn K (.ref C) nm = some none
  xf : XfC K C
  xc : ExcC K C
/-! ## 26a. comprehensions that lay new things -/
section
variable {K : PySem.W.Frag} {σ : L2.St} {H : Hp} {Q : VK} {j : Nat} {vs : List Nat} {te tl : TE} {a : Addr} {xs : List V}
theorem lcNewR (n : Nat) (c : Nat → HO) (hl : n ≤ 1000) (hw : ∀ x, wipe ((wipe σ vs).set j (some x)) vs = wipe σ vs)
    (ht : ∀ (i : Nat) (H1 : Hp) (Q' : VK), i < n → Same H H1 → (∀ t H3, H1 t = none → Same H1 H3 → H3 t = some (c i) → Q' (.ref t) H3) → te ((wipe σ vs).set j (some (.int (0 + (i : Int))))) H1 Q')
    (q : ∀ D H' (ts : List Addr), H D = none → Same H H' → H' D = some (.lst (ts.map V.ref)) → ts.length = n → (∀ k t, ts[k]? = some t → H' t = some (c k)) → (D :: ts).Nodup → (∀ t ∈ ts, H t = none) → Q (.ref D) H') :
    tLc (iRng1 (tCons (tC (.int n)) tNil)) (gName j) tYes te vs σ H Q := by
  refine ⟨_, rfl, by omega, by omega, fun D hD => ?_⟩
  rw [Int.toNat_natCast]
  refine lc_new (g := gName j) (te := te) (vs := vs) (σ := σ) (Q := Q) walk_range c hD (by omega) (fun _ _ => trivial) (fun i x H1 H2 Q' R' hi sm y k => ?_) fun H' ts s e l all nd fr => q D H' ts hD s e l all nd fr
  obtain ⟨rfl, rfl⟩ := y
  refine ⟨hw _, r_yes ?_⟩
  exact ht i H2 Q' hi sm k
theorem lcNewL (c : Nat → HO) (hv : ∀ QQ : VK, QQ (.ref a) H → tl σ H QQ) (hs : SqL K H a xs) (hl : xs.length ≤ 10000) (hw : ∀ x, wipe ((wipe σ vs).set j (some x)) vs = wipe σ vs)
    (ht : ∀ (i : Nat) (y : V) (H1 : Hp) (Q' : VK), xs[i]? = some y → Same H H1 → (∀ t H3, H1 t = none → Same H1 H3 → H3 t = some (c i) → Q' (.ref t) H3) → te ((wipe σ vs).set j (some y)) H1 Q')
    (q : ∀ D H' (ts : List Addr), H D = none → Same H H' → H' D = some (.lst (ts.map V.ref)) → ts.length = xs.length → (∀ k t, ts[k]? = some t → H' t = some (c k)) → (D :: ts).Nodup → (∀ t ∈ ts, H t = none) → Q (.ref D) H') :
    tLc (iList K tl) (gName j) tYes te vs σ H Q := by
  refine hv _ ⟨a, rfl, ⟨xs, hs⟩, fun D hD => ?_⟩
  refine lc_new (g := gName j) (te := te) (vs := vs) (σ := σ) (Q := Q) walk_list c hD hl (fun _ s => s.seq hs) (fun i x H1 H2 Q' R' hi sm y k => ?_) fun H' ts s e l all nd fr => q D H' ts hD s e l all nd fr
  obtain ⟨rfl, hx⟩ := y
  exact ⟨hw _, r_yes (ht i x H2 Q' hx sm k)⟩
end
/-! ## 27. a count -/
def countV (x : V) : Bool := match x with
  | .int i => decide (0 ≤ i)
  | _ => false
/-- a thing of which isinstance(.., int) is known -/
def WC (K : PySem.W.Frag) (H : Hp) (x : V) : Prop := (∃ i, x = .int i) ∨ (∃ b, x = .bl b) ∨ (IsA K H x "int" false ∧ (∀ l h, wholeV x l h = false) ∧ countV x = false)
theorem WC.wd {K : PySem.W.Frag} {H : Hp} {x : V} (h : WC K H x) : WD K H x := by
  rcases h with h | h | ⟨h1, h2, _⟩
  · exact .inl h
  · exact .inr (.inl h)
  · exact .inr (.inr ⟨h1, h2⟩)
def spCount (K : PySem.W.Frag) : Sp := fun vs H Q _ => ∃ x : V, vs = [x] ∧ WC K H x ∧ Q (.bl (countV x)) H
def spCheckN (K : PySem.W.Frag) (C : Addr) : Sp := fun vs H Q E => ∃ (x : V) (lo hi : Int), vs = [x, .int lo, .int hi] ∧ WD K H x ∧ ((wholeV x lo hi = true ∧ Q .non H) ∨ (wholeV x lo hi = false ∧ Refuse C x H E))
def spCheckC (K : PySem.W.Frag) (C : Addr) : Sp := fun vs H Q E => ∃ x : V, vs = [x] ∧ WC K H x ∧ ((countV x = true ∧ Q .non H) ∨ (countV x = false ∧ Refuse C x H E))
theorem whole_int {i lo hi : Int} (h0 : lo ≤ i) (h1 : i ≤ hi) : wholeV (.int i) lo hi = true := by
  show (decide (lo ≤ i) && decide (i ≤ hi)) = true
  rw [decide_eq_true h0, decide_eq_true h1]
  rfl
theorem count_int {i : Int} (h0 : 0 ≤ i) : countV (.int i) = true := decide_eq_true h0
end Bk

namespace Bk
open PySem PySem.Spec PyProof.Rows L2
/-! ## 28. return [tag, e.f, isinstance(e, G) and not isinstance(e, (B1, B2))] -/
def tHit (K : PySem.W.Frag) (i : Nat) (C G B1 B2 : Addr) (tag nm : Str) (a : Addr) (cls : Value) (d : Option Addr) : TS :=
  tRet (tLstB (tCons (tC (.str tag)) (tCons (tXf a cls d C nm (tVar i)) (tCons (tAndV (tCB (rIsH K a cls d C) (tCons (tVar i) (tCons (tC (.ref G)) tNil)))
    (tNotV (tCB (rIsH2 K a cls d C) (tCons (tVar i) (tCons (tTup (tCons (tC (.ref B1)) (tCons (tC (.ref B2)) tNil))) tNil))))) tNil))))
theorem caught_lst {K : PySem.W.Frag} {C d G B1 B2 : Addr} {i : Nat} {σ : L2.St} {H' : Hp} {D : Ends} {l : List ClA} {v : V} {tag nm : Str} (e : PySem.W.exmOne K (.ref C) (.ref C) = some true) (hi : i < σ.length) (ed : H' d = some (.xd [(nm, v)]))
    (kG : PySem.W.kitOne K (.ref C) (.ref G) = some true) (k1 : PySem.W.kitOne K (.ref C) (.ref B1) = some false) (k2 : PySem.W.kitOne K (.ref C) (.ref B2) = some false)
    (q : ∀ p H2, H' p = none → p ≠ sysModules → Same H' H2 → H2 p = some (.lst [.str tag, v, .bl true]) → D.rt (.ref p) H2) :
    wAM K D ((.ref C, i, fun a cls d => tHit K i C G B1 B2 tag nm a cls d) :: l) (.ref C) (some d) σ H' := by
  refine w_hit e fun a na => ?_
  show tHit K i C G B1 B2 tag nm a (.ref C) (some d) (offI i D) (σ.set i (some (.ref a))) H'
  have hv : (σ.set i (some (V.ref a)))[i]? = some (some (.ref a)) := List.getElem?_set_self hi
  refine r_ret (r_lstB (r_cons (r_c (r_cons ?_))))
  refine ⟨.ref a, hv, rfl, rfl, d, _, v, rfl, ed, by rw [List.lookup_cons, beq_self_eq_true], ?_⟩
  refine r_cons (r_andV (r_cb (r_cons (r_var hv (r_cons (r_c (r_nil (r_isH rfl rfl ed kG ⟨true, rfl, iteT ?_⟩))))))))
  refine r_notV (r_cb (r_cons (r_var hv (r_cons (r_tup (r_cons (r_c (r_cons (r_c (r_nil (newT fun tp H2 nt st et => ?_)))))))))))
  refine r_nil (r_isH2 rfl rfl (st _ _ ed) et k1 k2 ⟨_, rfl, r_nil (newLB fun p H3 np ns s3 e3 => q p H3 (st.free np) ns (st.trans s3) e3)⟩)
theorem r_disp1 {σ : L2.St} {H : Hp} {Q : VK} {k : Key} {v : V} (q : ∀ p H', H p = none → Same H H' → H' p = some (.dK [(k, v)]) → Q (.ref p) H') : tDisp [(tC (kV k), tC v)] σ H Q := by
  intro p np
  refine ⟨upd_same, [(k, v)], rfl, (by show 1 ≤ 15; decide), ?_⟩
  refine q p _ np (fun b o e => ?_) upd_same
  rw [upd_ne (ne_of_none e np), upd_ne (ne_of_none e np)]
  exact e
/-! ## 29. things of a known depth -/
section
variable {b : Bool} {K : PySem.W.Frag} {H H' : Hp} {v : V} {a : Addr} {xs : List V}
def ItD (b : Bool) (K : PySem.W.Frag) (H : Hp) (m k : Nat) (v : V) : Prop := ∃ d, Dq b K H v d ∧ smQ d = true ∧ d.bulk ≤ m ∧ d.depth ≤ k
theorem ItD.q {m k : Nat} (h : ItD b K H m k v) (l : k ≤ 20) : ItQ b K H m v := let ⟨d, h1, h2, h3, h4⟩ := h; ⟨d, h1, h2, h3, by omega⟩
theorem ItD.mono {m k M L : Nat} (h : ItD b K H m k v) (l : m ≤ M) (l2 : k ≤ L) : ItD b K H M L v := let ⟨d, h1, h2, h3, h4⟩ := h; ⟨d, h1, h2, by omega, by omega⟩
theorem itds {m k : Nat} : ∀ {xs : List V}, (∀ y ∈ xs, ItD b K H m k y) → ∃ ds, DqAll b K H xs ds ∧ smQL ds = true ∧ PyData.bulkAll ds ≤ (m + 1) * xs.length ∧ PyData.depthAll ds ≤ k
  | [], _ => ⟨[], .nil, rfl, Nat.le_refl _, Nat.zero_le _⟩
  | y :: ys, h => by
    obtain ⟨d, h1, h2, h3, h4⟩ := h y List.mem_cons_self
    obtain ⟨ds, g1, g2, g3, g4⟩ := itds fun z hz => h z (List.mem_cons_of_mem _ hz)
    refine ⟨d :: ds, .cons h1 g1, by simp only [smQL, h2, g2, Bool.and_true], ?_, ?_⟩
    · simp only [PyData.bulkAll, List.length_cons, Nat.mul_succ]
      omega
    · simp only [PyData.depthAll]
      omega
theorem itd_lst {m k M : Nat} (h : SqL K H a xs) (n1 : b = true → a ≠ sysModules) (i : ∀ y ∈ xs, ItD b K H m k y) (l : (m + 1) * xs.length ≤ M) : ItD b K H M (k + 1) (.ref a) := by
  obtain ⟨ds, g1, g2, g3, g4⟩ := itds i
  exact ⟨_, .lst n1 h g1, by simpa only [smQ] using g2, by simp only [PyData.bulk]; omega, by simp only [PyData.depth]; omega⟩
theorem itd_tup {m k M : Nat} (h : SqT K H a xs) (i : ∀ y ∈ xs, ItD b K H m k y) (l : (m + 1) * xs.length ≤ M) : ItD b K H M (k + 1) (.ref a) := by
  obtain ⟨ds, g1, g2, g3, g4⟩ := itds i
  exact ⟨_, .tup h g1, by simpa only [smQ] using g2, by simp only [PyData.bulk]; omega, by simp only [PyData.depth]; omega⟩
theorem itd_sc (h : smS v = true) : ItD b K H 100 0 v := let ⟨h1, h2, h3, h4⟩ := dqS h; ⟨_, h1, h2, h3, by omega⟩
/-- a dict of scalars, by keys that are scalars -/
theorem itd_dK {kvs : List (Key × V)} (e : H a = some (.dK kvs)) (h : ∀ q ∈ kvs, smS (kV q.1) = true ∧ smS q.2 = true) (l : kvs.length ≤ 5) : ItD true K H 2000 1 (.ref a) := by
  have go : ∀ {l : List (Key × V)}, (∀ q ∈ l, smS (kV q.1) = true ∧ smS q.2 = true) → ∃ ps : List (PyData × PyData), DqAll true K H (l.map fun q => kV q.1) (ps.map (·.1)) ∧ DqAll true K H (l.map (·.2)) (ps.map (·.2)) ∧ smQK ps = true ∧ PyData.bulkKv ps ≤ 202 * l.length ∧ PyData.depthKv ps = 0 := by
    intro l
    induction l with
    | nil => exact fun _ => ⟨[], .nil, .nil, rfl, Nat.le_refl _, rfl⟩
    | cons q r ih =>
      intro h
      obtain ⟨h1, h2⟩ := h q List.mem_cons_self
      obtain ⟨a1, a2, a3, a4⟩ := dqS (b := true) (K := K) (H := H) h1
      obtain ⟨b1, b2, b3, b4⟩ := dqS (b := true) (K := K) (H := H) h2
      obtain ⟨ps, g1, g2, g3, g4, g5⟩ := ih fun z hz => h z (List.mem_cons_of_mem _ hz)
      refine ⟨(datS (kV q.1), datS q.2) :: ps, .cons a1 g1, .cons b1 g2, by simp only [smQK, a2, b2, g3, Bool.and_true], ?_, ?_⟩
      · simp only [PyData.bulkKv, List.length_cons]
        omega
      · simp only [PyData.depthKv, a4, b4, g5]
        rfl
  obtain ⟨ps, g1, g2, g3, g4, g5⟩ := go h
  exact ⟨.dict ps, .dK rfl e g1 g2, by simpa only [smQ] using g3, by simp only [PyData.bulk]; omega, by simp only [PyData.depth, g5]; omega⟩
end
section
variable {b : Bool} {K : PySem.W.Frag} {H H' : Hp} {v : V} {a : Addr} {xs : List V}
theorem dqSs : ∀ {xs : List V}, xs.all smS = true → DqAll b K H xs (xs.map datS) ∧ smQL (xs.map datS) = true ∧ PyData.bulkAll (xs.map datS) ≤ 101 * xs.length ∧ PyData.depthAll (xs.map datS) = 0
  | [], _ => ⟨.nil, rfl, Nat.le_refl _, rfl⟩
  | y :: ys, h => by
    rw [List.all_cons, Bool.and_eq_true] at h
    obtain ⟨h1, h2, h3, h4⟩ := dqS (b := b) (K := K) (H := H) h.1
    obtain ⟨g1, g2, g3, g4⟩ := dqSs h.2
    rw [List.map_cons]
    refine ⟨.cons h1 g1, by simp only [smQL, h2, g2, Bool.and_true], ?_, ?_⟩
    · simp only [PyData.bulkAll, List.length_cons]
      omega
    · simp only [PyData.depthAll, h4, g4]
      rfl
/-- a list of scalars: its text hangs on them alone -/
theorem shq_lsc (h : SqL K H a xs) (i : xs.all smS = true) (l : xs.length ≤ 3000) : Shq K H (.ref a) (PyData.list (xs.map datS)).shown := by
  obtain ⟨g1, g2, g3, g4⟩ := dqSs (b := false) (K := K) (H := H) i
  exact shq_of (b := false) (.lst (fun z => Bool.noConfusion z) h g1) (by simpa only [smQ] using g2) (by simp only [PyData.bulk]; omega) (by simp only [PyData.depth]; omega)
theorem shq_tsc (h : SqT K H a xs) (i : xs.all smS = true) (l : xs.length ≤ 3000) : Shq K H (.ref a) (PyData.tuple (xs.map datS)).shown := by
  obtain ⟨g1, g2, g3, g4⟩ := dqSs (b := false) (K := K) (H := H) i
  exact shq_of (b := false) (.tup h g1) (by simpa only [smQ] using g2) (by simp only [PyData.bulk]; omega) (by simp only [PyData.depth]; omega)
end
/-! ## 30. odd things -/
/-- a thing that is no number of any use; fp: its lists; m: how many things a list of it has at most -/
inductive OddV (H : Hp) (m : Nat) : List Addr → V → Prop
  | sc {v : V} (h : smS v = true) (hw : ∀ lo hi, 0 ≤ lo → wholeV v lo hi = false) (hc : countV v = false) : OddV H m [] v
  | tup {a : Addr} {xs : List V} (e : H a = some (.tup xs)) (h : ∀ y ∈ xs, smS y = true) (l : xs.length ≤ 5) : OddV H m [] (.ref a)
  | dK {a : Addr} {kvs : List (Key × V)} (e : H a = some (.dK kvs)) (h : ∀ q ∈ kvs, smS (kV q.1) = true ∧ smS q.2 = true) (l : kvs.length ≤ 5) : OddV H m [] (.ref a)
  | lst {a : Addr} {xs : List V} {fp : List Addr} (e : H a = some (.lst xs)) (ns : a ≠ sysModules) (l : xs.length ≤ m) (h : ∀ y ∈ xs, smS y = true ∨ ∃ c ∈ fp, y = .ref c) (na : a ∉ fp) (hf : ∀ c ∈ fp, c ≠ sysModules ∧ ∃ ys, H c = some (.lst ys) ∧ (∀ y ∈ ys, smS y = true) ∧ ys.length ≤ 5) : OddV H m (a :: fp) (.ref a)
section
variable {K : PySem.W.Frag} {H H' : Hp} {m n : Nat} {fp : List Addr} {v : V} {bx : Addr}
/-- what may change -/
theorem OddV.keep (o : OddV H m fp v) (k : ∀ b ∈ fp, H' b = H b) (t : ∀ b xs, H b = some (.tup xs) → H' b = some (.tup xs)) (d : ∀ b kvs, H b = some (.dK kvs) → H' b = some (.dK kvs)) (l : m ≤ n) : OddV H' n fp v := by
  cases o with
  | sc h hw hc => exact .sc h hw hc
  | tup e h l => exact .tup (t _ _ e) h l
  | dK e h l => exact .dK (d _ _ e) h l
  | lst e ns l1 h na hf =>
    exact .lst (by rw [k _ List.mem_cons_self]; exact e) ns (by omega) h na fun c hc => by
      obtain ⟨h1, ys, h2, h3⟩ := hf c hc
      exact ⟨h1, ys, by rw [k _ (List.mem_cons_of_mem _ hc)]; exact h2, h3⟩
/-- the lists among them stand -/
theorem OddV.there (o : OddV H m fp v) : ∀ b ∈ fp, ∃ xs, H b = some (.lst xs) := by
  cases o with
  | sc h hw hc => exact fun b z => nomatch z
  | tup e h l => exact fun b z => nomatch z
  | dK e h l => exact fun b z => nomatch z
  | lst e ns l1 h na hf =>
    intro b hb
    rcases List.mem_cons.mp hb with z | z
    · exact ⟨_, by rw [z]; exact e⟩
    · obtain ⟨_, ys, h2, _⟩ := hf b z
      exact ⟨ys, h2⟩
theorem OddV.same (o : OddV H m fp v) (s : Same H H') : OddV H' m fp v := o.keep (fun b hb => by
    obtain ⟨xs, e⟩ := o.there b hb
    rw [e]; exact s _ _ e) (fun b xs e => s _ _ e) (fun b kvs e => s _ _ e) (Nat.le_refl _)
/-- what stands at bx, a list that is none of these, may change -/
theorem OddV.but {xs : List V} (o : OddV H m fp v) (eb : H bx = some (.lst xs)) (n : bx ∉ fp) (s : But bx H H') : OddV H' m fp v := o.keep (fun b hb => by
    obtain ⟨xs, e⟩ := o.there b hb
    rw [e]; exact s _ _ (fun z => n (z ▸ hb)) e) (fun b xs e => s _ _ (fun z => by rw [z, eb] at e; exact nomatch e) e) (fun b kvs e => s _ _ (fun z => by rw [z, eb] at e; exact nomatch e) e) (Nat.le_refl _)
theorem OddV.wc (o : OddV H m fp v) : WC K H v ∧ countV v = false ∧ ∀ lo hi, 0 ≤ lo → wholeV v lo hi = false := by
  cases o with
  | @sc v h hw hc =>
    refine ⟨?_, hc, hw⟩
    cases v with
    | int i => exact .inl ⟨i, rfl⟩
    | bl b => exact .inr (.inl ⟨b, rfl⟩)
    | non => exact .inr (.inr ⟨isa_non, fun _ _ => rfl, rfl⟩)
    | str z => exact .inr (.inr ⟨isa_str, fun _ _ => rfl, rfl⟩)
    | _ => exact nomatch h
  | tup e h l => exact ⟨.inr (.inr ⟨isa_tup e, fun _ _ => rfl, rfl⟩), rfl, fun _ _ _ => rfl⟩
  | dK e h l => exact ⟨.inr (.inr ⟨isa_dK e, fun _ _ => rfl, rfl⟩), rfl, fun _ _ _ => rfl⟩
  | lst e ns l1 h na hf => exact ⟨.inr (.inr ⟨isa_lst e, fun _ _ => rfl, rfl⟩), rfl, fun _ _ _ => rfl⟩
theorem OddV.it (o : OddV H m fp v) : ItQ true K H (2000 + 700 * m) v := by
  cases o with
  | sc h hw hc => exact ((itd_sc h).q (by decide)).mono (by omega)
  | tup e h l => exact ((itd_tup (m := 100) (k := 0) (M := 2000) (sqT e) (fun y hy => itd_sc (h y hy)) (by omega)).q (by decide)).mono (by omega)
  | dK e h l => exact ((itd_dK e h l).q (by decide)).mono (by omega)
  | lst e ns l1 h na hf =>
    refine ((itd_lst (m := 600) (k := 1) (M := 2000 + 700 * m) (sqL e) (fun _ => ns) (fun y hy => ?_) (by
      have := Nat.mul_le_mul_left 601 l1
      omega)).q (by decide)).mono (by omega)
    rcases h y hy with z | ⟨c, hc, rfl⟩
    · exact (itd_sc z).mono (by omega) (by omega)
    · obtain ⟨n1, ys, h2, h3, h4⟩ := hf c hc
      exact (itd_lst (m := 100) (k := 0) (M := 600) (sqL h2) (fun _ => n1) (fun y hy => itd_sc (h3 y hy)) (by omega)).mono (by omega) (by omega)
/-- a list among them grows by a scalar -/
theorem OddV.grow {a : Addr} {xs : List V} {y : V} (o : OddV H m fp v) (ea : H a = some (.lst xs)) (hy : smS y = true) (h : v = .ref a ∨ a ∉ fp) : OddV (upd H a (.lst (xs ++ [y]))) (m + 1) fp v := by
  rcases h with rfl | h
  · cases o with
    | sc h hw hc => exact nomatch h
    | tup e h l => rw [ea] at e; exact nomatch e
    | dK e h l => rw [ea] at e; exact nomatch e
    | @lst _ xs2 fp2 e ns l1 h na hf =>
      rw [ea] at e
      obtain rfl : xs = xs2 := by injection (Option.some.inj e)
      refine .lst upd_same ns (by rw [List.length_append]; exact Nat.succ_le_succ l1) (fun z hz => ?_) na fun c hc => ?_
      · rcases List.mem_append.mp hz with z1 | z1
        · exact h z z1
        · rw [List.mem_singleton.mp z1]; exact .inl hy
      · obtain ⟨n1, ys, h2, h3⟩ := hf c hc
        exact ⟨n1, ys, by rw [upd_ne (fun q => na (by rw [← q]; exact hc))]; exact h2, h3⟩
  · refine o.keep (fun b hb => upd_ne fun z => h (z ▸ hb)) (fun b ys e => ?_) (fun b kvs e => ?_) (Nat.le_succ _)
    · rw [upd_ne (fun z => by rw [z, ea] at e; exact nomatch e)]; exact e
    · rw [upd_ne (fun z => by rw [z, ea] at e; exact nomatch e)]; exact e
/-- isinstance(v, list) -/
theorem OddV.isl (o : OddV H m fp v) : (IsA K H v "list" false ∧ fp = []) ∨ ∃ a xs, v = .ref a ∧ H a = some (.lst xs) ∧ a ∈ fp ∧ xs.length ≤ m := by
  cases o with
  | @sc v h hw hc =>
    refine .inl ⟨?_, rfl⟩
    cases v with
    | int i => exact isa_int
    | bl b => exact isa_bl
    | non => exact isa_non
    | str z => exact isa_str
    | _ => exact nomatch h
  | tup e h l => exact .inl ⟨isa_tup e, rfl⟩
  | dK e h l => exact .inl ⟨isa_dK e, rfl⟩
  | lst e ns l1 h na hf => exact .inr ⟨_, _, rfl, e, List.mem_cons_self, l1⟩
end
end Bk

namespace Bk
open PySem PySem.Spec PySem.Calls PyProof.Rows L2
/-! ## 31. own exceptions made with keywords, as values -/
section
variable {M : Model} {prog : Program} {w : World} {A : Around} {E : Value → Shared → Prop} {R : Result → Shared → Prop} {h : Heap} {g : Array GenState} {d : Drawn} {t : Nat} {os : OsState}
variable {nm q : Str} {C N : Addr} {bs bm bmB : List Value} {hdct : Bool} {sn : List Str} {sub : List Value} {ab : Bool} {col : Option Bool} {dd : Option Addr} {k0 k1 k2 k3 k5 : Option Value} {B newId i0 IB initId : String} {rest : List Value}
variable {kw : List (Str × Value)}
theorem checkTypeK {Q : Unit → Shared → Prop} (hC : h.get? C = some (excClassObj nm q C N bs bm hdct sn sub ab col dd k0 k1 k2 k3 k5 newId)) (hq : Q () ⟨h, g, d, t, os⟩) : wpAny M A (checkBuiltinCall "type.__call__" ⟨.ref C :: rest, kw⟩) Q E ⟨h, g, d, t, os⟩ := by
  have f3 := tc_sub
  have hT : (⟨h, g, d, t, os⟩ : Shared).TypeIs (.ref C) "type" := ⟨_, hC, rfl⟩
  simp only [checkBuiltinCall, tc_kind, tc_split]
  repeat (any_goals (first | assumption | with_reducible refine wpAny_loadPart_at hC ?_ | with_reducible refine wpAny_onRaise ?_ | with_reducible refine wpAny_map ?_ | wp_step))
theorem checkNewK (F : ExcBaseFacts B newId i0 bmB) (hB : bm.contains (.type B) = true) {Q : Unit → Shared → Prop} (hC : h.get? C = some (excClassObj nm q C N bs bm hdct sn sub ab col dd k0 k1 k2 k3 k5 newId)) (hq : Q () ⟨h, g, d, t, os⟩) :
    wpAny M A (checkBuiltinCall newId ⟨.ref C :: rest, kw⟩) Q E ⟨h, g, d, t, os⟩ := by
  have cB : (Value.ref C :: bm).contains (.type B) = true := by rw [List.contains_cons, hB, Bool.or_true]
  have star := F.noStar
  simp only [checkBuiltinCall, F.newKind, F.newSplit, F.newRow]
  repeat (first | refine wpAny_loadPart_at hC ?_ | (refine wpAny_isSubtype_exc hC ?_; rw [cB]) | refine wpAny_staticBase_exc hC ?_ | refine wpAny_madeBy_exc hC ?_ | simp only [bne_self_eq_false, Bool.false_eq_true, if_false] | wp_step)
  exact hq
theorem newK (F : ExcBaseFacts B newId i0 bmB) (hB : bm.contains (.type B) = true) (hA : bm.contains (.type "AttributeError") = false) (hN : bm.contains (.type "NameError") = false) (hC : h.get? C = some (excClassObj nm q C N bs bm hdct sn sub ab col dd k0 k1 k2 k3 k5 newId)) (hrest : rest.length ≤ sizeLine)
    (hq : R (.ok (.ret (.ref (h.objs.size + 1)))) ⟨(h.push (PySem.W.kdv_tup rest)).push (PySem.HandSPX.excO C h.objs.size), g, d, t, os⟩) : codeAny (model prog w) A (.builtin newId ⟨.ref C :: rest, kw⟩) R ⟨h, g, d, t, os⟩ := by
  have hends := F.ends
  have cB : (Value.ref C :: bm).contains (.type B) = true := by rw [List.contains_cons, hB, Bool.or_true]
  have cA : (Value.ref C :: bm).contains (.type "AttributeError") = false := by rw [List.contains_cons, hA]; rfl
  have cN : (Value.ref C :: bm).contains (.type "NameError") = false := by rw [List.contains_cons, hN]; rfl
  refine codeAny_builtinAt F.entry ?_
  unfold Builtin.«BaseException.__new__»
  refine PySem.wpAt_bind ?_
  show PySem.wpAt _ _ _ (stack >>= _) _ _ _
  refine PySem.wpAt_bind (PySem.wpAt_stack fun p below => PySem.wpAt_of_wpAny ?_)
  wp_walk
  refine PySem.wpAt_of_wpAny ?_
  rw [F.owner]
  repeat (first | with_reducible refine wpAny_madeHere_exc F.canon hC ?_ | with_reducible refine wpAny_loadPart_at hC ?_ | (with_reducible refine wpAny_isSubtype_exc hC ?_; first | rw [cB] | rw [cA] | rw [cN]) | wp_step)
  show R _ _
  rw [Heap.size_push]
  exact hq
theorem typeCallK (F : ExcBaseFacts B newId i0 bmB) (hB : bm.contains (.type B) = true) (hA : bm.contains (.type "AttributeError") = false) (hN : bm.contains (.type "NameError") = false) {fI : Addr} {Q : Fin → Shared → Prop} (hC : h.get? C = some (excClassObj nm q C N bs bm hdct sn sub ab col dd k0 k1 k2 k3 k5 newId))
    (hi : PySem.W.Looks (model prog w) h (typeLookup (.ref C) "__init__") (some (.ref fI))) (hb : ∀ self, PySem.W.Looks (model prog w) h (bindSpecial (.ref fI) self) (.ref fI, [self])) (hrest : rest.length ≤ sizeLine)
    (hq : codeAny (model prog w) A (.call (.ref fI) ⟨.ref (h.objs.size + 1) :: rest, kw⟩) (fun r s' => match r with | .ok (.ret v) => v = .none ∧ Q (.done (.ret (.ref (h.objs.size + 1)))) s' | .ok _ => False | .error e => E e s') ⟨(h.push (PySem.W.kdv_tup rest)).push (PySem.HandSPX.excO C h.objs.size), g, d, t, os⟩) :
    wpAny (model prog w) A (Builtin.«type.__call__» ⟨.ref C :: rest, kw⟩) Q E ⟨h, g, d, t, os⟩ := by
  repeat (first | with_reducible refine wpAny_loadPart_at hC ?_ | with_reducible refine wpAny_madeBy_exc hC ?_ | wp_step)
  refine codeAny_call_builtin_code (Code.quiet_builtin _ F.quiet) (checkNewK F hB hC ?_)
  refine newK F hB hA hN hC hrest ?_
  show wpAny _ _ _ _ _ _
  have k : ∀ c o, h.get? c = some o → ((h.push (PySem.W.kdv_tup rest)).push (PySem.HandSPX.excO C h.objs.size)).get? c = some o := fun c o e => Heap.get?_push_of_some _ (Heap.get?_push_of_some _ e)
  have hC1 := k _ _ hC
  have hget : ((h.push (PySem.W.kdv_tup rest)).push (PySem.HandSPX.excO C h.objs.size)).get? (h.objs.size + 1) = some (PySem.HandSPX.excO C h.objs.size) := by heap_get
  have cC : (Value.ref C :: bm).contains (.ref C) = true := by simp
  have i1 := hi.keeps k
  have b1 := (hb (.ref (h.objs.size + 1))).keeps k
  unfold isInstance
  repeat (first | with_reducible refine wpAny_loadPart_at hget ?_ | (with_reducible refine wpAny_isSubtype_exc hC1 ?_; rw [cC]) | wp_step)
  show wpAny _ _ (typeLookup (.ref C) _) _ _ _
  refine i1.at (wpAny_holding (wpAny_bind (b1.at (wpAny_bind (wpAny_call (codeAny_mono hq fun r s' z => ?_))))))
  rcases r with e | (v | _ | _ | _) <;> first | exact z | exact z.elim | skip
  obtain ⟨rfl, z⟩ := z
  first
    | exact wpAny_pure (wpAny_pure z)
    | (wp_walk; exact z)
theorem callK (F : ExcBaseFacts B newId i0 bmB) (hB : bm.contains (.type B) = true) (hA : bm.contains (.type "AttributeError") = false) (hN : bm.contains (.type "NameError") = false) {fI : Addr} (hC : h.get? C = some (excClassObj nm q C N bs bm hdct sn sub ab col dd k0 k1 k2 k3 k5 newId))
    (hi : PySem.W.Looks (model prog w) h (typeLookup (.ref C) "__init__") (some (.ref fI))) (hb : ∀ self, PySem.W.Looks (model prog w) h (bindSpecial (.ref fI) self) (.ref fI, [self])) (hrest : rest.length ≤ sizeLine)
    (hq : codeAny (model prog w) (A.under (.builtin "type.__call__" ⟨.ref C :: rest, kw⟩)) (.call (.ref fI) ⟨.ref (h.objs.size + 1) :: rest, kw⟩) (PySem.W.InitBack (h.objs.size + 1) R) ⟨(h.push (PySem.W.kdv_tup rest)).push (PySem.HandSPX.excO C h.objs.size), g, d, t, os⟩) :
    codeAny (model prog w) A (.call (.ref C) ⟨rest, kw⟩) R ⟨h, g, d, t, os⟩ := by
  have f1 := PySem.tc_lookup
  have f2 := PySem.tc_bind (.ref C)
  have hTy : (⟨h, g, d, t, os⟩ : Shared).TypeIs (.ref C) "type" := ⟨_, hC, rfl⟩
  refine codeAny_of_tree ?_
  show wpAny _ _ (callAny (.ref C) _) _ _ _
  repeat (any_goals (first | assumption | with_reducible refine wpAny_loadPart_at hC ?_ | wp_step))
  refine ⟨rfl, codeAny_call_builtin_at (Code.quiet_builtin _ (by decide +kernel)) entry_typeCall (checkTypeK hC (typeCallK F hB hA hN hC hi hb hrest ?_))⟩
  refine codeAny_mono hq fun r s' z => ?_
  rcases r with e | (v | _ | _ | _) <;> exact z
end
end Bk

namespace Bk
open PySem PySem.Spec PySem.Calls PyProof.Rows L2
/-! ## 32. own exceptions as values -/
section
open Builtin Builtin.ObjectAttr
variable {prog : Program} {w : World} {A : Around} {E : Value → Shared → Prop} {R : Result → Shared → Prop} {hp : Heap} {g : Array GenState} {d : Drawn} {t : Nat} {os : OsState}
/-- a further field -/
theorem osaT2 {K : PySem.W.Frag} {b : Bs} {name : Str} {tk : Tok} {v : Value} {x C dx : Addr} {fv : Array Value} {cd : ClassData} {m0 : Str → Option Value} {nl : List Str} (X : K.In hp) (hx : hp.get? x = some { cls := .ref C, dict := some dx, data := .fields fv }) (hns : hp.Ns1 dx m0) (hw : Within m0 nl) (hz : nl.length ≤ 1000) (hcd : PySem.W.clsIn K C = some cd)
    (hm : Tail b cd.mro) (hh : cd.hasDict = true) (ha : PySem.W.findIn K (.ref C) name = some none) (hq : ∀ h' tk', (∀ c o, c ≠ dx → hp.get? c = some o → h'.get? c = some o) → h'.Ns1 dx (fun y => if y = name then some v else m0 y) → R (.ok (.ret .none)) ⟨h', g, d, tk', os⟩) :
    codeAny (model prog w) A (.call (.builtin "object.__setattr__") ⟨[.ref x, .str name tk, v], []⟩) R ⟨hp, g, d, t, os⟩ := by
  obtain ⟨oD, _, _, hoD, _, _⟩ := hns.count hw
  have I : PySem.W.InstAt hp x { cls := .ref C, dict := some dx, data := .fields fv } C (some oD) := ⟨hx, rfl, rfl, hoD⟩
  have SF := F.store_object
  have hob : cd.mro.contains (.type "object") = true := (hm.has "object").trans b.obj
  have isO : PySem.W.Looks (model prog w) hp (isInstance (.ref x) (.type "object")) true :=
    I.type.andThen (PySem.W.looks_mroIn X (by unfold PySem.W.mroIn; rw [hcd, Option.bind_some, if_neg (by rw [hm.ne]; decide), hob]))
  have lineL : PySem.W.Looks (model prog w) hp (mroOf (.ref C)) cd.mro := (PySem.W.looks_clsIn X hcd).andThen .now
  have noTaker : PySem.W.Looks (model prog w) hp (storeTaker? none) none := .now
  have clsL : PySem.W.Looks (model prog w) hp (classData C) cd := PySem.W.looks_clsIn X hcd
  refine codeAny_call_builtin SF.slot.plain SF.entry (@PySem.W.check_slot (model prog w) _ _ ⟨hp, g, d, t, os⟩ "object.__setattr__" "object" "__setattr__" (.ref x) [.str name tk, v] [] _ SF.kind SF.split isO (SF.args (.ref x) (.str name tk) v) ?_)
  rw [PySem.W.osa_eq, refuse_eq]
  refine wpAny_bind (wpAny_bind (I.type.at (wpAny_bind (lineL.at ?_))))
  rw [hm.pass]
  refine wpAny_pure (wpAny_bind (I.type.at (wpAny_bind ((PySem.W.looks_findIn X ha).at (wpAny_bind (noTaker.at ?_))))))
  show wpAny _ _ (storeInOwnDict (.ref x) (.ref C) (.str name tk) name v false) _ _ _
  obtain ⟨nm, bs, mro, ns, qn, hd, sn, sb, ab, col, del⟩ := cd
  dsimp only at hh
  subst hh
  unfold storeInOwnDict ownDictForStores
  repeat (first | with_reducible refine PySem.OEX.store_in_old hns hw hz ?_ | with_reducible refine wpAny_loadPart_at hx ?_ | with_reducible refine clsL.at ?_ | wp_step)
  exact fun h' tk' hn' hs => hq h' tk' (fun c o hc ho => (hs.2 c hc).trans ho) hn'
end
section
variable {X : Cx} {pins : List (Addr × Obj)} {σ : L2.St} {H : Hp} {s : Shared} {a C dx : Addr} {f : Str} {y : V} {u : Value} {b : Bs} {fs : List (Str × V)} {Q : Unit → Shared → Prop} {E : Value → Shared → Prop} {A : Around}
theorem ost_oldT (T : OexT X.K b C) (I : Inv X pins σ H s) (e : H a = some (exo a C (some dx))) (ed : H dx = some (exd dx fs)) (hl : fs.length ≤ 900) (hno : PySem.W.findIn X.K (.ref C) f = some none) (ry : RelV y u)
    (h : ∀ s', Inv X pins σ (upd H dx (exd dx ((f, y) :: fs))) s' → Q () s') : wpAny (model X.prog X.w) A (setAttr (.ref a) f u) Q E s := by
  obtain ⟨nm, q, N, bs, bm, sn, sub, ab, col, dd, k0, k1, k2, k3, k5, hC, hbm⟩ := T.cls
  obtain ⟨t1, ho⟩ := exo_at I.hok e
  obtain ⟨mA, hns, rel⟩ := exd_at I.hok ed
  have hw := within_of rel
  obtain ⟨hp, g, d, t, os⟩ := s
  obtain ⟨oD, _, _, hoD, _, _⟩ := hns.count hw
  have hcl : PySem.W.clsIn X.K C = some { name := nm, bases := bs, mro := .ref C :: bm, ns := N, qualname := q, hasDict := true, slotNames := sn, subclasses := sub, abstract := ab, collection := col, hasDel := false } := by
    unfold PySem.W.clsIn
    rw [hC] <;> rfl
  refine PySem.W.set_plain I.kIn (ox := { cls := .ref C, dict := some dx, data := .fields #[.ref t1, .none, .none, .none, .bool false, .none] }) (od := some oD) ⟨ho, rfl, rfl, hoD⟩ T.sa ?_
  refine osaT2 I.kIn ho hns hw (by rw [List.length_map]; omega) hcl (.own C hbm) rfl hno fun h' tk' k hn => ?_
  have hd : ∃ o, h'.get? dx = some o := by
    obtain ⟨o, _, _, e', _⟩ := hn
    exact ⟨o, e'⟩
  exact h _ (I.write (t' := tk') (x := dx) (e := dx) (o := exd dx ((f, y) :: fs)) (by rw [ed]; exact True.intro) (.inl rfl) k hd (exd_ok hn (relO_put ry rel)))
end
/-- self.f = e, a further one -/
def tOsO (K : PySem.W.Frag) (f : Str) (to te : TE) : TS := fun D σ H => te σ H fun y H1 => to σ H1 fun x H2 => ∃ (b : Bs) (a C dx : Addr) (fs : List (Str × V)), x = .ref a ∧ OexT K b C ∧ PySem.W.findIn K (.ref C) f = some none ∧
  H2 a = some (exo a C (some dx)) ∧ H2 dx = some (exd dx fs) ∧ fs.length ≤ 900 ∧ D.nx σ (upd H2 dx (exd dx ((f, y) :: fs)))
theorem ps_osO {X : Cx} {o e : Expr} {to te : TE} {f : Str} {p' pos : Pos} (ho : PE X o to) (he : PE X e te) (hs : swapsWith e (some (.Attribute o f p')) pos.line X.env = pure false := by rfl) : PS X (.Assign [.Attribute o f p'] e pos) (tOsO X.K f to te) := by
  refine ⟨fun pins s σ H D I h => plainObj_wpAny_Assign_Attribute (thn (he.run pins s σ H _ I h) fun v s1 ⟨y, H1, I1, r1, q1⟩ => thn (ho.run pins s1 σ H1 _ I1 q1) fun u s2 ⟨x, H2, I2, r2, b, a, C, dx, fs, ex, T, hno, ea, ed, hl, q⟩ => ?_) hs⟩
  subst ex
  obtain rfl : u = Value.ref a := r2
  exact ost_oldT T I2 ea ed hl hno r1 fun s' J => ⟨σ, _, J, q⟩
/-- C(..), C an own exception class: a value -/
structure CalO (P : Program) (w : World) (K : PySem.W.Frag) (mg : Str → Option Value) (base : Heap) (k n : Nat) (ks : List Str) (C : Addr) (x : Str) (sp : Sp) (gV : List V → List V → List V) : Prop where
  ex : ∃ (b : Bs) (fI : Addr) (fd : FuncData) (ps : List Str) (g : List Value → List Value → List Value), OexT K b C ∧ PySem.W.findIn K (.ref C) "__init__" = some (some (.ref fI)) ∧ PySem.W.typeIn K (.ref fI) = some (.type "function") ∧ FnOk P w K mg base CX0 k fI fd ps sp ∧ KBn K fd ps (n + 1) ks g gV ∧ mg x = some (.ref C)
theorem kbn_of {K : PySem.W.Frag} {fd : FuncData} {ps : List Str} {m : Nat} (b : Binds K fd ps []) (h : ps.length = m) : KBn K fd ps m [] (fun us _ => us) (fun vs _ => vs) :=
  ⟨fun s us ws X l1 l2 => by
    have z := b s us X (by rw [List.append_nil, l1, h])
    rw [List.append_nil] at z
    exact z, fun r1 _ => r1⟩
def tMkO1 (C : Addr) (n m : Nat) (sp : Sp) (gV : List V → List V → List V) (t tk : TA) : TE := fun σ H Q => t σ H fun vs H1 => tk σ H1 fun zs H2 => vs.length = n ∧ zs.length = m ∧ n ≤ 1000 ∧ ∀ a, H2 a = none →
  sp (gV (.ref a :: vs) zs) (upd H2 a (exo a C none)) (fun v H3 => v = .non ∧ Q (.ref a) H3) (fun _ _ _ => False)
section
variable {X : Cx} {k j n : Nat} {ks : List Str} {C : Addr} {x : Str} {sp : Sp} {gV : List V → List V → List V} {t tk : TA} {e : Expr} {es : List Expr} {kws : List Keyword} {p pos : Pos}
theorem run_oeK {b : Bs} {fI : Addr} {fd : FuncData} {ps : List Str} {g : List Value → List Value → List Value} {pins : List (Addr × Obj)} {σ : L2.St} {H : Hp} {s : Shared} {Q : VK} {us ws : List Value} {vs zs : List V} (T : OexT X.K b C) (iC : PySem.W.findIn X.K (.ref C) "__init__" = some (some (.ref fI))) (tI : PySem.W.typeIn X.K (.ref fI) = some (.type "function"))
    (F1 : FnOk X.prog X.w X.K X.mg X.base CX0 k fI fd ps sp) (hr : Room (k + 1) X.A) (hb : KBn X.K fd ps (n + 1) ks g gV) (I1 : Inv X pins σ H s) (r1 : Vals vs us) (rz : Vals zs ws) (l1 : vs.length = n) (l2 : zs.length = ks.length) (hn : n ≤ 1000)
    (q1 : ∀ a, H a = none → sp (gV (.ref a :: vs) zs) (upd H a (exo a C none)) (fun v H3 => v = .non ∧ Q (.ref a) H3) (fun _ _ _ => False)) : wpAny (model X.prog X.w) X.A (call (.ref C) us (ks.zip ws)) (EP X pins σ Q) X.xe s := by
  obtain ⟨nm, q, N, bs, bm, sn, sub, ab, col, dd, k0, k1, k2, k3, k5, hC, hbm⟩ := T.cls
  obtain ⟨hp, g1, dr, tk, os⟩ := s
  have hsz : hp.objs.size ≤ hp.objs.size + 1 := Nat.le_succ _
  have hq := q1 (hp.objs.size + 1) (I1.hok.fresh hsz)
  have hget : ((hp.push (PySem.W.kdv_tup us)).push (PySem.HandSPX.excO C hp.objs.size)).get? (hp.objs.size + 1) = some (PySem.HandSPX.excO C hp.objs.size) := by heap_get
  have kk : ∀ c o, hp.get? c = some o → ((hp.push (PySem.W.kdv_tup us)).push (PySem.HandSPX.excO C hp.objs.size)).get? c = some o := fun c o z => Heap.get?_push_of_some _ (Heap.get?_push_of_some _ z)
  have I2 : Inv X pins σ (upd H (hp.objs.size + 1) (exo (hp.objs.size + 1) C none)) ⟨(hp.push (PySem.W.kdv_tup us)).push (PySem.HandSPX.excO C hp.objs.size), g1, dr, tk, os⟩ :=
    I1.laid (t' := tk) (a := hp.objs.size + 1) (o := exo (hp.objs.size + 1) C none) (h' := (hp.push (PySem.W.kdv_tup us)).push (PySem.HandSPX.excO C hp.objs.size)) kk hsz (exo_ok hget)
  have rr1 : Vals (V.ref (hp.objs.size + 1) :: vs) (Value.ref (hp.objs.size + 1) :: us) := .cons rfl r1
  have e1 : (Value.ref (hp.objs.size + 1) :: us).length = n + 1 := rr1.length.symm.trans (congrArg Nat.succ l1)
  have e2 : ws.length = ks.length := rz.length.symm.trans l2
  have hus : us.length ≤ sizeLine := by rw [← Paired.length r1, l1, sizeLine_eq]; omega
  obtain ⟨i0, bmB, bf⟩ := b.f
  refine wpAny_call (callK bf ((hbm.has _).trans b.hB) ((hbm.has _).trans b.hA) ((hbm.has _).trans b.hN) (I1.kIn _ _ hC) (PySem.W.looks_findIn I1.kIn iC) (fun self => PySem.W.bind_fn I1.kIn self tI) hus
    (codeAny_mono (F1.run _ X.stack _ _ ⟨Value.ref (hp.objs.size + 1) :: us, ks.zip ws⟩ (g (Value.ref (hp.objs.size + 1) :: us) ws) _ _ (fun _ _ _ => False) (hr.make C us (ks.zip ws)) (I2.env0.make C us (ks.zip ws)) (hb.to _ (Value.ref (hp.objs.size + 1) :: us) ws I2.kIn e1 e2) (hb.rel rr1 rz) hq) fun r s' hq' => ?_))
  match r, hq' with
  | .error er, hq' => exact (hq' : False).elim
  | .ok (.ret u), hq' =>
    obtain ⟨v, H2, I3, rv, ev, q2⟩ := I2.after hq'
    subst ev
    exact ⟨rv, .ref (hp.objs.size + 1), H2, I3, rfl, q2⟩
theorem pe_oeP (c : CalO X.prog X.w X.K X.mg X.base k n [] C x sp gV) (hr : Room j X.A) (hk : k + 1 ≤ j) (hg : Gl X x) (ha : PA X (e :: es) t)
    (hdb : (x == ("__debug__" : Str)) = false := by decide) (he : starEach (e :: es) X.env = (false, eval e X.env) :: starEach es X.env := by rfl) (hpl : (backTo pos (starEach es X.env)).any (·.1) = false := by rfl) :
    PE X (.Call (.Name x p) (e :: es) [] pos) (tMkO1 C n 0 sp gV t tNil) := by
  obtain ⟨b, fI, fd, ps, g, T, iC, tI, F1, hb, hm⟩ := c.ex
  refine ⟨fun pins s σ H Q I h => ?_⟩
  refine wpAny_Call_Name_kw (ld_glob I hg hm ?_ hdb)
  refine PySem.W.callWith_K (h₀ := X.base) I.ok.mod.kin T.kC (thn (ha.run pos pins s σ H _ I h) fun us s1 ⟨vs, H1, I1, r1, l1, l2, hn, q1⟩ => ⟨I1.kIn, ?_⟩) he hpl
  exact run_oeK (ws := []) (zs := []) T iC tI F1 (hr.mono hk) hb I1 r1 .nil l1 rfl hn q1
theorem pe_oe0 (c : CalO X.prog X.w X.K X.mg X.base k 0 [] C x sp gV) (hr : Room j X.A) (hk : k + 1 ≤ j) (hg : Gl X x) (hdb : (x == ("__debug__" : Str)) = false := by decide) :
    PE X (.Call (.Name x p) [] [] pos) (tMkO1 C 0 0 sp gV tNil tNil) := by
  obtain ⟨b, fI, fd, ps, g, T, iC, tI, F1, hb, hm⟩ := c.ex
  refine ⟨fun pins s σ H Q I h => ?_⟩
  obtain ⟨_, _, hn, q1⟩ := h
  refine wpAny_Call_Name_kw (ld_glob I hg hm ?_ hdb)
  exact PySem.W.callWith_K0 I.kIn T.kC (run_oeK (us := []) (vs := []) (ws := []) (zs := []) T iC tI F1 (hr.mono hk) hb I .nil .nil rfl rfl hn q1)
theorem pe_oeK (c : CalO X.prog X.w X.K X.mg X.base k 0 ks C x sp gV) (hr : Room j X.A) (hk : k + 1 ≤ j) (hg : Gl X x) (hkw : PK X kws tk)
    (hall : (backToKw pos (keywordEach kws X.env)).all (·.1.isSome) = true := by rfl) (hks : (backToKw pos (keywordEach kws X.env)).filterMap (·.1) = ks := by rfl)
    (hdb : (x == ("__debug__" : Str)) = false := by decide) (hpl : ((backTo pos (starEach [] X.env)).any (·.1) || (backToKw pos (keywordEach kws X.env)).any (·.1.isNone)) = false := by rfl) :
    PE X (.Call (.Name x p) [] kws pos) (tMkO1 C 0 ks.length sp gV tNil tk) := by
  obtain ⟨b, fI, fd, ps, g, T, iC, tI, F1, hb, hm⟩ := c.ex
  refine ⟨fun pins s σ H Q I h => ?_⟩
  refine wpAny_Call_Name_kw (ld_glob I hg hm ?_ hdb)
  refine PySem.W.callWith_KW0 (h₀ := X.base) I.ok.mod.kin T.kC hall ?_ hpl
  refine thn (hkw.run pos pins s σ H _ I h) fun ws s2 ⟨zs, H2, I2, rz, _, l2, hn, q2⟩ => ⟨I2.kIn, ?_⟩
  rw [hks]
  exact run_oeK (us := []) (vs := []) T iC tI F1 (hr.mono hk) hb I2 .nil rz rfl l2 hn q2
end
section
variable {σ : L2.St} {H : Hp} {Q : VK} {C : Addr} {n m : Nat} {sp : Sp} {gV : List V → List V → List V} {t tk : TA}
theorem r_mkO1 (q : t σ H fun vs H1 => tk σ H1 fun zs H2 => vs.length = n ∧ zs.length = m ∧ n ≤ 1000 ∧ ∀ a, H2 a = none → sp (gV (.ref a :: vs) zs) (upd H2 a (exo a C none)) (fun v H3 => v = .non ∧ Q (.ref a) H3) (fun _ _ _ => False)) : tMkO1 C n m sp gV t tk σ H Q := q
end
/-- at a: an exception of the class at D; its own dict, if it has one, holds fs -/
def XVo (H : Hp) (a D : Addr) (d : Option Addr) (fs : List (Str × V)) : Prop := H a = some (exo a D d) ∧ match d with
  | none => fs = []
  | some dx => H dx = some (exd dx fs)
def rIsV (K : PySem.W.Frag) : List V → Hp → VK → Prop := fun xs H Q => ∃ (a D : Addr) (d : Option Addr) (fs : List (Str × V)) (c : V) (u : Value) (b : Bool), xs = [.ref a, c] ∧ XVo H a D d fs ∧ ExcC K D ∧ ClsV c u ∧ PySem.W.kitOne K (.ref D) u = some b ∧ Q (.bl b) H
theorem call_isV {X : Cx} : CallR X (.builtin "isinstance") (rIsV X.K) := by
  intro pins s σ H xs us Q I r h
  obtain ⟨a, D, d, fs, c, u, b, rfl, xv, C, k, e, q⟩ := h
  obtain ⟨u1, u2, rfl, r1, r2⟩ := vals2 r
  have e2 := k.eq r2
  subst e2
  obtain rfl : u1 = Value.ref a := r1
  obtain ⟨ho, hd⟩ := xv
  match d, ho, hd with
  | none, ho, _ =>
    obtain ⟨t1, g⟩ := exo_at I.hok ho
    exact PySem.W.kia_one (PySem.W.bk_kitx (od := none) C.hg C.hk C.hs C.hd C.ha C.hn C.ht C.hm) I.kIn ⟨g, rfl, rfl, trivial⟩ e (fun z => nomatch z) fun tk => ⟨.bl b, H, I.tok tk, rfl, q⟩
  | some dx, ho, hd =>
    obtain ⟨ox, od, mA, J, _, _⟩ := xv_inst I (show XV H a D dx fs from ⟨ho, hd⟩)
    exact PySem.W.kia_one (PySem.W.bk_kitx (ox := ox) (od := some od) C.hg C.hk C.hs C.hd C.ha C.hn C.ht C.hm) I.kIn J e (fun z => nomatch z) fun tk => ⟨.bl b, H, I.tok tk, rfl, q⟩
def tXv (K : PySem.W.Frag) (f : Str) (te : TE) : TE := fun σ H Q => te σ H fun x H1 => ∃ (a D dx : Addr) (fs : List (Str × V)) (v : V), x = .ref a ∧ XV H1 a D dx fs ∧ XfC K D ∧ PySem.W.findIn K (.ref D) f = some none ∧ fs.lookup f = some v ∧ Q v H1
theorem pe_xv {X : Cx} {e : Expr} {te : TE} {pos : Pos} {n : Str} (he : PE X e te) (hb : attributeBase e n X.env (eval e X.env) = eval e X.env := by rfl) : PE X (.Attribute e n pos) (tXv X.K n te) := by
  refine ⟨fun pins s σ H Q I h => attr_of hb (thn (he.run pins s σ H _ I h) fun u s1 ⟨x, H1, I1, rx, a, D, dx, fs, v, ex, xv, T, hno, l, q⟩ => ?_)⟩
  subst ex
  obtain rfl : u = Value.ref a := rx
  obtain ⟨ox, od, mA, J, hl, hr⟩ := xv_inst I1 xv
  obtain ⟨u, hu, ru⟩ := RelO.some_of (v := v) (o := mA n) (by rw [← l]; exact hr n)
  exact HandSPX.exc_get I1.kIn J T.ga T.gg T.exC (PySem.W.findObj_own T.hdC hno rfl (by rw [hl, hu])) (handed_of ru) ⟨v, H1, I1.tok _, ru, q⟩
theorem r_dispV {σ : L2.St} {H : Hp} {Q : VK} {k : Key} {v : V} {i : Nat} (hv : σ[i]? = some (some v)) (q : ∀ p H', H p = none → Same H H' → H' p = some (.dK [(k, v)]) → Q (.ref p) H') : tDisp [(tC (kV k), tVar i)] σ H Q := by
  intro p np
  refine ⟨v, hv, upd_same, [(k, v)], rfl, (by show 1 ≤ 15; decide), ?_⟩
  refine q p _ np (fun b o e => ?_) upd_same
  rw [upd_ne (ne_of_none e np), upd_ne (ne_of_none e np)]
  exact e
end Bk

namespace Bk
open PySem PySem.Spec PyProof.Rows L2
/-! ## 33. l.remove(x) of data -/
def rRemD (K : PySem.W.Frag) : V → List V → Hp → VK → Prop := fun x vs H Q => ∃ (l : Addr) (xs : List V) (ds : List PyData) (y : V) (d : PyData) (j : Nat), x = .ref l ∧ vs = [y] ∧ H l = some (.lst xs) ∧ DpAll K H xs ds ∧ Dp K H y d ∧
  PyData.plainAll ds = true ∧ d.plain = true ∧ d.depth ≤ 60 ∧ SeqAt.dataPlace ds d = some j ∧ Q .non (upd H l (.lst (xs.eraseIdx j)))
theorem mt_removeD {X : Cx} (hu : X.A.units + 64 < cLine) : MtM X "list.remove" (rRemD X.K) := by
  intro pins s σ H x vs v us Q I rx rv h
  obtain ⟨l, xs, ds, y, d, j, rfl, rfl, hH, hxs, hy, pa, pd, hd, hp, q⟩ := h
  cases rx
  obtain ⟨u, rfl, ru⟩ := rv.one
  obtain ⟨z, its, n, r, hl, e⟩ := I.lstM hH
  obtain ⟨as, h4⟩ := Dp.readsAll I ds _ its hxs r
  obtain ⟨bs, r1⟩ := Dp.reads I d y u hy ru
  have hpl : s.heap.IsList l its.toArray := ⟨_, e, rfl, n, rfl⟩
  refine SeqAt.remove_list_data hpl (show ReadsAll s.heap its.toArray.toList ds as from h4) r1 pa pd ?_ hp (by rw [List.size_toArray, ← hl]; exact z) ?_
  · have h2 : min (PyData.depthAll ds) d.depth ≤ d.depth := Nat.min_le_right _ _
    omega
  · refine ⟨.non, _, I.lset (t' := s.toks) (its' := its.eraseIdx j) hH e ?_ (r.eraseIdx j) ?_, rfl, q⟩
    · show its.toArray.eraseIdxIfInBounds j = (its.eraseIdx j).toArray
      rw [List.eraseIdxIfInBounds_toArray]
    · have := List.length_eraseIdx_le xs j
      omega
end Bk

namespace Bk
open PySem PySem.Spec PyProof.Rows L2
/-! ## 34. a list of asks, tuples of a name and a number -/
def askD (p : Str × Nat) : PyData := .tuple [.str p.1, .int p.2]
structure AL (H : Hp) (l : Addr) (ts : List Addr) (as : List (Str × Nat)) : Prop where
  at_ : H l = some (.lst (ts.map V.ref))
  len : ts.length = as.length
  row : ∀ (k : Nat) (t : Addr) (p : Str × Nat), ts[k]? = some t → as[k]? = some p → H t = some (.tup [.str p.1, .int p.2])
theorem eqv_ask (q p : Str × Nat) : PyData.eqv (askD q) (askD p) = decide (q = p) := by
  obtain ⟨a, i⟩ := q
  obtain ⟨b, j⟩ := p
  simp only [askD, PyData.eqv, PyData.eqvAll, Bool.and_true]
  by_cases h : a = b
  · subst h
    by_cases h2 : i = j
    · subst h2
      rw [beq_self_eq_true, beq_self_eq_true, decide_eq_true rfl]
      rfl
    · rw [beq_self_eq_true, decide_eq_false (fun z => h2 (Prod.mk.inj z).2), Bool.true_and]
      exact beq_eq_false_iff_ne.mpr fun z => h2 (by omega)
  · rw [decide_eq_false (fun z => h (Prod.mk.inj z).1), beq_eq_false_iff_ne.mpr h, Bool.false_and]
theorem in_ask (as : List (Str × Nat)) (p : Str × Nat) : ((as.map askD).any fun z => PyData.eqv z (askD p)) = decide (p ∈ as) := by
  rw [List.any_map]
  induction as with
  | nil => exact (decide_eq_false (fun z => nomatch z)).symm
  | cons q r ih =>
    rw [List.any_cons, ih]
    show (PyData.eqv (askD q) (askD p) || _) = _
    rw [eqv_ask]
    by_cases h : q = p
    · subst h
      rw [decide_eq_true rfl, decide_eq_true List.mem_cons_self, Bool.true_or]
    · rw [decide_eq_false h, Bool.false_or]
      exact decide_eq_decide.mpr ⟨List.mem_cons_of_mem _, fun z => (List.mem_cons.mp z).elim (fun w => absurd w.symm h) id⟩
theorem place_ask (as : List (Str × Nat)) (p : Str × Nat) : SeqAt.dataPlace (as.map askD) (askD p) = as.findIdx? (fun q => decide (q = p)) := by
  unfold SeqAt.dataPlace
  rw [List.findIdx?_map]
  congr 1
  funext q
  exact eqv_ask q p
theorem plain_ask (as : List (Str × Nat)) : PyData.plainAll (as.map askD) = true := by
  induction as with
  | nil => rfl
  | cons q r ih => rw [List.map_cons]; simp only [PyData.plainAll, askD, PyData.plain, ih, Bool.and_true]
def asOk (as : List (Str × Nat)) : Prop := ∀ p ∈ as, PyData.strOk p.1 = true
theorem lay_ask {as : List (Str × Nat)} (h : asOk as) : PyData.canLayAll0 (as.map askD) = true ∧ PyData.depthAll (as.map askD) ≤ 1 := by
  induction as with
  | nil => exact ⟨rfl, Nat.zero_le _⟩
  | cons q r ih =>
    have ih := ih fun p hp => h p (List.mem_cons_of_mem _ hp)
    rw [List.map_cons]
    refine ⟨by simp only [PyData.canLayAll0, askD, PyData.canLay0, ih.1, h q List.mem_cons_self, Bool.and_true], ?_⟩
    have h2 := ih.2
    simp only [PyData.depthAll, askD, PyData.depth]
    omega
theorem sh_ask {as : List (Str × Nat)} (ok : asOk as) : SeqAt.shaped (.list (as.map askD)) = true := by
  have h := (lay_ask ok).2
  unfold SeqAt.shaped
  simp only [PyData.canLay0, (lay_ask ok).1, PyData.depth, Bool.true_and, decide_eq_true_eq]
  exact decide_eq_true (Nat.le_trans (Nat.succ_le_succ h) (show 2 ≤ 64 by decide))
theorem sh_ask1 {p : Str × Nat} (h : PyData.strOk p.1 = true) : SeqAt.shaped (askD p) = true := by
  unfold SeqAt.shaped
  simp only [askD, PyData.canLay0, PyData.canLayAll0, PyData.depth, PyData.depthAll, h, Bool.true_and]
  decide
section
variable {K : PySem.W.Frag} {H H' : Hp} {l : Addr} {ts : List Addr} {as : List (Str × Nat)}
theorem dp_ask {t : Addr} {p : Str × Nat} (e : H t = some (.tup [.str p.1, .int p.2])) : Dp K H (.ref t) (askD p) := .tup (sqT e) (.cons (.str _) (.cons (.int _) .nil))
theorem dps_of {ts : List Addr} {as : List (Str × Nat)} (hl : ts.length = as.length) (hr : ∀ (k : Nat) (t : Addr) (p : Str × Nat), ts[k]? = some t → as[k]? = some p → H t = some (.tup [.str p.1, .int p.2])) : DpAll K H (ts.map V.ref) (as.map askD) := by
  induction ts generalizing as with
  | nil =>
    cases as with
    | nil => exact .nil
    | cons _ _ => exact nomatch hl
  | cons t r ih =>
    cases as with
    | nil => exact nomatch hl
    | cons p q =>
      refine .cons (dp_ask (hr 0 t p rfl rfl)) (ih (Nat.succ.inj hl) fun k u v h1 h2 => hr (k + 1) u v h1 h2)
theorem AL.dps (a : AL H l ts as) : DpAll K H (ts.map V.ref) (as.map askD) := dps_of a.len a.row
theorem AL.dp (a : AL H l ts as) : Dp K H (.ref l) (.list (as.map askD)) := .lst (sqL a.at_) a.dps
theorem AL.keep (a : AL H l ts as) (kl : H' l = H l) (kt : ∀ t ∈ ts, H' t = H t) : AL H' l ts as :=
  ⟨by rw [kl]; exact a.at_, a.len, fun k t p h1 h2 => by rw [kt t (List.mem_of_getElem? h1)]; exact a.row k t p h1 h2⟩
theorem AL.same (a : AL H l ts as) (s : Same H H') : AL H' l ts as := ⟨s _ _ a.at_, a.len, fun k t p h1 h2 => s _ _ (a.row k t p h1 h2)⟩
theorem AL.tup (a : AL H l ts as) : ∀ t ∈ ts, ∃ xs, H t = some (.tup xs) := fun t ht => by
  obtain ⟨k, hk⟩ := List.getElem?_of_mem ht
  have h : k < as.length := by rw [← a.len]; exact (List.getElem?_eq_some_iff.mp hk).1
  exact ⟨_, a.row k t _ hk (List.getElem?_eq_getElem h)⟩
/-- x in l -/
theorem AL.mem (a : AL H l ts as) {x : V} {p : Str × Nat} {Q : VK} (ok : asOk as) (hp : PyData.strOk p.1 = true) (h : Dp K H x (askD p)) (q : Q (.bl (decide (p ∈ as))) H) : rInD K x (.ref l) H Q :=
  ⟨_, _, h, a.dp, sh_ask1 hp, sh_ask ok, by rw [in_ask]; exact q⟩
/-- l.append(t) -/
theorem AL.push (a : AL H l ts as) {t : Addr} {p : Str × Nat} (e : H t = some (.tup [.str p.1, .int p.2])) : AL (upd H l (.lst (ts.map V.ref ++ [.ref t]))) l (ts ++ [t]) (as ++ [p]) := by
  have ne : ∀ {u xs}, H u = some (.tup xs) → u ≠ l := fun e z => by rw [z, a.at_] at e; exact nomatch e
  refine ⟨by rw [upd_same, List.map_append]; rfl, by rw [List.length_append, List.length_append, a.len]; rfl, fun k u v h1 h2 => ?_⟩
  by_cases hk : k < ts.length
  · rw [List.getElem?_append_left hk] at h1
    rw [List.getElem?_append_left (by rw [← a.len]; exact hk)] at h2
    have z := a.row k u v h1 h2
    rw [upd_ne (ne z)]
    exact z
  · rw [List.getElem?_append_right (by omega)] at h1
    rw [List.getElem?_append_right (by rw [← a.len]; omega), ← a.len] at h2
    have k0 : k - ts.length = 0 := by
      have := (List.getElem?_eq_some_iff.mp h1).1
      simp at this
      omega
    rw [k0] at h1 h2
    obtain rfl : t = u := Option.some.inj h1
    obtain rfl : p = v := Option.some.inj h2
    rw [upd_ne (ne e)]
    exact e
theorem map_erase {α β : Type} (f : α → β) : ∀ (l : List α) (j : Nat), (l.map f).eraseIdx j = (l.eraseIdx j).map f
  | [], _ => rfl
  | _ :: _, 0 => rfl
  | x :: r, j + 1 => by
    show f x :: (r.map f).eraseIdx j = f x :: (r.eraseIdx j).map f
    rw [map_erase f r j]
/-- l.remove(x) -/
theorem AL.cut (a : AL H l ts as) (j : Nat) : AL (upd H l (.lst ((ts.map V.ref).eraseIdx j))) l (ts.eraseIdx j) (as.eraseIdx j) := by
  have ne : ∀ {u xs}, H u = some (.tup xs) → u ≠ l := fun e z => by rw [z, a.at_] at e; exact nomatch e
  refine ⟨by rw [upd_same, map_erase], by rw [List.length_eraseIdx, List.length_eraseIdx, a.len], fun k u v h1 h2 => ?_⟩
  rw [List.getElem?_eraseIdx] at h1 h2
  split at h1
  · rename_i hk
    rw [if_pos hk] at h2
    have z := a.row k u v h1 h2
    rw [upd_ne (ne z)]
    exact z
  · rename_i hk
    rw [if_neg hk] at h2
    have z := a.row (k + 1) u v h1 h2
    rw [upd_ne (ne z)]
    exact z
end
end Bk

namespace Bk
open PySem PySem.Spec PyProof.Rows L2
/-! ## 34. l.count(x) of data, a text times a number -/
def rCntD (K : PySem.W.Frag) : V → List V → Hp → VK → Prop := fun x vs H Q => ∃ (l : Addr) (xs : List V) (ds : List PyData) (y : V) (d : PyData), x = .ref l ∧ vs = [y] ∧ H l = some (.lst xs) ∧ DpAll K H xs ds ∧ Dp K H y d ∧
  PyData.plainAll ds = true ∧ d.plain = true ∧ d.depth ≤ 60 ∧ Q (.int (ds.countP (fun z => PyData.eqv z d) : Nat)) H
theorem mt_countD {X : Cx} (hu : X.A.units + 64 < cLine) : MtR X "list.count" (rCntD X.K) := by
  intro pins s σ H x vs v us Q I rx rv h
  obtain ⟨l, xs, ds, y, d, rfl, rfl, hH, hxs, hy, pa, pd, hd, q⟩ := h
  cases rx
  obtain ⟨u, rfl, ru⟩ := rv.one
  obtain ⟨z, its, n, r, hl, e⟩ := I.lstM hH
  obtain ⟨as, h4⟩ := Dp.readsAll I ds _ its hxs r
  obtain ⟨bs, r1⟩ := Dp.reads I d y u hy ru
  have hpl : s.heap.IsList l its.toArray := ⟨_, e, rfl, n, rfl⟩
  refine SeqAt.count_list_data hpl (show ReadsAll s.heap its.toArray.toList ds as from h4) r1 pa pd ?_ ?_
  · have h2 : min (PyData.depthAll ds) d.depth ≤ d.depth := Nat.min_le_right _ _
    omega
  · exact ⟨.int (ds.countP (fun z => PyData.eqv z d) : Nat), H, I.tok _, ⟨_, rfl⟩, q⟩
theorem op_mul01 {X : Cx} : OpR X (binaryOp .Mult) (fun x y H Q => ∃ (z : Str) (k : Int), x = .str z ∧ y = .int k ∧ (k = 0 ∨ k = 1) ∧ Q (.str (if k = 0 then Str.empty else z)) H) := by
  intro pins s σ H x y v u Q I rx ry h
  obtain ⟨z, k, rfl, rfl, hk, q⟩ := h
  obtain ⟨t, rfl⟩ := rx
  obtain ⟨t2, rfl⟩ := ry
  rcases hk with rfl | rfl
  · refine P.mul_str (by decide) (fun h => absurd (by decide) h) (fun h => absurd (by decide) h) ?_
    rw [if_pos (by decide)]
    exact ⟨by decide, V.str Str.empty, H, I.tok _, ⟨_, rfl⟩, q⟩
  · refine P.mul_str (by decide) (fun _ h => ?_) (fun _ h => ?_) ?_
    · simp at h
    · simp at h
    · rw [if_neg (by decide), if_pos (by rfl)]
      exact ⟨.str z, H, I, ⟨_, rfl⟩, q⟩
theorem op_eqDK {X : Cx} {K : PySem.W.Frag} (h : X.K = K) (hu : X.A.units + 64 < cLine) : OpR X (compareOp .Eq) (rEqD K) := by
  subst h
  exact op_eqD hu
theorem op_neDK {X : Cx} {K : PySem.W.Frag} (h : X.K = K) (hu : X.A.units + 64 < cLine) : OpR X (compareOp .NotEq) (rNeD K) := by
  subst h
  exact op_neD hu
/-- len of an own object -/
def rLenO (C : Addr) (sp : Sp) : List V → Hp → VK → Prop := fun xs H Q => ∃ (a dx : Addr) (fs : List (Str × V)), xs = [.ref a] ∧ H a = some (.ins C dx fs) ∧ sp [.ref a] H (fun v H' => ∃ n : Nat, v = .int n ∧ (n : Int) < 2 ^ 63 ∧ Q v H') E0
theorem call_lenO {X : Cx} {k j : Nat} {C : Addr} {sp : Sp} (c : CalM X.prog X.w X.K X.mg X.base CX0 k C "__len__" sp) (hr : Room j X.A) (hk : k + 1 ≤ j) : CallR X (.builtin "len") (rLenO C sp) := by
  obtain ⟨f, fd, ps, hm, F, hb⟩ := c.ex
  intro pins s σ H xs us Q I r h
  obtain ⟨a, dx, fs, rfl, e, h⟩ := h
  obtain ⟨u, rfl, ru⟩ := r.one
  obtain rfl : u = Value.ref a := ru
  have w := I.hok a _ e
  unfold L2.ObjOk at w
  obtain ⟨w1, w2, w3, w4, mA, w5, w6, w7⟩ := w
  obtain ⟨m, fr⟩ := I.fr
  obtain ⟨od, hod⟩ : ∃ od, s.heap.get? dx = some od := by
    obtain ⟨es, ep, h1, h2⟩ := w5
    exact ⟨_, h2.1⟩
  refine PySem.W.len_K (C := C) (f := f) (ox := PySem.W.instObj C dx) (od := some od) fr I.ok.mod.kin ⟨w4, rfl, rfl, hod⟩ hm.at_ hm.fn ?_
  have hrr : Room k X.A.in1 := ⟨hr.hd, by have := hr.dp; show X.A.depth + 3 * k + 5 < _; omega, by have := hr.un; show X.A.units + 1 + 16 * k + 200 < _; omega⟩
  have hl : [Value.ref a].length = ps.length := by
    have e1 := F.len _ _ _ _ h
    exact e1
  have bb := hb s [Value.ref a] I.kIn (by rw [List.append_nil]; exact hl)
  rw [List.append_nil] at bb
  refine wpAny_call (codeAny_mono (F.run X.A.in1 X.stack s H ⟨[.ref a], []⟩ [.ref a] [.ref a] _ E0 hrr I.env0.in1 bb (.cons rfl .nil) h) fun rr s3 z => ?_)
  match rr, z with
  | .ok (.ret u), z =>
    obtain ⟨v, H', I3, rv, n, rfl, hn, q⟩ := I.after z
    obtain ⟨t, rfl⟩ := rv
    exact ⟨⟨by omega, hn⟩, V.int n, H', I3.tok _, ⟨_, rfl⟩, q⟩
  | .error u, z => exact z.elim
end Bk

open PySem PySem.Spec PyProof.Rows L2 Bk
local macro_rules | `(tactic| walk_at "go1") => `(tactic| with_reducible first
  | refine r_seq ?_ | refine r_asg ?_ | refine r_name ?_ | refine r_if ?_ | refine r_ret ?_ | refine r_next ?_ | refine r_drop ?_
  | refine r_op ?_ | refine r_un ?_ | refine r_c ?_ | refine r_I0 ?_ | refine r_lstB ?_ | refine r_mth ?_ | refine r_mthK ?_ | refine r_mkS ?_ | refine r_fld ?_ | refine r_par ?_ | refine r_U ?_ | refine r_nil ?_ | refine r_cons ?_ | refine r_call ?_ | refine r_callN ?_ | refine r_for ?_ | refine r_iList ?_ | refine r_iTup ?_ | refine r_iRng1 ?_ | refine r_iRng2 ?_ | refine r_mkV ?_ | refine r_dnewK ?_ | refine r_cb ?_
  | refine r_test ?_ | refine r_tB ?_ | refine r_isb ?_ | refine r_isv ?_ | refine r_not ?_ | refine r_and ?_ | refine r_or ?_ | refine r_andV ?_ | refine r_orV ?_ | refine r_notV ?_ | refine r_chain ?_ | refine r_ifE ?_
  | refine r_lst ?_ | refine r_tup ?_ | refine r_gSub ?_ | refine r_bm ?_
  | (apply r_var; focus (with_unfolding_all rfl))
  | refine iteT ?_ | refine iteF ?_ | refine iteNF ?_ | refine iteNT ?_ | refine r_m1 ?_ | refine r_sl ?_ | refine r_noPart ?_ | refine r_part ?_ | refine r_isi ?_
  | (refine r_eq ?_ ?_; focus (with_unfolding_all (first | rfl | decide))) | (refine r_ne ?_ ?_; focus (with_unfolding_all (first | rfl | decide))))
local macro_rules | `(tactic| walk_at "go") => `(tactic| repeat (walk_at "go1"))
namespace K23
open PySem PySem.Spec PyProof.Rows L2 Bk


def topS (i : Nat) : Stmt := PySem.Challenge.pw_guestsalone_k23_whole_nobody_waits_long.main.body.getD i (.Pass ⟨0, 0, 0, 0⟩)
abbrev s_GuestError_init : Stmt := inClass (topS 1) 0
abbrev s_Missing_init : Stmt := inClass (topS 2) 0
abbrev s_Barred_init : Stmt := inClass (topS 3) 0
abbrev s_NoNumber_init : Stmt := inClass (topS 4) 0
abbrev s_NoName_init : Stmt := inClass (topS 5) 0
abbrev s_Doubled_init : Stmt := inClass (topS 6) 0
abbrev s_NoAsk_init : Stmt := inClass (topS 7) 0
abbrev s_Full_init : Stmt := inClass (topS 8) 0
abbrev s_is_count : Stmt := topS 10
abbrev s_is_name : Stmt := topS 11
abbrev s_all_within : Stmt := topS 12
abbrev s_check_name : Stmt := topS 14
abbrev s_Queue_init : Stmt := inClass (topS 17) 0
abbrev s_Queue_put : Stmt := inClass (topS 17) 1
abbrev s_Queue_serve : Stmt := inClass (topS 17) 2
abbrev s_Queue_leave : Stmt := inClass (topS 17) 3
abbrev s_Queue_of : Stmt := inClass (topS 17) 4
abbrev s_Queue_waiting : Stmt := inClass (topS 17) 5
abbrev s_Queue_comes_at : Stmt := inClass (topS 17) 6
abbrev s_Queue_len : Stmt := inClass (topS 17) 7
abbrev s_Queue_twin : Stmt := inClass (topS 17) 8
abbrev s_check_count : Stmt := topS 18
abbrev s_cell_L : Stmt := topS 20
abbrev s_box_L : Stmt := topS 21
abbrev s_take_L : Stmt := topS 22
abbrev s_names_L : Stmt := topS 23
abbrev s_copied_L : Stmt := topS 24
abbrev s_row_L : Stmt := topS 25
abbrev s_put_L : Stmt := topS 26
abbrev s_served_L : Stmt := topS 27
abbrev s_left_L : Stmt := topS 28
abbrev s_foretold_L : Stmt := topS 29
abbrev s_turn_L : Stmt := topS 30
abbrev s_emptied_L : Stmt := topS 31
abbrev s_law : Stmt := topS 32
theorem sc_GuestError_init : FnScope ["self", "text"] ["self", "text"] (defScope s_GuestError_init) := ⟨rfl, rfl, rfl, by decide +kernel, rfl, by decide +kernel, by decide +kernel⟩
theorem sc_Missing_init : FnScope ["self", "text"] ["self", "text"] (defScope s_Missing_init) := ⟨rfl, rfl, rfl, by decide +kernel, rfl, by decide +kernel, by decide +kernel⟩
theorem sc_Barred_init : FnScope ["self", "text"] ["self", "text"] (defScope s_Barred_init) := ⟨rfl, rfl, rfl, by decide +kernel, rfl, by decide +kernel, by decide +kernel⟩
theorem sc_NoNumber_init : FnScope ["self", "found"] ["self", "found"] (defScope s_NoNumber_init) := ⟨rfl, rfl, rfl, by decide +kernel, rfl, by decide +kernel, by decide +kernel⟩
theorem sc_NoName_init : FnScope ["self", "found"] ["self", "found"] (defScope s_NoName_init) := ⟨rfl, rfl, rfl, by decide +kernel, rfl, by decide +kernel, by decide +kernel⟩
theorem sc_Doubled_init : FnScope ["self", "found"] ["self", "found"] (defScope s_Doubled_init) := ⟨rfl, rfl, rfl, by decide +kernel, rfl, by decide +kernel, by decide +kernel⟩
theorem sc_NoAsk_init : FnScope ["self", "found"] ["self", "found"] (defScope s_NoAsk_init) := ⟨rfl, rfl, rfl, by decide +kernel, rfl, by decide +kernel, by decide +kernel⟩
theorem sc_Full_init : FnScope ["self", "many"] ["self", "many"] (defScope s_Full_init) := ⟨rfl, rfl, rfl, by decide +kernel, rfl, by decide +kernel, by decide +kernel⟩
theorem sc_is_count : FnScope ["thing"] ["thing"] (defScope s_is_count) := ⟨rfl, rfl, rfl, by decide +kernel, rfl, by decide +kernel, by decide +kernel⟩
theorem sc_is_name : FnScope ["thing"] ["thing"] (defScope s_is_name) := ⟨rfl, rfl, rfl, by decide +kernel, rfl, by decide +kernel, by decide +kernel⟩
theorem sc_all_within : FnScope ["text", "first", "last", "sign"] ["text", "first", "last"] (defScope s_all_within) := ⟨rfl, rfl, rfl, by decide +kernel, rfl, by decide +kernel, by decide +kernel⟩
theorem sc_check_name : FnScope ["thing"] ["thing"] (defScope s_check_name) := ⟨rfl, rfl, rfl, by decide +kernel, rfl, by decide +kernel, by decide +kernel⟩
theorem sc_Queue_init : FnScope ["self"] ["self"] (defScope s_Queue_init) := ⟨rfl, rfl, rfl, by decide +kernel, rfl, by decide +kernel, by decide +kernel⟩
theorem sc_Queue_put : FnScope ["self", "name", "number"] ["self", "name", "number"] (defScope s_Queue_put) := ⟨rfl, rfl, rfl, by decide +kernel, rfl, by decide +kernel, by decide +kernel⟩
theorem sc_Queue_serve : FnScope ["self", "name", "numbers"] ["self"] (defScope s_Queue_serve) := ⟨rfl, rfl, rfl, by decide +kernel, rfl, by decide +kernel, by decide +kernel⟩
theorem sc_Queue_leave : FnScope ["self", "name", "numbers", "ask", "other"] ["self", "name"] (defScope s_Queue_leave) := ⟨rfl, rfl, rfl, by decide +kernel, rfl, by decide +kernel, by decide +kernel⟩
theorem sc_Queue_of : FnScope ["self", "name", "ask"] ["self", "name"] (defScope s_Queue_of) := ⟨rfl, rfl, rfl, by decide +kernel, rfl, by decide +kernel, by decide +kernel⟩
theorem sc_Queue_waiting : FnScope ["self"] ["self"] (defScope s_Queue_waiting) := ⟨rfl, rfl, rfl, by decide +kernel, rfl, by decide +kernel, by decide +kernel⟩
theorem sc_Queue_comes_at : FnScope ["self", "name", "number", "ahead", "many"] ["self", "name", "number"] (defScope s_Queue_comes_at) := ⟨rfl, rfl, rfl, by decide +kernel, rfl, by decide +kernel, by decide +kernel⟩
theorem sc_Queue_len : FnScope ["self"] ["self"] (defScope s_Queue_len) := ⟨rfl, rfl, rfl, by decide +kernel, rfl, by decide +kernel, by decide +kernel⟩
theorem sc_Queue_twin : FnScope ["self", "other"] ["self"] (defScope s_Queue_twin) := ⟨rfl, rfl, rfl, by decide +kernel, rfl, by decide +kernel, by decide +kernel⟩
theorem sc_check_count : FnScope ["thing"] ["thing"] (defScope s_check_count) := ⟨rfl, rfl, rfl, by decide +kernel, rfl, by decide +kernel, by decide +kernel⟩
theorem sc_cell_L : FnScope ["_law_script", "_law_k"] ["_law_script", "_law_k"] (defScope s_cell_L) := ⟨rfl, rfl, rfl, by decide +kernel, rfl, by decide +kernel, by decide +kernel⟩
theorem sc_box_L : FnScope ["_law_cell_here"] ["_law_cell_here"] (defScope s_box_L) := ⟨rfl, rfl, rfl, by decide +kernel, rfl, by decide +kernel, by decide +kernel⟩
theorem sc_take_L : FnScope ["_law_box_here", "_law_many", "_law_digit", "_law_one", "_law_two"] ["_law_box_here", "_law_many"] (defScope s_take_L) := ⟨rfl, rfl, rfl, by decide +kernel, rfl, by decide +kernel, by decide +kernel⟩
theorem sc_names_L : FnScope ["_law_box_here", "_law_signs", "_law_stem", "_law_first", "_law_at", "_law_names_here", "_law_k", "_law_name"] ["_law_box_here"] (defScope s_names_L) := ⟨rfl, rfl, rfl, by decide +kernel, rfl, by decide +kernel, by decide +kernel⟩
theorem sc_copied_L : FnScope ["_law_seen", "_law_found", "_law_word", "_law_mark", "_law_name", "_law_some"] ["_law_seen"] (defScope s_copied_L) := ⟨rfl, rfl, rfl, by decide +kernel, rfl, by decide +kernel, by decide +kernel⟩
theorem sc_row_L : FnScope ["_law_seen", "_law_name"] ["_law_seen"] (defScope s_row_L) := ⟨rfl, rfl, rfl, by decide +kernel, rfl, by decide +kernel, by decide +kernel⟩
theorem sc_put_L : FnScope ["_law_queue", "_law_seen", "_law_name", "_law_number", "_law_held", "_law_wide", "_law_mark"] ["_law_queue", "_law_seen", "_law_name", "_law_number"] (defScope s_put_L) := ⟨rfl, rfl, rfl, by decide +kernel, rfl, by decide +kernel, by decide +kernel⟩
theorem sc_served_L : FnScope ["_law_queue", "_law_seen", "_law_told", "_law_name", "_law_other", "_law_mark"] ["_law_queue", "_law_seen"] (defScope s_served_L) := ⟨rfl, rfl, rfl, by decide +kernel, rfl, by decide +kernel, by decide +kernel⟩
theorem sc_left_L : FnScope ["_law_queue", "_law_seen", "_law_name", "_law_mark"] ["_law_queue", "_law_seen", "_law_name"] (defScope s_left_L) := ⟨rfl, rfl, rfl, by decide +kernel, rfl, by decide +kernel, by decide +kernel⟩
theorem sc_foretold_L : FnScope ["_law_box_here", "_law_queue", "_law_seen", "_law_ask", "_law_other", "_law_told", "_law_k", "_law_mark"] ["_law_box_here", "_law_queue", "_law_seen"] (defScope s_foretold_L) := ⟨rfl, rfl, rfl, by decide +kernel, rfl, by decide +kernel, by decide +kernel⟩
theorem sc_turn_L : FnScope ["_law_box_here", "_law_queue", "_law_seen", "_law_names_here", "_law_fresh", "_law_way", "_law_gone", "_law_noisy", "_law_k", "_law_name"] ["_law_box_here", "_law_queue", "_law_seen", "_law_names_here", "_law_fresh"] (defScope s_turn_L) := ⟨rfl, rfl, rfl, by decide +kernel, rfl, by decide +kernel, by decide +kernel⟩
theorem sc_emptied_L : FnScope ["_law_queue", "_law_seen"] ["_law_queue", "_law_seen"] (defScope s_emptied_L) := ⟨rfl, rfl, rfl, by decide +kernel, rfl, by decide +kernel, by decide +kernel⟩
theorem sc_law : FnScope ["_law_script", "_law_box_here", "_law_names_here", "_law_hall", "_law_k", "_law_queue", "_law_seen", "_law_name"] ["_law_script"] (defScope s_law) := ⟨rfl, rfl, rfl, by decide +kernel, rfl, by decide +kernel, by decide +kernel⟩
structure Ad where
  CG : Addr
  fG : Addr
  CK : Addr
  fK : Addr
  CB : Addr
  fB : Addr
  CM : Addr
  fM : Addr
  CN : Addr
  fN : Addr
  CD : Addr
  fD : Addr
  CA : Addr
  fA : Addr
  CF : Addr
  fF : Addr
  CQ : Addr
structure Txt (K : PySem.W.Frag) (mg : Str → Option Value) (A : Ad) : Prop where
  m_isinstance : mg "isinstance" = none
  m_int : mg "int" = none
  m_bool : mg "bool" = none
  m_str : mg "str" = none
  m_list : mg "list" = none
  m_len : mg "len" = none
  m_max : mg "max" = none
  m_min : mg "min" = none
  m_range : mg "range" = none
  m_all : mg "all" = none
  m_tuple : mg "tuple" = none
  m_enumerate : mg "enumerate" = none
  m_dict : mg "dict" = none
  c_MOST_WAITING : ∃ u, mg "MOST_WAITING" = some u ∧ RelV (.int 60) u
  m_ValueError : mg "ValueError" = none
  m_LookupError : mg "LookupError" = none
  m_KeyError : mg "KeyError" = none
  g_GuestError : mg "GuestError" = some (.ref A.CG)
  rd_GuestError : PySem.W.readsIn K A.CG (.type "type") = true
  ga_GuestError : PySem.W.specialIn K (.ref A.CG) "__getattribute__" = some (some (.builtin "type.__getattribute__"))
  at_GuestError : PySem.W.findCls K (.ref A.CG) (.type "type") "__init__" = some (.val (.ref A.fG))
  g_Missing : mg "Missing" = some (.ref A.CK)
  rd_Missing : PySem.W.readsIn K A.CK (.type "type") = true
  ga_Missing : PySem.W.specialIn K (.ref A.CK) "__getattribute__" = some (some (.builtin "type.__getattribute__"))
  at_Missing : PySem.W.findCls K (.ref A.CK) (.type "type") "__init__" = some (.val (.ref A.fK))
  g_Barred : mg "Barred" = some (.ref A.CB)
  rd_Barred : PySem.W.readsIn K A.CB (.type "type") = true
  ga_Barred : PySem.W.specialIn K (.ref A.CB) "__getattribute__" = some (some (.builtin "type.__getattribute__"))
  at_Barred : PySem.W.findCls K (.ref A.CB) (.type "type") "__init__" = some (.val (.ref A.fB))
  vV : PySem.W.findCls K (.type "ValueError") (.type "type") "__init__" = some (.val (.builtin "ValueError.__init__"))
  vL : PySem.W.findCls K (.type "LookupError") (.type "type") "__init__" = some (.val (.builtin "LookupError.__init__"))
  vK : PySem.W.findCls K (.type "KeyError") (.type "type") "__init__" = some (.val (.builtin "KeyError.__init__"))
  g_NoNumber : mg "NoNumber" = some (.ref A.CM)
  xM : ExcA K .ve "found" A.CM A.fM
  g_NoName : mg "NoName" = some (.ref A.CN)
  xN : ExcA K .ve "found" A.CN A.fN
  g_Doubled : mg "Doubled" = some (.ref A.CD)
  xD : ExcA K .ve "found" A.CD A.fD
  g_NoAsk : mg "NoAsk" = some (.ref A.CA)
  xA : ExcA K .ke "found" A.CA A.fA
  g_Full : mg "Full" = some (.ref A.CF)
  xF : ExcA K .le "many" A.CF A.fF
  cl_Queue : Cls K A.CQ
  na_asks : NoAttr K A.CQ "_asks"
  na_row : NoAttr K A.CQ "_row"
section
variable {K : PySem.W.Frag} {mg : Str → Option Value} {A : Ad}
theorem Txt.nf_NoNumber (T : Txt K mg A) : PySem.W.findIn K (.ref A.CM) "found" = some none := T.xM.nf
theorem Txt.nf_NoName (T : Txt K mg A) : PySem.W.findIn K (.ref A.CN) "found" = some none := T.xN.nf
theorem Txt.nf_Doubled (T : Txt K mg A) : PySem.W.findIn K (.ref A.CD) "found" = some none := T.xD.nf
theorem Txt.nf_NoAsk (T : Txt K mg A) : PySem.W.findIn K (.ref A.CA) "found" = some none := T.xA.nf
theorem Txt.nf_Full (T : Txt K mg A) : PySem.W.findIn K (.ref A.CF) "many" = some none := T.xF.nf
theorem Txt.ox_NoNumber (T : Txt K mg A) : OexT K .ve A.CM := T.xM.ox
theorem Txt.i_NoNumber (T : Txt K mg A) : PySem.W.findIn K (.ref A.CM) "__init__" = some (some (.ref A.fM)) := T.xM.i
theorem Txt.t_NoNumber (T : Txt K mg A) : PySem.W.typeIn K (.ref A.fM) = some (.type "function") := T.xM.t
theorem Txt.ox_NoName (T : Txt K mg A) : OexT K .ve A.CN := T.xN.ox
theorem Txt.i_NoName (T : Txt K mg A) : PySem.W.findIn K (.ref A.CN) "__init__" = some (some (.ref A.fN)) := T.xN.i
theorem Txt.t_NoName (T : Txt K mg A) : PySem.W.typeIn K (.ref A.fN) = some (.type "function") := T.xN.t
theorem Txt.ox_Doubled (T : Txt K mg A) : OexT K .ve A.CD := T.xD.ox
theorem Txt.i_Doubled (T : Txt K mg A) : PySem.W.findIn K (.ref A.CD) "__init__" = some (some (.ref A.fD)) := T.xD.i
theorem Txt.t_Doubled (T : Txt K mg A) : PySem.W.typeIn K (.ref A.fD) = some (.type "function") := T.xD.t
theorem Txt.ox_NoAsk (T : Txt K mg A) : OexT K .ke A.CA := T.xA.ox
theorem Txt.i_NoAsk (T : Txt K mg A) : PySem.W.findIn K (.ref A.CA) "__init__" = some (some (.ref A.fA)) := T.xA.i
theorem Txt.t_NoAsk (T : Txt K mg A) : PySem.W.typeIn K (.ref A.fA) = some (.type "function") := T.xA.t
theorem Txt.ox_Full (T : Txt K mg A) : OexT K .le A.CF := T.xF.ox
theorem Txt.i_Full (T : Txt K mg A) : PySem.W.findIn K (.ref A.CF) "__init__" = some (some (.ref A.fF)) := T.xF.i
theorem Txt.t_Full (T : Txt K mg A) : PySem.W.typeIn K (.ref A.fF) = some (.type "function") := T.xF.t
end
/-- all signs lie within -/
def allW (f l : Nat) (z : Str) : Bool := z.cps.toList.all fun c => decide (f ≤ c) && decide (c ≤ l)
def spAllW : Sp := fun vs H Q _ => ∃ (z F L : Str) (f l : Nat), vs = [.str z, .str F, .str L] ∧ F.cps.toList = [f] ∧ L.cps.toList = [l] ∧ z.length ≤ 1000 ∧ ∀ H', Same H H' → Q (.bl (allW f l z)) H'
def nameOk (z : Str) : Bool := decide (1 ≤ z.length ∧ z.length ≤ 8) && allW 97 122 z
def spName (K : PySem.W.Frag) : Sp := fun vs H Q _ => ∃ x : V, vs = [x] ∧ ((∃ z : Str, x = .str z ∧ z.length ≤ 1000 ∧ ∀ H', Same H H' → Q (.bl (nameOk z)) H') ∨ (IsA K H x "str" false ∧ Q (.bl false) H))
def spCkName : Sp := fun vs H Q _ => ∃ z : Str, vs = [.str z] ∧ nameOk z = true ∧ ∀ H', Same H H' → Q .non H'
theorem str_of_name {x : Str} (h : nameOk x = true) : PyData.strOk x = true := by
  have h2 := (Bool.and_eq_true_iff.mp h).2
  unfold PyData.strOk
  rw [← Array.all_toList]
  refine List.all_eq_true.mpr fun c hc => decide_eq_true ?_
  have := List.all_eq_true.mp h2 c hc
  rw [Bool.and_eq_true] at this
  have := of_decide_eq_true this.2
  omega
theorem len_of_name {x : Str} (h : nameOk x = true) : 1 ≤ x.length ∧ x.length ≤ 8 := of_decide_eq_true (Bool.and_eq_true_iff.mp h).1
/-! ### a Queue -/
/-- at o: a Queue whose asks, at la, are as (their tuples at ts), and whose row, at lr, is row -/
structure Qu (C : Addr) (n : Nat) (H : Hp) (o la lr : Addr) (ts : List Addr) (as : List (Str × Nat)) (row : List Str) : Prop where
  ob : ∃ dx fs, H o = some (.ins C dx fs) ∧ fs.lookup ("_asks" : Str) = some (.ref la) ∧ fs.lookup ("_row" : Str) = some (.ref lr) ∧ fs.length ≤ n ∧ ∀ m : Str, (m == ("_asks" : Str)) = false → (m == ("_row" : Str)) = false → fs.lookup m = none
  al : AL H la ts as
  rw_ : H lr = some (.lst (row.map V.str))
  ne : la ≠ lr
  ok : ∀ p ∈ as, nameOk p.1 = true
  small : as.length ≤ 60
  nd : row.Nodup
  mem : ∀ x, x ∈ row ↔ ∃ i, (x, i) ∈ as
def spQuInit (A : Ad) : Sp := fun vs H Q _ => ∃ (x dx : Addr), vs = [.ref x] ∧ H x = some (.ins A.CQ dx []) ∧ ∀ (la lr : Addr) H', But x H H' → Qu A.CQ 2 H' x la lr [] [] [] → H la = none → H lr = none → Q .non H'
/-- the numbers of a guest's asks -/
def ofN (as : List (Str × Nat)) (x : Str) : List Nat := as.filterMap fun p => if p.1 = x then some p.2 else none
/-- a Queue, but for its row -/
structure Qa (C : Addr) (H : Hp) (o la : Addr) (ts : List Addr) (as : List (Str × Nat)) : Prop where
  ob : ∃ dx fs, H o = some (.ins C dx fs) ∧ fs.lookup ("_asks" : Str) = some (.ref la)
  al : AL H la ts as
  ok : ∀ p ∈ as, nameOk p.1 = true
  small : as.length ≤ 60
theorem Qa.same {C : Addr} {H H' : Hp} {o la : Addr} {ts : List Addr} {as : List (Str × Nat)} (q : Qa C H o la ts as) (s : Same H H') : Qa C H' o la ts as := by
  obtain ⟨dx, fs, e, h1⟩ := q.ob
  exact ⟨⟨dx, fs, s _ _ e, h1⟩, q.al.same s, q.ok, q.small⟩
theorem Qu.qa {C : Addr} {n : Nat} {H : Hp} {o la lr : Addr} {ts : List Addr} {as : List (Str × Nat)} {row : List Str} (q : Qu C n H o la lr ts as row) : Qa C H o la ts as := by
  obtain ⟨dx, fs, e, h1, _⟩ := q.ob
  exact ⟨⟨dx, fs, e, h1⟩, q.al, q.ok, q.small⟩
def spOf (A : Ad) : Sp := fun vs H Q _ => ∃ (o la : Addr) (ts : List Addr) (as : List (Str × Nat)) (x : Str), vs = [.ref o, .str x] ∧ Qa A.CQ H o la ts as ∧ nameOk x = true ∧
  ∀ p H', H p = none → Same H H' → H' p = some (.lst ((ofN as x).map fun (i : Nat) => V.int i)) → Q (.ref p) H'
def spLenQ (A : Ad) : Sp := fun vs H Q _ => ∃ (o la lr : Addr) (n : Nat) (ts : List Addr) (as : List (Str × Nat)) (row : List Str), vs = [.ref o] ∧ Qu A.CQ n H o la lr ts as row ∧ Q (.int as.length) H
def spWaiting (A : Ad) : Sp := fun vs H Q _ => ∃ (o la lr : Addr) (n : Nat) (ts : List Addr) (as : List (Str × Nat)) (row : List Str), vs = [.ref o] ∧ Qu A.CQ n H o la lr ts as row ∧ ∀ p H', H p = none → Same H H' → AL H' p ts as → Q (.ref p) H'
def spPut (A : Ad) : Sp := fun vs H Q _ => ∃ (o la lr : Addr) (n : Nat) (ts : List Addr) (as : List (Str × Nat)) (row : List Str) (x : Str) (i : Nat), vs = [.ref o, .str x, .int i] ∧ Qu A.CQ n H o la lr ts as row ∧ nameOk x = true ∧ (x, i) ∉ as ∧ as.length < 60 ∧
  ∀ t H', H t = none → (∀ b u, b ≠ la → b ≠ lr → H b = some u → H' b = some u) → Qu A.CQ n H' o la lr (ts ++ [t]) (as ++ [(x, i)]) (if x ∈ row then row else row ++ [x]) → Q .non H'
theorem Qu.same {C : Addr} {n : Nat} {H H' : Hp} {o la lr : Addr} {ts : List Addr} {as : List (Str × Nat)} {row : List Str} (q : Qu C n H o la lr ts as row) (s : Same H H') : Qu C n H' o la lr ts as row := by
  obtain ⟨dx, fs, e, h1, h2, h3⟩ := q.ob
  exact ⟨⟨dx, fs, s _ _ e, h1, h2, h3⟩, q.al.same s, s _ _ q.rw_, q.ne, q.ok, q.small, q.nd, q.mem⟩
theorem Qu.ao {C : Addr} {n : Nat} {H : Hp} {o la lr : Addr} {ts : List Addr} {as : List (Str × Nat)} {row : List Str} (q : Qu C n H o la lr ts as row) : asOk as := fun p hp => str_of_name (q.ok p hp)
theorem nd_le {α : Type} [DecidableEq α] : ∀ {l m : List α}, l.Nodup → (∀ x ∈ l, x ∈ m) → l.length ≤ m.length
  | [], _, _, _ => Nat.zero_le _
  | a :: r, m, h, s => by
    have h2 := List.nodup_cons.mp h
    have z := nd_le (l := r) (m := m.erase a) h2.2 fun x hx => (List.mem_erase_of_ne (fun e => h2.1 (by rw [← e]; exact hx))).mpr (s x (List.mem_cons_of_mem _ hx))
    have ha := s a List.mem_cons_self
    rw [List.length_erase_of_mem ha] at z
    have : 0 < m.length := List.length_pos_of_mem ha
    rw [List.length_cons]
    omega
theorem Qu.rlen {C : Addr} {n : Nat} {H : Hp} {o la lr : Addr} {ts : List Addr} {as : List (Str × Nat)} {row : List Str} (q : Qu C n H o la lr ts as row) : row.length ≤ as.length := by
  have z := nd_le (m := as.map (·.1)) q.nd fun x hx => by
    obtain ⟨i, hi⟩ := (q.mem x).mp hx
    exact List.mem_map.mpr ⟨_, hi, rfl⟩
  rwa [List.length_map] at z
theorem inV_str {x : Str} {row : List Str} : inV (.str x) (row.map V.str) = decide (x ∈ row) := by
  unfold inV
  rw [List.any_map]
  induction row with
  | nil => exact (decide_eq_false (fun z => nomatch z)).symm
  | cons y r ih =>
    rw [List.any_cons, ih]
    show (decide (_ = _) || _) = _
    by_cases h : x = y
    · subst h
      rw [decide_eq_true rfl, Bool.true_or, decide_eq_true List.mem_cons_self]
    · rw [decide_eq_false (fun z => h (by first | exact z.symm | (injection z with z; first | exact z | exact z.symm))), Bool.false_or]
      exact decide_eq_decide.mpr ⟨List.mem_cons_of_mem _, fun z => (List.mem_cons.mp z).elim (fun w => absurd w h) id⟩
/-- what is left of the row when the first one's ask is served -/
def srvRow (as : List (Str × Nat)) (x : Str) (rest : List Str) : List Str := if 1 < (ofN as x).length then rest ++ [x] else rest
def spServe (A : Ad) : Sp := fun vs H Q _ => ∃ (o la lr : Addr) (n : Nat) (ts : List Addr) (as : List (Str × Nat)) (row : List Str), vs = [.ref o] ∧ Qu A.CQ n H o la lr ts as row ∧ (row = [] → Q .non H) ∧
  ∀ x rest i j t H', row = x :: rest → (ofN as x).head? = some i → as.findIdx? (fun q => decide (q = (x, i))) = some j → H t = none → (∀ b u, b ≠ la → b ≠ lr → H b = some u → H' b = some u) →
    Qu A.CQ n H' o la lr (ts.eraseIdx j) (as.eraseIdx j) (srvRow as x rest) → H' t = some (.tup [.str x, .int i]) → Q (.ref t) H'
theorem mem_ofN {as : List (Str × Nat)} {x : Str} {i : Nat} : i ∈ ofN as x ↔ (x, i) ∈ as := by
  unfold ofN
  rw [List.mem_filterMap]
  refine ⟨fun ⟨p, hp, e⟩ => ?_, fun h => ⟨_, h, if_pos rfl⟩⟩
  by_cases h : p.1 = x
  · rw [if_pos h] at e
    have := Option.some.inj e
    rw [← this, ← h]
    exact hp
  · rw [if_neg h] at e
    exact nomatch e
theorem erase_mem {α : Type} : ∀ {l : List α} {j : Nat} {a b : α}, l[j]? = some a → b ≠ a → (b ∈ l.eraseIdx j ↔ b ∈ l)
  | [], _, _, _, h, _ => nomatch h
  | c :: r, 0, a, b, h, n => by
    obtain rfl := Option.some.inj h
    show b ∈ r ↔ _
    exact ⟨List.mem_cons_of_mem _, fun z => (List.mem_cons.mp z).elim (fun w => absurd w n) id⟩
  | c :: r, j + 1, a, b, h, n => by
    show b ∈ c :: r.eraseIdx j ↔ _
    rw [List.mem_cons, List.mem_cons, erase_mem (l := r) (j := j) h n]
theorem ofN_erase {x : Str} {i : Nat} : ∀ {as : List (Str × Nat)} {j : Nat}, as[j]? = some (x, i) → (ofN (as.eraseIdx j) x).length + 1 = (ofN as x).length
  | [], _, h => nomatch h
  | c :: r, 0, h => by
    obtain rfl := Option.some.inj h
    show (ofN r x).length + 1 = _
    unfold ofN
    rw [List.filterMap_cons]
    simp
  | c :: r, j + 1, h => by
    have z := ofN_erase (as := r) (j := j) h
    show (ofN (c :: r.eraseIdx j) x).length + 1 = _
    unfold ofN at z ⊢
    rw [List.filterMap_cons, List.filterMap_cons]
    by_cases hc : c.1 = x
    · simp only [if_pos hc, List.length_cons]
      omega
    · simp only [if_neg hc]
      exact z
theorem rng_get {α : Type} (d : α) (l : List α) : (List.range l.length).map (fun i => l.getD i d) = l := by
  refine List.ext_getElem (by rw [List.length_map, List.length_range]) fun i h1 h2 => ?_
  rw [List.getElem_map, List.getElem_range, List.getD_eq_getElem?_getD, List.getElem?_eq_getElem h2]
  rfl
theorem rng_fm {α β : Type} (d : α) (l : List α) (f : α → Option β) : (List.range l.length).filterMap (fun i => f (l.getD i d)) = l.filterMap f := by
  conv => rhs; rw [← rng_get d l]
  rw [List.filterMap_map]
  rfl
section
variable {K : PySem.W.Frag} {σ : L2.St} {H : Hp} {Q : VK} {j : Nat} {vs : List Nat} {tt : TT} {te tl : TE} {a : Addr} {xs : List V}
/-- a comprehension over a list, some left out -/
theorem lcLF (p : Nat → Option V) (hv : ∀ QQ : VK, QQ (.ref a) H → tl σ H QQ) (hs : SqL K H a xs) (hl : xs.length ≤ 10000) (hw : ∀ x, wipe ((wipe σ vs).set j (some x)) vs = wipe σ vs)
    (ht : ∀ (i : Nat) (y : V) (H1 : Hp) (Q' : VK) (R' : Hp → Prop), xs[i]? = some y → Same H H1 → (∀ v, p i = some v → ∀ H3, Same H1 H3 → Q' v H3) → (p i = none → ∀ H3, Same H1 H3 → R' H3) →
      tt ((wipe σ vs).set j (some y)) H1 fun b H4 => if b = true then te ((wipe σ vs).set j (some y)) H4 Q' else R' H4)
    (q : ∀ D H', H D = none → Same H H' → H' D = some (.lst ((List.range xs.length).filterMap p)) → Q (.ref D) H') : tLc (iList K tl) (gName j) tt te vs σ H Q := by
  refine hv _ ⟨a, rfl, ⟨xs, hs⟩, fun D hD => ?_⟩
  refine lc_by (g := gName j) (tt := tt) (te := te) (vs := vs) (σ := σ) (Q := Q) walk_list p hD hl (fun _ s => s.seq hs) (fun i x H1 H2 Q' R' hi sm y h1 h2 => ?_) fun H' s e => q D H' hD s e
  obtain ⟨rfl, hx⟩ := y
  exact ⟨hw _, ht i x _ Q' R' hx sm h1 h2⟩
end
end K23

namespace K23
open PySem PySem.Spec PyProof.Rows L2 Bk


section
variable {P : Program} {w : World} {K : PySem.W.Frag} {mg : Str → Option Value} {base : Heap} {A : Ad}
theorem ok_allW {f : Addr} {fd : FuncData} (F : Fun K "_all_within" "_all_within" s_all_within f fd) (T : Txt K mg A) : FnOk P w K mg base CX0 1 f fd ["text", "first", "last"] spAllW := by
  refine F.ok sc_all_within (fun vs H Q E h => ?_) (fun cdv A' outer s H vs Q E hr h => ⟨_, (pss_one (ps_ret (pe_callB (cr_all rfl) (by rfl) T.m_all (by decide +kernel) (pa_cons (pe_lc (own := [("sign", 3)]) rfl sc_all_within.nd (pi_str (pv 0)) (blkOk_by (N := ["text", "first", "last", "sign"]) (sc := defScope s_all_within) (by decide +kernel)) (fun _ _ _ _ _ => (pg_name (i := 3) sc_all_within.nd rfl (.inl rfl))) (fun _ _ _ _ _ => pts_nil) (fun _ _ _ _ _ => (pe_chain op_le_str op_le_str (pv 1) (pv 3) (pv 2)))) pa_nil)))), ?_⟩)
  · obtain ⟨z, F, L, f, l, rfl, _⟩ := h
    rfl
  · obtain ⟨z, F, L, f, l, rfl, hf, hl, hz, q⟩ := h
    refine r_ret (r_allStr (fun c => decide (f ≤ c) && decide (c ≤ l)) rfl (by omega) (fun _ => rfl) (fun c H' Q' _ _ k => ?_) q)
    walk_at "go"
    refine ⟨_, _, rfl, rfl, ?_⟩
    walk_at "go"
    rw [hf, sign_tl, lt1]
    have k' := k H' (Same.refl _)
    by_cases h1 : c < f
    · rw [decide_eq_true h1]
      rw [decide_eq_false (by omega : ¬ f ≤ c)] at k'
      exact k'
    · rw [decide_eq_false h1]
      rw [decide_eq_true (by omega : f ≤ c), Bool.true_and] at k'
      walk_at "go"
      refine ⟨_, _, rfl, rfl, ?_⟩
      rw [hl, sign_tl, lt1, show (!decide (l < c)) = decide (c ≤ l) by by_cases h2 : l < c <;> simp [h2] <;> omega]
      exact k'
theorem ok_name {f : Addr} {fd : FuncData} (F : Fun K "is_name" "is_name" s_is_name f fd) (T : Txt K mg A) (c_all_within : CalD P w K mg base CX0 1 "_all_within" spAllW []) : FnOk P w K mg base CX0 2 f fd ["thing"] (spName K) := by
  refine F.ok sc_is_name (fun vs H Q E h => ?_) (fun cdv A' outer s H vs Q E hr h => ⟨_, (pss_one (ps_ret (pe_and (pe_callB call_is (by rfl) T.m_isinstance (by decide +kernel) (pa_cons (pv 0) (pa_cons (pe_bltn (v := .ty "str") (by rfl) T.m_str (by decide +kernel) rfl) pa_nil))) (pe_and (pe_chain op_le op_le pe_int (pe_callB call_len_str (by rfl) T.m_len (by decide +kernel) (pa_cons (pv 0) pa_nil)) pe_int) (pe_one (pe_cal c_all_within hr (by decide) (by rfl) (pa_cons (pv 0) (pa_cons pe_str (pa_cons pe_str pa_nil))))))))), ?_⟩)
  · obtain ⟨x, rfl, _⟩ := h
    rfl
  · obtain ⟨x, rfl, hx⟩ := h
    walk_at "go"
    rcases hx with ⟨z, rfl, hz, q⟩ | ⟨hx, q⟩
    · refine r_is (isa_str (b := true)) ?_
      walk_at "go"
      refine ⟨z, rfl, Nat.le_trans hz (by decide), ?_⟩
      walk_at "go"
      unfold nameOk at q
      refine ite2 (fun e => ?_) (fun e => ?_)
      · walk_at "go"
        refine ite2 (fun e2 => ?_) (fun e2 => ?_)
        · walk_at "go"
          have e1 := of_decide_eq_true e
          have e3 := of_decide_eq_true e2
          rw [decide_eq_true (by omega : 1 ≤ z.length ∧ z.length ≤ 8), Bool.true_and] at q
          exact ⟨z, _, _, 97, 122, rfl, rfl, rfl, hz, q⟩
        · have e3 := of_decide_eq_false (Bool.eq_false_iff.mpr e2)
          rw [decide_eq_false (by omega : ¬ (1 ≤ z.length ∧ z.length ≤ 8)), Bool.false_and] at q
          walk_at "go"
          exact q _ (Same.refl _)
      · have e3 := of_decide_eq_false (Bool.eq_false_iff.mpr e)
        rw [decide_eq_false (by omega : ¬ (1 ≤ z.length ∧ z.length ≤ 8)), Bool.false_and] at q
        walk_at "go"
        exact q _ (Same.refl _)
    · refine r_is hx ?_
      walk_at "go"
      exact q
theorem ok_count {f : Addr} {fd : FuncData} (F : Fun K "is_count" "is_count" s_is_count f fd) (T : Txt K mg A) : FnOk P w K mg base CX0 1 f fd ["thing"] (spCount K) := by
  refine F.ok sc_is_count (fun vs H Q E h => ?_) (fun cdv A' outer s H vs Q E hr h => ⟨_, (pss_one (ps_ret (pe_and (pe_callB call_is (by rfl) T.m_isinstance (by decide +kernel) (pa_cons (pv 0) (pa_cons (pe_bltn (v := .ty "int") (by rfl) T.m_int (by decide +kernel) rfl) pa_nil))) (pe_and (pe_not (pe_callB call_is (by rfl) T.m_isinstance (by decide +kernel) (pa_cons (pv 0) (pa_cons (pe_bltn (v := .ty "bool") (by rfl) T.m_bool (by decide +kernel) rfl) pa_nil)))) (pe_one (pe_cmpR op_ge (pv 0) pe_int (nomark _))))))), ?_⟩)
  · obtain ⟨x, rfl, _⟩ := h
    rfl
  · obtain ⟨x, rfl, hx, q⟩ := h
    walk_at "go"
    rcases hx with ⟨i, rfl⟩ | ⟨b, rfl⟩ | ⟨hx, _, hn⟩
    · refine r_is (isa_int (b := true)) ?_
      walk_at "go"
      refine r_is (isa_int (b := false)) ?_
      walk_at "go"
      exact q
    · refine r_is (isa_bl (b := true)) ?_
      walk_at "go"
      refine r_is (isa_bl (b := true)) ?_
      walk_at "go"
      exact q
    · refine r_is hx ?_
      walk_at "go"
      rw [hn] at q
      exact q
theorem ok_ckn {f : Addr} {fd fdN : FuncData} (F : Fun K "check_name" "check_name" s_check_name f fd) (T : Txt K mg A) (c_is_name : CalD P w K mg base CX0 2 "is_name" (spName K) [])
    (c_NoName_init : Own P w K mg base CX0 2 A.fN fdN ["self", "found"] (spInitN "found" A.CN)) : FnOk P w K mg base (L2.CX P w) 4 f fd ["thing"] spCkName := by
  refine F.okX sc_check_name (fun vs H Q E h => ?_) (fun cdv A' outer s H vs Q E hr h => ⟨_, (pss_one (ps_if (pt_not (pt_val (pe_cal c_is_name hr (by decide) (by rfl) (pa_cons (pv 0) pa_nil)))) (pss_one (ps_raise rfl (takes_of rfl rfl rfl rfl) (pmk_oexT T.ox_NoName T.i_NoName T.t_NoName c_NoName_init.ok (hr.mono (by decide)) c_NoName_init.bd .nil pass0 (by rfl) T.g_NoName (pa_cons (pv 0) pa_nil)))) pss_nil)), ?_⟩)
  · obtain ⟨z, rfl, _⟩ := h
    rfl
  · obtain ⟨z, rfl, hz, q⟩ := h
    walk_at "go"
    refine ⟨_, rfl, .inl ⟨z, rfl, by have := (len_of_name hz).2; omega, fun H1 s1 => ?_⟩⟩
    rw [hz]
    walk_at "go"
    exact q _ s1
/-! ### the Queue's methods -/
theorem units65 {k : Nat} {A : Around} (r : Room k A) : A.units + 65 < cLine := by
  have := r.un
  omega
theorem ok_len {f : Addr} {fd : FuncData} (F : Fun K "__len__" "Queue.__len__" s_Queue_len f fd) (T : Txt K mg A) : FnOk P w K mg base CX0 1 f fd ["self"] (spLenQ A) := by
  refine F.ok sc_Queue_len (fun vs H Q E h => ?_) (fun cdv A' outer s H vs Q E hr h => ⟨_, (pss_one (ps_ret (pe_callB call_len_seq (by rfl) T.m_len (by decide +kernel) (pa_cons (pe_fld (pv 0) rfl) pa_nil)))), ?_⟩)
  · obtain ⟨o, la, lr, n, ts, as, row, rfl, _⟩ := h
    rfl
  · obtain ⟨o, la, lr, n, ts, as, row, rfl, hQ, q⟩ := h
    obtain ⟨dx, fs, e, hA, hR, hn⟩ := hQ.ob
    walk_at "go"
    refine ⟨_, rfl, o, A.CQ, dx, fs, _, rfl, e, T.cl_Queue, T.na_asks, hA, ?_⟩
    walk_at "go"
    refine ⟨la, _, rfl, .inl (sqL hQ.al.at_), ?_⟩
    rw [List.length_map, hQ.al.len]
    exact q
theorem ok_put {f fD2 fF2 : Addr} {fd fdD fdF : FuncData} (F : Fun K "put" "Queue.put" s_Queue_put f fd) (T : Txt K mg A) (c_check_name : CalX P w K mg base 4 "check_name" spCkName) (c_check_count : CalX P w K mg base 4 "_check_count" (spCheckC K A.CM)) (c_Doubled_init : Own P w K mg base CX0 2 A.fD fdD ["self", "found"] (spInitN "found" A.CD)) (c_Full_init : Own P w K mg base CX0 2 A.fF fdF ["self", "many"] (spInitN "many" A.CF)) : FnOk P w K mg base (L2.CX P w) 5 f fd ["self", "name", "number"] (spPut A) := by
  refine F.okX sc_Queue_put (fun vs H Q E h => ?_) (fun cdv A' outer s H vs Q E hr h => have hu65 := units65 hr; ⟨_, (pss_cons (ps_expr (pe_calX c_check_name hr (by decide) (by rfl) (takes_of rfl rfl rfl rfl) (pa_cons (pv 1) pa_nil)))
    (pss_cons (ps_expr (pe_calX c_check_count hr (by decide) (by rfl) (takes_of rfl rfl rfl rfl) (pa_cons (pv 2) pa_nil)))
    (pss_cons (ps_if (pt_cmpR (op_inD hu65) (pe_tup (pa_cons (pv 1) (pa_cons (pv 2) pa_nil))) (pe_fld (pv 0) rfl) (by rfl)) (pss_one (ps_raise rfl (takes_of rfl rfl rfl rfl) (pmk_oexT T.ox_Doubled T.i_Doubled T.t_Doubled c_Doubled_init.ok (hr.mono (by decide)) c_Doubled_init.bd .nil pass0 (by rfl) T.g_Doubled (pa_cons (pe_tup (pa_cons (pv 1) (pa_cons (pv 2) pa_nil))) pa_nil)))) pss_nil)
    (pss_cons (ps_if (pt_cmpR op_eq (pe_callB call_len_seq (by rfl) T.m_len (by decide +kernel) (pa_cons (pe_fld (pv 0) rfl) pa_nil)) (C8.pe_gc (by rfl) T.c_MOST_WAITING) (nomark _)) (pss_one (ps_raise rfl (takes_of rfl rfl rfl rfl) (pmk_oexT T.ox_Full T.i_Full T.t_Full c_Full_init.ok (hr.mono (by decide)) c_Full_init.bd .nil pass0 (by rfl) T.g_Full (pa_cons (C8.pe_gc (by rfl) T.c_MOST_WAITING) pa_nil)))) pss_nil)
    (pss_cons (ps_expr (pe_bm PySem.F.plainAttrs_list PySem.F.slot_list_append PySem.F.type_list_append mt_append (pe_fld (pv 0) rfl) (pa_cons (pe_tup (pa_cons (pv 1) (pa_cons (pv 2) pa_nil))) pa_nil)))
    (pss_one (ps_if (pt_cmpR op_notIn_seq (pv 1) (pe_fld (pv 0) rfl) (by rfl)) (pss_one (ps_expr (pe_bm PySem.F.plainAttrs_list PySem.F.slot_list_append PySem.F.type_list_append mt_append (pe_fld (pv 0) rfl) (pa_cons (pv 1) pa_nil)))) pss_nil))))))), ?_⟩)
  · obtain ⟨o, la, lr, n, ts, as, row, x, i, rfl, _⟩ := h
    rfl
  · obtain ⟨o, la, lr, n, ts, as, row, x, i, rfl, hQ, hx, nin, hl, q⟩ := h
    obtain ⟨dx, fs, e, hA, hR, hn⟩ := hQ.ob
    walk_at "go"
    refine ⟨x, rfl, hx, fun H1 s1 => ?_⟩
    have hQ1 := hQ.same s1
    have e1 := s1 _ _ e
    walk_at "go"
    refine ⟨_, rfl, .inl ⟨_, rfl⟩, .inl ⟨count_int (by omega), ?_⟩⟩
    walk_at "go"
    refine newT fun t2 H2 n2 s2 e2 => ?_
    walk_at "go"
    refine ⟨_, rfl, o, A.CQ, dx, fs, _, rfl, s2 _ _ e1, T.cl_Queue, T.na_asks, hA, ?_⟩
    have hQ2 := hQ1.same s2
    refine hQ2.al.mem (p := (x, i)) hQ2.ao (str_of_name hx) (dp_ask e2) ?_
    rw [decide_eq_false nin]
    walk_at "go"
    refine ⟨_, rfl, o, A.CQ, dx, fs, _, rfl, s2 _ _ e1, T.cl_Queue, T.na_asks, hA, ?_⟩
    walk_at "go"
    refine ⟨la, _, rfl, .inl (sqL hQ2.al.at_), ?_⟩
    rw [List.length_map, hQ2.al.len]
    walk_at "go"
    refine iteDn (by intro z; injection z with z; omega) ?_
    walk_at "go"
    refine ⟨_, rfl, o, A.CQ, dx, fs, _, rfl, s2 _ _ e1, T.cl_Queue, T.na_asks, hA, ?_⟩
    refine ⟨.inl ⟨rfl, _, sqL hQ2.al.at_⟩, ?_⟩
    walk_at "go"
    refine newT fun t H3 n3 s3 e3 => ?_
    walk_at "go"
    have hQ3 := hQ2.same s3
    refine ⟨la, _, _, rfl, rfl, hQ3.al.at_, by rw [List.length_map, hQ3.al.len, sizeLine_eq]; omega, ?_⟩
    have hP := hQ3.al.push (p := (x, i)) e3
    have nel : la ≠ o := fun z => by rw [← z, hQ.al.at_] at e; exact nomatch e
    have nlr : lr ≠ la := hQ.ne.symm
    have e4 : upd H3 la (.lst (ts.map V.ref ++ [.ref t])) o = some (.ins A.CQ dx fs) := by
      rw [upd_ne nel.symm]
      exact s3 _ _ (s2 _ _ e1)
    have r4 : upd H3 la (.lst (ts.map V.ref ++ [.ref t])) lr = some (.lst (row.map V.str)) := by
      rw [upd_ne nlr]
      exact hQ3.rw_
    have ok4 : ∀ p ∈ as ++ [(x, i)], nameOk p.1 = true := fun p hp => (List.mem_append.mp hp).elim (hQ.ok p) fun z => by
      rw [List.mem_singleton.mp z]
      exact hx
    have fr4 : ∀ b u, b ≠ la → H b = some u → upd H3 la (.lst (ts.map V.ref ++ [.ref t])) b = some u := fun b u nb eb => by
      rw [upd_ne nb]
      exact s3 _ _ (s2 _ _ (s1 _ _ eb))
    have nt : H t = none := ((s1.trans s2).free n3)
    generalize upd H3 la (.lst (ts.map V.ref ++ [.ref t])) = H4 at hP e4 r4 fr4 ⊢
    walk_at "go"
    refine ⟨_, rfl, o, A.CQ, dx, fs, _, rfl, e4, T.cl_Queue, T.na_row, hR, ?_⟩
    refine ⟨lr, _, rfl, .inl (sqL r4), rfl, by rw [List.all_map]; exact List.all_eq_true.mpr fun _ _ => rfl, ?_⟩
    walk_at "go"
    have hm : ∀ (row2 : List Str), (∀ y, y ∈ row2 ↔ y ∈ row ∨ y = x) → ∀ y, y ∈ row2 ↔ ∃ j, (y, j) ∈ as ++ [(x, i)] := fun row2 h y => by
      rw [h y]
      refine ⟨fun z => ?_, fun ⟨j, z⟩ => ?_⟩
      · rcases z with z | rfl
        · obtain ⟨j, hj⟩ := (hQ.mem y).mp z
          exact ⟨j, List.mem_append_left _ hj⟩
        · exact ⟨i, List.mem_append_right _ List.mem_cons_self⟩
      · rcases List.mem_append.mp z with z | z
        · exact .inl ((hQ.mem y).mpr ⟨j, z⟩)
        · exact .inr (Prod.mk.inj (List.mem_singleton.mp z)).1
    have sm : (as ++ [(x, i)]).length ≤ 60 := by
      rw [List.length_append]
      exact hl
    rw [if_pos rfl, inV_str]
    by_cases hin : x ∈ row
    · rw [decide_eq_true hin]
      walk_at "go"
      have z := q t H4 nt (fun b u n1 n2 eb => fr4 b u n1 eb)
      rw [if_pos hin] at z
      exact z ⟨⟨dx, fs, e4, hA, hR, hn⟩, hP, r4, hQ.ne, ok4, sm, hQ.nd, hm row fun y => ⟨.inl, fun w => w.elim id fun w => by rw [w]; exact hin⟩⟩
    · rw [decide_eq_false hin]
      walk_at "go"
      refine ⟨_, rfl, o, A.CQ, dx, fs, _, rfl, e4, T.cl_Queue, T.na_row, hR, ?_⟩
      refine ⟨.inl ⟨rfl, _, sqL r4⟩, ?_⟩
      walk_at "go"
      have hrl := hQ.rlen
      refine ⟨lr, _, _, rfl, rfl, r4, by rw [List.length_map, sizeLine_eq]; omega, ?_⟩
      have z := q t (upd H4 lr (.lst (row.map V.str ++ [.str x]))) nt (fun b u n1 n2 eb => by rw [upd_ne n2]; exact fr4 b u n1 eb)
      rw [if_neg hin] at z
      have nlo : lr ≠ o := fun z => by rw [z, e4] at r4; exact nomatch r4
      refine z ⟨⟨dx, fs, by rw [upd_ne nlo.symm]; exact e4, hA, hR, hn⟩, ?_, by rw [upd_same, List.map_append]; rfl, hQ.ne, ok4, sm, ?_, hm _ fun y => by rw [List.mem_append, List.mem_singleton]⟩
      · refine hP.keep (upd_ne hQ.ne) fun u hu => upd_ne fun z => ?_
        obtain ⟨xs, w⟩ := hP.tup u hu
        rw [z, r4] at w
        exact nomatch w
      · exact List.nodup_append.mpr ⟨hQ.nd, List.pairwise_singleton _ _, fun a ha b hb => by
          rw [List.mem_singleton.mp hb]
          exact fun z => hin (by rw [← z]; exact ha)⟩
end
end K23

namespace K23
open PySem PySem.Spec PyProof.Rows L2 Bk


section
variable {P : Program} {w : World} {K : PySem.W.Frag} {mg : Str → Option Value} {base : Heap} {A : Ad}
theorem ok_of {f : Addr} {fd : FuncData} (F : Fun K "of" "Queue.of" s_Queue_of f fd) (T : Txt K mg A) (c_check_name : CalX P w K mg base 4 "check_name" spCkName) : FnOk P w K mg base (L2.CX P w) 5 f fd ["self", "name"] (spOf A) := by
  refine F.okX sc_Queue_of (fun vs H Q E h => ?_) (fun cdv A' outer s H vs Q E hr h => ⟨_, (pss_cons (ps_expr (pe_calX c_check_name hr (by decide) (by rfl) (takes_of rfl rfl rfl rfl) (pa_cons (pv 1) pa_nil)))
    (pss_one (ps_ret (pe_lc (own := [("ask", 2)]) rfl sc_Queue_of.nd (pi_list (pe_fld (pv 0) rfl)) (blkOk_by (N := ["self", "name", "ask"]) (sc := defScope s_Queue_of) (by decide +kernel)) (fun _ _ _ _ _ => (pg_name (i := 2) sc_Queue_of.nd rfl (.inl rfl))) (fun _ _ _ _ _ => pts_one (pt_cmpR op_eq (pe_ix (ix_tupK (K := K) rfl) (pv 2) pe_int (fun _ _ => rfl)) (pv 1) (nomark _))) (fun _ _ _ _ _ => (pe_ix (ix_tupK (K := K) rfl) (pv 2) pe_int (fun _ _ => rfl))))))), ?_⟩)
  · obtain ⟨o, la, ts, as, x, rfl, _⟩ := h
    rfl
  · obtain ⟨o, la, ts, as, x, rfl, hQ, hx, q⟩ := h
    obtain ⟨dx, fs, e, hA⟩ := hQ.ob
    walk_at "go"
    refine ⟨x, rfl, hx, fun H1 s1 => ?_⟩
    have hQ1 := hQ.same s1
    walk_at "go"
    refine lcLF (fun i => (fun (p : Str × Nat) => if p.1 = x then some (V.int (p.2 : Nat)) else none) (as.getD i ("", 0))) (fun QQ z => ⟨_, rfl, o, A.CQ, dx, fs, _, rfl, s1 _ _ e, T.cl_Queue, T.na_asks, hA, z⟩) (sqL hQ1.al.at_) (by rw [List.length_map, hQ1.al.len]; have := hQ.small; omega) (fun _ => rfl) (fun i y H2 Q' R' hy sm h1 h2 => ?_) fun D H2 nD s2 e2 => ?_
    · have hi : i < as.length := by
        have z := (List.getElem?_eq_some_iff.mp hy).1
        rw [List.length_map, hQ1.al.len] at z
        exact z
      have hti : i < ts.length := by rw [hQ1.al.len]; exact hi
      rw [List.getElem?_map, List.getElem?_eq_getElem hti] at hy
      obtain rfl := Option.some.inj hy
      have et := sm _ _ (hQ1.al.row i _ _ (List.getElem?_eq_getElem hti) (List.getElem?_eq_getElem hi))
      have hg : as.getD i ("", 0) = as[i] := by
        rw [List.getD_eq_getElem?_getD, List.getElem?_eq_getElem hi]
        rfl
      rw [hg] at h1 h2
      walk_at "go"
      refine r_ixT (sqT et) (v := .str as[i].1) rfl ?_
      walk_at "go"
      by_cases hp : as[i].1 = x
      · rw [decide_eq_true (by rw [hp])]
        walk_at "go"
        exact r_ixT (sqT et) (v := .int as[i].2) rfl (h1 _ (if_pos hp) _ (Same.refl _))
      · rw [decide_eq_false (fun z => hp (by injection z))]
        walk_at "go"
        exact h2 (if_neg hp) _ (Same.refl _)
    · refine q D H2 (s1.free nD) (s1.trans s2) ?_
      have z := rng_fm ((Str.ofString "", 0) : Str × Nat) as (fun p => if p.1 = x then some (V.int (p.2 : Nat)) else none)
      rw [e2, List.length_map, hQ1.al.len]
      refine congrArg (fun l => some (HO.lst l)) (z.trans ?_)
      unfold ofN
      rw [List.map_filterMap]
      refine congrArg (List.filterMap · as) (funext fun p => ?_)
      by_cases h : p.1 = x
      · rw [if_pos h, if_pos h]; rfl
      · rw [if_neg h, if_neg h]; rfl
theorem ok_waiting {f : Addr} {fd : FuncData} (F : Fun K "waiting" "Queue.waiting" s_Queue_waiting f fd) (T : Txt K mg A) : FnOk P w K mg base CX0 1 f fd ["self"] (spWaiting A) := by
  refine F.ok sc_Queue_waiting (fun vs H Q E h => ?_) (fun cdv A' outer s H vs Q E hr h => ⟨_, (pss_one (ps_ret (pe_callTy call_list_of (by rfl) T.m_list (by decide +kernel) (pa_cons (pe_fld (pv 0) rfl) pa_nil)))), ?_⟩)
  · obtain ⟨o, la, lr, n, ts, as, row, rfl, _⟩ := h
    rfl
  · obtain ⟨o, la, lr, n, ts, as, row, rfl, hQ, q⟩ := h
    obtain ⟨dx, fs, e, hA, hR, hn⟩ := hQ.ob
    walk_at "go"
    refine ⟨_, rfl, o, A.CQ, dx, fs, _, rfl, e, T.cl_Queue, T.na_asks, hA, ?_⟩
    walk_at "go"
    refine ⟨la, _, rfl, .inl (sqL hQ.al.at_), fun p np => ?_⟩
    have s := same_upd (o := .lst (ts.map V.ref)) np
    exact q p _ np s ⟨upd_same, hQ.al.len, fun k t u h1 h2 => s _ _ (hQ.al.row k t u h1 h2)⟩
theorem ok_init {f : Addr} {fd : FuncData} (F : Fun K "__init__" "Queue.__init__" s_Queue_init f fd) (T : Txt K mg A) : FnOk P w K mg base CX0 1 f fd ["self"] (spQuInit A) := by
  refine F.ok sc_Queue_init (fun vs H Q E h => ?_) (fun cdv A' outer s H vs Q E hr h => ⟨_, (pss_cons (ps_fld (pv 0) (pe_lstB pa_nil) rfl)
    (pss_one (ps_fld (pv 0) (pe_lstB pa_nil) rfl))), ?_⟩)
  · obtain ⟨x, dx, rfl, _⟩ := h
    rfl
  · obtain ⟨x, dx, rfl, ob, q⟩ := h
    refine r_lstB (r_nil (newLB fun la H1 n1 g1 s1 e1 => ?_))
    walk_at "go"
    refine ⟨x, A.CQ, dx, [], rfl, s1 _ _ ob, T.cl_Queue, T.na_asks, (by decide), ?_⟩
    show sFld K (tVar 0) (tLstB tNil) "_row" _ _ (upd H1 x (.ins A.CQ dx [("_asks", .ref la)]))
    have nx : la ≠ x := (ne_of_none ob n1).symm
    have e2 : upd H1 x (.ins A.CQ dx [("_asks", .ref la)]) la = some (.lst []) := by rw [upd_ne nx]; exact e1
    have b2 : But x H (upd H1 x (.ins A.CQ dx [("_asks", .ref la)])) := fun b o nb eb => by rw [upd_ne nb]; exact s1 _ _ eb
    have o2 : upd H1 x (.ins A.CQ dx [("_asks", .ref la)]) x = some (.ins A.CQ dx [("_asks", .ref la)]) := upd_same
    generalize upd H1 x (.ins A.CQ dx [("_asks", .ref la)]) = H2 at e2 b2 o2 ⊢
    refine r_lstB (r_nil (newLB fun lr H3 n3 g3 s3 e3 => ?_))
    walk_at "go"
    refine ⟨x, A.CQ, dx, _, rfl, s3 _ _ o2, T.cl_Queue, T.na_row, Nat.le_of_ble_eq_true rfl, ?_⟩
    have nx3 : lr ≠ x := (ne_of_none o2 n3).symm
    have nlr : la ≠ lr := ne_of_none e2 n3
    have nr : H lr = none := by
      cases z : H lr with
      | none => rfl
      | some o => rw [b2 _ _ nx3 z] at n3; exact nomatch n3
    refine q la lr _ (fun b o nb eb => by rw [upd_ne nb]; exact s3 _ _ (b2 _ _ nb eb)) ⟨⟨dx, _, upd_same, ?_, ?_, Nat.le_of_ble_eq_true rfl, fun m h1 h2 => ?_⟩, ⟨by rw [upd_ne nx]; exact s3 _ _ e2, rfl, fun k t p h1 h2 => nomatch h1⟩, by rw [upd_ne nx3]; exact e3, nlr, (fun p z => nomatch z), (by decide), List.nodup_nil, fun y => ⟨fun z => (nomatch z), fun ⟨_, z⟩ => (nomatch z)⟩⟩ n1 nr
    · rfl
    · rfl
    · show List.lookup m [(("_asks" : Str), V.ref la), ("_row", .ref lr)] = none
      rw [List.lookup_cons, h1, List.lookup_cons, h2]
      rfl
end
end K23

namespace K23
open PySem PySem.Spec PyProof.Rows L2 Bk


section
variable {P : Program} {w : World} {K : PySem.W.Frag} {mg : Str → Option Value} {base : Heap} {A : Ad}
theorem ok_serve {f : Addr} {fd : FuncData} (F : Fun K "serve" "Queue.serve" s_Queue_serve f fd) (T : Txt K mg A) (c_Queue_of : CalM P w K mg base (L2.CX P w) 5 A.CQ "of" (spOf A)) : FnOk P w K mg base CX0 6 f fd ["self"] (spServe A) := by
  refine F.ok sc_Queue_serve (fun vs H Q E h => ?_) (fun cdv A' outer s H vs Q E hr h => have hu64 := hr.units; ⟨_, (pss_cons (ps_if (pt_not (pt_truth (pe_fld (pv 0) rfl) (fun _ => rfl))) (pss_one (ps_ret pe_non)) pss_nil)
    (pss_cons (ps_set (i := 1) sc_Queue_serve.nd rfl (.inl rfl) (pe_bm PySem.F.plainAttrs_list PySem.F.slot_list_pop PySem.F.type_list_pop mt_popAt (pe_fld (pv 0) rfl) (pa_cons pe_int pa_nil)))
    (pss_cons (ps_set (i := 2) sc_Queue_serve.nd rfl (.inl rfl) (pe_mth (pv 0) T.cl_Queue c_Queue_of hr (by decide) psY (pa_cons (pv 1) pa_nil)))
    (pss_cons (ps_expr (pe_bm PySem.F.plainAttrs_list PySem.F.slot_list_remove PySem.F.type_list_remove (mt_removeD hu64) (pe_fld (pv 0) rfl) (pa_cons (pe_tup (pa_cons (pv 1) (pa_cons (pe_ix ix_list (pv 2) pe_int (fun _ _ => rfl)) pa_nil))) pa_nil)))
    (pss_cons (ps_if (pt_cmpR op_gt (pe_callB call_len_seq (by rfl) T.m_len (by decide +kernel) (pa_cons (pv 2) pa_nil)) pe_int (nomark _)) (pss_one (ps_expr (pe_bm PySem.F.plainAttrs_list PySem.F.slot_list_append PySem.F.type_list_append mt_append (pe_fld (pv 0) rfl) (pa_cons (pv 1) pa_nil)))) pss_nil)
    (pss_one (ps_ret (pe_tup (pa_cons (pv 1) (pa_cons (pe_ix ix_list (pv 2) pe_int (fun _ _ => rfl)) pa_nil)))))))))), ?_⟩)
  · obtain ⟨o, la, lr, n, ts, as, row, rfl, _⟩ := h
    rfl
  · obtain ⟨o, la, lr, n, ts, as, row, rfl, hQ, q0, q⟩ := h
    obtain ⟨dx, fs, e, hA, hR, hn⟩ := hQ.ob
    walk_at "go"
    refine ⟨_, rfl, o, A.CQ, dx, fs, _, rfl, e, T.cl_Queue, T.na_row, hR, ?_⟩
    refine ⟨!(row.map V.str).isEmpty, .inl ⟨_, sqL hQ.rw_, rfl⟩, ?_⟩
    cases row with
    | nil =>
      walk_at "go"
      exact q0 rfl
    | cons x rest =>
      have hx : nameOk x = true := by
        obtain ⟨i, hi⟩ := (hQ.mem x).mp List.mem_cons_self
        exact hQ.ok _ hi
      walk_at "go"
      refine ⟨_, rfl, o, A.CQ, dx, fs, _, rfl, e, T.cl_Queue, T.na_row, hR, ?_⟩
      refine ⟨.inl ⟨rfl, _, sqL hQ.rw_⟩, ?_⟩
      walk_at "go"
      refine ⟨lr, _, 0, 0, .str x, rfl, rfl, hQ.rw_, by decide, by decide, by unfold seqIndex?; rw [List.map_cons, List.length_cons]; simp, rfl, ?_⟩
      have nlo : lr ≠ o := fun z => by rw [← z, hQ.rw_] at e; exact nomatch e
      have e1 : upd H lr (.lst (rest.map V.str)) o = some (.ins A.CQ dx fs) := by rw [upd_ne nlo.symm]; exact e
      have al1 : AL (upd H lr (.lst (rest.map V.str))) la ts as := hQ.al.keep (upd_ne hQ.ne) fun u hu => upd_ne fun z => by
        obtain ⟨xs, w⟩ := hQ.al.tup u hu
        rw [z, hQ.rw_] at w
        exact nomatch w
      have r1 : upd H lr (.lst (rest.map V.str)) lr = some (.lst (rest.map V.str)) := upd_same
      have f1 : ∀ b u, b ≠ lr → H b = some u → upd H lr (.lst (rest.map V.str)) b = some u := fun b u nb eb => by rw [upd_ne nb]; exact eb
      show gName 1 _ _ (upd H lr (.lst (rest.map V.str))) _
      generalize upd H lr (.lst (rest.map V.str)) = H1 at e1 al1 r1 f1 ⊢
      walk_at "go"
      refine ⟨o, dx, fs, rfl, e1, hn.2 _ (by decide +kernel) (by decide +kernel), ?_⟩
      walk_at "go"
      refine ⟨o, la, ts, as, x, rfl, ⟨⟨dx, fs, e1, hA⟩, al1, hQ.ok, hQ.small⟩, hx, fun p H2 np s2 ep => ?_⟩
      walk_at "go"
      obtain ⟨i, hi⟩ := (hQ.mem x).mp List.mem_cons_self
      have hne : ofN as x ≠ [] := fun z => by
        have w := mem_ofN.mpr hi
        rw [z] at w
        exact nomatch w
      clear hi i
      obtain ⟨i, more, hof⟩ : ∃ i more, ofN as x = i :: more := by
        cases z : ofN as x with
        | nil => exact absurd z hne
        | cons i more => exact ⟨i, more, rfl⟩
      have hmem : (x, i) ∈ as := mem_ofN.mp (by rw [hof]; exact List.mem_cons_self)
      obtain ⟨j, hj⟩ : ∃ j, as.findIdx? (fun q => decide (q = (x, i))) = some j := by
        cases z : as.findIdx? (fun q => decide (q = (x, i))) with
        | some j => exact ⟨j, rfl⟩
        | none => exact absurd (decide_eq_true rfl) (by rw [List.findIdx?_eq_none_iff.mp z _ hmem]; exact Bool.false_ne_true)
      rw [hof, List.map_cons] at ep
      have al2 := al1.same s2
      refine ⟨_, rfl, o, A.CQ, dx, fs, _, rfl, s2 _ _ e1, T.cl_Queue, T.na_asks, hA, ?_⟩
      refine ⟨.inl ⟨rfl, _, sqL al2.at_⟩, ?_⟩
      walk_at "go"
      refine r_ixL (sqL ep) (v := .int i) (atI_nat (j := 0) rfl) ?_
      walk_at "go"
      refine newT fun t2 H3 n3 s3 e3 => ?_
      walk_at "go"
      have al3 := al2.same s3
      refine ⟨la, _, _, _, _, j, rfl, rfl, al3.at_, al3.dps, dp_ask (p := (x, i)) e3, plain_ask as, by simp only [askD, PyData.plain, PyData.plainAll]; rfl, by simp only [askD, PyData.depth, PyData.depthAll]; decide, by rw [place_ask]; exact hj, ?_⟩
      have hjx : as[j]? = some (x, i) := by
        obtain ⟨h1, h2, _⟩ := List.findIdx?_eq_some_iff_getElem.mp hj
        rw [List.getElem?_eq_getElem h1, of_decide_eq_true h2]
      have hjl : j < as.length := (List.getElem?_eq_some_iff.mp hjx).1
      have hP := al3.cut j
      have nel : la ≠ o := fun z => by rw [← z, hQ.al.at_] at e; exact nomatch e
      have e4 : upd H3 la (.lst ((ts.map V.ref).eraseIdx j)) o = some (.ins A.CQ dx fs) := by
        rw [upd_ne nel.symm]
        exact s3 _ _ (s2 _ _ e1)
      have r4 : upd H3 la (.lst ((ts.map V.ref).eraseIdx j)) lr = some (.lst (rest.map V.str)) := by
        rw [upd_ne hQ.ne.symm]
        exact s3 _ _ (s2 _ _ r1)
      have f4 : ∀ b u, b ≠ la → b ≠ lr → H b = some u → upd H3 la (.lst ((ts.map V.ref).eraseIdx j)) b = some u := fun b u n1 n2 eb => by
        rw [upd_ne n1]
        exact s3 _ _ (s2 _ _ (f1 _ _ n2 eb))
      have nt0 : ∀ {t : Addr}, upd H3 la (.lst ((ts.map V.ref).eraseIdx j)) t = none → H t = none := fun {t} z => by
        cases w : H t with
        | none => rfl
        | some u =>
          by_cases t1 : t = la
          · rw [t1, upd_same] at z; exact nomatch z
          · by_cases t2 : t = lr
            · rw [t2, r4] at z; exact nomatch z
            · rw [f4 _ _ t1 t2 w] at z; exact nomatch z
      have pl : p ≠ la := ne_of_none al1.at_ np |>.symm
      have p4 : upd H3 la (.lst ((ts.map V.ref).eraseIdx j)) p = some (.lst (V.int i :: more.map fun (k : Nat) => V.int k)) := by
        rw [upd_ne pl]
        exact s3 _ _ ep
      generalize upd H3 la (.lst ((ts.map V.ref).eraseIdx j)) = H4 at hP e4 r4 f4 p4 nt0 ⊢
      walk_at "go"
      refine ⟨p, _, rfl, .inl (sqL p4), ?_⟩
      have hlen : (ofN as x).length = more.length + 1 := by rw [hof]; rfl
      have her := ofN_erase hjx
      have ok5 : ∀ q ∈ as.eraseIdx j, nameOk q.1 = true := fun q hq => hQ.ok q (List.mem_of_mem_eraseIdx hq)
      have sm5 : (as.eraseIdx j).length ≤ 60 := Nat.le_trans (List.length_eraseIdx_le as j) hQ.small
      have ndr := List.nodup_cons.mp hQ.nd
      have hoth : ∀ y, y ≠ x → ((∃ k, (y, k) ∈ as.eraseIdx j) ↔ ∃ k, (y, k) ∈ as) := fun y ny => by
        constructor
        · exact fun ⟨k, h⟩ => ⟨k, List.mem_of_mem_eraseIdx h⟩
        · exact fun ⟨k, h⟩ => ⟨k, (erase_mem hjx (fun z => ny (Prod.mk.inj z).1)).mpr h⟩
      by_cases hmore : more = []
      · have hsr : srvRow as x rest = rest := if_neg (by rw [hlen, hmore]; decide)
        have h0 : ofN (as.eraseIdx j) x = [] := by
          rw [hlen, hmore] at her
          exact List.eq_nil_of_length_eq_zero (by simpa using her)
        subst hmore
        walk_at "go"
        rw [show decide (1 < (((V.int (i : Int)) :: List.map (fun (k : Nat) => V.int k) []).length : Int)) = false from rfl]
        walk_at "go"
        refine r_ixL (sqL p4) (v := .int i) (atI_nat (j := 0) rfl) ?_
        walk_at "go"
        refine newT fun t H5 n5 s5 e5 => ?_
        refine q x rest i j t H5 rfl (by rw [hof]; rfl) hj (nt0 n5) (fun b u n1 n2 eb => s5 _ _ (f4 b u n1 n2 eb)) ?_ e5
        rw [hsr]
        refine Qu.same ⟨⟨dx, fs, e4, hA, hR, hn⟩, hP, r4, hQ.ne, ok5, sm5, ndr.2, fun y => ?_⟩ s5
        by_cases hy : y = x
        · subst hy
          refine ⟨fun z => absurd z ndr.1, fun ⟨k, z⟩ => ?_⟩
          have w := mem_ofN.mpr z
          rw [h0] at w
          exact nomatch w
        · rw [hoth y hy, ← hQ.mem y, List.mem_cons]
          exact ⟨.inr, fun z => z.elim (fun w => absurd w hy) id⟩
      · have hml : 0 < more.length := by
          cases more with
          | nil => exact absurd rfl hmore
          | cons _ _ => exact Nat.succ_pos _
        have hsr : srvRow as x rest = rest ++ [x] := if_pos (by rw [hlen]; omega)
        have h0 : ofN (as.eraseIdx j) x ≠ [] := fun z => by
          rw [hlen, z, List.length_nil] at her
          omega
        walk_at "go"
        rw [decide_eq_true (by rw [List.length_cons, List.length_map]; omega : (1 : Int) < (((V.int (i : Int)) :: List.map (fun (k : Nat) => V.int k) more).length : Int))]
        walk_at "go"
        refine ⟨_, rfl, o, A.CQ, dx, fs, _, rfl, e4, T.cl_Queue, T.na_row, hR, ?_⟩
        refine ⟨.inl ⟨rfl, _, sqL r4⟩, ?_⟩
        walk_at "go"
        have hrl := hQ.rlen
        have hsm := hQ.small
        rw [List.length_cons] at hrl
        refine ⟨lr, _, _, rfl, rfl, r4, by rw [List.length_map, sizeLine_eq]; omega, ?_⟩
        have nlo2 : lr ≠ o := nlo
        have e6 : upd H4 lr (.lst (rest.map V.str ++ [.str x])) o = some (.ins A.CQ dx fs) := by rw [upd_ne nlo2.symm]; exact e4
        have r6 : upd H4 lr (.lst (rest.map V.str ++ [.str x])) lr = some (.lst ((rest ++ [x]).map V.str)) := by rw [upd_same, List.map_append]; rfl
        have al6 : AL (upd H4 lr (.lst (rest.map V.str ++ [.str x]))) la (ts.eraseIdx j) (as.eraseIdx j) := hP.keep (upd_ne hQ.ne) fun u hu => upd_ne fun z => by
          obtain ⟨xs, w⟩ := hP.tup u hu
          rw [z, r4] at w
          exact nomatch w
        have plr : p ≠ lr := fun z => by
          have w := s3 _ _ (s2 _ _ r1)
          rw [z] at np
          rw [r1] at np
          exact nomatch np
        have p6 : upd H4 lr (.lst (rest.map V.str ++ [.str x])) p = some (.lst (V.int i :: more.map fun (k : Nat) => V.int k)) := by rw [upd_ne plr]; exact p4
        have f6 : ∀ b u, b ≠ la → b ≠ lr → H b = some u → upd H4 lr (.lst (rest.map V.str ++ [.str x])) b = some u := fun b u n1 n2 eb => by rw [upd_ne n2]; exact f4 b u n1 n2 eb
        have nt6 : ∀ {t : Addr}, upd H4 lr (.lst (rest.map V.str ++ [.str x])) t = none → H t = none := fun {t} z => by
          by_cases t2 : t = lr
          · rw [t2, upd_same] at z; exact nomatch z
          · rw [upd_ne t2] at z; exact nt0 z
        generalize upd H4 lr (.lst (rest.map V.str ++ [.str x])) = H5 at e6 r6 al6 p6 f6 nt6 ⊢
        walk_at "go"
        refine r_ixL (sqL p6) (v := .int i) (atI_nat (j := 0) rfl) ?_
        walk_at "go"
        refine newT fun t H6 n6 s6 e7 => ?_
        refine q x rest i j t H6 rfl (by rw [hof]; rfl) hj (nt6 n6) (fun b u n1 n2 eb => s6 _ _ (f6 b u n1 n2 eb)) ?_ e7
        rw [hsr]
        refine Qu.same ⟨⟨dx, fs, e6, hA, hR, hn⟩, al6, r6, hQ.ne, ok5, sm5, ?_, fun y => ?_⟩ s6
        · exact List.nodup_append.mpr ⟨ndr.2, List.pairwise_singleton _ _, fun a ha b hb => by
            rw [List.mem_singleton.mp hb]
            exact fun z => ndr.1 (by rw [← z]; exact ha)⟩
        · rw [List.mem_append, List.mem_singleton]
          by_cases hy : y = x
          · subst hy
            refine ⟨fun _ => ?_, fun _ => .inr rfl⟩
            cases z : ofN (as.eraseIdx j) y with
            | nil => exact absurd z h0
            | cons k _ => exact ⟨k, mem_ofN.mp (by rw [z]; exact List.mem_cons_self)⟩
          · rw [hoth y hy, ← hQ.mem y, List.mem_cons]
            exact ⟨fun z => z.elim .inr fun w => absurd w hy, fun z => z.elim (fun w => absurd w hy) .inl⟩
end
end K23

namespace K23
open PySem PySem.Spec PyProof.Rows L2 Bk


def spTwinQ (A : Ad) : Sp := fun vs H Q _ => ∃ (o la lr : Addr) (n : Nat) (ts : List Addr) (as : List (Str × Nat)) (row : List Str), vs = [.ref o] ∧ Qu A.CQ n H o la lr ts as row ∧
  ∀ (y la' lr' : Addr) H', Same H H' → Qu A.CQ 4 H' y la' lr' ts as row → (∀ b ∈ [y, la', lr'], H b = none) → Q (.ref y) H'
section
variable {P : Program} {w : World} {K : PySem.W.Frag} {mg : Str → Option Value} {base : Heap} {A : Ad}
theorem ok_twin {f : Addr} {fd : FuncData} (F : Fun K "twin" "Queue.twin" s_Queue_twin f fd) (T : Txt K mg A) (c_Queue_init : CalC P w K mg base CX0 1 A.CQ "Queue" (spQuInit A)) : FnOk P w K mg base CX0 3 f fd ["self"] (spTwinQ A) := by
  refine F.ok sc_Queue_twin (fun vs H Q E h => ?_) (fun cdv A' outer s H vs Q E hr h => ⟨_, (pss_cons (ps_set (i := 1) sc_Queue_twin.nd rfl (.inl rfl) (pe_mk0 c_Queue_init hr (by decide) (by rfl) ps0))
    (pss_cons (ps_fld (pv 1) (pe_callTy call_list_of (by rfl) T.m_list (by decide +kernel) (pa_cons (pe_fld (pv 0) rfl) pa_nil)) rfl)
    (pss_cons (ps_fld (pv 1) (pe_callTy call_list_of (by rfl) T.m_list (by decide +kernel) (pa_cons (pe_fld (pv 0) rfl) pa_nil)) rfl)
    (pss_one (ps_ret (pv 1)))))), ?_⟩)
  · obtain ⟨o, la, lr, n, ts, as, row, rfl, _⟩ := h
    rfl
  · obtain ⟨o, la, lr, n, ts, as, row, rfl, hQ, q⟩ := h
    obtain ⟨dx, fs, e, hA, hR, hn⟩ := hQ.ob
    walk_at "go"
    intro y dy ny ndy ney
    have s0 : Same H (upd (upd H dy (.own y)) y (.ins A.CQ dy [])) := fun b o e => by
      rw [upd_ne (ne_of_none e ny), upd_ne (ne_of_none e ndy)]
      exact e
    refine ⟨y, dy, rfl, upd_same, fun la0 lr0 H1 b1 hQ1 nla nlr => ⟨rfl, ?_⟩⟩
    have s1 : Same H H1 := fun b o e => b1 _ _ (ne_of_none e ny) (s0 _ _ e)
    obtain ⟨dy1, fy, ey, hyA, hyR, hyn⟩ := hQ1.ob
    walk_at "go"
    refine ⟨_, rfl, o, A.CQ, dx, fs, _, rfl, s1 _ _ e, T.cl_Queue, T.na_asks, hA, ?_⟩
    walk_at "go"
    have q1 := hQ.same s1
    refine ⟨la, _, rfl, .inl (sqL q1.al.at_), fun l1 nl1 => ?_⟩
    have t1 := same_upd (o := .lst (ts.map V.ref)) nl1
    have el1 : upd H1 l1 (.lst (ts.map V.ref)) l1 = some (.lst (ts.map V.ref)) := upd_same
    have q2 := q1.same t1
    have ey2 := t1 _ _ ey
    generalize upd H1 l1 (.lst (ts.map V.ref)) = H2 at t1 el1 q2 ey2 ⊢
    walk_at "go"
    refine ⟨y, A.CQ, dy1, fy, rfl, ey2, T.cl_Queue, T.na_asks, by have := hyn.1; omega, ?_⟩
    have ne1 : l1 ≠ y := fun z => by rw [z, ey2] at el1; exact nomatch el1
    have b3 : But y H2 (upd H2 y (.ins A.CQ dy1 (putF "_asks" (.ref l1) fy))) := fun b o nb eb => by rw [upd_ne nb]; exact eb
    have ey3 : upd H2 y (.ins A.CQ dy1 (putF "_asks" (.ref l1) fy)) y = some (.ins A.CQ dy1 (putF "_asks" (.ref l1) fy)) := upd_same
    have yo : y ≠ o := fun z => by rw [z, e] at ny; exact nomatch ny
    have nyH : ∀ {b : Addr} {u : HO}, H b = some u → b ≠ y := fun eb z => by rw [z, ny] at eb; exact nomatch eb
    have s3 : Same H (upd H2 y (.ins A.CQ dy1 (putF "_asks" (.ref l1) fy))) := fun b u eb => b3 _ _ (nyH eb) (t1 _ _ (s1 _ _ eb))
    have el3 := b3 _ _ ne1 el1
    have nl1' : H l1 = none := s1.free nl1
    generalize upd H2 y (.ins A.CQ dy1 (putF "_asks" (.ref l1) fy)) = H3 at b3 ey3 s3 el3 ⊢
    have q3 := hQ.same s3
    walk_at "go"
    refine ⟨_, rfl, o, A.CQ, dx, fs, _, rfl, s3 _ _ e, T.cl_Queue, T.na_row, hR, ?_⟩
    walk_at "go"
    refine ⟨lr, _, rfl, .inl (sqL q3.rw_), fun l2 nl2 => ?_⟩
    have t4 := same_upd (o := .lst (row.map V.str)) nl2
    have el4 : upd H3 l2 (.lst (row.map V.str)) l2 = some (.lst (row.map V.str)) := upd_same
    have ey4 := t4 _ _ ey3
    have el14 := t4 _ _ el3
    have s4 := s3.trans t4
    have nl2' : H l2 = none := s3.free nl2
    have n12 : l1 ≠ l2 := ne_of_none el3 nl2
    generalize upd H3 l2 (.lst (row.map V.str)) = H4 at t4 el4 ey4 el14 s4 ⊢
    walk_at "go"
    have lp := length_putF "_asks" (.ref l1) fy
    refine ⟨y, A.CQ, dy1, _, rfl, ey4, T.cl_Queue, T.na_row, by have := hyn.1; omega, ?_⟩
    have ne2 : l2 ≠ y := ne_of_none ey3 nl2 |>.symm
    have lp2 := length_putF "_row" (.ref l2) (putF "_asks" (.ref l1) fy)
    walk_at "go"
    refine q y l1 l2 _ (fun b u eb => by rw [upd_ne (nyH eb)]; exact s4 _ _ eb) ⟨⟨dy1, _, upd_same, ?_, ?_, by have := hyn.1; omega, fun m h1 h2 => ?_⟩, ⟨by rw [upd_ne ne1]; exact el14, hQ.al.len, fun k t p h1 h2 => ?_⟩, by rw [upd_ne ne2]; exact el4, n12, hQ.ok, hQ.small, hQ.nd, hQ.mem⟩ fun b hb => ?_
    · rw [lookup_putF, if_neg (by decide), lookup_putF, if_pos rfl]
    · rw [lookup_putF, if_pos rfl]
    · rw [lookup_putF, if_neg (fun z => by rw [z, beq_self_eq_true] at h2; exact nomatch h2), lookup_putF, if_neg (fun z => by rw [z, beq_self_eq_true] at h1; exact nomatch h1)]
      exact hyn.2 m h1 h2
    · have z := hQ.al.row k t p h1 h2
      rw [upd_ne (nyH z)]
      exact s4 _ _ z
    · simp only [List.mem_cons, List.not_mem_nil, or_false] at hb
      rcases hb with rfl | rfl | rfl
      · exact ny
      · exact nl1'
      · exact nl2'
end
end K23

namespace K23
open PySem PySem.Spec PyProof.Rows L2 Bk


theorem putF_old {f : Str} {v u : V} : ∀ {fs : List (Str × V)}, fs.lookup f = some u → (putF f v fs).length = fs.length
  | [], h => nomatch h
  | (g, w) :: r, h => by
    unfold putF
    split
    · rfl
    · rename_i hg
      rw [List.lookup_cons] at h
      have hb : (f == g) = false := beq_eq_false_iff_ne.mpr fun z => hg (by first | exact z | exact z.symm)
      rw [hb] at h
      rw [List.length_cons, List.length_cons, putF_old h]
/-- the asks of others, with their tuples -/
def othQ (as : List (Str × Nat)) (ts : List Addr) (x : Str) : List ((Str × Nat) × Addr) := (as.zip ts).filter fun q => decide (q.1.1 ≠ x)
theorem fm_flt {α β : Type} (c : α → Prop) [DecidablePred c] (g : α → β) : ∀ l : List α, l.filterMap (fun z => if c z then none else some (g z)) = (l.filter fun z => decide (¬ c z)).map g
  | [] => rfl
  | a :: r => by
    rw [List.filterMap_cons, List.filter_cons]
    by_cases h : c a
    · rw [if_pos h, decide_eq_false (fun z => z h), fm_flt c g r]
      simp
    · rw [if_neg h, decide_eq_true h, if_pos rfl, List.map_cons, fm_flt c g r]
theorem oth_fst {x : Str} : ∀ {as : List (Str × Nat)} {ts : List Addr}, ts.length = as.length → (othQ as ts x).map (·.1) = as.filter fun q => decide (q.1 ≠ x)
  | [], _, _ => rfl
  | a :: r, [], h => nomatch h
  | a :: r, t :: u, h => by
    have z := oth_fst (x := x) (as := r) (ts := u) (Nat.succ.inj h)
    unfold othQ at z ⊢
    rw [List.zip_cons_cons, List.filter_cons, List.filter_cons]
    by_cases c : a.1 = x
    · rw [decide_eq_false (fun w => w c)]
      simpa using z
    · rw [decide_eq_true c]
      simpa using z
theorem oth_row {H : Hp} {x : Str} {l : Addr} {as : List (Str × Nat)} {ts : List Addr} (a : AL H l ts as) : ∀ q ∈ othQ as ts x, H q.2 = some (.tup [.str q.1.1, .int q.1.2]) := fun q hq => by
  obtain ⟨k, hk⟩ := List.getElem?_of_mem ((List.mem_filter.mp hq).1)
  have z := List.getElem?_zip_eq_some.mp hk
  exact a.row k _ _ z.2 z.1
def spLeave (A : Ad) : Sp := fun vs H Q _ => ∃ (o la lr : Addr) (n : Nat) (ts : List Addr) (as : List (Str × Nat)) (row : List Str) (x : Str), vs = [.ref o, .str x] ∧ Qu A.CQ n H o la lr ts as row ∧ n < 900 ∧ nameOk x = true ∧
  ∀ (p la' lr' : Addr) (ts' : List Addr) H', (∀ b ∈ [p, la', lr'], H b = none) → (∀ b u, b ≠ o → H b = some u → H' b = some u) → Qu A.CQ n H' o la' lr' ts' (as.filter fun q => decide (q.1 ≠ x)) (row.filter fun y => decide (y ≠ x)) → H' p = some (.lst ((ofN as x).map fun (i : Nat) => V.int i)) → Q (.ref p) H'
section
variable {P : Program} {w : World} {K : PySem.W.Frag} {mg : Str → Option Value} {base : Heap} {A : Ad}
theorem ok_leave {f : Addr} {fd : FuncData} (F : Fun K "leave" "Queue.leave" s_Queue_leave f fd) (T : Txt K mg A) (c_Queue_of : CalM P w K mg base (L2.CX P w) 5 A.CQ "of" (spOf A)) : FnOk P w K mg base (L2.CX P w) 6 f fd ["self", "name"] (spLeave A) := by
  refine F.okX sc_Queue_leave (fun vs H Q E h => ?_) (fun cdv A' outer s H vs Q E hr h => ⟨_, (pss_cons (ps_set (i := 2) sc_Queue_leave.nd rfl (.inl rfl) (pe_mth (pv 0) T.cl_Queue c_Queue_of hr (by decide) (psX (takes_of rfl rfl rfl rfl)) (pa_cons (pv 1) pa_nil)))
    (pss_cons (ps_fld (pv 0) (pe_lc (own := [("ask", 3)]) rfl sc_Queue_leave.nd (pi_list (pe_fld (pv 0) rfl)) (blkOk_by (N := ["self", "name", "numbers", "ask", "other"]) (sc := defScope s_Queue_leave) (by decide +kernel)) (fun _ _ _ _ _ => (pg_name (i := 3) sc_Queue_leave.nd rfl (.inl rfl))) (fun _ _ _ _ _ => pts_one (pt_cmpR op_ne (pe_ix (ix_tupK (K := K) rfl) (pv 3) pe_int (fun _ _ => rfl)) (pv 1) (nomark _))) (fun _ _ _ _ _ => (pv 3))) rfl)
    (pss_cons (ps_fld (pv 0) (pe_lc (own := [("other", 4)]) rfl sc_Queue_leave.nd (pi_list (pe_fld (pv 0) rfl)) (blkOk_by (N := ["self", "name", "numbers", "ask", "other"]) (sc := defScope s_Queue_leave) (by decide +kernel)) (fun _ _ _ _ _ => (pg_name (i := 4) sc_Queue_leave.nd rfl (.inl rfl))) (fun _ _ _ _ _ => pts_one (pt_cmpR op_ne (pv 4) (pv 1) (nomark _))) (fun _ _ _ _ _ => (pv 4))) rfl)
    (pss_one (ps_ret (pv 2)))))), ?_⟩)
  · obtain ⟨o, la, lr, n, ts, as, row, x, rfl, _⟩ := h
    rfl
  · obtain ⟨o, la, lr, n, ts, as, row, x, rfl, hQ, hn9, hx, q⟩ := h
    obtain ⟨dx, fs, e, hA, hR, hn⟩ := hQ.ob
    walk_at "go"
    refine ⟨o, dx, fs, rfl, e, hn.2 _ (by decide +kernel) (by decide +kernel), ?_⟩
    walk_at "go"
    refine ⟨o, la, ts, as, x, rfl, hQ.qa, hx, fun p H1 np s1 ep => ?_⟩
    walk_at "go"
    have hQ1 := hQ.same s1
    have zl : (as.zip ts).length = as.length := by rw [List.length_zip, hQ.al.len, Nat.min_self]
    refine lcLF (fun i => (fun (z : (Str × Nat) × Addr) => if z.1.1 = x then none else some (V.ref z.2)) ((as.zip ts).getD i (("", 0), 0))) (fun QQ z => ⟨_, rfl, o, A.CQ, dx, fs, _, rfl, s1 _ _ e, T.cl_Queue, T.na_asks, hA, z⟩) (sqL hQ1.al.at_) (by rw [List.length_map, hQ1.al.len]; have := hQ.small; omega) (fun _ => rfl) (fun i y H2 Q' R' hy sm h1 h2 => ?_) fun D H2 nD s2 e2 => ?_
    · have hi : i < as.length := by
        have z := (List.getElem?_eq_some_iff.mp hy).1
        rw [List.length_map, hQ1.al.len] at z
        exact z
      have hti : i < ts.length := by rw [hQ1.al.len]; exact hi
      rw [List.getElem?_map, List.getElem?_eq_getElem hti] at hy
      obtain rfl := Option.some.inj hy
      have et := sm _ _ (hQ1.al.row i _ _ (List.getElem?_eq_getElem hti) (List.getElem?_eq_getElem hi))
      have hg : (as.zip ts).getD i (("", 0), 0) = (as[i], ts[i]) := by
        rw [List.getD_eq_getElem?_getD, List.getElem?_eq_getElem (by rw [zl]; exact hi), List.getElem_zip]
        rfl
      rw [hg] at h1 h2
      walk_at "go"
      refine r_ixT (sqT et) (v := .str as[i].1) rfl ?_
      walk_at "go"
      by_cases hp : as[i].1 = x
      · rw [decide_eq_true (by rw [hp])]
        walk_at "go"
        exact h2 (if_pos hp) _ (Same.refl _)
      · rw [decide_eq_false (fun z => hp (by injection z))]
        walk_at "go"
        exact h1 _ (if_neg hp) _ (Same.refl _)
    rw [List.length_map, hQ1.al.len, ← zl, rng_fm ((("", 0), 0) : (Str × Nat) × Addr) (as.zip ts) (fun z => if z.1.1 = x then none else some (V.ref z.2))] at e2
    have e2 : H2 D = some (.lst (((othQ as ts x).map (·.2)).map V.ref)) := by
      rw [e2]
      refine congrArg (fun l => some (HO.lst l)) ?_
      rw [fm_flt (fun z : (Str × Nat) × Addr => z.1.1 = x) (fun z => V.ref z.2), List.map_map]
      rfl
    have s12 := s1.trans s2
    have eo := s12 _ _ e
    walk_at "go"
    refine ⟨o, A.CQ, dx, fs, rfl, eo, T.cl_Queue, T.na_asks, by have := hn.1; omega, ?_⟩
    have nDo : D ≠ o := (ne_of_none (s1 _ _ e) nD).symm
    have f3 : ∀ b u, b ≠ o → H b = some u → upd H2 o (.ins A.CQ dx (putF "_asks" (.ref D) fs)) b = some u := fun b u nb eb => by rw [upd_ne nb]; exact s12 _ _ eb
    have o3 : upd H2 o (.ins A.CQ dx (putF "_asks" (.ref D) fs)) o = some (.ins A.CQ dx (putF "_asks" (.ref D) fs)) := upd_same
    have D3 : upd H2 o (.ins A.CQ dx (putF "_asks" (.ref D) fs)) D = some (.lst (((othQ as ts x).map (·.2)).map V.ref)) := by rw [upd_ne nDo]; exact e2
    have npo : p ≠ o := (ne_of_none e np).symm
    have p3 : upd H2 o (.ins A.CQ dx (putF "_asks" (.ref D) fs)) p = some (.lst ((ofN as x).map fun (i : Nat) => V.int i)) := by rw [upd_ne npo]; exact s2 _ _ ep
    have nDH : H D = none := s1.free nD
    generalize upd H2 o (.ins A.CQ dx (putF "_asks" (.ref D) fs)) = H3 at f3 o3 D3 p3 ⊢
    have nlr : lr ≠ o := fun z => by have w := hQ.rw_; rw [z, e] at w; exact nomatch w
    have r3 := f3 _ _ nlr hQ.rw_
    walk_at "go"
    have hrl := hQ.rlen
    have hsm := hQ.small
    refine lcLF (fun i => (fun (z : Str) => if z = x then none else some (V.str z)) (row.getD i "")) (fun QQ z => ⟨_, rfl, o, A.CQ, dx, _, _, rfl, o3, T.cl_Queue, T.na_row, by rw [lookup_putF, if_neg (by decide)]; exact hR, z⟩) (sqL r3) (by rw [List.length_map]; omega) (fun _ => rfl) (fun i y H4 Q' R' hy sm h1 h2 => ?_) fun D2 H4 nD2 s4 e4 => ?_
    · rw [List.getElem?_map] at hy
      cases hi : row[i]? with
      | none => rw [hi] at hy; exact nomatch hy
      | some z =>
        rw [hi] at hy
        obtain rfl := Option.some.inj hy
        have hg : row.getD i "" = z := by rw [List.getD_eq_getElem?_getD, hi]; rfl
        rw [hg] at h1 h2
        walk_at "go"
        by_cases hp : z = x
        · rw [decide_eq_true (by rw [hp])]
          walk_at "go"
          exact h2 (if_pos hp) _ (Same.refl _)
        · rw [decide_eq_false (fun w => hp (by injection w))]
          walk_at "go"
          exact h1 _ (if_neg hp) _ (Same.refl _)
    have o4 := s4 _ _ o3
    have lp := putF_old (v := V.ref D) hA
    have r4 : H4 D2 = some (.lst ((row.filter fun y => decide (y ≠ x)).map V.str)) := by
      have z := rng_fm (Str.ofString "") row (fun z => if z = x then none else some (V.str z))
      rw [e4, List.length_map]
      refine congrArg (fun l => some (HO.lst l)) (z.trans ?_)
      rw [fm_flt (fun z : Str => z = x) V.str]
    walk_at "go"
    have hR2 : (putF "_asks" (.ref D) fs).lookup ("_row" : Str) = some (.ref lr) := by rw [lookup_putF, if_neg (by decide)]; exact hR
    have lp2 := putF_old (v := V.ref D2) hR2
    refine ⟨o, A.CQ, dx, _, rfl, o4, T.cl_Queue, T.na_row, by rw [lp]; have := hn.1; omega, ?_⟩
    have nD2o : D2 ≠ o := (ne_of_none o3 nD2).symm
    have nD2H : H D2 = none := by
      cases w : H D2 with
      | none => rfl
      | some u => rw [f3 _ _ nD2o w] at nD2; exact nomatch nD2
    have nDD : D ≠ D2 := ne_of_none D3 nD2
    walk_at "go"
    have al5 := hQ.al
    refine q p D D2 ((othQ as ts x).map (·.2)) _ (fun b hb => ?_) (fun b u nb eb => by rw [upd_ne nb]; exact s4 _ _ (f3 _ _ nb eb)) ⟨⟨dx, _, upd_same, ?_, ?_, by rw [lp2, lp]; exact hn.1, fun m h1 h2 => ?_⟩, ⟨by rw [upd_ne nDo]; exact s4 _ _ D3, by rw [← oth_fst hQ.al.len, List.length_map, List.length_map], fun k t pr h1 h2 => ?_⟩, by rw [upd_ne nD2o]; exact r4, nDD, fun z hz => hQ.ok z ((List.mem_filter.mp hz).1), Nat.le_trans (List.length_filter_le _ _) hQ.small, hQ.nd.filter _, fun y => ?_⟩ (by rw [upd_ne npo]; exact s4 _ _ p3)
    · simp only [List.mem_cons, List.not_mem_nil, or_false] at hb
      rcases hb with rfl | rfl | rfl
      · exact np
      · exact nDH
      · exact nD2H
    · rw [lookup_putF, if_neg (by decide), lookup_putF, if_pos rfl]
    · rw [lookup_putF, if_pos rfl]
    · rw [lookup_putF, if_neg (fun z => by rw [z, beq_self_eq_true] at h2; exact nomatch h2), lookup_putF, if_neg (fun z => by rw [z, beq_self_eq_true] at h1; exact nomatch h1)]
      exact hn.2 m h1 h2
    · rw [List.getElem?_map] at h1
      cases hk : (othQ as ts x)[k]? with
      | none => rw [hk] at h1; exact nomatch h1
      | some z =>
        rw [hk] at h1
        obtain rfl := Option.some.inj h1
        rw [← oth_fst hQ.al.len, List.getElem?_map, hk] at h2
        obtain rfl := Option.some.inj h2
        have w := oth_row hQ.al z (List.mem_of_getElem? hk)
        have no : z.2 ≠ o := fun c => by rw [c, e] at w; exact nomatch w
        rw [upd_ne no]
        exact s4 _ _ (f3 _ _ no w)
    · rw [List.mem_filter, hQ.mem y]
      refine ⟨fun ⟨⟨i, hi⟩, hy⟩ => ⟨i, List.mem_filter.mpr ⟨hi, hy⟩⟩, fun ⟨i, hi⟩ => ?_⟩
      have z := List.mem_filter.mp hi
      exact ⟨⟨i, z.1⟩, z.2⟩
end
end K23

namespace K23
open PySem PySem.Spec PyProof.Rows L2 Bk


/-- what is served next, what waits then, and the row then -/
def nxtA (s : List (Str × Nat) × List Str) : Option (Str × Nat) := match s.2 with
  | [] => none
  | x :: _ => (ofN s.1 x).head?.map fun i => (x, i)
def nxt (s : List (Str × Nat) × List Str) : List (Str × Nat) × List Str := match s.2 with
  | [] => s
  | x :: rest => (match (ofN s.1 x).head? with
    | none => s.1
    | some i => s.1.eraseP fun q => decide (q = (x, i)), srvRow s.1 x rest)
def itr : Nat → List (Str × Nat) × List Str → List (Str × Nat) × List Str
  | 0, s => s
  | n + 1, s => nxt (itr n s)
def spComes (A : Ad) : Sp := fun vs H Q _ => ∃ (o la lr : Addr) (n : Nat) (ts : List Addr) (as : List (Str × Nat)) (row : List Str) (x : Str) (i : Nat), vs = [.ref o, .str x, .int i] ∧ Qu A.CQ n H o la lr ts as row ∧ (x, i) ∈ as ∧
  ∀ (m : Nat) H', Same H H' → m < as.length → nxtA (itr m (as, row)) = some (x, i) → (∀ k, k < m → nxtA (itr k (as, row)) ≠ some (x, i)) → Q (.int ((m : Nat) + 1 : Int)) H'
theorem _root_.Bk.AL.memN {K : PySem.W.Frag} {H : Hp} {l : Addr} {ts : List Addr} {as : List (Str × Nat)} (a : AL H l ts as) {x : V} {p : Str × Nat} {Q : VK} (ok : asOk as) (hp : PyData.strOk p.1 = true) (h : Dp K H x (askD p)) (q : Q (.bl (!decide (p ∈ as))) H) : rNotInD K x (.ref l) H Q :=
  ⟨_, _, h, a.dp, sh_ask1 hp, sh_ask ok, by rw [in_ask]; exact q⟩
theorem nxt_of {as : List (Str × Nat)} {x : Str} {rest : List Str} {i j : Nat} (h : (ofN as x).head? = some i) (hj : as.findIdx? (fun q => decide (q = (x, i))) = some j) : nxt (as, x :: rest) = (as.eraseIdx j, srvRow as x rest) := by
  unfold nxt
  simp only [h]
  rw [List.eraseP_eq_eraseIdx, hj]
theorem r_while {c : TT} {tb : TS} {D : Ends} {σ : L2.St} {H : Hp} (W : Nat → L2.St → Hp → Prop) (h0 : ∃ m, W m σ H) (hs : ∀ m σ H, W m σ H → c σ H fun b H1 => if b = true then ∃ N : L2.St → Hp → Prop, (∀ σ' H', N σ' H' → ∃ m', m' < m ∧ W m' σ' H') ∧ tb { D with nx := N, ct := N, bk := D.nx } σ H1 else D.nx σ H1) : tWhile c tb D σ H := ⟨W, h0, hs⟩
section
variable {P : Program} {w : World} {K : PySem.W.Frag} {mg : Str → Option Value} {base : Heap} {A : Ad}
theorem ok_comes {f : Addr} {fd fdA : FuncData} (F : Fun K "comes_at" "Queue.comes_at" s_Queue_comes_at f fd) (T : Txt K mg A) (c_is_count : CalD P w K mg base CX0 1 "is_count" (spCount K) [])
    (c_NoAsk_init : Own P w K mg base CX0 2 A.fA fdA ["self", "found"] (spInitN "found" A.CA)) (c_Queue_twin : CalM P w K mg base CX0 3 A.CQ "twin" (spTwinQ A)) (c_Queue_serve : CalM P w K mg base CX0 6 A.CQ "serve" (spServe A)) : FnOk P w K mg base (L2.CX P w) 7 f fd ["self", "name", "number"] (spComes A) := by
  refine F.okX sc_Queue_comes_at (fun vs H Q E h => ?_) (fun cdv A' outer s H vs Q E hr h => have hu65 := units65 hr; have hu64 := hr.units; ⟨_, (pss_cons (ps_if (PW.pt (pw_or (pt_not (pt_val (pe_cal c_is_count hr (by decide) (by rfl) (pa_cons (pv 2) pa_nil)))) (pw_or1 (pt_cmpR (op_notInD hu65) (pe_tup (pa_cons (pv 1) (pa_cons (pv 2) pa_nil))) (pe_fld (pv 0) rfl) (by rfl))))) (pss_one (ps_raise rfl (takes_of rfl rfl rfl rfl) (pmk_oexT T.ox_NoAsk T.i_NoAsk T.t_NoAsk c_NoAsk_init.ok (hr.mono (by decide)) c_NoAsk_init.bd .nil pass0 (by rfl) T.g_NoAsk (pa_cons (pe_tup (pa_cons (pv 1) (pa_cons (pv 2) pa_nil))) pa_nil)))) pss_nil)
    (pss_cons (ps_set (i := 3) sc_Queue_comes_at.nd rfl (.inl rfl) (pe_mth0 (pv 0) T.cl_Queue c_Queue_twin hr (by decide) ps0))
    (pss_cons (ps_set (i := 4) sc_Queue_comes_at.nd rfl (.inl rfl) pe_int)
    (pss_cons (ps_while (passes_of rfl) (pt_cmpR (op_neD hu64) (pe_mth0 (pv 3) T.cl_Queue c_Queue_serve hr (by decide) ps0) (pe_tup (pa_cons (pv 1) (pa_cons (pv 2) pa_nil))) (nomark _))
      (pss_one (ps_aug (i := 4) sc_Queue_comes_at.nd rfl (.inl rfl) pe_int ip_add)))
    (pss_one (ps_ret (pv 4))))))), ?_⟩)
  · obtain ⟨o, la, lr, n, ts, as, row, x, i, rfl, _⟩ := h
    rfl
  · obtain ⟨o, la, lr, n, ts, as, row, x, i, rfl, hQ, hm, q⟩ := h
    obtain ⟨dx, fs, e, hA, hR, hn⟩ := hQ.ob
    walk_at "go"
    have hi : 0 ≤ (i : Int) := by omega
    refine ⟨_, rfl, .inl ⟨_, rfl⟩, ?_⟩
    rw [count_int hi]
    walk_at "go"
    refine newT fun t1 H1 n1 s1 e1 => ?_
    walk_at "go"
    refine ⟨_, rfl, o, A.CQ, dx, fs, _, rfl, s1 _ _ e, T.cl_Queue, T.na_asks, hA, ?_⟩
    have hx := hQ.ok _ hm
    refine (hQ.al.same s1).memN hQ.ao (str_of_name hx) (dp_ask (p := (x, i)) e1) ?_
    rw [decide_eq_true hm]
    walk_at "go"
    have hQ1 := hQ.same s1
    obtain ⟨_, _, e', _, _, hn'⟩ := hQ1.ob
    refine ⟨o, dx, fs, rfl, s1 _ _ e, hn.2 _ (by decide +kernel) (by decide +kernel), ?_⟩
    walk_at "go"
    refine ⟨o, la, lr, n, ts, as, row, rfl, hQ1, fun y la' lr' H2 s2 hY fr => ?_⟩
    walk_at "go"
    have s12 := s1.trans s2
    have fr' : ∀ b ∈ [y, la', lr'], H b = none := fun b hb => s1.free (fr b hb)
    refine r_while (fun d σ G => ∃ (m : Nat) (ts' : List Addr), σ = ((start ["self", "name", "number", "ahead", "many"] [V.ref o, V.str x, V.int ↑i]).set 3 (some (.ref y))).set 4 (some (.int ((m : Nat) + 1 : Int))) ∧ Same H G ∧
        Qu A.CQ 4 G y la' lr' ts' (itr m (as, row)).1 (itr m (as, row)).2 ∧ (x, i) ∈ (itr m (as, row)).1 ∧ (itr m (as, row)).1.length + m ≤ as.length ∧ (∀ k, k < m → nxtA (itr k (as, row)) ≠ some (x, i)) ∧ d = (itr m (as, row)).1.length)
      ⟨_, 0, ts, rfl, s12, hY, hm, Nat.le_refl _, fun k hk => absurd hk (Nat.not_lt_zero k), rfl⟩ fun d σ G hW => ?_
    obtain ⟨m, ts', rfl, sG, hG, hmG, hl, hno, rfl⟩ := hW
    walk_at "go"
    generalize hs : itr m (as, row) = st at hG hmG hl
    obtain ⟨as', row'⟩ := st
    have hG : Qu A.CQ 4 G y la' lr' ts' as' row' := hG
    have hmG : (x, i) ∈ as' := hmG
    have hl : as'.length + m ≤ as.length := hl
    obtain ⟨dy, fy, ey, _, _, hny⟩ := hG.ob
    refine ⟨y, dy, fy, rfl, ey, hny.2 _ (by decide +kernel) (by decide +kernel), ?_⟩
    walk_at "go"
    refine ⟨y, la', lr', 4, ts', as', row', rfl, hG, fun z => ?_, fun x' rest i' j t' H3 hr' hi' hj nt' k3 hG3 et' => ?_⟩
    · have w := (hG.mem x).mpr ⟨i, hmG⟩
      rw [z] at w
      exact nomatch w
    subst hr'
    have nA : nxtA (itr m (as, row)) = some (x', i') := by
      rw [hs]
      show (ofN as' x').head?.map _ = _
      rw [hi']
      rfl
    have sG3 : Same H H3 := fun b u eb => k3 b u (fun z => by rw [z, fr' la' (by simp)] at eb; exact nomatch eb) (fun z => by rw [z, fr' lr' (by simp)] at eb; exact nomatch eb) (sG b u eb)
    walk_at "go"
    refine newT fun t2 H4 n4 s4 e4 => ?_
    have hmx' : (x', i') ∈ as' := mem_ofN.mp (List.mem_of_head? hi')
    refine ⟨_, _, dp_ask (p := (x', i')) (s4 _ _ et'), dp_ask (p := (x, i)) e4, sh_ask1 (str_of_name (hG.ok _ hmx')), sh_ask1 (str_of_name hx), ?_⟩
    rw [eqv_ask]
    by_cases heq : (x', i') = (x, i)
    · rw [decide_eq_true (by first | exact heq | exact heq.symm)]
      walk_at "go"
      rw [heq] at nA
      refine q m H4 (sG3.trans s4) ?_ nA hno
      have : 0 < as'.length := List.length_pos_of_mem hmG
      omega
    · rw [decide_eq_false (by first | exact heq | exact fun z => heq z.symm)]
      walk_at "go"
      have hjx : as'[j]? = some (x', i') := by
        obtain ⟨h1, h2, _⟩ := List.findIdx?_eq_some_iff_getElem.mp hj
        rw [List.getElem?_eq_getElem h1, of_decide_eq_true h2]
      have hjl : j < as'.length := (List.getElem?_eq_some_iff.mp hjx).1
      have hlen := List.length_eraseIdx_of_lt hjl
      have hs' : itr (m + 1) (as, row) = (as'.eraseIdx j, srvRow as' x' rest) := by
        show nxt (itr m (as, row)) = _
        rw [hs]
        exact nxt_of hi' hj
      refine ⟨fun σ' G' => ∃ ts'', σ' = ((start ["self", "name", "number", "ahead", "many"] [V.ref o, V.str x, V.int ↑i]).set 3 (some (.ref y))).set 4 (some (.int ((m + 1 : Nat) + 1 : Int))) ∧ Same H G' ∧ Qu A.CQ 4 G' y la' lr' ts'' (as'.eraseIdx j) (srvRow as' x' rest), fun σ' G' ⟨ts'', e1, e2, e3⟩ => ?_, ?_⟩
      · refine ⟨_, ?_, m + 1, ts'', e1, e2, by rw [hs']; exact e3, ?_, ?_, fun k hk => ?_, rfl⟩
        · rw [hs']
          show (as'.eraseIdx j).length < as'.length
          rw [hlen]
          omega
        · rw [hs']
          exact (erase_mem hjx (fun z => heq z.symm)).mpr hmG
        · rw [hs']
          show (as'.eraseIdx j).length + _ ≤ _
          rw [hlen]
          omega
        · by_cases hkm : k = m
          · rw [hkm, nA]
            exact fun z => heq (Option.some.inj z)
          · exact hno k (by omega)
      · walk_at "go"
        refine ⟨_, rfl, ?_⟩
        walk_at "go"
        refine ⟨_, _, rfl, rfl, _, rfl, sG3.trans s4, hG3.same s4⟩
end
end K23

namespace K23
section
variable {α : Type} [DecidableEq α]
/-- ask, its place among its guest's, how many were served since, the longest row since -/
structure Mk (α : Type) where
  ask : α × Nat
  place : Nat
  count : Nat
  wide : Nat
def ofG (as : List (α × Nat)) (x : α) : List Nat := as.filterMap fun p => if p.1 = x then some p.2 else none
structure Inv (as : List (α × Nat)) (row : List α) (sf : α → Option (List α)) (ms : List (Mk α)) : Prop where
  nd : as.Nodup
  mks : ms.map (·.ask) = as
  rn : row.Nodup
  rm : ∀ x, x ∈ row ↔ ∃ i, (x, i) ∈ as
  si : ∀ x ∈ row, ∃ z, sf x = some z ∧ z.Nodup ∧ x ∉ z ∧ ∀ y ∈ z, y ∈ row → [x, y].Sublist row
  bd : ∀ m ∈ ms, m.count + row.idxOf m.ask.1 + 1 ≤ (m.place - (ofG as m.ask.1).idxOf m.ask.2) * m.wide ∧ (ofG as m.ask.1).idxOf m.ask.2 < m.place ∧ row.length ≤ m.wide
theorem mem_ofG {as : List (α × Nat)} {x : α} {i : Nat} : i ∈ ofG as x ↔ (x, i) ∈ as := by
  unfold ofG
  rw [List.mem_filterMap]
  refine ⟨fun ⟨p, hp, e⟩ => ?_, fun h => ⟨_, h, if_pos rfl⟩⟩
  by_cases h : p.1 = x
  · rw [if_pos h] at e
    have := Option.some.inj e
    rw [← this, ← h]
    exact hp
  · rw [if_neg h] at e
    exact nomatch e
theorem idx_ne {l : List α} {x y : α} (h : y ≠ x) : (y :: l).idxOf x = l.idxOf x + 1 := by
  rw [List.idxOf_cons]
  have : (y == x) = false := by simpa using h
  rw [this]
  rfl
theorem ofG_app (as : List (α × Nat)) (x y : α) (i : Nat) : ofG (as ++ [(x, i)]) y = ofG as y ++ if x = y then [i] else [] := by
  unfold ofG
  rw [List.filterMap_append]
  by_cases h : x = y
  · rw [if_pos h]
    show _ ++ List.filterMap _ [(x, i)] = _
    rw [List.filterMap_cons, if_pos h]
    rfl
  · rw [if_neg h]
    show _ ++ List.filterMap _ [(x, i)] = _
    rw [List.filterMap_cons, if_neg h]
    rfl
theorem idx_app {l m : List α} {x : α} (h : x ∈ l) : (l ++ m).idxOf x = l.idxOf x := by
  rw [List.idxOf_append, if_pos h]
theorem idx_appN {l m : List α} {x : α} (h : x ∉ l) : (l ++ m).idxOf x = l.length + m.idxOf x := by
  rw [List.idxOf_append, if_neg h, Nat.add_comm]
theorem ofG_nil {as : List (α × Nat)} {row : List α} (rm : ∀ x, x ∈ row ↔ ∃ i, (x, i) ∈ as) {x : α} : ofG as x = [] ↔ x ∉ row := by
  rw [rm x]
  constructor
  · intro h ⟨i, hi⟩
    rw [← mem_ofG, h] at hi
    exact nomatch hi
  · intro h
    refine List.eq_nil_iff_forall_not_mem.mpr fun i hi => h ⟨i, mem_ofG.mp hi⟩
/-- the row behind a put -/
def putRow (row : List α) (x : α) : List α := if x ∈ row then row else row ++ [x]
theorem Inv.put {as : List (α × Nat)} {row : List α} {sf : α → Option (List α)} {ms : List (Mk α)} (I : Inv as row sf ms) {x : α} {i : Nat} (hn : (x, i) ∉ as) :
    Inv (as ++ [(x, i)]) (putRow row x) (fun y => if y = x ∧ ofG as x = [] then some [] else sf y)
      (ms.map (fun m => { m with wide := max m.wide (putRow row x).length }) ++ [⟨(x, i), (ofG as x).length + 1, 0, (putRow row x).length⟩]) := by
  have hrow : ∀ y ∈ row, y ∈ putRow row x := fun y hy => by
    unfold putRow
    split
    · exact hy
    · exact List.mem_append_left _ hy
  have hx : x ∈ putRow row x := by
    unfold putRow
    split
    · assumption
    · exact List.mem_append_right _ List.mem_cons_self
  have hmem : ∀ y, y ∈ putRow row x → y ∈ row ∨ y = x := fun y hy => by
    unfold putRow at hy
    split at hy
    · exact .inl hy
    · exact (List.mem_append.mp hy).elim .inl fun z => .inr (List.mem_singleton.mp z)
  have hsub : row.Sublist (putRow row x) := by
    unfold putRow
    split
    · exact List.Sublist.refl _
    · exact List.sublist_append_left _ _
  have hidx : ∀ y ∈ row, (putRow row x).idxOf y = row.idxOf y := fun y hy => by
    unfold putRow
    split
    · rfl
    · exact idx_app hy
  refine ⟨?_, ?_, ?_, ?_, ?_, ?_⟩
  · exact List.nodup_append.mpr ⟨I.nd, List.pairwise_singleton _ _, fun a ha b hb e => hn (by rw [← List.mem_singleton.mp hb, ← e]; exact ha)⟩
  · rw [List.map_append, List.map_map, ← I.mks]
    rfl
  · unfold putRow
    split
    · exact I.rn
    · rename_i h
      exact List.nodup_append.mpr ⟨I.rn, List.pairwise_singleton _ _, fun a ha b hb e => h (by rw [← List.mem_singleton.mp hb, ← e]; exact ha)⟩
  · intro y
    constructor
    · intro hy
      rcases hmem y hy with hy | rfl
      · obtain ⟨j, hj⟩ := (I.rm y).mp hy
        exact ⟨j, List.mem_append_left _ hj⟩
      · exact ⟨i, List.mem_append_right _ List.mem_cons_self⟩
    · intro ⟨j, hj⟩
      rcases List.mem_append.mp hj with hj | hj
      · exact hrow y ((I.rm y).mpr ⟨j, hj⟩)
      · rw [(Prod.mk.inj (List.mem_singleton.mp hj)).1]
        exact hx
  · intro y hy
    by_cases h : y = x ∧ ofG as x = []
    · exact ⟨[], if_pos h, List.nodup_nil, fun z => (nomatch z), fun _ z => nomatch z⟩
    · have hyr : y ∈ row := by
        rcases hmem y hy with hy | e
        · exact hy
        · refine Decidable.byContradiction fun hn => h ⟨e, ?_⟩
          rw [← e]
          exact (ofG_nil I.rm).mpr hn
      obtain ⟨z, h1, h2, h3, h4⟩ := I.si y hyr
      refine ⟨z, by show (if _ then _ else _) = _; rw [if_neg h]; exact h1, h2, h3, fun u hu hur => ?_⟩
      by_cases hun : u ∈ row
      · exact (h4 u hu hun).trans hsub
      · have e : u = x := (hmem u hur).elim (fun w => absurd w hun) id
        subst e
        unfold putRow
        rw [if_neg hun]
        exact List.Sublist.append (List.singleton_sublist.mpr hyr) (List.Sublist.refl [u])
  · intro m hm
    rcases List.mem_append.mp hm with hm | hm
    · obtain ⟨m0, hm0, rfl⟩ := List.mem_map.mp hm
      obtain ⟨b1, b2, b3⟩ := I.bd m0 hm0
      have ha : m0.ask ∈ as := by rw [← I.mks]; exact List.mem_map.mpr ⟨m0, hm0, rfl⟩
      have hr : m0.ask.1 ∈ row := (I.rm _).mpr ⟨m0.ask.2, ha⟩
      have e : (ofG (as ++ [(x, i)]) m0.ask.1).idxOf m0.ask.2 = (ofG as m0.ask.1).idxOf m0.ask.2 := by
        rw [ofG_app]
        exact idx_app (mem_ofG.mpr ha)
      show m0.count + (putRow row x).idxOf m0.ask.1 + 1 ≤ (m0.place - (ofG (as ++ [(x, i)]) m0.ask.1).idxOf m0.ask.2) * max m0.wide (putRow row x).length ∧ (ofG (as ++ [(x, i)]) m0.ask.1).idxOf m0.ask.2 < m0.place ∧ (putRow row x).length ≤ max m0.wide (putRow row x).length
      rw [e, hidx _ hr]
      exact ⟨Nat.le_trans b1 (Nat.mul_le_mul_left _ (Nat.le_max_left _ _)), b2, Nat.le_max_right _ _⟩
    · obtain rfl := List.mem_singleton.mp hm
      have hi : i ∉ ofG as x := fun z => hn (mem_ofG.mp z)
      have e : (ofG (as ++ [(x, i)]) x).idxOf i = (ofG as x).length := by
        rw [ofG_app, if_pos rfl, idx_appN hi, List.idxOf_cons_self]
        rfl
      show 0 + (putRow row x).idxOf x + 1 ≤ ((ofG as x).length + 1 - (ofG (as ++ [(x, i)]) x).idxOf i) * (putRow row x).length ∧ (ofG (as ++ [(x, i)]) x).idxOf i < (ofG as x).length + 1 ∧ (putRow row x).length ≤ (putRow row x).length
      rw [e]
      have := List.idxOf_lt_length_of_mem hx
      refine ⟨?_, by omega, Nat.le_refl _⟩
      rw [show (ofG as x).length + 1 - (ofG as x).length = 1 by omega, Nat.one_mul]
      omega
/-- the row behind a serve -/
def serveRow (as : List (α × Nat)) (x : α) (rest : List α) : List α := if 1 < (ofG as x).length then rest ++ [x] else rest
theorem ofG_flt {as : List (α × Nat)} {x y : α} {i : Nat} (h : x ≠ y) : ofG (as.filter fun q => decide (q ≠ (x, i))) y = ofG as y := by
  unfold ofG
  rw [List.filterMap_filter]
  refine congrArg (fun g => List.filterMap g as) (funext fun p => ?_)
  by_cases hp : p.1 = y
  · rw [if_pos hp, if_pos (by simp; intro z; exact h (by rw [← hp, z]))]
  · rw [if_neg hp]
    split <;> rfl
theorem ofG_fltx {x : α} {i : Nat} : ∀ as : List (α × Nat), ofG (as.filter fun q => decide (q ≠ (x, i))) x = (ofG as x).filter fun k => decide (k ≠ i)
  | [] => rfl
  | p :: r => by
    have ih := ofG_fltx (x := x) (i := i) r
    unfold ofG at ih ⊢
    by_cases hp : p.1 = x
    · rw [List.filterMap_cons, if_pos hp]
      by_cases hi : p.2 = i
      · rw [List.filter_cons_of_neg (by simp [← hp, ← hi]), ih]
        show _ = List.filter _ (p.2 :: _)
        rw [List.filter_cons_of_neg (by simp [hi])]
      · rw [List.filter_cons_of_pos (by simp; intro z; exact hi (by rw [z])), List.filterMap_cons, if_pos hp, ih]
        show _ = List.filter _ (p.2 :: _)
        rw [List.filter_cons_of_pos (by simp [hi])]
    · rw [List.filterMap_cons, if_neg hp, List.filter_cons_of_pos (by simp; intro z; exact hp (by rw [z])), List.filterMap_cons, if_neg hp, ih]
theorem ofG_nd {x : α} : ∀ {as : List (α × Nat)}, as.Nodup → (ofG as x).Nodup
  | [], _ => List.nodup_nil
  | p :: r, h => by
    have h2 := List.nodup_cons.mp h
    have ih := ofG_nd (x := x) h2.2
    by_cases hp : p.1 = x
    · have : ofG (p :: r) x = p.2 :: ofG r x := by
        unfold ofG
        rw [List.filterMap_cons, if_pos hp]
      rw [this]
      refine List.nodup_cons.mpr ⟨fun z => h2.1 ?_, ih⟩
      have := mem_ofG.mp z
      rw [← hp] at this
      exact this
    · have : ofG (p :: r) x = ofG r x := by
        unfold ofG
        rw [List.filterMap_cons, if_neg hp]
      rw [this]
      exact ih
theorem flt_head {i : Nat} {l : List Nat} (h : (i :: l).Nodup) : (i :: l).filter (fun k => decide (k ≠ i)) = l := by
  rw [List.filter_cons_of_neg (by simp)]
  refine List.filter_eq_self.mpr fun a ha => decide_eq_true fun z => ?_
  rw [z] at ha
  exact (List.nodup_cons.mp h).1 ha
theorem Inv.served {as : List (α × Nat)} {row : List α} {sf : α → Option (List α)} {ms : List (Mk α)} (I : Inv as row sf ms) {x : α} {rest : List α} {i : Nat} {more : List Nat} (hr : row = x :: rest) (ho : ofG as x = i :: more)
    {sf' : α → Option (List α)} (s1 : sf' x = some []) (s2 : ∀ y ∈ rest, sf' y = (sf y).map (· ++ [x])) :
    Inv (as.filter fun q => decide (q ≠ (x, i))) (serveRow as x rest) sf' ((ms.map fun m => { m with count := m.count + 1 }).filter fun m => decide (m.ask ≠ (x, i))) := by
  subst hr
  have hxi : (x, i) ∈ as := mem_ofG.mp (by rw [ho]; exact List.mem_cons_self)
  have rn := List.nodup_cons.mp I.rn
  have hnd : (i :: more).Nodup := by rw [← ho]; exact ofG_nd I.nd
  have hox : ofG (as.filter fun q => decide (q ≠ (x, i))) x = more := by
    rw [ofG_fltx, ho, flt_head hnd]
  have hrl : rest.Sublist (serveRow as x rest) := by
    unfold serveRow
    split
    · exact List.sublist_append_left _ _
    · exact List.Sublist.refl _
  have hmr : ∀ y, y ∈ serveRow as x rest ↔ y ∈ rest ∨ (y = x ∧ more ≠ []) := fun y => by
    unfold serveRow
    rw [ho]
    cases more with
    | nil => simp
    | cons k l =>
      rw [if_pos (by rw [List.length_cons, List.length_cons]; omega), List.mem_append, List.mem_singleton]
      simp
  have hnx : ∀ y ∈ rest, y ≠ x := fun y hy e => rn.1 (by rw [← e]; exact hy)
  refine ⟨I.nd.filter _, ?_, ?_, ?_, ?_, ?_⟩
  · rw [← I.mks, List.filter_map, List.filter_map, List.map_map]
    rfl
  · unfold serveRow
    split
    · exact List.nodup_append.mpr ⟨rn.2, List.pairwise_singleton _ _, fun a ha b hb e => rn.1 (by rw [← List.mem_singleton.mp hb, ← e]; exact ha)⟩
    · exact rn.2
  · intro y
    rw [hmr y]
    constructor
    · rintro (hy | ⟨rfl, hm⟩)
      · obtain ⟨k, hk⟩ := (I.rm y).mp (List.mem_cons_of_mem _ hy)
        exact ⟨k, List.mem_filter.mpr ⟨hk, decide_eq_true fun z => hnx y hy (Prod.mk.inj z).1⟩⟩
      · cases more with
        | nil => exact absurd rfl hm
        | cons k l => exact ⟨k, mem_ofG.mp (by rw [hox]; exact List.mem_cons_self)⟩
    · intro ⟨k, hk⟩
      have hy := (I.rm y).mpr ⟨k, (List.mem_filter.mp hk).1⟩
      rcases List.mem_cons.mp hy with e | hy
      · refine .inr ⟨e, fun z => ?_⟩
        rw [e, ← mem_ofG, hox, z] at hk
        exact nomatch hk
      · exact .inl hy
  · intro y hy
    rcases (hmr y).mp hy with hyr | ⟨rfl, hm⟩
    · obtain ⟨z, h1, h2, h3, h4⟩ := I.si y (List.mem_cons_of_mem _ hyr)
      have yx := hnx y hyr
      have hxz : x ∉ z := fun w => by
        have q := h4 x w List.mem_cons_self
        cases q with
        | cons _ q => exact rn.1 (q.subset (List.mem_cons_of_mem _ List.mem_cons_self))
        | cons_cons _ q => exact yx rfl
      refine ⟨z ++ [x], by rw [s2 y hyr, h1]; rfl, ?_, ?_, fun u hu hur => ?_⟩
      · exact List.nodup_append.mpr ⟨h2, List.pairwise_singleton _ _, fun a ha b hb e => hxz (by rw [← List.mem_singleton.mp hb, ← e]; exact ha)⟩
      · intro w
        rcases List.mem_append.mp w with w | w
        · exact h3 w
        · exact yx (List.mem_singleton.mp w)
      · rcases List.mem_append.mp hu with hu | hu
        · have ux : u ≠ x := fun e => hxz (by rw [← e]; exact hu)
          have hur' : u ∈ rest := ((hmr u).mp hur).elim id fun w => absurd w.1 ux
          have q := h4 u hu (List.mem_cons_of_mem _ hur')
          cases q with
          | cons _ q => exact q.trans hrl
          | cons_cons _ q => exact absurd rfl yx
        · obtain rfl := List.mem_singleton.mp hu
          have hm : more ≠ [] := ((hmr u).mp hur).elim (fun w => absurd w rn.1) fun w => w.2
          rw [show serveRow as u rest = rest ++ [u] from if_pos (by rw [ho]; cases more with | nil => exact absurd rfl hm | cons => rw [List.length_cons, List.length_cons]; omega)]
          exact List.Sublist.append (l₁ := [y]) (List.singleton_sublist.mpr hyr) (List.Sublist.refl [u])
    · exact ⟨[], s1, List.nodup_nil, fun z => (nomatch z), fun _ z => nomatch z⟩
  · intro m hm
    obtain ⟨hm1, hm2⟩ := List.mem_filter.mp hm
    obtain ⟨m0, hm0, rfl⟩ := List.mem_map.mp hm1
    have hne : m0.ask ≠ (x, i) := of_decide_eq_true hm2
    obtain ⟨b1, b2, b3⟩ := I.bd m0 hm0
    have ha : m0.ask ∈ as := by rw [← I.mks]; exact List.mem_map.mpr ⟨m0, hm0, rfl⟩
    have hl : (serveRow as x rest).length ≤ m0.wide := by
      unfold serveRow
      rw [List.length_cons] at b3
      split
      · rw [List.length_append]; exact b3
      · omega
    show m0.count + 1 + (serveRow as x rest).idxOf m0.ask.1 + 1 ≤ (m0.place - (ofG (as.filter fun q => decide (q ≠ (x, i))) m0.ask.1).idxOf m0.ask.2) * m0.wide ∧ (ofG (as.filter fun q => decide (q ≠ (x, i))) m0.ask.1).idxOf m0.ask.2 < m0.place ∧ (serveRow as x rest).length ≤ m0.wide
    by_cases hx : m0.ask.1 = x
    · have hk : m0.ask.2 ≠ i := fun z => hne (Prod.ext hx z)
      have hkm : m0.ask.2 ∈ ofG as x := by rw [← hx]; exact mem_ofG.mpr ha
      have hmm : m0.ask.2 ∈ more := by
        rw [ho] at hkm
        exact (List.mem_cons.mp hkm).elim (fun w => absurd w hk) id
      have e1 : (ofG as m0.ask.1).idxOf m0.ask.2 = more.idxOf m0.ask.2 + 1 := by
        rw [hx, ho, idx_ne (fun z => hk z.symm)]
      have e2 : (serveRow as x rest).idxOf m0.ask.1 = rest.length := by
        unfold serveRow
        rw [if_pos (by rw [ho]; cases more with | nil => exact nomatch hmm | cons => rw [List.length_cons, List.length_cons]; omega), hx, idx_appN rn.1, List.idxOf_cons_self]
        rfl
      rw [e1] at b1 b2
      rw [hx, List.idxOf_cons_self] at b1
      have e3 : (ofG (as.filter fun q => decide (q ≠ (x, i))) m0.ask.1).idxOf m0.ask.2 = more.idxOf m0.ask.2 := by rw [hx, hox]
      rw [e3, e2]
      rw [List.length_cons] at b3
      refine ⟨?_, by omega, hl⟩
      generalize more.idxOf m0.ask.2 = p at b1 b2 ⊢
      obtain ⟨d, hd⟩ : ∃ d, m0.place = p + 1 + d := ⟨m0.place - (p + 1), by omega⟩
      rw [hd] at b1 ⊢
      rw [show p + 1 + d - (p + 1) = d by omega] at b1
      rw [show p + 1 + d - p = d + 1 by omega, Nat.add_mul, Nat.one_mul]
      omega
    · have hmr0 : m0.ask.1 ∈ rest := (List.mem_cons.mp ((I.rm m0.ask.1).mpr ⟨m0.ask.2, ha⟩)).elim (fun w => absurd w hx) id
      have e2 : (serveRow as x rest).idxOf m0.ask.1 = rest.idxOf m0.ask.1 := by
        unfold serveRow
        split
        · exact idx_app hmr0
        · rfl
      rw [idx_ne (fun z => hx z.symm)] at b1
      rw [ofG_flt (fun z => hx z.symm), e2]
      exact ⟨by omega, b2, hl⟩
/-- what the served ask's mark says -/
theorem Inv.due {as : List (α × Nat)} {row : List α} {sf : α → Option (List α)} {ms : List (Mk α)} (I : Inv as row sf ms) {x : α} {rest : List α} {i : Nat} {more : List Nat} (hr : row = x :: rest) (ho : ofG as x = i :: more) {m : Mk α} (hm : m ∈ ms) (e : m.ask = (x, i)) : m.count + 1 ≤ m.place * m.wide := by
  obtain ⟨b1, b2, b3⟩ := I.bd m hm
  rw [e, ho, List.idxOf_cons_self, hr, List.idxOf_cons_self] at b1
  exact b1
theorem Inv.fresh {as : List (α × Nat)} {row : List α} {sf : α → Option (List α)} {ms : List (Mk α)} (I : Inv as row sf ms) {x y : α} {rest : List α} (hr : row = x :: rest) (hy : y ∈ rest) : ∃ z, sf y = some z ∧ x ∉ z ∧ z.Nodup := by
  subst hr
  have rn := List.nodup_cons.mp I.rn
  obtain ⟨z, h1, h2, h3, h4⟩ := I.si y (List.mem_cons_of_mem _ hy)
  refine ⟨z, h1, fun w => ?_, h2⟩
  have q := h4 x w List.mem_cons_self
  cases q with
  | cons _ q => exact rn.1 (q.subset (List.mem_cons_of_mem _ List.mem_cons_self))
  | cons_cons _ q => exact rn.1 hy
theorem idx_flt {x : α} (p : α → Bool) (hx : p x = true) : ∀ l : List α, (l.filter p).idxOf x ≤ l.idxOf x
  | [] => Nat.le_refl _
  | y :: r => by
    have ih := idx_flt p hx r
    by_cases hy : p y = true
    · rw [List.filter_cons_of_pos hy]
      by_cases e : y = x
      · rw [e, List.idxOf_cons_self, List.idxOf_cons_self]
        exact Nat.le_refl _
      · rw [idx_ne e, idx_ne e]
        omega
    · rw [List.filter_cons_of_neg hy]
      have e : y ≠ x := fun z => hy (by rw [z]; exact hx)
      rw [idx_ne e]
      omega
theorem ofG_leave {x y : α} (h : y ≠ x) (as : List (α × Nat)) : ofG (as.filter fun q => decide (q.1 ≠ x)) y = ofG as y := by
  unfold ofG
  rw [List.filterMap_filter]
  refine congrArg (fun g => List.filterMap g as) (funext fun p => ?_)
  by_cases hp : p.1 = y
  · rw [if_pos hp, if_pos (by simp; intro z; exact h (by rw [← hp, z]))]
  · rw [if_neg hp]
    split <;> rfl
theorem Inv.left {as : List (α × Nat)} {row : List α} {sf : α → Option (List α)} {ms : List (Mk α)} (I : Inv as row sf ms) (x : α) :
    Inv (as.filter fun q => decide (q.1 ≠ x)) (row.filter fun y => decide (y ≠ x)) sf (ms.filter fun m => decide (m.ask.1 ≠ x)) := by
  refine ⟨I.nd.filter _, ?_, I.rn.filter _, fun y => ?_, fun y hy => ?_, fun m hm => ?_⟩
  · rw [← I.mks, List.filter_map]
    rfl
  · rw [List.mem_filter, I.rm y]
    exact ⟨fun ⟨⟨i, hi⟩, h⟩ => ⟨i, List.mem_filter.mpr ⟨hi, h⟩⟩, fun ⟨i, hi⟩ => ⟨⟨i, (List.mem_filter.mp hi).1⟩, (List.mem_filter.mp hi).2⟩⟩
  · have hy' := List.mem_filter.mp hy
    obtain ⟨z, h1, h2, h3, h4⟩ := I.si y hy'.1
    refine ⟨z, h1, h2, h3, fun u hu hur => ?_⟩
    have hu' := List.mem_filter.mp hur
    have q := (h4 u hu hu'.1).filter fun y => decide (y ≠ x)
    have e : [y, u].filter (fun y => decide (y ≠ x)) = [y, u] := List.filter_eq_self.mpr fun w hw => by
      simp only [List.mem_cons, List.not_mem_nil, or_false] at hw
      rcases hw with rfl | rfl
      · exact hy'.2
      · exact hu'.2
    rw [e] at q
    exact q
  · have hm' := List.mem_filter.mp hm
    have hne : m.ask.1 ≠ x := of_decide_eq_true hm'.2
    obtain ⟨b1, b2, b3⟩ := I.bd m hm'.1
    rw [ofG_leave hne]
    have := idx_flt (fun y => decide (y ≠ x)) (decide_eq_true hne) row
    exact ⟨by omega, b2, Nat.le_trans (List.length_filter_le _ _) b3⟩
end
end K23

namespace K23
open PySem PySem.Spec PyProof.Rows L2 Bk


theorem units1 {k : Nat} {A : Around} (r : Room k A) : A.units + 1 < cLine := by
  have := r.un
  omega
/-! ### what the law has seen of a queue -/
structure Sv where
  S : Addr
  hd : Addr
  sd : Addr
  ml : Addr
  held : List (Str × Addr × List Nat)
  since : List (Str × Addr × List Str)
  marks : List (Addr × Addr × Mk Str)
def intsV (l : List Nat) : List V := l.map fun (i : Nat) => V.int i
def markV (m : Addr × Addr × Mk Str) : List V := [.ref m.2.1, .int (m.2.2.place : Nat), .int (m.2.2.count : Nat), .int (m.2.2.wide : Nat)]
def topD (v : Sv) : List (Key × V) := [(.inr "held", .ref v.hd), (.inr "since", .ref v.sd), (.inr "marks", .ref v.ml)]
def dicD {β : Type} (l : List (Str × Addr × β)) : List (Key × V) := l.map fun e => (.inr e.1, .ref e.2.1)
def adrs (v : Sv) : List Addr := v.S :: v.hd :: v.sd :: v.ml :: (v.held.map (·.2.1) ++ (v.since.map (·.2.1) ++ v.marks.map (·.1)))
def fnd {β : Type} (l : List (Str × Addr × β)) (x : Str) : Option β := (l.find? fun e => decide (e.1 = x)).map (·.2.2)
structure Ap (v : Sv) : Prop where
  bb : v.S ≠ v.hd ∧ v.S ≠ v.sd ∧ v.S ≠ v.ml ∧ v.hd ≠ v.sd ∧ v.hd ≠ v.ml ∧ v.sd ≠ v.ml
  bh : ∀ e ∈ v.held, v.S ≠ e.2.1 ∧ v.hd ≠ e.2.1 ∧ v.sd ≠ e.2.1 ∧ v.ml ≠ e.2.1
  bs : ∀ e ∈ v.since, v.S ≠ e.2.1 ∧ v.hd ≠ e.2.1 ∧ v.sd ≠ e.2.1 ∧ v.ml ≠ e.2.1
  bm : ∀ m ∈ v.marks, v.S ≠ m.1 ∧ v.hd ≠ m.1 ∧ v.sd ≠ m.1 ∧ v.ml ≠ m.1
  hs : ∀ e ∈ v.held, ∀ f ∈ v.since, e.2.1 ≠ f.2.1
  hm : ∀ e ∈ v.held, ∀ m ∈ v.marks, e.2.1 ≠ m.1
  sm : ∀ f ∈ v.since, ∀ m ∈ v.marks, f.2.1 ≠ m.1
  hh : (v.held.map (·.2.1)).Nodup
  ss : (v.since.map (·.2.1)).Nodup
  mm : (v.marks.map (·.1)).Nodup
theorem ap_iff {v : Sv} : (adrs v).Nodup ↔ Ap v := by
  constructor
  · intro h
    unfold adrs at h
    simp only [List.nodup_cons, List.mem_cons, List.mem_append, List.mem_map, not_or, not_exists, not_and, List.nodup_append] at h
    obtain ⟨⟨a1, a2, a3, a4, a5, a6⟩, ⟨b2, b3, b4, b5, b6⟩, ⟨c3, c4, c5, c6⟩, ⟨d4, d5, d6⟩, e1, ⟨e2, e3, e4⟩, e5⟩ := h
    exact ⟨⟨a1, a2, a3, b2, b3, c3⟩, fun e he => ⟨fun z => a4 e he z.symm, fun z => b4 e he z.symm, fun z => c4 e he z.symm, fun z => d4 e he z.symm⟩, fun e he => ⟨fun z => a5 e he z.symm, fun z => b5 e he z.symm, fun z => c5 e he z.symm, fun z => d5 e he z.symm⟩,
      fun e he => ⟨fun z => a6 e he z.symm, fun z => b6 e he z.symm, fun z => c6 e he z.symm, fun z => d6 e he z.symm⟩, fun e he f hf => e5 _ ⟨e, he, rfl⟩ _ (.inl ⟨f, hf, rfl⟩), fun e he m hm => e5 _ ⟨e, he, rfl⟩ _ (.inr ⟨m, hm, rfl⟩), fun f hf m hm => e4 _ ⟨f, hf, rfl⟩ _ ⟨m, hm, rfl⟩, e1, e2, e3⟩
  · intro ⟨⟨a1, a2, a3, b2, b3, c3⟩, bh, bs, bm, hs, hm, sm, hh, ss, mm⟩
    unfold adrs
    simp only [List.nodup_cons, List.mem_cons, List.mem_append, List.mem_map, not_or, not_exists, not_and, List.nodup_append]
    refine ⟨⟨a1, a2, a3, fun e he z => (bh e he).1 z.symm, fun e he z => (bs e he).1 z.symm, fun e he z => (bm e he).1 z.symm⟩, ⟨b2, b3, fun e he z => (bh e he).2.1 z.symm, fun e he z => (bs e he).2.1 z.symm, fun e he z => (bm e he).2.1 z.symm⟩,
      ⟨c3, fun e he z => (bh e he).2.2.1 z.symm, fun e he z => (bs e he).2.2.1 z.symm, fun e he z => (bm e he).2.2.1 z.symm⟩, ⟨fun e he z => (bh e he).2.2.2 z.symm, fun e he z => (bs e he).2.2.2 z.symm, fun e he z => (bm e he).2.2.2 z.symm⟩, hh, ⟨ss, mm, ?_⟩, ?_⟩
    · rintro a ⟨f, hf, rfl⟩ b ⟨m, hm', rfl⟩
      exact sm f hf m hm'
    · rintro a ⟨e, he, rfl⟩ b (⟨f, hf, rfl⟩ | ⟨m, hm', rfl⟩)
      · exact hs e he f hf
      · exact hm e he m hm'
/-- where things lie -/
structure Ly (H : Hp) (v : Sv) : Prop where
  ap : Ap v
  eS : H v.S = some (.dK (topD v))
  eh : H v.hd = some (.dK (dicD v.held))
  es : H v.sd = some (.dK (dicD v.since))
  em : H v.ml = some (.lst (v.marks.map fun m => .ref m.1))
  el : ∀ e ∈ v.held, H e.2.1 = some (.lst (intsV e.2.2))
  ez : ∀ e ∈ v.since, H e.2.1 = some (.lst (e.2.2.map V.str))
  ek : ∀ m ∈ v.marks, H m.1 = some (.lst (markV m))
  tu : ∀ m ∈ v.marks, H m.2.1 = some (.tup [.str m.2.2.ask.1, .int (m.2.2.ask.2 : Nat)])
  hk : (v.held.map (·.1)).Nodup
  sk : (v.since.map (·.1)).Nodup
theorem Ly.keep {H H' : Hp} {v : Sv} (c : Ly H v) (s : ∀ b u, b ∈ adrs v → H b = some u → H' b = some u) (t : ∀ b xs, H b = some (.tup xs) → H' b = some (.tup xs)) : Ly H' v :=
  ⟨c.ap, s _ _ (by simp [adrs]) c.eS, s _ _ (by simp [adrs]) c.eh, s _ _ (by simp [adrs]) c.es, s _ _ (by simp [adrs]) c.em,
    fun e he => s _ _ (by unfold adrs; simp only [List.mem_cons, List.mem_append, List.mem_map]; exact .inr (.inr (.inr (.inr (.inl ⟨e, he, rfl⟩))))) (c.el e he),
    fun e he => s _ _ (by unfold adrs; simp only [List.mem_cons, List.mem_append, List.mem_map]; exact .inr (.inr (.inr (.inr (.inr (.inl ⟨e, he, rfl⟩)))))) (c.ez e he),
    fun e he => s _ _ (by unfold adrs; simp only [List.mem_cons, List.mem_append, List.mem_map]; exact .inr (.inr (.inr (.inr (.inr (.inr ⟨e, he, rfl⟩)))))) (c.ek e he),
    fun m hm => t _ _ (c.tu m hm), c.hk, c.sk⟩
theorem Ly.same {H H' : Hp} {v : Sv} (c : Ly H v) (s : Same H H') : Ly H' v := c.keep (fun b u _ => s b u) fun b xs => s b _
/-- what is held is what waits -/
structure Hl (v : Sv) (as : List (Str × Nat)) (row : List Str) : Prop where
  he : ∀ e ∈ v.held, e.2.2 = ofN as e.1
  hm : ∀ x i, (x, i) ∈ as → ∃ e ∈ v.held, e.1 = x
  rn : row.Nodup
  rm : ∀ x, x ∈ row ↔ ∃ i, (x, i) ∈ as
  hl : v.held.length ≤ 30
structure Sn (NS : List Str) (H : Hp) (v : Sv) (as : List (Str × Nat)) (row : List Str) : Prop where
  ly : Ly H v
  he : ∀ e ∈ v.held, e.2.2 = ofN as e.1
  hm : ∀ x i, (x, i) ∈ as → ∃ e ∈ v.held, e.1 = x
  inv : Inv as row (fnd v.since) (v.marks.map (·.2.2))
  hn : ∀ e ∈ v.held, e.1 ∈ NS
  sn : ∀ e ∈ v.since, e.1 ∈ NS ∧ e.2.2.Nodup ∧ ∀ y ∈ e.2.2, y ∈ NS
  sz : ∀ m ∈ v.marks, m.2.2.place ≤ 60 ∧ m.2.2.wide ≤ 60
  small : as.length ≤ 60
  nok : ∀ y ∈ NS, nameOk y = true
  nl : NS.length ≤ 20
section
variable {NS : List Str} {H H' : Hp} {v : Sv} {as : List (Str × Nat)} {row : List Str}
theorem Sn.same (n : Sn NS H v as row) (s : Same H H') : Sn NS H' v as row := { n with ly := n.ly.same s }
theorem Sn.hl (n : Sn NS H v as row) : v.held.length ≤ 20 := by
  have z := nd_le n.ly.hk fun x hx => by
    obtain ⟨e, he, rfl⟩ := List.mem_map.mp hx
    exact n.hn e he
  rw [List.length_map] at z
  exact Nat.le_trans z n.nl
theorem Sn.sl (n : Sn NS H v as row) : v.since.length ≤ 20 := by
  have z := nd_le n.ly.sk fun x hx => by
    obtain ⟨e, he, rfl⟩ := List.mem_map.mp hx
    exact (n.sn e he).1
  rw [List.length_map] at z
  exact Nat.le_trans z n.nl
theorem Sn.mln (n : Sn NS H v as row) : v.marks.length ≤ 60 := by
  have z := congrArg List.length n.inv.mks
  rw [List.length_map, List.length_map] at z
  rw [z]
  exact n.small
theorem Sn.hld (n : Sn NS H v as row) : Hl v as row := ⟨n.he, n.hm, n.inv.rn, n.inv.rm, Nat.le_trans n.hl (by decide)⟩
end
theorem ne_hs : ¬ (Sum.inr (Str.ofString "held") : Key) = .inr (Str.ofString "since") := by decide +kernel
theorem ne_hm : ¬ (Sum.inr (Str.ofString "held") : Key) = .inr (Str.ofString "marks") := by decide +kernel
theorem ne_sm : ¬ (Sum.inr (Str.ofString "since") : Key) = .inr (Str.ofString "marks") := by decide +kernel
theorem top_h {v : Sv} : valV (topD v) (.inr "held" : Key) = some (.ref v.hd) := valV_pos rfl
theorem top_s {v : Sv} : valV (topD v) (.inr "since" : Key) = some (.ref v.sd) := (valV_neg ne_hs).trans (valV_pos rfl)
theorem top_m {v : Sv} : valV (topD v) (.inr "marks" : Key) = some (.ref v.ml) := (valV_neg ne_hm).trans ((valV_neg ne_sm).trans (valV_pos rfl))
theorem valV_dic {β : Type} : ∀ {l : List (Str × Addr × β)} {e : Str × Addr × β}, (l.map (·.1)).Nodup → e ∈ l → valV (dicD l) (.inr e.1 : Key) = some (.ref e.2.1)
  | [], _, _, h => nomatch h
  | a :: r, e, nd, h => by
    have nd' := List.nodup_cons.mp nd
    rcases List.mem_cons.mp h with rfl | h
    · exact valV_pos rfl
    · refine (valV_neg (fun z => nd'.1 ?_)).trans (valV_dic nd'.2 h)
      have z : (Sum.inr a.1 : Key) = .inr e.1 := z
      injection z with z
      show a.1 ∈ _
      rw [z]
      exact List.mem_map.mpr ⟨e, h, rfl⟩
theorem valV_dicN {β : Type} : ∀ {l : List (Str × Addr × β)} {x : Str}, x ∉ l.map (·.1) → valV (dicD l) (.inr x : Key) = none
  | [], _, _ => rfl
  | a :: r, x, h => by
    refine (valV_neg (fun z => h ?_)).trans (valV_dicN fun z => h (List.mem_cons_of_mem _ z))
    have z : (Sum.inr a.1 : Key) = .inr x := z
    injection z with z
    rw [← z]
    exact List.mem_cons_self
theorem fnd_of {β : Type} : ∀ {l : List (Str × Addr × β)} {e : Str × Addr × β}, (l.map (·.1)).Nodup → e ∈ l → fnd l e.1 = some e.2.2
  | [], _, _, h => nomatch h
  | a :: r, e, nd, h => by
    have nd' := List.nodup_cons.mp nd
    unfold fnd
    rcases List.mem_cons.mp h with rfl | h
    · rw [List.find?_cons_of_pos (by simp)]
      rfl
    · rw [List.find?_cons_of_neg (by
        simp only [decide_eq_true_eq]
        exact fun z => nd'.1 (by show a.1 ∈ _; rw [z]; exact List.mem_map.mpr ⟨e, h, rfl⟩))]
      exact fnd_of nd'.2 h
theorem fnd_some {β : Type} {l : List (Str × Addr × β)} {x : Str} {z : β} (h : fnd l x = some z) : ∃ e ∈ l, e.1 = x ∧ e.2.2 = z := by
  unfold fnd at h
  cases c : l.find? fun e => decide (e.1 = x) with
  | none => rw [c] at h; exact nomatch h
  | some e =>
    rw [c] at h
    have c2 := List.find?_some c
    exact ⟨e, List.mem_of_find?_eq_some c, of_decide_eq_true c2, Option.some.inj h⟩
theorem r_dget {te ti : TE} {σ : L2.St} {H : Hp} {Q : VK} (h : te σ H fun x H1 => ti σ H1 fun y H2 => ∃ (a : Addr) (v : V), x = .ref a ∧ DGet H2 a y (some v) ∧ Q v H2) : tDGet te ti σ H Q := h
section
variable {K : PySem.W.Frag} {σ : L2.St} {H : Hp} {Q : VK} {j : Nat} {vs : List Nat} {tt : TT} {te tl : TE} {d : Addr} {kvs : List (Key × V)}
/-- a comprehension over a dict's keys -/
theorem lcKeys (p : Nat → Option V) (hd : H d = some (.dK kvs)) (hl : kvs.length ≤ 10000) (hw : ∀ x, wipe ((wipe σ vs).set j (some x)) vs = wipe σ vs)
    (hv : ∀ (od : Obj) (QQ : VK), QQ (.ref d) (upd H d (.frz od (.dK kvs))) → tl σ (upd H d (.frz od (.dK kvs))) QQ)
    (ht : ∀ (i : Nat) (k : Key) (y : V) (od : Obj) (H1 : Hp) (Q' : VK) (R' : Hp → Prop), kvs[i]? = some (k, y) → H1 d = some (.frz od (.dK kvs)) → (∀ b u, b ≠ d → H b = some u → H1 b = some u) → (∀ v, p i = some v → ∀ H3, Same H1 H3 → Q' v H3) → (p i = none → ∀ H3, Same H1 H3 → R' H3) →
      tt ((wipe σ vs).set j (some (kV k))) H1 fun b H4 => if b = true then te ((wipe σ vs).set j (some (kV k))) H4 Q' else R' H4)
    (q : ∀ D H', H D = none → Same H H' → H' D = some (.lst ((List.range kvs.length).filterMap p)) → Q (.ref D) H') : tLockE (tLc (iKeys tl) (gName j) tt te vs) σ H Q := by
  refine ⟨d, .dK kvs, hd, trivial, fun od => ?_⟩
  have f0 : ∀ b u, b ≠ d → H b = some u → upd H d (.frz od (.dK kvs)) b = some u := fun b u nb eb => by rw [upd_ne nb]; exact eb
  have e0 : upd H d (.frz od (.dK kvs)) d = some (.frz od (.dK kvs)) := upd_same
  have z0 : ∀ {D : Addr}, upd H d (.frz od (.dK kvs)) D = none → H D = none ∧ D ≠ d := fun {D} z => by
    by_cases h : D = d
    · rw [h, upd_same] at z; exact nomatch z
    · rw [upd_ne h] at z; exact ⟨z, h⟩
  refine hv od _ ⟨d, od, rfl, .inl ⟨kvs, e0, fun D hD => ?_⟩⟩
  refine lc_by (g := gName j) (tt := tt) (te := te) (vs := vs) (σ := σ) (Q := fun v H' => H' d = some (.frz od (.dK kvs)) ∧ Q v (upd H' d (.dK kvs))) walk_keys p hD hl (fun H' s => s _ _ e0) (fun i x H1 H2 Q' R' hi sm y h1 h2 => ?_) fun H' s e => ?_
  · obtain ⟨rfl, k, v, hk, rfl⟩ := y
    exact ⟨hw _, ht i k v od H2 Q' R' hk (sm _ _ e0) (fun b u nb eb => sm _ _ (f0 b u nb eb)) h1 h2⟩
  · obtain ⟨hD1, hD2⟩ := z0 hD
    refine ⟨s _ _ e0, q D _ hD1 (fun b u eb => ?_) (by rw [upd_ne hD2]; exact e)⟩
    by_cases h : b = d
    · rw [h, upd_same, ← hd, ← h]
      exact eb
    · rw [upd_ne h]
      exact s _ _ (f0 b u h eb)
end
theorem eqv_nil {ds : List PyData} : PyData.eqv (.list ds) (.list []) = decide (ds = []) := by
  cases ds with
  | nil => rfl
  | cons a r => rfl
end K23

namespace K23
open PySem PySem.Spec PyProof.Rows L2 Bk


def intD (l : List Nat) : PyData := .list (l.map fun (i : Nat) => .int i)
theorem lay_ints : ∀ l : List Nat, PyData.canLayAll0 (l.map fun (i : Nat) => .int i) = true ∧ PyData.depthAll (l.map fun (i : Nat) => PyData.int i) = 0
  | [] => ⟨rfl, rfl⟩
  | a :: r => by
    obtain ⟨h1, h2⟩ := lay_ints r
    constructor
    · show (PyData.canLay0 (.int a) && PyData.canLayAll0 _) = true
      rw [h1]
      rfl
    · show max (PyData.depth (.int a)) (PyData.depthAll _) = 0
      rw [h2]
      rfl
theorem sh_ints (l : List Nat) : SeqAt.shaped (intD l) = true := by
  unfold SeqAt.shaped intD
  simp only [PyData.canLay0, (lay_ints l).1, PyData.depth, (lay_ints l).2, Bool.true_and]
  decide
theorem dps_ints {K : PySem.W.Frag} {H : Hp} : ∀ l : List Nat, DpAll K H (intsV l) (l.map fun (i : Nat) => .int i)
  | [] => .nil
  | a :: r => .cons (.int _) (dps_ints r)
theorem dp_ints {K : PySem.W.Frag} {H : Hp} {a : Addr} {l : List Nat} (h : SqL K H a (intsV l)) : Dp K H (.ref a) (intD l) := .lst h (dps_ints l)
theorem sh_nil : SeqAt.shaped (.list []) = true := by decide +kernel
section
variable {σ : L2.St} {H : Hp} {Q : VK} {i j : Nat} {a b : Addr} {z x : Str} {kvs lvs : List (Key × V)} {y : V}
theorem r_dgT (hv : σ[i]? = some (some (.ref a))) (e : Rd H a (.dK kvs)) (hx : valV kvs (.inr z : Key) = some y) (q : Q y H) : tDGet (tVar i) (tC (.str z)) σ H Q := ⟨_, hv, a, y, rfl, .inl ⟨kvs, .inr z, e, rfl, hx.symm⟩, q⟩
theorem r_dg2 (hv : σ[i]? = some (some (.ref a))) (e : Rd H a (.dK kvs)) (hx : valV kvs (.inr z : Key) = some (.ref b)) (e2 : Rd H b (.dK lvs)) (hj : σ[j]? = some (some (.str x))) (h2 : valV lvs (.inr x : Key) = some y) (q : Q y H) :
    tDGet (tDGet (tVar i) (tC (.str z))) (tVar j) σ H Q := r_dgT hv e hx ⟨_, hj, b, y, rfl, .inl ⟨lvs, .inr x, e2, rfl, h2.symm⟩, q⟩
end
theorem Hl.rowlen {v : Sv} {as : List (Str × Nat)} {row : List Str} (n : Hl v as row) (hk : (v.held.map (·.1)).Nodup) : (v.held.filterMap fun e => if e.2.2 = [] then none else some (V.str e.1)).length = row.length := by
  have e1 : (v.held.filterMap fun e => if e.2.2 = [] then none else some (V.str e.1)) = ((v.held.filter fun e => decide (¬ e.2.2 = [])).map (·.1)).map V.str := by
    rw [fm_flt (fun e : Str × Addr × List Nat => e.2.2 = []) (fun e => V.str e.1), List.map_map]
    rfl
  rw [e1, List.length_map]
  have hmem : ∀ x, x ∈ (v.held.filter fun e => decide (¬ e.2.2 = [])).map (·.1) ↔ x ∈ row := fun x => by
    rw [n.rm x, List.mem_map]
    constructor
    · rintro ⟨e, he, rfl⟩
      have he' := List.mem_filter.mp he
      have w := n.he e he'.1
      cases c : e.2.2 with
      | nil => exact absurd c (of_decide_eq_true he'.2)
      | cons i r => exact ⟨i, mem_ofN.mp (by rw [← w, c]; exact List.mem_cons_self)⟩
    · rintro ⟨i, hi⟩
      obtain ⟨e, he, rfl⟩ := n.hm x i hi
      refine ⟨e, List.mem_filter.mpr ⟨he, decide_eq_true fun z => ?_⟩, rfl⟩
      have w := mem_ofN.mpr hi
      rw [← n.he e he, z] at w
      exact nomatch w
  have nd1 : ((v.held.filter fun e => decide (¬ e.2.2 = [])).map (·.1)).Nodup := hk.sublist ((List.filter_sublist).map _)
  exact Nat.le_antisymm (nd_le nd1 fun x hx => (hmem x).mp hx) (nd_le n.rn fun x hx => (hmem x).mpr hx)
def spRow : Sp := fun vs H Q _ => ∃ (v : Sv) (as : List (Str × Nat)) (row : List Str), vs = [.ref v.S] ∧ Ly H v ∧ Hl v as row ∧ ∀ H', Same H H' → Q (.int row.length) H'
section
variable {P : Program} {w : World} {K : PySem.W.Frag} {mg : Str → Option Value} {base : Heap} {A : Ad}
theorem ok_row {f : Addr} {fd : FuncData} (F : Fun K "_law_row" "_law_row" s_row_L f fd) (T : Txt K mg A) : FnOk P w K mg base CX0 1 f fd ["_law_seen"] spRow := by
  refine F.ok sc_row_L (fun vs H Q E h => ?_) (fun cdv A' outer s H vs Q E hr h => have hu65 := units65 hr; have hu64 := hr.units; have hu := units1 hr; ⟨_, (pss_one (ps_ret (pe_callB call_len_seq (by rfl) T.m_len (by decide +kernel) (pa_cons (pe_lock (pe_lc (own := [("_law_name", 1)]) rfl sc_row_L.nd (pi_keys (pe_dget hu (pv 0) pe_str (fun _ _ => rfl))) (blkOk_by (N := ["_law_seen", "_law_name"]) (sc := defScope s_row_L) (by decide +kernel)) (fun _ _ _ _ _ => (pg_name (i := 1) sc_row_L.nd rfl (.inl rfl))) (fun _ _ _ _ _ => pts_one (pt_cmpR (op_neDK (K := K) rfl hu64) (pe_dget hu (pe_dget hu (pv 0) pe_str (fun _ _ => rfl)) (pv 1) (fun _ _ => rfl)) (pe_lstB pa_nil) (nomark _))) (fun _ _ _ _ _ => (pv 1)))) pa_nil)))), ?_⟩)
  · obtain ⟨v, as, row, rfl, _⟩ := h
    rfl
  · obtain ⟨v, as, row, rfl, n, nh, q⟩ := h
    walk_at "go"
    have hl : (dicD v.held).length ≤ 10000 := by
      unfold dicD
      rw [List.length_map]
      have := nh.hl
      omega
    have hne : v.S ≠ v.hd := n.ap.bb.1
    refine lcKeys (d := v.hd) (kvs := dicD v.held) (fun i => (fun (e : Str × Addr × List Nat) => if e.2.2 = [] then none else some (V.str e.1)) (v.held.getD i ("", 0, []))) n.eh hl (fun _ => rfl) (fun od QQ z => ?_) (fun i k y od H1 Q' R' hk ed kp h1 h2 => ?_) fun D H1 nD s1 e1 => ?_
    · refine r_dgT rfl (.inl (by rw [upd_ne hne]; exact n.eS)) top_h z
    · unfold dicD at hk
      rw [List.getElem?_map] at hk
      cases c : v.held[i]? with
      | none => rw [c] at hk; exact nomatch hk
      | some e =>
        rw [c] at hk
        obtain ⟨rfl, rfl⟩ := Prod.mk.inj (Option.some.inj hk)
        have hg : v.held.getD i ("", 0, []) = e := by rw [List.getD_eq_getElem?_getD, c]; rfl
        rw [hg] at h1 h2
        have he := List.mem_of_getElem? c
        have hle : e.2.1 ≠ v.hd := fun z => by
          have w := n.el e he
          rw [z, n.eh] at w
          exact nomatch w
        walk_at "go"
        refine r_dg2 rfl (.inl (kp _ _ hne n.eS)) top_h (.inr ⟨od, ed⟩) rfl (valV_dic n.hk he) ?_
        refine r_lstB (r_nil (newLB fun p H2 np g2 s2 e2 => ?_))
        refine ⟨_, .list [], dp_ints (sqL (s2 _ _ (kp _ _ hle (n.el e he)))), .lst (sqL e2) .nil, sh_ints _, sh_nil, ?_⟩
        unfold intD
        rw [eqv_nil]
        by_cases hz : e.2.2 = []
        · rw [decide_eq_true (by rw [hz]; rfl)]
          walk_at "go"
          exact h2 (if_pos hz) _ s2
        · rw [decide_eq_false (fun w => hz (List.map_eq_nil_iff.mp w))]
          walk_at "go"
          exact h1 _ (if_neg hz) _ s2
    · walk_at "go"
      refine ⟨D, _, rfl, .inl (sqL e1), ?_⟩
      have z := rng_fm ((Str.ofString "", 0, []) : Str × Addr × List Nat) v.held (fun e => if e.2.2 = [] then none else some (V.str e.1))
      have hdl : (dicD v.held).length = v.held.length := List.length_map _
      rw [hdl, z, nh.rowlen n.hk]
      exact q _ s1
end
end K23

namespace K23
open PySem PySem.Spec PyProof.Rows L2 Bk
section
variable {β : Type}
def setB (l : List (Str × Addr × β)) (x : Str) (p : Addr) (b : β) : List (Str × Addr × β) := if x ∈ l.map (·.1) then l.map (fun e => if e.1 = x then (x, p, b) else e) else l ++ [(x, p, b)]
def wrB (l : List (Str × Addr × β)) (x : Str) (b : β) : List (Str × Addr × β) := l.map fun e => if e.1 = x then (e.1, e.2.1, b) else e
theorem wrB_key (l : List (Str × Addr × β)) (x : Str) (b : β) : (wrB l x b).map (·.1) = l.map (·.1) := by
  unfold wrB
  rw [List.map_map]
  refine List.map_congr_left fun e _ => ?_
  show (if e.1 = x then (e.1, e.2.1, b) else e).1 = e.1
  split <;> rfl
theorem wrB_adr (l : List (Str × Addr × β)) (x : Str) (b : β) : (wrB l x b).map (·.2.1) = l.map (·.2.1) := by
  unfold wrB
  rw [List.map_map]
  refine List.map_congr_left fun e _ => ?_
  show (if e.1 = x then (e.1, e.2.1, b) else e).2.1 = e.2.1
  split <;> rfl
theorem wrB_dic (l : List (Str × Addr × β)) (x : Str) (b : β) : dicD (wrB l x b) = dicD l := by
  unfold wrB dicD
  rw [List.map_map]
  refine List.map_congr_left fun e _ => ?_
  show ((.inr (if e.1 = x then (e.1, e.2.1, b) else e).1, .ref (if e.1 = x then (e.1, e.2.1, b) else e).2.1) : Key × V) = _
  split <;> rfl
theorem wrB_mem {l : List (Str × Addr × β)} {x : Str} {b : β} {e : Str × Addr × β} (h : e ∈ wrB l x b) : (e.1 = x ∧ e.2.2 = b ∧ ∃ e0 ∈ l, e0.1 = x ∧ e0.2.1 = e.2.1) ∨ (e ∈ l ∧ e.1 ≠ x) := by
  obtain ⟨e0, h0, rfl⟩ := List.mem_map.mp h
  by_cases c : e0.1 = x
  · rw [if_pos c]
    exact .inl ⟨c, rfl, e0, h0, c, rfl⟩
  · rw [if_neg c]
    exact .inr ⟨h0, c⟩
theorem wrB_fnd {l : List (Str × Addr × β)} {x y : Str} {b : β} : fnd (wrB l x b) y = if y = x then (fnd l x).map fun _ => b else fnd l y := by
  unfold fnd wrB
  induction l with
  | nil => split <;> rfl
  | cons a r ih =>
    rw [List.map_cons]
    by_cases c : a.1 = x
    · rw [if_pos c]
      by_cases d : y = x
      · rw [if_pos d, List.find?_cons_of_pos (by simp [c, d]), List.find?_cons_of_pos (by simp [c])]
        rfl
      · rw [if_neg d] at ih ⊢
        have hn : ¬ a.1 = y := fun z => d (by rw [← z, c])
        rw [List.find?_cons_of_neg (by simpa using hn), List.find?_cons_of_neg (by simpa using hn), ih]
    · rw [if_neg c]
      by_cases e : a.1 = y
      · rw [List.find?_cons_of_pos (by simp [e]), if_neg (fun z => c (by rw [e, z])), List.find?_cons_of_pos (by simp [e])]
      · rw [List.find?_cons_of_neg (by simpa using e), ih]
        by_cases d : y = x
        · rw [if_pos d, if_pos d, List.find?_cons_of_neg (by simpa using c)]
        · rw [if_neg d, if_neg d, List.find?_cons_of_neg (by simpa using e)]
theorem setB_key (l : List (Str × Addr × β)) (x : Str) (p : Addr) (b : β) : (setB l x p b).map (·.1) = if x ∈ l.map (·.1) then l.map (·.1) else l.map (·.1) ++ [x] := by
  unfold setB
  split
  · rw [List.map_map]
    refine List.map_congr_left fun e _ => ?_
    show (if e.1 = x then (x, p, b) else e).1 = e.1
    split
    · rename_i h; exact h.symm
    · rfl
  · rw [List.map_append]
    rfl
theorem setB_nd {l : List (Str × Addr × β)} (x : Str) (p : Addr) (b : β) (h : (l.map (·.1)).Nodup) : ((setB l x p b).map (·.1)).Nodup := by
  rw [setB_key]
  split
  · exact h
  · rename_i hn
    exact List.nodup_append.mpr ⟨h, List.pairwise_singleton _ _, fun a ha c hc e => hn (by rw [← List.mem_singleton.mp hc, ← e]; exact ha)⟩
theorem setB_mem {l : List (Str × Addr × β)} {x : Str} {p : Addr} {b : β} {e : Str × Addr × β} (h : e ∈ setB l x p b) : e = (x, p, b) ∨ (e ∈ l ∧ e.1 ≠ x) := by
  unfold setB at h
  split at h
  · obtain ⟨e0, h0, rfl⟩ := List.mem_map.mp h
    by_cases c : e0.1 = x
    · rw [if_pos c]; exact .inl rfl
    · rw [if_neg c]; exact .inr ⟨h0, c⟩
  · rename_i hn
    rcases List.mem_append.mp h with h | h
    · exact .inr ⟨h, fun z => hn (by rw [← z]; exact List.mem_map.mpr ⟨e, h, rfl⟩)⟩
    · exact .inl (List.mem_singleton.mp h)
theorem setB_in (l : List (Str × Addr × β)) (x : Str) (p : Addr) (b : β) : (x, p, b) ∈ setB l x p b := by
  unfold setB
  split
  · rename_i h
    obtain ⟨e, he, hx⟩ := List.mem_map.mp h
    exact List.mem_map.mpr ⟨e, he, if_pos hx⟩
  · exact List.mem_append_right _ List.mem_cons_self
theorem setB_old {l : List (Str × Addr × β)} {x : Str} (p : Addr) (b : β) {e : Str × Addr × β} (h : e ∈ l) (n : e.1 ≠ x) : e ∈ setB l x p b := by
  unfold setB
  split
  · exact List.mem_map.mpr ⟨e, h, if_neg n⟩
  · exact List.mem_append_left _ h
theorem map_id' {l : List (Str × Addr × β)} {x : Str} {p : Addr} {b : β} (h : x ∉ l.map (·.1)) : l.map (fun e => if e.1 = x then (x, p, b) else e) = l := by
  conv => rhs; rw [← List.map_id l]
  refine List.map_congr_left fun e he => if_neg fun z => h (by rw [← z]; exact List.mem_map.mpr ⟨e, he, rfl⟩)
theorem setB_adr {l : List (Str × Addr × β)} {x : Str} {p : Addr} {b : β} (hk : (l.map (·.1)).Nodup) (ha : (l.map (·.2.1)).Nodup) (hp : p ∉ l.map (·.2.1)) : ((setB l x p b).map (·.2.1)).Nodup := by
  unfold setB
  split
  · rename_i hx
    clear hx
    induction l with
    | nil => exact List.nodup_nil
    | cons a r ih =>
      have hk' := List.nodup_cons.mp hk
      have ha' := List.nodup_cons.mp ha
      rw [List.map_cons, List.map_cons]
      by_cases c : a.1 = x
      · rw [if_pos c, map_id' (by rw [← c]; exact hk'.1)]
        exact List.nodup_cons.mpr ⟨fun z => hp (List.mem_cons_of_mem _ z), ha'.2⟩
      · rw [if_neg c]
        refine List.nodup_cons.mpr ⟨fun z => ?_, ih hk'.2 ha'.2 fun z => hp (List.mem_cons_of_mem _ z)⟩
        obtain ⟨e, he, ee⟩ := List.mem_map.mp z
        obtain ⟨e0, h0, rfl⟩ := List.mem_map.mp he
        by_cases d : e0.1 = x
        · rw [if_pos d] at ee
          exact hp (by rw [List.map_cons]; exact List.mem_cons.mpr (.inl ee))
        · rw [if_neg d] at ee
          exact ha'.1 (List.mem_map.mpr ⟨e0, h0, ee⟩)
  · rw [List.map_append]
    exact List.nodup_append.mpr ⟨ha, List.pairwise_singleton _ _, fun a h1 c hc e => hp (by
      have w : c = p := List.mem_singleton.mp hc
      rw [← w, ← e]
      exact h1)⟩
theorem setB_fnd {l : List (Str × Addr × β)} {x y : Str} {p : Addr} {b : β} : fnd (setB l x p b) y = if y = x then some b else fnd l y := by
  unfold setB fnd
  split
  · rename_i hx
    induction l with
    | nil => exact nomatch hx
    | cons a r ih =>
      rw [List.map_cons]
      by_cases c : a.1 = x
      · rw [if_pos c]
        by_cases d : y = x
        · rw [if_pos d, List.find?_cons_of_pos (by simp [d])]
          rfl
        · rw [if_neg d]
          have h1 : ¬ x = y := fun z => d z.symm
          have h2 : ¬ a.1 = y := fun z => d (by rw [← z, c])
          rw [List.find?_cons_of_neg (by simpa using h1), List.find?_cons_of_neg (by simpa using h2)]
          by_cases hx2 : x ∈ r.map (·.1)
          · have := ih hx2
            rw [if_neg d] at this
            exact this
          · rw [map_id' hx2]
      · rw [if_neg c]
        have hx2 : x ∈ r.map (·.1) := (List.mem_cons.mp hx).elim (fun z => absurd z.symm c) id
        have := ih hx2
        by_cases e : a.1 = y
        · rw [List.find?_cons_of_pos (by simp [e]), if_neg (fun z => c (by rw [e, z])), List.find?_cons_of_pos (by simp [e])]
        · rw [List.find?_cons_of_neg (by simpa using e), this]
          by_cases d : y = x
          · rw [if_pos d, if_pos d]
          · rw [if_neg d, if_neg d, List.find?_cons_of_neg (by simpa using e)]
  · rename_i hx
    rw [List.find?_append]
    by_cases d : y = x
    · rw [if_pos d, d]
      have : l.find? (fun e => decide (e.1 = x)) = none := List.find?_eq_none.mpr fun e he => by
        simp only [decide_eq_true_eq]
        exact fun z => hx (by rw [← z]; exact List.mem_map.mpr ⟨e, he, rfl⟩)
      rw [this]
      simp
    · rw [if_neg d, List.find?_cons_of_neg (by simpa using fun z : x = y => d z.symm)]
      simp
theorem putK_dic (l : List (Str × Addr × β)) (x : Str) (p : Addr) (b : β) : putK (dicD l) (.inr x : Key) (.ref p) = dicD (setB l x p b) := by
  unfold putK setB
  have h : ((dicD l).any fun kv => decide (kv.1 = (.inr x : Key))) = decide (x ∈ l.map (·.1)) := by
    unfold dicD
    rw [List.any_map]
    induction l with
    | nil => rfl
    | cons a r ih =>
      rw [List.any_cons, ih]
      show (decide ((.inr a.1 : Key) = .inr x) || _) = _
      by_cases c : a.1 = x
      · rw [decide_eq_true (by rw [c]), Bool.true_or, decide_eq_true (by rw [← c]; exact List.mem_cons_self)]
      · rw [decide_eq_false (fun z => c (by injection z)), Bool.false_or]
        exact decide_eq_decide.mpr ⟨List.mem_cons_of_mem _, fun z => (List.mem_cons.mp z).elim (fun w => absurd w.symm c) id⟩
  rw [h]
  by_cases c : x ∈ l.map (·.1)
  · rw [if_pos (decide_eq_true c), if_pos c]
    unfold dicD
    rw [List.map_map, List.map_map]
    refine List.map_congr_left fun e _ => ?_
    show (if (.inr e.1 : Key) = .inr x then ((.inr e.1 : Key), V.ref p) else (.inr e.1, .ref e.2.1)) = ((.inr (if e.1 = x then (x, p, b) else e).1 : Key), V.ref (if e.1 = x then (x, p, b) else e).2.1)
    by_cases d : e.1 = x
    · rw [if_pos (by rw [d]), if_pos d, d]
    · rw [if_neg (fun z => d (by injection z)), if_neg d]
  · rw [if_neg (by rw [decide_eq_false c]; exact Bool.false_ne_true), if_neg c]
    unfold dicD
    rw [List.map_append]
    rfl
end
/-! ### writing -/
section
variable {H G : Hp} {v : Sv} {x : Str} {p : Addr}
theorem ne_ct {H : Hp} {a b : Addr} {u w : HO} (h : H a = some u) (h2 : H b = some w) (n : u ≠ w) : a ≠ b := fun z => n (by rw [z, h2] at h; exact (Option.some.inj h).symm)
theorem Ly.setSince (c : Ly H v) (np : H p = none) (kp : ∀ b u, b ≠ v.sd → H b = some u → G b = some u) (ep : G p = some (.lst [])) (ed : G v.sd = some (.dK (dicD (setB v.since x p [])))) : Ly G { v with since := setB v.since x p [] } := by
  have a := c.ap
  have hp : ∀ {b u}, H b = some u → b ≠ p := fun e z => by rw [z, np] at e; exact nomatch e
  refine ⟨⟨a.bb, a.bh, fun e he => ?_, a.bm, fun e he f hf => ?_, a.hm, fun f hf m hm => ?_, a.hh, setB_adr c.sk a.ss fun z => ?_, a.mm⟩, kp _ _ a.bb.2.1 c.eS, kp _ _ a.bb.2.2.2.1 c.eh, ed, kp _ _ a.bb.2.2.2.2.2.symm c.em,
    fun e he => kp _ _ (a.bh e he).2.2.1.symm (c.el e he), fun e he => ?_, fun m hm => kp _ _ (a.bm m hm).2.2.1.symm (c.ek m hm), fun m hm => kp _ _ (ne_ct (c.tu m hm) c.es nofun) (c.tu m hm), c.hk, setB_nd _ _ _ c.sk⟩
  · rcases setB_mem he with rfl | ⟨he, _⟩
    · exact ⟨hp c.eS, hp c.eh, hp c.es, hp c.em⟩
    · exact a.bs e he
  · rcases setB_mem hf with rfl | ⟨hf, _⟩
    · exact hp (c.el e he)
    · exact a.hs e he f hf
  · rcases setB_mem hf with rfl | ⟨hf, _⟩
    · exact (hp (c.ek m hm)).symm
    · exact a.sm f hf m hm
  · obtain ⟨e, he, ee⟩ := List.mem_map.mp z
    exact hp (c.ez e he) ee
  · rcases setB_mem he with rfl | ⟨he, _⟩
    · exact ep
    · exact kp _ _ (a.bs e he).2.2.1.symm (c.ez e he)
theorem Ly.setHeld (c : Ly H v) (np : H p = none) (kp : ∀ b u, b ≠ v.hd → H b = some u → G b = some u) (ep : G p = some (.lst [])) (ed : G v.hd = some (.dK (dicD (setB v.held x p [])))) : Ly G { v with held := setB v.held x p [] } := by
  have a := c.ap
  have hp : ∀ {b u}, H b = some u → b ≠ p := fun e z => by rw [z, np] at e; exact nomatch e
  refine ⟨⟨a.bb, fun e he => ?_, a.bs, a.bm, fun e he f hf => ?_, fun e he m hm => ?_, a.sm, setB_adr c.hk a.hh fun z => ?_, a.ss, a.mm⟩, kp _ _ a.bb.1 c.eS, ed, kp _ _ a.bb.2.2.2.1.symm c.es, kp _ _ a.bb.2.2.2.2.1.symm c.em,
    fun e he => ?_, fun e he => kp _ _ (a.bs e he).2.1.symm (c.ez e he), fun m hm => kp _ _ (a.bm m hm).2.1.symm (c.ek m hm), fun m hm => kp _ _ (ne_ct (c.tu m hm) c.eh nofun) (c.tu m hm), setB_nd _ _ _ c.hk, c.sk⟩
  · rcases setB_mem he with rfl | ⟨he, _⟩
    · exact ⟨hp c.eS, hp c.eh, hp c.es, hp c.em⟩
    · exact a.bh e he
  · rcases setB_mem he with rfl | ⟨he, _⟩
    · exact (hp (c.ez f hf)).symm
    · exact a.hs e he f hf
  · rcases setB_mem he with rfl | ⟨he, _⟩
    · exact (hp (c.ek m hm)).symm
    · exact a.hm e he m hm
  · obtain ⟨e, he, ee⟩ := List.mem_map.mp z
    exact hp (c.el e he) ee
  · rcases setB_mem he with rfl | ⟨he, _⟩
    · exact ep
    · exact kp _ _ (a.bh e he).2.1.symm (c.el e he)
theorem adr_inj {β : Type} {l : List (Str × Addr × β)} (nd : (l.map (·.2.1)).Nodup) {e f : Str × Addr × β} (he : e ∈ l) (hf : f ∈ l) (h : e.2.1 = f.2.1) : e = f := by
  induction l with
  | nil => exact nomatch he
  | cons a r ih =>
    have nd' := List.nodup_cons.mp nd
    rcases List.mem_cons.mp he with e1 | he' <;> rcases List.mem_cons.mp hf with e2 | hf'
    · rw [e1, e2]
    · exact absurd (List.mem_map.mpr ⟨f, hf', by rw [← e1]; exact h.symm⟩) nd'.1
    · exact absurd (List.mem_map.mpr ⟨e, he', by rw [← e2]; exact h⟩) nd'.1
    · exact ih nd'.2 he' hf'
theorem key_inj {β : Type} {l : List (Str × Addr × β)} (nd : (l.map (·.1)).Nodup) {e f : Str × Addr × β} (he : e ∈ l) (hf : f ∈ l) (h : e.1 = f.1) : e = f := by
  induction l with
  | nil => exact nomatch he
  | cons a r ih =>
    have nd' := List.nodup_cons.mp nd
    rcases List.mem_cons.mp he with e1 | he' <;> rcases List.mem_cons.mp hf with e2 | hf'
    · rw [e1, e2]
    · exact absurd (List.mem_map.mpr ⟨f, hf', by rw [← e1]; exact h.symm⟩) nd'.1
    · exact absurd (List.mem_map.mpr ⟨e, he', by rw [← e2]; exact h⟩) nd'.1
    · exact ih nd'.2 he' hf'
theorem Ly.wrHeld (c : Ly H v) {e0 : Str × Addr × List Nat} (h0 : e0 ∈ v.held) {l : List Nat} (kp : ∀ b u, b ≠ e0.2.1 → H b = some u → G b = some u) (ee : G e0.2.1 = some (.lst (intsV l))) : Ly G { v with held := wrB v.held e0.1 l } := by
  have a := c.ap
  have b0 := a.bh e0 h0
  have hm : ∀ e ∈ wrB v.held e0.1 l, ∃ e1 ∈ v.held, e1.2.1 = e.2.1 := fun e he => by
    rcases wrB_mem he with ⟨_, _, e1, h1, _, h2⟩ | ⟨h, _⟩
    · exact ⟨e1, h1, h2⟩
    · exact ⟨e, h, rfl⟩
  refine ⟨⟨a.bb, fun e he => ?_, a.bs, a.bm, fun e he f hf => ?_, fun e he m hm' => ?_, a.sm, by show ((wrB v.held e0.1 l).map (·.2.1)).Nodup; rw [wrB_adr]; exact a.hh, a.ss, a.mm⟩, kp _ _ b0.1 c.eS, ?_, kp _ _ b0.2.2.1 c.es, kp _ _ b0.2.2.2 c.em,
    fun e he => ?_, fun e he => kp _ _ (a.hs e0 h0 e he).symm (c.ez e he), fun m hm => kp _ _ (a.hm e0 h0 m hm).symm (c.ek m hm), fun m hm => kp _ _ (ne_ct (c.tu m hm) (c.el e0 h0) nofun) (c.tu m hm), by show ((wrB v.held e0.1 l).map (·.1)).Nodup; rw [wrB_key]; exact c.hk, c.sk⟩
  · obtain ⟨e1, h1, h2⟩ := hm e he
    rw [← h2]
    exact a.bh e1 h1
  · obtain ⟨e1, h1, h2⟩ := hm e he
    rw [← h2]
    exact a.hs e1 h1 f hf
  · obtain ⟨e1, h1, h2⟩ := hm e he
    rw [← h2]
    exact a.hm e1 h1 m hm'
  · show G v.hd = some (.dK (dicD (wrB v.held e0.1 l)))
    rw [wrB_dic]
    exact kp _ _ b0.2.1 c.eh
  · rcases wrB_mem he with ⟨h1, h2, e1, h3, h4, h5⟩ | ⟨h1, h2⟩
    · have z := key_inj c.hk h3 h0 h4
      rw [← h5, z, h2]
      exact ee
    · refine kp _ _ (fun z => h2 ?_) (c.el e h1)
      rw [adr_inj a.hh h1 h0 z]
theorem Ly.wrSince (c : Ly H v) {e0 : Str × Addr × List Str} (h0 : e0 ∈ v.since) {l : List Str} (kp : ∀ b u, b ≠ e0.2.1 → H b = some u → G b = some u) (ee : G e0.2.1 = some (.lst (l.map V.str))) : Ly G { v with since := wrB v.since e0.1 l } := by
  have a := c.ap
  have b0 := a.bs e0 h0
  have hm : ∀ e ∈ wrB v.since e0.1 l, ∃ e1 ∈ v.since, e1.2.1 = e.2.1 := fun e he => by
    rcases wrB_mem he with ⟨_, _, e1, h1, _, h2⟩ | ⟨h, _⟩
    · exact ⟨e1, h1, h2⟩
    · exact ⟨e, h, rfl⟩
  refine ⟨⟨a.bb, a.bh, fun e he => ?_, a.bm, fun e he f hf => ?_, a.hm, fun f hf m hm' => ?_, a.hh, by show ((wrB v.since e0.1 l).map (·.2.1)).Nodup; rw [wrB_adr]; exact a.ss, a.mm⟩, kp _ _ b0.1 c.eS, kp _ _ b0.2.1 c.eh, ?_, kp _ _ b0.2.2.2 c.em,
    fun e he => kp _ _ (a.hs e he e0 h0) (c.el e he), fun e he => ?_, fun m hm => kp _ _ (a.sm e0 h0 m hm).symm (c.ek m hm), fun m hm => kp _ _ (ne_ct (c.tu m hm) (c.ez e0 h0) nofun) (c.tu m hm), c.hk, by show ((wrB v.since e0.1 l).map (·.1)).Nodup; rw [wrB_key]; exact c.sk⟩
  · obtain ⟨e1, h1, h2⟩ := hm e he
    rw [← h2]
    exact a.bs e1 h1
  · obtain ⟨e1, h1, h2⟩ := hm f hf
    rw [← h2]
    exact a.hs e he e1 h1
  · obtain ⟨e1, h1, h2⟩ := hm f hf
    rw [← h2]
    exact a.sm e1 h1 m hm'
  · show G v.sd = some (.dK (dicD (wrB v.since e0.1 l)))
    rw [wrB_dic]
    exact kp _ _ b0.2.2.1 c.es
  · rcases wrB_mem he with ⟨h1, h2, e1, h3, h4, h5⟩ | ⟨h1, h2⟩
    · have z := key_inj c.sk h3 h0 h4
      rw [← h5, z, h2]
      exact ee
    · refine kp _ _ (fun z => h2 ?_) (c.ez e h1)
      rw [adr_inj a.ss h1 h0 z]
theorem Ly.pushMark (c : Ly H v) {m : Addr × Addr × Mk Str} (np : H m.1 = none) (kp : ∀ b u, b ≠ v.ml → H b = some u → G b = some u) (em : G v.ml = some (.lst ((v.marks ++ [m]).map fun m => .ref m.1))) (ek : G m.1 = some (.lst (markV m))) (tu : G m.2.1 = some (.tup [.str m.2.2.ask.1, .int (m.2.2.ask.2 : Nat)])) : Ly G { v with marks := v.marks ++ [m] } := by
  have a := c.ap
  have hp : ∀ {b u}, H b = some u → b ≠ m.1 := fun e z => by rw [z, np] at e; exact nomatch e
  have spl : ∀ k ∈ v.marks ++ [m], k ∈ v.marks ∨ k = m := fun k hk => (List.mem_append.mp hk).elim .inl fun z => .inr (List.mem_singleton.mp z)
  refine ⟨⟨a.bb, a.bh, a.bs, fun k hk => ?_, a.hs, fun e he k hk => ?_, fun e he k hk => ?_, a.hh, a.ss, ?_⟩, kp _ _ a.bb.2.2.1 c.eS, kp _ _ a.bb.2.2.2.2.1 c.eh, kp _ _ a.bb.2.2.2.2.2 c.es, em,
    fun e he => kp _ _ (a.bh e he).2.2.2.symm (c.el e he), fun e he => kp _ _ (a.bs e he).2.2.2.symm (c.ez e he), fun k hk => ?_, fun k hk => ?_, c.hk, c.sk⟩
  · rcases spl k hk with hk | rfl
    · exact a.bm k hk
    · exact ⟨hp c.eS, hp c.eh, hp c.es, hp c.em⟩
  · rcases spl k hk with hk | rfl
    · exact a.hm e he k hk
    · exact hp (c.el e he)
  · rcases spl k hk with hk | rfl
    · exact a.sm e he k hk
    · exact hp (c.ez e he)
  · show ((v.marks ++ [m]).map (·.1)).Nodup
    rw [List.map_append]
    refine List.nodup_append.mpr ⟨a.mm, List.pairwise_singleton _ _, fun b hb d hd z => ?_⟩
    obtain ⟨k, hk, rfl⟩ := List.mem_map.mp hb
    rw [List.mem_singleton.mp hd] at z
    exact hp (c.ek k hk) z
  · rcases spl k hk with hk | rfl
    · exact kp _ _ (a.bm k hk).2.2.2.symm (c.ek k hk)
    · exact ek
  · rcases spl k hk with hk | rfl
    · exact kp _ _ (ne_ct (c.tu k hk) c.em nofun) (c.tu k hk)
    · exact tu
theorem Ly.allMarks (c : Ly H v) (f : Mk Str → Mk Str) (hf : ∀ m, (f m).ask = m.ask) (kp : ∀ b u, (∀ m ∈ v.marks, b ≠ m.1) → H b = some u → G b = some u) (ek : ∀ m ∈ v.marks, G m.1 = some (.lst (markV (m.1, m.2.1, f m.2.2)))) : Ly G { v with marks := v.marks.map fun m => (m.1, m.2.1, f m.2.2) } := by
  have a := c.ap
  have ad : (v.marks.map fun m => (m.1, m.2.1, f m.2.2)).map (·.1) = v.marks.map (·.1) := by
    rw [List.map_map]
    rfl
  refine ⟨⟨a.bb, a.bh, a.bs, fun k hk => ?_, a.hs, fun e he k hk => ?_, fun e he k hk => ?_, a.hh, a.ss, by show ((v.marks.map fun m => (m.1, m.2.1, f m.2.2)).map (·.1)).Nodup; rw [ad]; exact a.mm⟩, kp _ _ (fun m hm => (a.bm m hm).1) c.eS, kp _ _ (fun m hm => (a.bm m hm).2.1) c.eh, kp _ _ (fun m hm => (a.bm m hm).2.2.1) c.es, ?_,
    fun e he => kp _ _ (fun m hm => a.hm e he m hm) (c.el e he), fun e he => kp _ _ (fun m hm => a.sm e he m hm) (c.ez e he), fun k hk => ?_, fun k hk => ?_, c.hk, c.sk⟩
  · obtain ⟨m, hm, rfl⟩ := List.mem_map.mp hk
    exact a.bm m hm
  · obtain ⟨m, hm, rfl⟩ := List.mem_map.mp hk
    exact a.hm e he m hm
  · obtain ⟨m, hm, rfl⟩ := List.mem_map.mp hk
    exact a.sm e he m hm
  · show G v.ml = some (.lst ((v.marks.map fun m => (m.1, m.2.1, f m.2.2)).map fun m => .ref m.1))
    rw [List.map_map]
    exact kp _ _ (fun m hm => (a.bm m hm).2.2.2) c.em
  · obtain ⟨m, hm, rfl⟩ := List.mem_map.mp hk
    exact ek m hm
  · obtain ⟨m, hm, rfl⟩ := List.mem_map.mp hk
    show G m.2.1 = some (.tup [.str (f m.2.2).ask.1, .int ((f m.2.2).ask.2 : Nat)])
    rw [hf]
    exact kp _ _ (fun m' hm' => ne_ct (c.tu m hm) (c.ek m' hm') nofun) (c.tu m hm)
theorem Ly.newMarks (c : Ly H v) (q : Addr × Addr × Mk Str → Bool) {D : Addr} (np : H D = none) (kp : ∀ b u, b ≠ v.S → H b = some u → G b = some u) (eS : G v.S = some (.dK (topD { v with ml := D, marks := v.marks.filter q }))) (eD : G D = some (.lst ((v.marks.filter q).map fun m => .ref m.1))) : Ly G { v with ml := D, marks := v.marks.filter q } := by
  have a := c.ap
  have hp : ∀ {b u}, H b = some u → b ≠ D := fun e z => by rw [z, np] at e; exact nomatch e
  have fm : ∀ m ∈ v.marks.filter q, m ∈ v.marks := fun m hm => (List.mem_filter.mp hm).1
  exact ⟨⟨⟨a.bb.1, a.bb.2.1, hp c.eS, a.bb.2.2.2.1, hp c.eh, hp c.es⟩, fun e he => ⟨(a.bh e he).1, (a.bh e he).2.1, (a.bh e he).2.2.1, (hp (c.el e he)).symm⟩, fun e he => ⟨(a.bs e he).1, (a.bs e he).2.1, (a.bs e he).2.2.1, (hp (c.ez e he)).symm⟩, fun m hm => ⟨(a.bm m (fm m hm)).1, (a.bm m (fm m hm)).2.1, (a.bm m (fm m hm)).2.2.1, (hp (c.ek m (fm m hm))).symm⟩,
      a.hs, fun e he m hm => a.hm e he m (fm m hm), fun f hf m hm => a.sm f hf m (fm m hm), a.hh, a.ss, a.mm.sublist (List.filter_sublist.map _)⟩,
    eS, kp _ _ a.bb.1.symm c.eh, kp _ _ a.bb.2.1.symm c.es, eD, fun e he => kp _ _ (a.bh e he).1.symm (c.el e he), fun e he => kp _ _ (a.bs e he).1.symm (c.ez e he), fun m hm => kp _ _ (a.bm m (fm m hm)).1.symm (c.ek m (fm m hm)), fun m hm => kp _ _ (ne_ct (c.tu m (fm m hm)) c.eS nofun) (c.tu m (fm m hm)), c.hk, c.sk⟩
end
end K23

namespace K23
open PySem PySem.Spec PyProof.Rows L2 Bk


/-- a queue and what was seen of it -/
structure Qs (A : Ad) (NS : List Str) (H : Hp) (o la lr : Addr) (v : Sv) (as : List (Str × Nat)) (row : List Str) : Prop where
  qu : ∃ n ts, n < 900 ∧ Qu A.CQ n H o la lr ts as row
  sn : Sn NS H v as row
  ap : ∀ a ∈ [o, la, lr], a ∉ adrs v
/-- what moves lies in the footprint, or is new -/
def Mvd (H H' : Hp) (fp fp' : List Addr) : Prop := (∀ b u, b ∉ fp → H b = some u → H' b = some u) ∧ ∀ a ∈ fp', a ∈ fp ∨ H a = none
theorem Qu.keep {C : Addr} {n : Nat} {H H' : Hp} {o la lr : Addr} {ts : List Addr} {as : List (Str × Nat)} {row : List Str} (q : Qu C n H o la lr ts as row) (k : ∀ b u, b ∈ [o, la, lr] → H b = some u → H' b = some u) (t : ∀ b xs, H b = some (.tup xs) → H' b = some (.tup xs)) : Qu C n H' o la lr ts as row := by
  obtain ⟨dx, fs, e, h1, h2, h3⟩ := q.ob
  exact ⟨⟨dx, fs, k _ _ (by simp) e, h1, h2, h3⟩, ⟨k _ _ (by simp) q.al.at_, q.al.len, fun j u p a b => t _ _ (q.al.row j u p a b)⟩, k _ _ (by simp) q.rw_, q.ne, q.ok, q.small, q.nd, q.mem⟩
theorem nd_get {β : Type} {l : List (Addr × β)} (nd : (l.map (·.1)).Nodup) {j k : Nat} {a b : Addr × β} (hj : l[j]? = some a) (hk : l[k]? = some b) (h : a.1 = b.1) : j = k := by
  have h1 : (l.map (·.1))[j]? = some a.1 := by rw [List.getElem?_map, hj]; rfl
  have h2 : (l.map (·.1))[k]? = some a.1 := by rw [List.getElem?_map, hk, h]; rfl
  have l1 := (List.getElem?_eq_some_iff.mp h1).1
  exact (List.getElem?_inj l1 nd).mp (h1.trans h2.symm)
theorem r_setd {td ty tx : TE} {σ : L2.St} {H : Hp} {Q : VK} (h : td σ H fun x H1 => ∃ a, x = .ref a ∧ IsD H1 a ∧ ty σ H1 fun y H2 => tx σ H2 fun z H3 => ∃ (kvs : List (Key × V)) (k : Key), H3 a = some (.dK kvs) ∧ y = kV k ∧ kvs.length < sizeLine ∧ (∀ v, valV kvs k = some v → Q v H3) ∧ (valV kvs k = none → Q z (upd H3 a (.dK (putK kvs k z))))) : tDSetd td ty tx σ H Q := h
def spPutL (A : Ad) : Sp := fun vs H Q _ => ∃ (NS : List Str) (o la lr : Addr) (v : Sv) (as : List (Str × Nat)) (row : List Str) (x : Str) (i : Nat), vs = [.ref o, .ref v.S, .str x, .int i] ∧ Qs A NS H o la lr v as row ∧ x ∈ NS ∧ (x, i) ∉ as ∧ as.length < 60 ∧
  ∀ v' H', v'.S = v.S → Qs A NS H' o la lr v' (as ++ [(x, i)]) (putRow row x) → Mvd H H' ([o, la, lr] ++ adrs v) ([o, la, lr] ++ adrs v') → Q .non H'
section
variable {P : Program} {w : World} {K : PySem.W.Frag} {mg : Str → Option Value} {base : Heap} {A : Ad}
theorem ok_putL {f : Addr} {fd : FuncData} (F : Fun K "_law_put" "_law_put" s_put_L f fd) (T : Txt K mg A) (c_Queue_put : CalM P w K mg base (L2.CX P w) 5 A.CQ "put" (spPut A)) (c_row_L : CalD P w K mg base CX0 1 "_law_row" spRow []) : FnOk P w K mg base CX0 6 f fd ["_law_queue", "_law_seen", "_law_name", "_law_number"] (spPutL A) := by
  refine F.ok sc_put_L (fun vs H Q E h => ?_) (fun cdv A' outer s H vs Q E hr h => have hu65 := units65 hr; have hu64 := hr.units; have hu := units1 hr; ⟨_, (pss_cons (ps_expr (pe_mth (pv 0) T.cl_Queue c_Queue_put hr (by decide) psY (pa_cons (pv 2) (pa_cons (pv 3) pa_nil))))
    (C8.pss_cut (ps_set (i := 4) sc_put_L.nd rfl (.inl rfl) (pe_dsetd (pe_dget hu (pv 1) pe_str (fun _ _ => rfl)) (pv 2) (pe_lstB pa_nil) ⟨rfl, rfl, rfl, rfl⟩))
    (C8.pss_cut (ps_if (pt_cmpR (op_eqD hu64) (pv 4) (pe_lstB pa_nil) (nomark _)) (pss_one (ps_asg (pe_lstB pa_nil) (pg_sub (pe_dget hu (pv 1) pe_str (fun _ _ => rfl)) (pv 2) (set_dict hu)))) pss_nil)
    (pss_cons (ps_expr (pe_bm PySem.F.plainAttrs_list PySem.F.slot_list_append PySem.F.type_list_append mt_append (pv 4) (pa_cons (pv 3) pa_nil)))
    (pss_cons (ps_set (i := 5) sc_put_L.nd rfl (.inl rfl) (pe_cal c_row_L hr (by decide) (by rfl) (pa_cons (pv 1) pa_nil)))
    (pss_cons (ps_for PassesOwn.never rfl (pi_list (pe_dget hu (pv 1) pe_str (fun _ _ => rfl))) (pg_name (i := 6) sc_put_L.nd rfl (.inl rfl))
      (pss_one (ps_asg (pe_callB (call_max2 rfl) (by rfl) T.m_max (by decide +kernel) (pa_cons (pe_ix ix_list (pv 6) pe_int (fun _ _ => rfl)) (pa_cons (pv 5) pa_nil))) (pg_sub (pv 6) pe_int set_list))))
    (pss_one (ps_expr (pe_bm PySem.F.plainAttrs_list PySem.F.slot_list_append PySem.F.type_list_append mt_append (pe_dget hu (pv 1) pe_str (fun _ _ => rfl)) (pa_cons (pe_lstB (pa_cons (pe_tup (pa_cons (pv 2) (pa_cons (pv 3) pa_nil))) (pa_cons (pe_callB call_len_seq (by rfl) T.m_len (by decide +kernel) (pa_cons (pv 4) pa_nil)) (pa_cons pe_int (pa_cons (pv 5) pa_nil))))) pa_nil)))))))))), ?_⟩)
  · obtain ⟨NS, o, la, lr, v, as, row, x, i, rfl, _⟩ := h
    rfl
  · obtain ⟨NS, o, la, lr, v, as, row, x, i, rfl, hQ, hx, nin, hl, q⟩ := h
    obtain ⟨n, ts, n9, hq⟩ := hQ.qu
    obtain ⟨dx, fs, e, _, _, hn⟩ := hq.ob
    walk_at "go"
    refine ⟨o, dx, fs, rfl, e, hn.2 _ (by decide +kernel) (by decide +kernel), ?_⟩
    walk_at "go"
    refine ⟨o, la, lr, n, ts, as, row, x, i, rfl, hq, hQ.sn.nok x hx, nin, hl, fun t H1 nt k1 hq1 => ?_⟩
    walk_at "go"
    have L0 := hQ.sn.ly
    have aq := hQ.ap
    have nq : ∀ {b}, b ∈ adrs v → b ≠ o ∧ b ≠ la ∧ b ≠ lr := fun {b} hb => ⟨fun z => aq o (by simp) (by rw [← z]; exact hb), fun z => aq la (by simp) (by rw [← z]; exact hb), fun z => aq lr (by simp) (by rw [← z]; exact hb)⟩
    have Hla := hq.al.at_
    have Hlr := hq.rw_
    have tk1 : ∀ b xs, H b = some (.tup xs) → H1 b = some (.tup xs) := fun b xs eb => k1 _ _ (ne_ct eb Hla nofun) (ne_ct eb Hlr nofun) eb
    have L1 : Ly H1 v := L0.keep (fun b u hb eb => k1 b u (nq hb).2.1 (nq hb).2.2 eb) tk1
    have F1 : ∀ b u, b ∉ [o, la, lr] ++ adrs v → H b = some u → H1 b = some u := fun b u nb eb => k1 b u (fun z => nb (by rw [z]; simp)) (fun z => nb (by rw [z]; simp)) eb
    have inA : v.S ∈ adrs v ∧ v.hd ∈ adrs v ∧ v.sd ∈ adrs v ∧ v.ml ∈ adrs v := by simp [adrs]
    have f1 : ∀ {p}, H1 p = none → H p = none := fun {p} z => by
      cases c : H p with
      | none => rfl
      | some u =>
        by_cases c1 : p = la
        · rw [c1, hq1.al.at_] at z; exact nomatch z
        · by_cases c2 : p = lr
          · rw [c2, hq1.rw_] at z; exact nomatch z
          · rw [k1 _ _ c1 c2 c] at z; exact nomatch z
    refine r_cut (fun σ G => ∃ (h1 : List (Str × Addr × List Nat)) (ha : Addr), σ = [some (.ref o), some (.ref v.S), some (.str x), some (.int i), some (.ref ha), none, none] ∧ Ly G { v with held := h1 } ∧ (x, ha, ofN as x) ∈ h1 ∧ (∀ e ∈ h1, e.2.2 = ofN as e.1 ∧ e.1 ∈ NS) ∧ (∀ e ∈ v.held, ∃ e' ∈ h1, e'.1 = e.1) ∧ (∀ e ∈ h1, e.2.1 ∈ adrs v ∨ H e.2.1 = none) ∧ (∀ b u, b ∉ [o, la, lr] ++ adrs v → H b = some u → G b = some u) ∧ Qu A.CQ n G o la lr (ts ++ [t]) (as ++ [(x, i)]) (putRow row x)) ?_ ?_
    · walk_at "go"
      refine r_setd (r_dgT rfl (.inl L1.eS) top_h ⟨v.hd, rfl, .inl ⟨_, .inl L1.eh⟩, _, rfl, r_lstB (r_nil (newLB fun p H2 np g2 s2 e2 => ?_))⟩)
      have L2' := L1.same s2
      refine ⟨dicD v.held, .inr x, L2'.eh, rfl, ?_, fun y hy => ?_, fun hn => ?_⟩
      · unfold dicD
        rw [List.length_map, sizeLine_eq]
        have := hQ.sn.hl
        omega
      · have hk : x ∈ v.held.map (·.1) := Decidable.byContradiction fun c => by rw [valV_dicN c] at hy; exact nomatch hy
        obtain ⟨e0, h0, hx0⟩ := List.mem_map.mp hk
        have hx0 : e0.1 = x := hx0
        have hv := valV_dic L0.hk h0
        rw [hx0, hy] at hv
        obtain rfl := Option.some.inj hv
        walk_at "go"
        refine ⟨v.held, e0.2.1, rfl, L2', ?_, fun e he => ⟨hQ.sn.he e he, hQ.sn.hn e he⟩, fun e he => ⟨e, he, rfl⟩, fun e he => .inl (by unfold adrs; simp only [List.mem_cons, List.mem_append, List.mem_map]; exact .inr (.inr (.inr (.inr (.inl ⟨e, he, rfl⟩))))), fun b u nb eb => s2 _ _ (F1 b u nb eb), hq1.same s2⟩
        rw [← hx0, ← hQ.sn.he e0 h0]
        exact h0
      · have hk : x ∉ v.held.map (·.1) := fun c => by
          obtain ⟨e0, h0, hx0⟩ := List.mem_map.mp c
          have hx0 : e0.1 = x := hx0
          have hv := valV_dic L0.hk h0
          rw [hx0, hn] at hv
          exact nomatch hv
        have nr : x ∉ row := fun z => by
          obtain ⟨j, hj⟩ := (hQ.sn.inv.rm x).mp z
          obtain ⟨e, he, hex⟩ := hQ.sn.hm x j hj
          exact hk (List.mem_map.mpr ⟨e, he, hex⟩)
        have ho : ofN as x = [] := (ofG_nil hQ.sn.inv.rm).mpr nr
        have pd : p ≠ v.hd := fun z => by rw [z, L1.eh] at np; exact nomatch np
        rw [putK_dic v.held x p []]
        have L3 := L1.setHeld (G := upd H2 v.hd (.dK (dicD (setB v.held x p [])))) (x := x) (p := p) np (fun b u nb eb => by rw [upd_ne nb]; exact s2 _ _ eb) (by rw [upd_ne pd]; exact e2) upd_same
        walk_at "go"
        refine ⟨setB v.held x p [], p, rfl, L3, by rw [ho]; exact setB_in _ _ _ _, fun e he => ?_, fun e he => ?_, fun e he => ?_, fun b u nb eb => ?_, ?_⟩
        · rcases setB_mem he with rfl | ⟨he, _⟩
          · exact ⟨ho.symm, hx⟩
          · exact ⟨hQ.sn.he e he, hQ.sn.hn e he⟩
        · by_cases c : e.1 = x
          · exact ⟨_, setB_in _ _ _ _, c.symm⟩
          · exact ⟨e, setB_old _ _ he c, rfl⟩
        · rcases setB_mem he with rfl | ⟨he, _⟩
          · exact .inr (f1 np)
          · exact .inl (by unfold adrs; simp only [List.mem_cons, List.mem_append, List.mem_map]; exact .inr (.inr (.inr (.inr (.inl ⟨e, he, rfl⟩)))))
        · rw [upd_ne (fun z => nb (by rw [z]; exact List.mem_append_right _ inA.2.1))]
          exact s2 _ _ (F1 b u nb eb)
        · have nh := nq inA.2.1
          refine (hq1.same s2).keep (fun b u hb eb => ?_) fun b xs eb => ?_
          · rw [upd_ne (fun z => ?_)]
            · exact eb
            · simp only [List.mem_cons, List.not_mem_nil, or_false] at hb
              rw [z] at hb
              rcases hb with h | h | h
              · exact nh.1 h
              · exact nh.2.1 h
              · exact nh.2.2 h
          · rw [upd_ne (ne_ct eb L2'.eh nofun)]
            exact eb
    · rintro σ G ⟨h1, ha, rfl, LG, hin, hal, hkp, had, FG, hqG⟩
      have nfr : ∀ {a b : Addr} {u : HO}, (a ∈ adrs v ∨ H a = none) → b ∉ [o, la, lr] ++ adrs v → H b = some u → b ≠ a := fun {a b u} h nb eb z => h.elim (fun h => nb (by rw [z]; exact List.mem_append_right _ h)) fun h => by rw [z, h] at eb; exact nomatch eb
      have nqu : ∀ {a b : Addr}, (a ∈ adrs v ∨ H a = none) → b ∈ [o, la, lr] → b ≠ a := fun {a b} h hb z => h.elim (fun h => aq b hb (by rw [z]; exact h)) fun h => by
        rw [z] at hb
        simp only [List.mem_cons, List.not_mem_nil, or_false] at hb
        rcases hb with rfl | rfl | rfl
        · rw [e] at h; exact nomatch h
        · rw [Hla] at h; exact nomatch h
        · rw [Hlr] at h; exact nomatch h
      have fG : ∀ {p : Addr}, G p = none → H p = none ∨ p ∈ [o, la, lr] ++ adrs v := fun {p} z => by
        cases c : H p with
        | none => exact .inl rfl
        | some u =>
          refine .inr (Decidable.byContradiction fun nb => ?_)
          rw [FG _ _ nb c] at z
          exact nomatch z
      have fG : ∀ {p : Addr}, G p = none → p ∈ adrs v ∨ H p = none := fun {p} z => by
        rcases fG z with h | h
        · exact .inr h
        · rcases List.mem_append.mp h with h | h
          · simp only [List.mem_cons, List.not_mem_nil, or_false] at h
            obtain ⟨dG, fsG, eG, _⟩ := hqG.ob
            rcases h with rfl | rfl | rfl
            · rw [eG] at z; exact nomatch z
            · rw [hqG.al.at_] at z; exact nomatch z
            · rw [hqG.rw_] at z; exact nomatch z
          · exact .inl h
      refine r_cut (fun σ G' => ∃ (s1 : List (Str × Addr × List Str)), σ = [some (.ref o), some (.ref v.S), some (.str x), some (.int i), some (.ref ha), none, none] ∧ Ly G' { v with held := h1, since := s1 } ∧ (∀ y, fnd s1 y = if y = x ∧ ofN as x = [] then some [] else fnd v.since y) ∧ (∀ e ∈ s1, e.1 ∈ NS ∧ e.2.2.Nodup ∧ ∀ y ∈ e.2.2, y ∈ NS) ∧ (∀ e ∈ s1, e.2.1 ∈ adrs v ∨ H e.2.1 = none) ∧
        (∀ b u, b ∉ [o, la, lr] ++ adrs v → H b = some u → G' b = some u) ∧ Qu A.CQ n G' o la lr (ts ++ [t]) (as ++ [(x, i)]) (putRow row x)) ?_ ?_
      · walk_at "go"
        refine newLB fun p2 H2 np2 g2 s2 e2 => ?_
        refine ⟨_, .list [], dp_ints (sqL (s2 _ _ (LG.el _ hin))), .lst (sqL e2) .nil, sh_ints _, sh_nil, ?_⟩
        unfold intD
        rw [eqv_nil]
        have L2' := LG.same s2
        have FG2 : ∀ b u, b ∉ [o, la, lr] ++ adrs v → H b = some u → H2 b = some u := fun b u nb eb => s2 _ _ (FG b u nb eb)
        by_cases hz : ofN as x = []
        · rw [decide_eq_true (by show List.map _ (ofN as x) = []; rw [hz]; rfl)]
          walk_at "go"
          refine newLB fun p3 H3 np3 g3 s3 e3 => ?_
          have L3 := L2'.same s3
          have p3s : p3 ≠ v.sd := fun z => by rw [z, L2'.es] at np3; exact nomatch np3
          refine r_gSub (r_dgT rfl (.inl L3.eS) top_s ⟨.str x, rfl, v.sd, _, rfl, .inl ⟨dicD v.since, .inr x, L3.es, rfl, ?_, rfl⟩, ?_⟩)
          · unfold dicD
            rw [List.length_map, sizeLine_eq]
            have := hQ.sn.sl
            omega
          · rw [putK_dic v.since x p3 []]
            have L4 := L2'.setSince (G := upd H3 v.sd (.dK (dicD (setB v.since x p3 [])))) (x := x) (p := p3) np3 (fun b u nb eb => by rw [upd_ne nb]; exact s3 _ _ eb) (by rw [upd_ne p3s]; exact e3) upd_same
            refine ⟨setB v.since x p3 [], rfl, L4, fun y => ?_, fun e he => ?_, fun e he => ?_, fun b u nb eb => ?_, ?_⟩
            · rw [setB_fnd]
              by_cases c : y = x
              · rw [if_pos c, if_pos ⟨c, hz⟩]
              · rw [if_neg c, if_neg (fun z => c z.1)]
            · rcases setB_mem he with rfl | ⟨he, _⟩
              · exact ⟨hx, List.nodup_nil, fun _ z => nomatch z⟩
              · exact hQ.sn.sn e he
            · rcases setB_mem he with rfl | ⟨he, _⟩
              · refine fG (?_ : G p3 = none)
                cases c : G p3 with
                | none => rfl
                | some u => rw [s2 _ _ c] at np3; exact nomatch np3
              · exact .inl (by unfold adrs; simp only [List.mem_cons, List.mem_append, List.mem_map]; exact .inr (.inr (.inr (.inr (.inr (.inl ⟨e, he, rfl⟩))))))
            · rw [upd_ne (nfr (.inl inA.2.2.1) nb eb)]
              exact s3 _ _ (FG2 b u nb eb)
            · refine ((hqG.same s2).same s3).keep (fun b u hb eb => ?_) fun b xs eb => ?_
              · rw [upd_ne (nqu (.inl inA.2.2.1) hb)]
                exact eb
              · rw [upd_ne (ne_ct eb L3.es nofun)]
                exact eb
        · rw [decide_eq_false (fun w => hz (List.map_eq_nil_iff.mp w))]
          walk_at "go"
          refine ⟨v.since, rfl, L2', fun y => (if_neg fun z => hz z.2).symm, hQ.sn.sn, fun e he => .inl (by unfold adrs; simp only [List.mem_cons, List.mem_append, List.mem_map]; exact .inr (.inr (.inr (.inr (.inr (.inl ⟨e, he, rfl⟩)))))), FG2, hqG.same s2⟩
      · clear FG hqG LG fG
        rintro σ G ⟨s1, rfl, LG, hfn, hsn, has, FG, hqG⟩
        walk_at "go"
        have hL := LG.el _ hin
        have hsm : (ofN as x).length ≤ 60 := Nat.le_trans (List.length_filterMap_le _ _) hQ.sn.small
        refine ⟨.inl ⟨rfl, _, sqL hL⟩, ?_⟩
        walk_at "go"
        refine ⟨ha, _, _, rfl, rfl, hL, ?_, ?_⟩
        · unfold intsV
          rw [List.length_map, sizeLine_eq]
          show (ofN as x).length < _
          omega
        have hiv : intsV (ofN as x) ++ [V.int (i : Int)] = intsV (ofN as x ++ [i]) := by
          unfold intsV
          rw [List.map_append]
          rfl
        show tSeq _ _ _ _ (upd G ha (.lst (intsV (ofN as x) ++ [V.int (i : Int)])))
        rw [hiv]
        have hha := had _ hin
        have L3 := LG.wrHeld (G := upd G ha (.lst (intsV (ofN as x ++ [i])))) hin (l := ofN as x ++ [i]) (fun b u nb eb => by rw [upd_ne nb]; exact eb) upd_same
        have L3 : Ly (upd G ha (.lst (intsV (ofN as x ++ [i])))) { v with held := wrB h1 x (ofN as x ++ [i]), since := s1 } := L3
        have F3 : ∀ b u, b ∉ [o, la, lr] ++ adrs v → H b = some u → upd G ha (.lst (intsV (ofN as x ++ [i]))) b = some u := fun b u nb eb => by rw [upd_ne (nfr hha nb eb)]; exact FG b u nb eb
        have q3 : Qu A.CQ n (upd G ha (.lst (intsV (ofN as x ++ [i])))) o la lr (ts ++ [t]) (as ++ [(x, i)]) (putRow row x) := hqG.keep (fun b u hb eb => by rw [upd_ne (nqu hha hb)]; exact eb) fun b xs eb => by
          rw [upd_ne (ne_ct eb hL nofun)]
          exact eb
        have eha : upd G ha (.lst (intsV (ofN as x ++ [i]))) ha = some (.lst (intsV (ofN as x ++ [i]))) := upd_same
        have n3 : ∀ {p : Addr}, upd G ha (.lst (intsV (ofN as x ++ [i]))) p = none → p ∈ adrs v ∨ H p = none := fun {p} z => by
          have z : G p = none := by
            by_cases c : p = ha
            · rw [c, upd_same] at z; exact nomatch z
            · rw [upd_ne c] at z; exact z
          cases c : H p with
          | none => exact .inr rfl
          | some u =>
            refine .inl (Decidable.byContradiction fun nb => ?_)
            by_cases d : p ∈ [o, la, lr]
            · obtain ⟨dG, fsG, eG, _⟩ := hqG.ob
              simp only [List.mem_cons, List.not_mem_nil, or_false] at d
              rcases d with rfl | rfl | rfl
              · rw [eG] at z; exact nomatch z
              · rw [hqG.al.at_] at z; exact nomatch z
              · rw [hqG.rw_] at z; exact nomatch z
            · rw [FG p u (fun w => (List.mem_append.mp w).elim d nb) c] at z
              exact nomatch z
        generalize upd G ha (.lst (intsV (ofN as x ++ [i]))) = G3 at L3 F3 q3 eha n3 ⊢
        have h3 : Hl { v with held := wrB h1 x (ofN as x ++ [i]), since := s1 } (as ++ [(x, i)]) (putRow row x) := by
          refine ⟨fun e he => ?_, fun y j hj => ?_, q3.nd, q3.mem, ?_⟩
          · have app : ∀ y, ofN (as ++ [(x, i)]) y = ofN as y ++ if x = y then [i] else [] := fun y => ofG_app as x y i
            rcases wrB_mem he with ⟨c1, c2, _⟩ | ⟨c1, c2⟩
            · rw [c2, app, c1, if_pos rfl]
            · rw [app, if_neg (fun z => c2 z.symm), List.append_nil]
              exact (hal e c1).1
          · have hk : ∀ e' ∈ h1, ∃ e'' ∈ wrB h1 x (ofN as x ++ [i]), e''.1 = e'.1 := fun e' he' => by
              have : e'.1 ∈ (wrB h1 x (ofN as x ++ [i])).map (·.1) := by rw [wrB_key]; exact List.mem_map.mpr ⟨e', he', rfl⟩
              exact List.mem_map.mp this
            rcases List.mem_append.mp hj with hj | hj
            · obtain ⟨e, he, rfl⟩ := hQ.sn.hm y j hj
              obtain ⟨e', he', h'⟩ := hkp e he
              obtain ⟨e'', he'', h''⟩ := hk e' he'
              exact ⟨e'', he'', h''.trans h'⟩
            · obtain ⟨e'', he'', h''⟩ := hk _ hin
              exact ⟨e'', he'', h''.trans (Prod.mk.inj (List.mem_singleton.mp hj)).1.symm⟩
          · show (wrB h1 x (ofN as x ++ [i])).length ≤ 30
            have z := nd_le (m := NS) LG.hk fun y hy => by
              obtain ⟨e, he, rfl⟩ := List.mem_map.mp hy
              exact (hal e he).2
            have z2 := hQ.sn.nl
            rw [List.length_map] at z
            have z3 : (wrB h1 x (ofN as x ++ [i])).length = h1.length := by unfold wrB; exact List.length_map _
            have z : h1.length ≤ NS.length := z
            omega
        walk_at "go"
        refine ⟨{ v with held := wrB h1 x (ofN as x ++ [i]), since := s1 }, as ++ [(x, i)], putRow row x, rfl, L3, h3, fun G4 s4 => ?_⟩
        have L4 := L3.same s4
        have F4 : ∀ b u, b ∉ [o, la, lr] ++ adrs v → H b = some u → G4 b = some u := fun b u nb eb => s4 _ _ (F3 b u nb eb)
        have q4 := q3.same s4
        have eha4 := s4 _ _ eha
        have n4 : ∀ {p : Addr}, G4 p = none → p ∈ adrs v ∨ H p = none := fun {p} z => n3 (by
          cases c : G3 p with
          | none => rfl
          | some u => rw [s4 _ _ c] at z; exact nomatch z)
        clear L3 F3 q3 eha n3 s4 G3
        walk_at "go"
        have fW : ∃ f : Mk Str → Mk Str, f = fun m => { m with wide := max m.wide (putRow row x).length } := ⟨_, rfl⟩
        obtain ⟨f, hf⟩ := fW
        have em4 : G4 v.ml = some (.lst (v.marks.map fun m => .ref m.1)) := L4.em
        have ek4 : ∀ m ∈ v.marks, G4 m.1 = some (.lst (markV m)) := L4.ek
        have bm4 : ∀ m ∈ v.marks, v.S ≠ m.1 ∧ v.hd ≠ m.1 ∧ v.sd ≠ m.1 ∧ v.ml ≠ m.1 := L4.ap.bm
        have mm4 : (v.marks.map (·.1)).Nodup := L4.ap.mm
        refine r_dgT rfl (.inl L4.eS) top_m ⟨v.ml, rfl, ⟨_, sqL em4⟩, for_list (K := K) (a := v.ml) (xs := v.marks.map fun m => V.ref m.1) (fun k σ G' => (∃ x6, σ = [some (.ref o), some (.ref v.S), some (.str x), some (.int i), some (.ref ha), some (.int (putRow row x).length), x6]) ∧
            (∀ b u, (∀ m ∈ v.marks, b ≠ m.1) → G4 b = some u → G' b = some u) ∧ ∀ j m, v.marks[j]? = some m → G' m.1 = some (.lst (markV (if j < k then (m.1, m.2.1, f m.2.2) else m))))
          ⟨⟨_, rfl⟩, fun _ _ _ e => e, fun j m hj => by rw [if_neg (Nat.not_lt_zero j)]; exact ek4 m (List.mem_of_getElem? hj)⟩ (fun k σ G' _ ⟨_, fr, _⟩ => sqL (fr _ _ (fun m hm => (bm4 m hm).2.2.2) em4)) ?_ ?_⟩
        · rintro k y σ G5 hk ⟨⟨x6, rfl⟩, fr, pk⟩
          rw [List.getElem?_map] at hk
          cases hmk : v.marks[k]? with
          | none => rw [hmk] at hk; exact nomatch hk
          | some m =>
            rw [hmk] at hk
            obtain rfl := Option.some.inj hk
            have e5 := pk k m hmk
            rw [if_neg (Nat.lt_irrefl k)] at e5
            walk_at "go"
            refine r_ixL (sqL e5) (v := .int (m.2.2.wide : Nat)) rfl ?_
            walk_at "go"
            refine ⟨_, _, rfl, ?_⟩
            walk_at "go"
            refine ⟨m.1, markV m, 3, 3, rfl, rfl, e5, rfl, ?_⟩
            have hv : (markV m).set 3 (V.int (if ((putRow row x).length : Int) > (m.2.2.wide : Nat) then ((putRow row x).length : Int) else ((m.2.2.wide : Nat) : Int))) = markV (m.1, m.2.1, f m.2.2) := by
              rw [hf]
              unfold markV
              show [_, _, _, V.int _] = [_, _, _, V.int _]
              congr 4
              have hmx : ((max m.2.2.wide (putRow row x).length : Nat) : Int) = if ((putRow row x).length : Int) > (m.2.2.wide : Nat) then ((putRow row x).length : Int) else ((m.2.2.wide : Nat) : Int) := by
                split <;> omega
              rw [hmx]
            rw [hv]
            refine ⟨⟨_, rfl⟩, fun b u hb eb => by rw [upd_ne (hb m (List.mem_of_getElem? hmk))]; exact fr b u hb eb, fun j m' hj => ?_⟩
            by_cases hjk : j = k
            · subst hjk
              rw [hmk] at hj
              obtain rfl := Option.some.inj hj
              rw [upd_same, if_pos (Nat.lt_succ_self j)]
            · have hne : m'.1 ≠ m.1 := fun z => hjk (nd_get mm4 hj hmk z)
              rw [upd_ne hne, pk j m' hj]
              by_cases c : j < k
              · rw [if_pos c, if_pos (by omega)]
              · rw [if_neg c, if_neg (by omega)]
        · rintro σ G5 ⟨⟨x6, rfl⟩, fr, pk⟩
          have L5 := L4.allMarks (G := G5) f (fun m => by rw [hf]) fr fun m hm => by
            obtain ⟨j, hj⟩ := List.getElem?_of_mem hm
            have w := pk j m hj
            rw [if_pos (by rw [List.length_map]; exact (List.getElem?_eq_some_iff.mp hj).1)] at w
            exact w
          have mA : ∀ m ∈ v.marks, m.1 ∈ adrs v := fun m hm => by unfold adrs; simp only [List.mem_cons, List.mem_append, List.mem_map]; exact .inr (.inr (.inr (.inr (.inr (.inr ⟨m, hm, rfl⟩)))))
          have F5 : ∀ b u, b ∉ [o, la, lr] ++ adrs v → H b = some u → G5 b = some u := fun b u nb eb => fr _ _ (fun m hm => nfr (.inl (mA m hm)) nb eb) (F4 b u nb eb)
          have q5 := q4.keep (H' := G5) (fun b u hb eb => fr _ _ (fun m hm => nqu (.inl (mA m hm)) hb) eb) fun b xs eb => fr _ _ (fun m hm => ne_ct eb (ek4 m hm) nofun) eb
          have eha5 := fr _ _ (fun m hm => L4.ap.hm (x, ha, ofN as x ++ [i]) (by
            unfold wrB
            exact List.mem_map.mpr ⟨_, hin, if_pos rfl⟩) m hm) eha4
          have n5 : ∀ {p : Addr}, G5 p = none → p ∈ adrs v ∨ H p = none := fun {p} z => by
            by_cases c : ∀ m ∈ v.marks, p ≠ m.1
            · refine n4 ?_
              cases d : G4 p with
              | none => rfl
              | some u => rw [fr _ _ c d] at z; exact nomatch z
            · refine .inl ?_
              have c := Classical.not_forall.mp c
              obtain ⟨m, c⟩ := c
              have c := Classical.not_imp.mp c
              have c2 := Decidable.not_not.mp c.2
              rw [c2]
              exact mA m c.1
          walk_at "go"
          have hW : (putRow row x).length ≤ 60 := Nat.le_trans q5.rlen q5.small
          refine r_dgT rfl (.inl L5.eS) top_m ⟨.inl ⟨rfl, _, sqL L5.em⟩, ?_⟩
          walk_at "go"
          refine newT fun t5 H6 n6 s6 e6 => ?_
          walk_at "go"
          refine ⟨ha, _, rfl, .inl (sqL (s6 _ _ eha5)), ?_⟩
          walk_at "go"
          refine newLB fun pm H7 n7 g7 s7 e7 => ?_
          have L6 := L5.same s6
          have em7 := s7 _ _ L6.em
          refine ⟨v.ml, _, _, rfl, rfl, em7, ?_, ?_⟩
          · have hml : v.marks.length ≤ 60 := hQ.sn.mln
            rw [List.length_map, sizeLine_eq]
            show (v.marks.map _).length < _
            rw [List.length_map]
            omega
          have hlen : ((intsV (ofN as x ++ [i])).length : Int) = (((ofN as x).length + 1 : Nat) : Int) := by
            unfold intsV
            rw [List.length_map, List.length_append]
            rfl
          rw [hlen] at e7
          have pml : pm ≠ v.ml := fun z => by rw [z, L6.em] at n7; exact nomatch n7
          have tml : t5 ≠ v.ml := ne_ct (s7 _ _ e6) em7 nofun
          have npm : pm ∈ adrs v ∨ H pm = none := n5 (by
            cases c : G5 pm with
            | none => rfl
            | some u => rw [s6 _ _ c] at n7; exact nomatch n7)
          have kpu : ∀ {mm : List V} (b : Addr) (u : HO), b ≠ v.ml → H6 b = some u → upd H7 v.ml (.lst mm) b = some u := fun b u nb eb => by rw [upd_ne nb]; exact s7 _ _ eb
          have L7 := L6.pushMark (m := (pm, t5, ⟨(x, i), (ofN as x).length + 1, 0, (putRow row x).length⟩)) (G := upd H7 v.ml (.lst ((v.marks.map fun m => (m.1, m.2.1, f m.2.2)).map (fun m => V.ref m.1) ++ [.ref pm]))) n7 (fun b u nb eb => kpu b u nb eb) (by rw [List.map_append]; exact upd_same) (by rw [upd_ne pml]; exact e7) (by rw [upd_ne tml]; exact s7 _ _ e6)
          have hA : ∀ a ∈ adrs { v with held := wrB h1 x (ofN as x ++ [i]), since := s1, marks := v.marks.map (fun m => (m.1, m.2.1, f m.2.2)) ++ [(pm, t5, ⟨(x, i), (ofN as x).length + 1, 0, (putRow row x).length⟩)] }, a ∈ adrs v ∨ H a = none := fun a ha' => by
            unfold adrs at ha'
            rw [wrB_adr] at ha'
            simp only [List.mem_cons, List.mem_append, List.mem_map, List.not_mem_nil, or_false] at ha'
            rcases ha' with rfl | rfl | rfl | rfl | ⟨e, he, rfl⟩ | ⟨e, he, rfl⟩ | ⟨m, hm | rfl, rfl⟩
            · exact .inl inA.1
            · exact .inl inA.2.1
            · exact .inl inA.2.2.1
            · exact .inl inA.2.2.2
            · exact had e he
            · exact has e he
            · obtain ⟨m0, h0, rfl⟩ := hm
              exact .inl (mA m0 h0)
            · exact npm
          refine q { v with held := wrB h1 x (ofN as x ++ [i]), since := s1, marks := v.marks.map (fun m => (m.1, m.2.1, f m.2.2)) ++ [(pm, t5, ⟨(x, i), (ofN as x).length + 1, 0, (putRow row x).length⟩)] } _ rfl ⟨⟨n, ts ++ [t], n9, ?_⟩, ⟨L7, h3.he, h3.hm, ?_, fun e he => ?_, hsn, fun m hm => ?_, ?_, hQ.sn.nok, hQ.sn.nl⟩, fun a ha' hb => ?_⟩ ⟨fun b u nb eb => ?_, fun a ha' => ?_⟩
          · exact (q5.same (s6.trans s7)).keep (fun b u hb eb => by rw [upd_ne (nqu (.inl inA.2.2.2) hb)]; exact eb) fun b xs eb => by rw [upd_ne (ne_ct eb em7 nofun)]; exact eb
          · have I := hQ.sn.inv.put nin
            have e1 : fnd s1 = fun y => if y = x ∧ ofG as x = [] then some [] else fnd v.since y := funext fun y => hfn y
            show Inv _ _ (fnd s1) (List.map (fun (m : Addr × Addr × Mk Str) => m.2.2) (List.map (fun (m : Addr × Addr × Mk Str) => ((m.1, m.2.1, f m.2.2) : Addr × Addr × Mk Str)) v.marks ++ [((pm, t5, ⟨(x, i), (ofN as x).length + 1, 0, (putRow row x).length⟩) : Addr × Addr × Mk Str)]))
            rw [e1, List.map_append, List.map_map, hf]
            rw [List.map_map] at I
            exact I
          · rcases wrB_mem he with ⟨c1, _⟩ | ⟨c1, _⟩
            · rw [c1]; exact hx
            · exact (hal e c1).2
          · rcases List.mem_append.mp hm with hm | hm
            · obtain ⟨m0, h0, rfl⟩ := List.mem_map.mp hm
              have z := hQ.sn.sz m0 h0
              rw [hf]
              exact ⟨z.1, Nat.max_le.mpr ⟨z.2, hW⟩⟩
            · obtain rfl := List.mem_singleton.mp hm
              have z : (ofN as x).length ≤ as.length := List.length_filterMap_le _ _
              exact ⟨by show (ofN as x).length + 1 ≤ 60; omega, hW⟩
          · rw [List.length_append]
            exact hl
          · exact nqu (hA a hb) ha' rfl
          · rw [upd_ne (nfr (.inl inA.2.2.2) nb eb)]
            exact s7 _ _ (s6 _ _ (F5 b u nb eb))
          · rcases List.mem_append.mp ha' with h | h
            · exact .inl (List.mem_append_left _ h)
            · rcases hA a h with h | h
              · exact .inl (List.mem_append_right _ h)
              · exact .inr h
end
end K23

namespace K23
open PySem PySem.Spec PyProof.Rows L2 Bk


theorem adr_S {v : Sv} : v.S ∈ adrs v := by simp [adrs]
theorem adr_hd {v : Sv} : v.hd ∈ adrs v := by simp [adrs]
theorem adr_sd {v : Sv} : v.sd ∈ adrs v := by simp [adrs]
theorem adr_ml {v : Sv} : v.ml ∈ adrs v := by simp [adrs]
theorem adr_held {v : Sv} : ∀ e ∈ v.held, e.2.1 ∈ adrs v := fun e he => by unfold adrs; simp only [List.mem_cons, List.mem_append, List.mem_map]; exact .inr (.inr (.inr (.inr (.inl ⟨e, he, rfl⟩))))
theorem adr_since {v : Sv} : ∀ e ∈ v.since, e.2.1 ∈ adrs v := fun e he => by unfold adrs; simp only [List.mem_cons, List.mem_append, List.mem_map]; exact .inr (.inr (.inr (.inr (.inr (.inl ⟨e, he, rfl⟩)))))
theorem adr_marks {v : Sv} : ∀ m ∈ v.marks, m.1 ∈ adrs v := fun m hm => by unfold adrs; simp only [List.mem_cons, List.mem_append, List.mem_map]; exact .inr (.inr (.inr (.inr (.inr (.inr ⟨m, hm, rfl⟩)))))
section
variable {A : Ad} {NS : List Str} {H G : Hp} {o la lr : Addr} {v : Sv} {as : List (Str × Nat)} {row : List Str}
theorem Qs.nfr (hQ : Qs A NS H o la lr v as row) {a b : Addr} {u : HO} (h : a ∈ adrs v ∨ H a = none) (nb : b ∉ [o, la, lr] ++ adrs v) (eb : H b = some u) : b ≠ a := fun z => h.elim (fun h => nb (by rw [z]; exact List.mem_append_right _ h)) fun h => by rw [z, h] at eb; exact nomatch eb
theorem Qs.nqu (hQ : Qs A NS H o la lr v as row) {a b : Addr} (h : a ∈ adrs v ∨ H a = none) (hb : b ∈ [o, la, lr]) : b ≠ a := fun z => h.elim (fun h => hQ.ap b hb (by rw [z]; exact h)) fun h => by
  obtain ⟨n, ts, _, hq⟩ := hQ.qu
  obtain ⟨dx, fs, e, _⟩ := hq.ob
  rw [z] at hb
  simp only [List.mem_cons, List.not_mem_nil, or_false] at hb
  rcases hb with rfl | rfl | rfl
  · rw [e] at h; exact nomatch h
  · rw [hq.al.at_] at h; exact nomatch h
  · rw [hq.rw_] at h; exact nomatch h
theorem Qs.free {n : Nat} {ts : List Addr} {as' : List (Str × Nat)} {row' : List Str} (hQ : Qs A NS H o la lr v as row) (qG : Qu A.CQ n G o la lr ts as' row') (FG : ∀ b u, b ∉ [o, la, lr] ++ adrs v → H b = some u → G b = some u) {p : Addr} (z : G p = none) : p ∈ adrs v ∨ H p = none := by
  cases c : H p with
  | none => exact .inr rfl
  | some u =>
    refine .inl (Decidable.byContradiction fun nb => ?_)
    by_cases d : p ∈ [o, la, lr]
    · obtain ⟨dG, fsG, eG, _⟩ := qG.ob
      simp only [List.mem_cons, List.not_mem_nil, or_false] at d
      rcases d with rfl | rfl | rfl
      · rw [eG] at z; exact nomatch z
      · rw [qG.al.at_] at z; exact nomatch z
      · rw [qG.rw_] at z; exact nomatch z
    · rw [FG p u (fun w => (List.mem_append.mp w).elim d nb) c] at z
      exact nomatch z
/-- behind a deed of the queue -/
theorem Qs.step {n : Nat} {ts : List Addr} (hQ : Qs A NS H o la lr v as row) (hq : Qu A.CQ n H o la lr ts as row) (k1 : ∀ b u, b ≠ la → b ≠ lr → H b = some u → G b = some u) :
    Ly G v ∧ (∀ b u, b ∉ [o, la, lr] ++ adrs v → H b = some u → G b = some u) := by
  have tk1 : ∀ b xs, H b = some (.tup xs) → G b = some (.tup xs) := fun b xs eb => k1 _ _ (ne_ct eb hq.al.at_ nofun) (ne_ct eb hq.rw_ nofun) eb
  exact ⟨hQ.sn.ly.keep (fun b u hb eb => k1 b u (fun z => hQ.ap la (by simp) (by rw [← z]; exact hb)) (fun z => hQ.ap lr (by simp) (by rw [← z]; exact hb)) eb) tk1, fun b u nb eb => k1 b u (fun z => nb (by rw [z]; simp)) (fun z => nb (by rw [z]; simp)) eb⟩
theorem Ly.allSince (c : Ly H v) (g : Str → List Str → List Str) (kp : ∀ b u, (∀ e ∈ v.since, b ≠ e.2.1) → H b = some u → G b = some u) (ez : ∀ e ∈ v.since, G e.2.1 = some (.lst ((g e.1 e.2.2).map V.str))) : Ly G { v with since := v.since.map fun e => (e.1, e.2.1, g e.1 e.2.2) } := by
  have a := c.ap
  have ad : (v.since.map fun e => (e.1, e.2.1, g e.1 e.2.2)).map (·.2.1) = v.since.map (·.2.1) := by rw [List.map_map]; rfl
  have ak : (v.since.map fun e => (e.1, e.2.1, g e.1 e.2.2)).map (·.1) = v.since.map (·.1) := by rw [List.map_map]; rfl
  refine ⟨⟨a.bb, a.bh, fun k hk => ?_, a.bm, fun e he k hk => ?_, a.hm, fun k hk m hm => ?_, a.hh, by show ((v.since.map fun e => (e.1, e.2.1, g e.1 e.2.2)).map (·.2.1)).Nodup; rw [ad]; exact a.ss, a.mm⟩, kp _ _ (fun m hm => (a.bs m hm).1) c.eS, kp _ _ (fun m hm => (a.bs m hm).2.1) c.eh, ?_, kp _ _ (fun m hm => (a.bs m hm).2.2.2) c.em,
    fun e he => kp _ _ (fun m hm => a.hs e he m hm) (c.el e he), fun k hk => ?_, fun m hm => kp _ _ (fun e he => (a.sm e he m hm).symm) (c.ek m hm), fun m hm => kp _ _ (fun e he => ne_ct (c.tu m hm) (c.ez e he) nofun) (c.tu m hm), c.hk, by show ((v.since.map fun e => (e.1, e.2.1, g e.1 e.2.2)).map (·.1)).Nodup; rw [ak]; exact c.sk⟩
  · obtain ⟨m, hm, rfl⟩ := List.mem_map.mp hk
    exact a.bs m hm
  · obtain ⟨m, hm, rfl⟩ := List.mem_map.mp hk
    exact a.hs e he m hm
  · obtain ⟨m', hm', rfl⟩ := List.mem_map.mp hk
    exact a.sm m' hm' m hm
  · show G v.sd = some (.dK (dicD (v.since.map fun e => (e.1, e.2.1, g e.1 e.2.2))))
    unfold dicD
    rw [List.map_map]
    exact kp _ _ (fun m hm => (a.bs m hm).2.2.1) c.es
  · obtain ⟨m, hm, rfl⟩ := List.mem_map.mp hk
    exact ez m hm
end
theorem fnd_map {β : Type} {g : Str → β → β} {x : Str} : ∀ {l : List (Str × Addr × β)}, fnd (l.map fun e => (e.1, e.2.1, g e.1 e.2.2)) x = (fnd l x).map (g x)
  | [] => rfl
  | a :: r => by
    have ih := fnd_map (g := g) (x := x) (l := r)
    unfold fnd at ih ⊢
    rw [List.map_cons]
    by_cases c : a.1 = x
    · rw [List.find?_cons_of_pos (by simp [c]), List.find?_cons_of_pos (by simp [c])]
      show some (g a.1 a.2.2) = some (g x a.2.2)
      rw [c]
    · rw [List.find?_cons_of_neg (by simpa using c), List.find?_cons_of_neg (by simpa using c)]
      exact ih
theorem cut1 {x : V} {l : List V} : cutV (x :: l) none (some 1) = [x] := by
  unfold cutV HT.sIx
  simp
def strD (l : List Str) : PyData := .list (l.map fun z => .str z)
theorem dps_strs {K : PySem.W.Frag} {H : Hp} : ∀ l : List Str, DpAll K H (l.map V.str) (l.map fun z => .str z)
  | [] => .nil
  | a :: r => .cons (.str _) (dps_strs r)
theorem pl_strs : ∀ l : List Str, PyData.plainAll (l.map fun z => .str z) = true
  | [] => rfl
  | a :: r => by
    show (PyData.plain (.str a) && PyData.plainAll _) = true
    rw [pl_strs r]
    rfl
theorem cnt_strs (x : Str) : ∀ l : List Str, (l.map fun z => PyData.str z).countP (fun z => PyData.eqv z (.str x)) = l.count x
  | [] => rfl
  | a :: r => by
    rw [List.map_cons, List.countP_cons, List.count_cons, cnt_strs x r]
    have : PyData.eqv (.str a) (.str x) = (a == x) := by
      show decide (a = x) = _
      by_cases c : a = x
      · rw [c]; simp
      · rw [decide_eq_false c]; simp [c]
    rw [this]
theorem erase_flt {as : List (Str × Nat)} {p : Str × Nat} {j : Nat} (nd : as.Nodup) (h : as.findIdx? (fun q => decide (q = p)) = some j) : as.eraseIdx j = as.filter fun q => decide (q ≠ p) := by
  induction as generalizing j with
  | nil => exact nomatch h
  | cons a r ih =>
    have nd' := List.nodup_cons.mp nd
    rw [List.findIdx?_cons] at h
    by_cases c : a = p
    · rw [decide_eq_true c, if_pos rfl] at h
      obtain rfl := Option.some.inj h
      rw [List.filter_cons_of_neg (by simpa using c)]
      refine (List.filter_eq_self.mpr fun b hb => ?_).symm
      have w : b ≠ p := fun z => nd'.1 (by rw [c, ← z]; exact hb)
      exact decide_eq_true w
    · rw [decide_eq_false c, if_neg Bool.false_ne_true] at h
      cases z : r.findIdx? (fun q => decide (q = p)) with
      | none => rw [z] at h; exact nomatch h
      | some k =>
        rw [z] at h
        obtain rfl := Option.some.inj h
        rw [List.filter_cons_of_pos (by simpa using c), List.eraseIdx_cons_succ, ih nd'.2 z]
theorem top_put {v : Sv} {D : Addr} : putK (topD v) (.inr "marks" : Key) (.ref D) = topD { v with ml := D } := by
  unfold putK topD
  rw [if_pos (by rw [List.any_cons, List.any_cons, List.any_cons, decide_eq_true rfl]; simp)]
  show [(if (Sum.inr (Str.ofString "held") : Key) = .inr "marks" then _ else _), (if (Sum.inr (Str.ofString "since") : Key) = .inr "marks" then _ else _), (if (Sum.inr (Str.ofString "marks") : Key) = .inr "marks" then _ else _)] = _
  rw [if_neg ne_hm, if_neg ne_sm, if_pos rfl]
theorem r_dget2 {td ty tx : TE} {σ : L2.St} {H : Hp} {Q : VK} (h : td σ H fun x H1 => ∃ a, x = .ref a ∧ IsD H1 a ∧ ty σ H1 fun y H2 => tx σ H2 fun z H3 => ∃ o, DGet H3 a y o ∧ Q (o.getD z) H3) : tDGet2 td ty tx σ H Q := h
def spServedL (A : Ad) : Sp := fun vs H Q _ => ∃ (NS : List Str) (o la lr : Addr) (v : Sv) (as : List (Str × Nat)) (row : List Str), vs = [.ref o, .ref v.S] ∧ Qs A NS H o la lr v as row ∧
  ∀ v' as' row' H', v'.S = v.S → Qs A NS H' o la lr v' as' row' → Mvd H H' ([o, la, lr] ++ adrs v) ([o, la, lr] ++ adrs v') → as'.Sublist as → (as ≠ [] → as'.length < as.length) → Q (.bl true) H'
section
variable {P : Program} {w : World} {K : PySem.W.Frag} {mg : Str → Option Value} {base : Heap} {A : Ad}
theorem ok_served {f : Addr} {fd : FuncData} (F : Fun K "_law_served" "_law_served" s_served_L f fd) (T : Txt K mg A) (c_Queue_serve : CalM P w K mg base CX0 6 A.CQ "serve" (spServe A)) (c_row_L : CalD P w K mg base CX0 1 "_law_row" spRow []) : FnOk P w K mg base CX0 7 f fd ["_law_queue", "_law_seen"] (spServedL A) := by
  refine F.ok sc_served_L (fun vs H Q E h => ?_) (fun cdv A' outer s H vs Q E hr h => have hu65 := units65 hr; have hu64 := hr.units; have hu := units1 hr; ⟨_, (pss_cons (ps_set (i := 2) sc_served_L.nd rfl (.inr rfl) (pe_mth0 (pv 0) T.cl_Queue c_Queue_serve hr (by decide) ps0))
    (pss_cons (ps_if (pt_cmpR op_isN (pv 2) pe_non (nomark _)) (pss_one (ps_ret (pe_cmpR op_eq (pe_cal c_row_L hr (by decide) (by rfl) (pa_cons (pv 1) pa_nil)) pe_int (nomark _)))) pss_nil)
    (pss_cons (ps_if (PW.pt (pw_or (pt_not (pt_val (pe_callB call_is (by rfl) T.m_isinstance (by decide +kernel) (pa_cons (pv 2) (pa_cons (pe_bltn (v := .ty "tuple") (by rfl) T.m_tuple (by decide +kernel) rfl) pa_nil))))) (pw_or (pt_cmpR op_ne (pe_callB call_len_seq (by rfl) T.m_len (by decide +kernel) (pa_cons (pv 2) pa_nil)) pe_int (nomark _)) (pw_or1 (pt_cmpR (op_neD hu64) (pe_slice sl_list (pe_dget2 hu (pe_dget hu (pv 1) pe_str (fun _ _ => rfl)) (pe_ix ix_tup (pv 2) pe_int (fun _ _ => rfl)) (pe_lstB pa_nil) ⟨rfl, rfl, rfl, rfl⟩) po_none (po_some pe_int)) (pe_lstB (pa_cons (pe_ix ix_tup (pv 2) pe_int (fun _ _ => rfl)) pa_nil)) (nomark _)))))) (pss_one (ps_ret pe_bl)) pss_nil)
    (pss_cons (ps_set (i := 3) sc_served_L.nd rfl (.inl rfl) (pe_ix ix_tup (pv 2) pe_int (fun _ _ => rfl)))
    (C8.pss_cut (ps_lock (ps_for PassesOwn.never rfl (pi_keys (pe_dget hu (pv 1) pe_str (fun _ _ => rfl))) (pg_name (i := 4) sc_served_L.nd rfl (.inl rfl))
      (pss_one (ps_if (PW.pt (pw_and (pt_cmpR op_ne (pv 4) (pv 3) (nomark _)) (pw_and1 (pt_cmpR (op_neD hu64) (pe_dget hu (pe_dget hu (pv 1) pe_str (fun _ _ => rfl)) (pv 4) (fun _ _ => rfl)) (pe_lstB pa_nil) (nomark _))))) (pss_cons (ps_expr (pe_bm PySem.F.plainAttrs_list PySem.F.slot_list_append PySem.F.type_list_append mt_append (pe_dget hu (pe_dget hu (pv 1) pe_str (fun _ _ => rfl)) (pv 4) (fun _ _ => rfl)) (pa_cons (pv 3) pa_nil)))
    (pss_one (ps_if (pt_cmpR op_gt (pe_bm PySem.F.plainAttrs_list PySem.F.slot_list_count PySem.F.type_list_count (mt_countD hu64) (pe_dget hu (pe_dget hu (pv 1) pe_str (fun _ _ => rfl)) (pv 4) (fun _ _ => rfl)) (pa_cons (pv 3) pa_nil)) pe_int (nomark _)) (pss_one (ps_ret pe_bl)) pss_nil))) pss_nil))))
    (pss_cons (ps_asg (pe_lstB pa_nil) (pg_sub (pe_dget hu (pv 1) pe_str (fun _ _ => rfl)) (pv 3) (set_dict hu)))
    (C8.pss_cut (ps_for PassesOwn.never rfl (pi_list (pe_dget hu (pv 1) pe_str (fun _ _ => rfl))) (pg_name (i := 5) sc_served_L.nd rfl (.inl rfl))
      (pss_cons (ps_asg (pe_op op_add (pe_ix ix_list (pv 5) pe_int (fun _ _ => rfl)) pe_int) (pg_sub (pv 5) pe_int set_list))
    (pss_one (ps_if (PW.pt (pw_and (pt_cmpR (op_eqD hu64) (pe_ix ix_list (pv 5) pe_int (fun _ _ => rfl)) (pv 2) (nomark _)) (pw_and1 (pt_cmpR op_gt (pe_ix ix_list (pv 5) pe_int (fun _ _ => rfl)) (pe_op op_mulW (pe_ix ix_list (pv 5) pe_int (fun _ _ => rfl)) (pe_ix ix_list (pv 5) pe_int (fun _ _ => rfl))) (nomark _))))) (pss_one (ps_ret pe_bl)) pss_nil))))
    (pss_cons (ps_expr (pe_bm PySem.F.plainAttrs_list PySem.F.slot_list_pop PySem.F.type_list_pop mt_popAt (pe_dget hu (pe_dget hu (pv 1) pe_str (fun _ _ => rfl)) (pv 3) (fun _ _ => rfl)) (pa_cons pe_int pa_nil)))
    (pss_cons (ps_asg (pe_lc (own := [("_law_mark", 5)]) rfl sc_served_L.nd (pi_list (pe_dget hu (pv 1) pe_str (fun _ _ => rfl))) (blkOk_by (N := ["_law_queue", "_law_seen", "_law_told", "_law_name", "_law_other", "_law_mark"]) (sc := defScope s_served_L) (by decide +kernel)) (fun _ _ _ _ _ => (pg_name (i := 5) sc_served_L.nd rfl (.inl rfl))) (fun _ _ _ _ _ => pts_one (pt_cmpR (op_neDK (K := K) rfl hu64) (pe_ix (ix_listK (K := K) rfl) (pv 5) pe_int (fun _ _ => rfl)) (pv 2) (nomark _))) (fun _ _ _ _ _ => (pv 5))) (pg_sub (pv 1) pe_str (set_dict hu)))
    (pss_one (ps_ret pe_bl))))))))))), ?_⟩)
  · obtain ⟨NS, o, la, lr, v, as, row, rfl, _⟩ := h
    rfl
  · obtain ⟨NS, o, la, lr, v, as, row, rfl, hQ, q⟩ := h
    obtain ⟨n, ts, n9, hq⟩ := hQ.qu
    obtain ⟨dx, fs, e, _, _, hn⟩ := hq.ob
    walk_at "go"
    refine ⟨o, dx, fs, rfl, e, hn.2 _ (by decide +kernel) (by decide +kernel), ?_⟩
    walk_at "go"
    refine ⟨o, la, lr, n, ts, as, row, rfl, hq, fun hr0 => ?_, fun x rest i j t H1 hr0 hi hj nt k1 hq1 et => ?_⟩
    · walk_at "go"
      refine ⟨rfl, _, rfl, iteD rfl ?_⟩
      walk_at "go"
      refine ⟨v, as, row, rfl, hQ.sn.ly, hQ.sn.hld, fun G s1 => ?_⟩
      walk_at "go"
      have h0 : as = [] := by
        cases c : as with
        | nil => rfl
        | cons p r =>
          have w := (hq.mem p.1).mpr ⟨p.2, by rw [c]; exact List.mem_cons_self⟩
          rw [hr0] at w
          exact nomatch w
      have z := q v as row G rfl ⟨⟨n, ts, n9, hq.same s1⟩, hQ.sn.same s1, hQ.ap⟩ ⟨fun b u _ eb => s1 _ _ eb, fun a ha => .inl ha⟩ (List.Sublist.refl _) fun c => absurd h0 c
      rw [hr0]
      exact z
    · obtain ⟨L1, F1⟩ := hQ.step hq k1
      have hx : nameOk x = true := hq.ok (x, i) (mem_ofN.mp (List.mem_of_head? hi))
      obtain ⟨more, ho⟩ : ∃ more, ofN as x = i :: more := by
        cases c : ofN as x with
        | nil => rw [c] at hi; exact nomatch hi
        | cons k more =>
          rw [c] at hi
          obtain rfl := Option.some.inj hi
          exact ⟨more, rfl⟩
      have hmem : (x, i) ∈ as := mem_ofN.mp (by rw [ho]; exact List.mem_cons_self)
      obtain ⟨e0, h0, hx0⟩ := hQ.sn.hm x i hmem
      have hl0 : e0.2.2 = i :: more := by rw [hQ.sn.he e0 h0, hx0, ho]
      have hv0 : valV (dicD v.held) (.inr x : Key) = some (.ref e0.2.1) := by rw [← hx0]; exact valV_dic L1.hk h0
      have hm1 : more.length ≤ 60 := by
        have z : (ofN as x).length ≤ as.length := List.length_filterMap_le _ _
        have := hQ.sn.small
        rw [ho, List.length_cons] at z
        omega
      walk_at "go"
      refine ⟨rfl, _, rfl, iteDn (fun z => nomatch z) ?_⟩
      walk_at "go"
      refine r_is (isa_tup et (b := true)) ?_
      walk_at "go"
      refine ⟨t, _, rfl, .inr (sqT et), ?_⟩
      walk_at "go"
      refine iteND rfl ?_
      walk_at "go"
      refine r_dget2 (r_dgT rfl (.inl L1.eS) top_h ⟨v.hd, rfl, .inl ⟨_, .inl L1.eh⟩, ?_⟩)
      walk_at "go"
      refine r_ixT (sqT et) (v := .str x) rfl ?_
      walk_at "go"
      refine newLB fun p2 H2 np2 g2 s2 e2 => ?_
      have L2' := L1.same s2
      refine ⟨some (.ref e0.2.1), .inl ⟨_, .inr x, .inl L2'.eh, rfl, hv0.symm⟩, ?_⟩
      walk_at "go"
      have el2 := L2'.el e0 h0
      rw [hl0] at el2
      refine ⟨e0.2.1, _, rfl, sqL el2, fun p3 np3 => ?_⟩
      have s3 := same_upd (o := .lst (cutV (intsV (i :: more)) none (some 1))) np3
      have e3 : upd H2 p3 (.lst (cutV (intsV (i :: more)) none (some 1))) p3 = some (.lst [V.int (i : Int)]) := by
        rw [upd_same]
        exact congrArg (fun l => some (HO.lst l)) cut1
      generalize upd H2 p3 (.lst (cutV (intsV (i :: more)) none (some 1))) = H3 at s3 e3 ⊢
      walk_at "go"
      refine r_ixT (sqT (s3 _ _ (s2 _ _ et))) (v := .int i) rfl ?_
      walk_at "go"
      refine newLB fun p4 H4 np4 g4 s4 e4 => ?_
      refine r_neSame (d := .list [.int i]) (.lst (sqL (s4 _ _ e3)) (.cons (.int _) .nil)) (.lst (sqL e4) (.cons (.int _) .nil)) (sh_ints [i]) ?_
      walk_at "go"
      have s14 := s2.trans (s3.trans s4)
      have L4 := L1.same s14
      have q4 := hq1.same s14
      have et4 := s14 _ _ et
      have F4 : ∀ b u, b ∉ [o, la, lr] ++ adrs v → H b = some u → H4 b = some u := fun b u nb eb => s14 _ _ (F1 b u nb eb)
      refine r_ixT (sqT et4) (v := .str x) rfl ?_
      walk_at "go"
      clear e2 e3 e4 s4 s3 s2 s14 L2' el2 L1 hq1 et F1 k1
      have hS1 := hQ.sn.ly.ap.bb
      have ap := hQ.sn.ly.ap
      have I := hQ.sn.inv
      show C8.tCut _ _ _ _ _
      refine r_cut (fun σ G => ∃ x4, σ = [some (.ref o), some (.ref v.S), some (.ref t), some (.str x), x4, none] ∧ Ly G { v with since := v.since.map fun e => (e.1, e.2.1, if e.1 ∈ rest then e.2.2 ++ [x] else e.2.2) } ∧
        (∀ b u, b ∉ [o, la, lr] ++ adrs v → H b = some u → G b = some u) ∧ Qu A.CQ n G o la lr (ts.eraseIdx j) (as.eraseIdx j) (srvRow as x rest) ∧ G t = some (.tup [.str x, .int i])) ?_ ?_
      · obtain ⟨pk, hpk⟩ : ∃ pk : Nat → List Str, pk = fun k => ((v.held.take k).filter (fun e => decide (e.2.2 ≠ [] ∧ e.1 ≠ x))).map (·.1) := ⟨_, rfl⟩
        have pk0 : pk 0 = [] := by rw [hpk]; rfl
        have pkS : ∀ k e, v.held[k]? = some e → pk (k + 1) = pk k ++ if e.2.2 ≠ [] ∧ e.1 ≠ x then [e.1] else [] := fun k e hk => by
          rw [hpk]
          show ((v.held.take (k + 1)).filter _).map _ = _
          rw [List.take_succ, hk, Option.toList_some, List.filter_append, List.map_append]
          congr 1
          by_cases c : e.2.2 ≠ [] ∧ e.1 ≠ x
          · have w : decide (e.2.2 ≠ [] ∧ e.1 ≠ x) = true := decide_eq_true c
            rw [if_pos c]
            show List.map _ (match decide (e.2.2 ≠ [] ∧ e.1 ≠ x) with | true => [e] | false => []) = _
            rw [w]
            rfl
          · have w : decide (e.2.2 ≠ [] ∧ e.1 ≠ x) = false := decide_eq_false c
            rw [if_neg c]
            show List.map _ (match decide (e.2.2 ≠ [] ∧ e.1 ≠ x) with | true => [e] | false => []) = _
            rw [w]
            rfl
        have pkN : ∀ k e, v.held[k]? = some e → e.1 ∉ pk k := fun k e hk z => by
          have w : ((v.held.take (k + 1)).map (·.1)).Nodup := L4.hk.sublist ((List.take_sublist _ _).map _)
          rw [List.take_succ, hk, Option.toList_some, List.map_append] at w
          rw [hpk] at z
          obtain ⟨e2, he2, h2⟩ := List.mem_map.mp z
          have h3 := (List.mem_filter.mp he2).1
          exact (List.nodup_append.mp w).2.2 e2.1 (List.mem_map.mpr ⟨e2, h3, rfl⟩) e.1 List.mem_cons_self h2
        have pkE : ∀ y, y ∈ pk v.held.length ↔ y ∈ rest := fun y => by
          rw [hpk]
          show y ∈ ((v.held.take v.held.length).filter _).map _ ↔ _
          rw [List.take_length, List.mem_map]
          have hrm := I.rm y
          rw [hr0, List.mem_cons] at hrm
          constructor
          · rintro ⟨e2, he2, rfl⟩
            have w := List.mem_filter.mp he2
            have w2 := of_decide_eq_true w.2
            have w3 := hQ.sn.he e2 w.1
            have : ∃ k, (e2.1, k) ∈ as := by
              cases c : e2.2.2 with
              | nil => exact absurd c w2.1
              | cons k r => exact ⟨k, mem_ofN.mp (by rw [← w3, c]; exact List.mem_cons_self)⟩
            exact (hrm.mpr this).elim (fun z => absurd z w2.2) id
          · intro hy
            obtain ⟨k, hk⟩ := hrm.mp (.inr hy)
            obtain ⟨e2, he2, h2⟩ := hQ.sn.hm y k hk
            refine ⟨e2, List.mem_filter.mpr ⟨he2, decide_eq_true ⟨fun z => ?_, fun z => ?_⟩⟩, h2⟩
            · have w := mem_ofN.mpr hk
              rw [← h2, ← hQ.sn.he e2 he2, z] at w
              exact nomatch w
            · have rn := I.rn
              rw [hr0] at rn
              exact (List.nodup_cons.mp rn).1 (by rw [← z, h2]; exact hy)
        have hdl : (dicD v.held).length = v.held.length := List.length_map _
        refine ⟨v.hd, .dK (dicD v.held), L4.eh, trivial, fun od => ?_⟩
        have e0S : upd H4 v.hd (.frz od (.dK (dicD v.held))) v.S = some (.dK (topD v)) := by rw [upd_ne hS1.1]; exact L4.eS
        refine r_dgT rfl (.inl e0S) top_h ⟨v.hd, od, rfl, .inl ⟨_, upd_same, for_it walk_keys (fun k σ G => (∃ x4, σ = [some (.ref o), some (.ref v.S), some (.ref t), some (.str x), x4, none]) ∧ G v.hd = some (.frz od (.dK (dicD v.held))) ∧
            (∀ b u, b ≠ v.hd → (∀ e ∈ v.since, b ≠ e.2.1) → H4 b = some u → G b = some u) ∧ ∀ e ∈ v.since, G e.2.1 = some (.lst ((if e.1 ∈ pk k then e.2.2 ++ [x] else e.2.2).map V.str)))
          ⟨⟨_, rfl⟩, upd_same, fun b u n1 _ eb => by rw [upd_ne n1]; exact eb, fun e he => by rw [pk0, if_neg (fun z => nomatch z), upd_ne (ap.bs e he).2.1.symm]; exact L4.ez e he⟩ (fun k σ G _ ⟨_, h, _⟩ => h) (fun k yv σ G G' hk hP hY => ?_) (fun σ G hP => ?_)⟩⟩
        · obtain ⟨⟨x4, rfl⟩, ed, fr, pz⟩ := hP
          obtain ⟨rfl, key, vv, hkk, rfl⟩ := hY
          unfold dicD at hkk
          rw [List.getElem?_map] at hkk
          cases c : v.held[k]? with
          | none => rw [c] at hkk; exact nomatch hkk
          | some e1 =>
            rw [c] at hkk
            obtain ⟨rfl, rfl⟩ := Prod.mk.inj (Option.some.inj hkk)
            have he1 := List.mem_of_getElem? c
            have hps := pkS k e1 c
            have hpn := pkN k e1 c
            have eSG := fr _ _ hS1.1 (fun e he => (ap.bs e he).1) L4.eS
            have esG := fr _ _ hS1.2.2.2.1.symm (fun e he => (ap.bs e he).2.2.1) L4.es
            walk_at "go"
            by_cases hyx : e1.1 = x
            · rw [decide_eq_true (show kV (Sum.inr e1.1) = V.str x by rw [hyx]; rfl)]
              walk_at "go"
              rw [if_neg (fun z => z.2 hyx), List.append_nil] at hps
              exact ⟨⟨_, rfl⟩, ed, fr, by rw [hps]; exact pz⟩
            · rw [decide_eq_false (show ¬ kV (Sum.inr e1.1) = V.str x from fun z => hyx (by injection z))]
              walk_at "go"
              refine r_dg2 rfl (.inl eSG) top_h (.inr ⟨od, ed⟩) rfl (valV_dic L4.hk he1) ?_
              walk_at "go"
              refine newLB fun p5 H5 np5 g5 s5 e5 => ?_
              have hel := s5 _ _ (fr _ _ (ap.bh e1 he1).2.1.symm (fun e he => ap.hs e1 he1 e he) (L4.el e1 he1))
              refine ⟨_, .list [], dp_ints (sqL hel), .lst (sqL e5) .nil, sh_ints _, sh_nil, ?_⟩
              unfold intD
              rw [eqv_nil]
              by_cases hz : e1.2.2 = []
              · rw [decide_eq_true (by rw [hz]; rfl)]
                walk_at "go"
                rw [if_neg (fun z => z.1 hz), List.append_nil] at hps
                exact ⟨⟨_, rfl⟩, s5 _ _ ed, fun b u n1 n2 eb => s5 _ _ (fr b u n1 n2 eb), fun e he => by rw [hps]; exact s5 _ _ (pz e he)⟩
              · rw [decide_eq_false (fun w => hz (List.map_eq_nil_iff.mp w))]
                walk_at "go"
                rw [if_pos ⟨hz, hyx⟩] at hps
                have hyr : e1.1 ∈ rest := (pkE e1.1).mp (by
                  rw [hpk]
                  exact List.mem_map.mpr ⟨e1, List.mem_filter.mpr ⟨by rw [List.take_length]; exact he1, decide_eq_true ⟨hz, hyx⟩⟩, rfl⟩)
                obtain ⟨z, hz1, hz2, hz3⟩ := I.fresh hr0 hyr
                obtain ⟨e2, he2, hk2, hl2⟩ := fnd_some hz1
                have ez5 := s5 _ _ (pz e2 he2)
                rw [hk2, if_neg hpn, hl2] at ez5
                have hzl : z.length ≤ 20 := by
                  have w := hQ.sn.sn e2 he2
                  rw [hl2] at w
                  exact Nat.le_trans (nd_le w.2.1 w.2.2) hQ.sn.nl
                have hvs : valV (dicD v.since) (.inr e1.1 : Key) = some (.ref e2.2.1) := by rw [← hk2]; exact valV_dic L4.sk he2
                refine r_dg2 rfl (.inl (s5 _ _ eSG)) top_s (.inl (s5 _ _ esG)) rfl hvs ⟨.inl ⟨rfl, _, sqL ez5⟩, ?_⟩
                walk_at "go"
                refine ⟨e2.2.1, _, _, rfl, rfl, ez5, by rw [List.length_map, sizeLine_eq]; omega, ?_⟩
                have b2 := ap.bs e2 he2
                have ez6 : upd H5 e2.2.1 (.lst (z.map V.str ++ [V.str x])) e2.2.1 = some (.lst ((z ++ [x]).map V.str)) := by rw [upd_same, List.map_append]; rfl
                have eS6 : upd H5 e2.2.1 (.lst (z.map V.str ++ [V.str x])) v.S = some (.dK (topD v)) := by rw [upd_ne b2.1]; exact s5 _ _ eSG
                have es6 : upd H5 e2.2.1 (.lst (z.map V.str ++ [V.str x])) v.sd = some (.dK (dicD v.since)) := by rw [upd_ne b2.2.2.1]; exact s5 _ _ esG
                have ed6 : upd H5 e2.2.1 (.lst (z.map V.str ++ [V.str x])) v.hd = some (.frz od (.dK (dicD v.held))) := by rw [upd_ne b2.2.1]; exact s5 _ _ ed
                have k6 : ∀ b u, b ≠ e2.2.1 → H5 b = some u → upd H5 e2.2.1 (.lst (z.map V.str ++ [V.str x])) b = some u := fun b u nb eb => by rw [upd_ne nb]; exact eb
                generalize upd H5 e2.2.1 (.lst (z.map V.str ++ [V.str x])) = H6 at ez6 eS6 es6 ed6 k6 ⊢
                walk_at "go"
                refine r_dg2 rfl (.inl eS6) top_s (.inl es6) rfl hvs ⟨.inl ⟨rfl, _, sqL ez6⟩, ?_⟩
                walk_at "go"
                refine ⟨e2.2.1, _, _, _, .str x, rfl, rfl, ez6, dps_strs _, .str _, pl_strs _, rfl, (by show (0 : Nat) ≤ 60; decide), ?_⟩
                rw [cnt_strs, List.count_append, List.count_eq_zero_of_not_mem hz2, List.count_singleton_self]
                walk_at "go"
                refine iteDn (by decide) ?_
                walk_at "go"
                refine ⟨⟨_, rfl⟩, ed6, fun b u n1 n2 eb => k6 _ _ (n2 e2 he2) (s5 _ _ (fr b u n1 n2 eb)), fun e he => ?_⟩
                rw [hps]
                by_cases ce : e.1 = e1.1
                · have w := key_inj L4.sk he he2 (ce.trans hk2.symm)
                  rw [w, if_pos (by rw [hk2]; exact List.mem_append_right _ List.mem_cons_self), hl2]
                  exact ez6
                · have w := s5 _ _ (pz e he)
                  rw [k6 _ _ (fun z => ce (by rw [adr_inj ap.ss he he2 z, hk2])) w]
                  by_cases d : e.1 ∈ pk k
                  · rw [if_pos d, if_pos (List.mem_append_left _ d)]
                  · rw [if_neg d, if_neg (fun z => (List.mem_append.mp z).elim d fun z => ce (List.mem_singleton.mp z))]
        · obtain ⟨⟨x4, rfl⟩, ed, fr, pz⟩ := hP
          rw [hdl] at pz
          have kpG : ∀ b u, (∀ e ∈ v.since, b ≠ e.2.1) → H4 b = some u → upd G v.hd (.dK (dicD v.held)) b = some u := fun b u n2 eb => by
            by_cases c : b = v.hd
            · rw [c, upd_same, ← L4.eh, ← c]
              exact eb
            · rw [upd_ne c]
              exact fr b u c n2 eb
          refine ⟨ed, x4, rfl, ?_, ?_, ?_, ?_⟩
          · refine L4.allSince (fun y z => if y ∈ rest then z ++ [x] else z) kpG fun e he => ?_
            rw [upd_ne (ap.bs e he).2.1.symm, pz e he]
            by_cases c : e.1 ∈ rest
            · rw [if_pos c, if_pos ((pkE e.1).mpr c)]
            · rw [if_neg c, if_neg (fun z => c ((pkE e.1).mp z))]
          · exact fun b u nb eb => kpG b u (fun e he => hQ.nfr (.inl (adr_since e he)) nb eb) (F4 b u nb eb)
          · exact q4.keep (fun b u hb eb => kpG b u (fun e he => hQ.nqu (.inl (adr_since e he)) hb) eb) fun b xs eb => kpG b _ (fun e he => ne_ct eb (L4.ez e he) nofun) eb
          · exact kpG _ _ (fun e he => ne_ct et4 (L4.ez e he) nofun) et4
      · rintro σ G ⟨x4, rfl, LG, FG, qG, etG⟩
        walk_at "go"
        obtain ⟨s1, hs1⟩ : ∃ s1, s1 = v.since.map fun e => (e.1, e.2.1, if e.1 ∈ rest then e.2.2 ++ [x] else e.2.2) := ⟨_, rfl⟩
        rw [← hs1] at LG
        have hxN : x ∈ NS := by rw [← hx0]; exact hQ.sn.hn e0 h0
        have hsl : s1.length ≤ 20 := by rw [hs1, List.length_map]; exact hQ.sn.sl
        refine newLB fun p5 H5 np5 g5 s5 e5 => ?_
        have L5 := LG.same s5
        have p5d : p5 ≠ v.sd := fun z => by rw [z, LG.es] at np5; exact nomatch np5
        refine r_gSub (r_dgT rfl (.inl L5.eS) top_s ⟨.str x, rfl, v.sd, _, rfl, .inl ⟨dicD s1, .inr x, L5.es, rfl, by unfold dicD; rw [List.length_map, sizeLine_eq]; omega, rfl⟩, ?_⟩)
        rw [putK_dic s1 x p5 []]
        have L6 := LG.setSince (G := upd H5 v.sd (.dK (dicD (setB s1 x p5 [])))) (x := x) (p := p5) np5 (fun b u nb eb => by rw [upd_ne nb]; exact s5 _ _ eb) (by rw [upd_ne p5d]; exact e5) upd_same
        have L6 : Ly (upd H5 v.sd (.dK (dicD (setB s1 x p5 [])))) { v with since := setB s1 x p5 [] } := L6
        have F6 : ∀ b u, b ∉ [o, la, lr] ++ adrs v → H b = some u → upd H5 v.sd (.dK (dicD (setB s1 x p5 []))) b = some u := fun b u nb eb => by
          rw [upd_ne (hQ.nfr (.inl adr_sd) nb eb)]
          exact s5 _ _ (FG b u nb eb)
        have q6 := (qG.same s5).keep (H' := upd H5 v.sd (.dK (dicD (setB s1 x p5 [])))) (fun b u hb eb => by rw [upd_ne (hQ.nqu (.inl adr_sd) hb)]; exact eb) fun b xs eb => by rw [upd_ne (ne_ct eb L5.es nofun)]; exact eb
        have et6 : upd H5 v.sd (.dK (dicD (setB s1 x p5 []))) t = some (.tup [.str x, .int i]) := by
          rw [upd_ne (ne_ct (s5 _ _ etG) L5.es nofun)]
          exact s5 _ _ etG
        have hp5 : p5 ∈ adrs v ∨ H p5 = none := hQ.free qG FG np5
        generalize upd H5 v.sd (.dK (dicD (setB s1 x p5 []))) = G6 at L6 F6 q6 et6 ⊢
        obtain ⟨f, hf⟩ : ∃ f : Mk Str → Mk Str, f = fun m => { m with count := m.count + 1 } := ⟨_, rfl⟩
        have hfa : ∀ m, (f m).ask = m.ask := fun m => by rw [hf]
        have em6 : G6 v.ml = some (.lst (v.marks.map fun m => .ref m.1)) := L6.em
        have ek6 : ∀ m ∈ v.marks, G6 m.1 = some (.lst (markV m)) := L6.ek
        have bm6 : ∀ m ∈ v.marks, v.S ≠ m.1 ∧ v.hd ≠ m.1 ∧ v.sd ≠ m.1 ∧ v.ml ≠ m.1 := L6.ap.bm
        have mm6 : (v.marks.map (·.1)).Nodup := L6.ap.mm
        have mA := adr_marks (v := v)
        show C8.tCut _ _ _ _ _
        refine r_cut (fun σ G => ∃ x5, σ = [some (.ref o), some (.ref v.S), some (.ref t), some (.str x), x4, x5] ∧ Ly G { v with since := setB s1 x p5 [], marks := v.marks.map fun m => (m.1, m.2.1, f m.2.2) } ∧
          (∀ b u, b ∉ [o, la, lr] ++ adrs v → H b = some u → G b = some u) ∧ Qu A.CQ n G o la lr (ts.eraseIdx j) (as.eraseIdx j) (srvRow as x rest) ∧ G t = some (.tup [.str x, .int i])) ?_ ?_
        · refine r_for (r_iList (r_dgT rfl (.inl L6.eS) top_m ⟨v.ml, rfl, ⟨_, sqL em6⟩, for_list (K := K) (a := v.ml) (xs := v.marks.map fun m => V.ref m.1) (fun k σ G' => (∃ x5, σ = [some (.ref o), some (.ref v.S), some (.ref t), some (.str x), x4, x5]) ∧
              (∀ b u, (∀ m ∈ v.marks, b ≠ m.1) → G6 b = some u → G' b = some u) ∧ ∀ j m, v.marks[j]? = some m → G' m.1 = some (.lst (markV (if j < k then (m.1, m.2.1, f m.2.2) else m))))
            ⟨⟨_, rfl⟩, fun _ _ _ e => e, fun j m hj => by rw [if_neg (Nat.not_lt_zero j)]; exact ek6 m (List.mem_of_getElem? hj)⟩ (fun k σ G' _ ⟨_, fr, _⟩ => sqL (fr _ _ (fun m hm => (bm6 m hm).2.2.2) em6)) ?_ ?_⟩))
          · rintro k y σ G7 hk ⟨⟨x5, rfl⟩, fr, pk⟩
            rw [List.getElem?_map] at hk
            cases hmk : v.marks[k]? with
            | none => rw [hmk] at hk; exact nomatch hk
            | some m =>
              rw [hmk] at hk
              obtain rfl := Option.some.inj hk
              have hmm := List.mem_of_getElem? hmk
              have e7 := pk k m hmk
              rw [if_neg (Nat.lt_irrefl k)] at e7
              walk_at "go"
              refine r_ixL (sqL e7) (v := .int (m.2.2.count : Nat)) rfl ?_
              walk_at "go"
              refine ⟨m.1, markV m, 2, 2, rfl, rfl, e7, rfl, ?_⟩
              have hv : (markV m).set 2 (V.int ((m.2.2.count : Nat) + 1 : Int)) = markV (m.1, m.2.1, f m.2.2) := by
                rw [hf]
                rfl
              rw [hv]
              have e8 : upd G7 m.1 (.lst (markV (m.1, m.2.1, f m.2.2))) m.1 = some (.lst (markV (m.1, m.2.1, f m.2.2))) := upd_same
              have fr8 : ∀ b u, (∀ m ∈ v.marks, b ≠ m.1) → G6 b = some u → upd G7 m.1 (.lst (markV (m.1, m.2.1, f m.2.2))) b = some u := fun b u hb eb => by rw [upd_ne (hb m hmm)]; exact fr b u hb eb
              have pk8 : ∀ j m', v.marks[j]? = some m' → upd G7 m.1 (.lst (markV (m.1, m.2.1, f m.2.2))) m'.1 = some (.lst (markV (if j < k + 1 then (m'.1, m'.2.1, f m'.2.2) else m'))) := fun j m' hj => by
                by_cases hjk : j = k
                · subst hjk
                  rw [hmk] at hj
                  obtain rfl := Option.some.inj hj
                  rw [upd_same, if_pos (Nat.lt_succ_self j)]
                · have hne : m'.1 ≠ m.1 := fun z => hjk (nd_get mm6 hj hmk z)
                  rw [upd_ne hne, pk j m' hj]
                  by_cases c : j < k
                  · rw [if_pos c, if_pos (by omega)]
                  · rw [if_neg c, if_neg (by omega)]
              generalize upd G7 m.1 (.lst (markV (m.1, m.2.1, f m.2.2))) = G8 at e8 fr8 pk8 ⊢
              have nt8 : ∀ {b : Addr} {xs : List V}, G6 b = some (.tup xs) → G8 b = some (.tup xs) := fun {b xs} eb => fr8 _ _ (fun m' hm' => ne_ct eb (ek6 m' hm') nofun) eb
              have tm8 := nt8 (L6.tu m (show m ∈ v.marks from hmm))
              have et8 := nt8 et6
              have hma : m.2.2.ask ∈ as := by rw [← I.mks]; exact List.mem_map.mpr ⟨m.2.2, List.mem_map.mpr ⟨m, hmm, rfl⟩, rfl⟩
              walk_at "go"
              refine r_ixL (sqL e8) (v := .ref m.2.1) rfl ?_
              walk_at "go"
              refine ⟨_, _, dp_ask (p := m.2.2.ask) tm8, dp_ask (p := (x, i)) et8, sh_ask1 (str_of_name (hq.ok _ hma)), sh_ask1 (str_of_name hx), ?_⟩
              rw [eqv_ask]
              by_cases heq : m.2.2.ask = (x, i)
              · rw [decide_eq_true (by first | exact heq | exact heq.symm)]
                walk_at "go"
                have hsz := hQ.sn.sz m hmm
                have hdue := I.due hr0 ho (m := m.2.2) (List.mem_map.mpr ⟨m, hmm, rfl⟩) heq
                refine r_ixL (sqL e8) (v := .int (m.2.2.count + 1 : Nat)) (by rw [hf]; rfl) ?_
                walk_at "go"
                refine r_ixL (sqL e8) (v := .int (m.2.2.place : Nat)) (by rw [hf]; rfl) ?_
                walk_at "go"
                refine r_ixL (sqL e8) (v := .int (m.2.2.wide : Nat)) (by rw [hf]; rfl) ?_
                refine r_I (cmul (by omega) (by omega) (by omega) (by omega)) ?_
                walk_at "go"
                refine iteDn (fun z => ?_) ?_
                · have w : ((m.2.2.place * m.2.2.wide : Nat) : Int) < ((m.2.2.count + 1 : Nat) : Int) := by rw [Int.natCast_mul]; exact z
                  omega
                · walk_at "go"
                  exact ⟨⟨_, rfl⟩, fr8, pk8⟩
              · rw [decide_eq_false (by first | exact heq | exact fun z => heq z.symm)]
                walk_at "go"
                exact ⟨⟨_, rfl⟩, fr8, pk8⟩
          · rintro σ G7 ⟨⟨x5, rfl⟩, fr, pk⟩
            refine ⟨x5, rfl, L6.allMarks (G := G7) f hfa fr fun m hm => ?_, fun b u nb eb => fr _ _ (fun m hm => hQ.nfr (.inl (mA m hm)) nb eb) (F6 b u nb eb), q6.keep (H' := G7) (fun b u hb eb => fr _ _ (fun m hm => hQ.nqu (.inl (mA m hm)) hb) eb) fun b xs eb => fr _ _ (fun m hm => ne_ct eb (ek6 m hm) nofun) eb, fr _ _ (fun m hm => ne_ct et6 (ek6 m hm) nofun) et6⟩
            obtain ⟨j, hj⟩ := List.getElem?_of_mem hm
            have w := pk j m hj
            rw [if_pos (by rw [List.length_map]; exact (List.getElem?_eq_some_iff.mp hj).1)] at w
            exact w
        · clear etG qG FG LG L5 L6 F6 q6 et6 em6 ek6 s5 e5
          rintro σ G ⟨x5, rfl, LG, FG, qG, etG⟩
          walk_at "go"
          have elG := LG.el e0 h0
          rw [hl0] at elG
          refine r_dg2 rfl (.inl LG.eS) top_h (.inl LG.eh) rfl hv0 ⟨.inl ⟨rfl, _, sqL elG⟩, ?_⟩
          walk_at "go"
          refine ⟨e0.2.1, _, 0, 0, .int i, rfl, rfl, elG, by decide, by decide, by unfold intsV seqIndex?; rw [List.map_cons, List.length_cons]; simp, rfl, ?_⟩
          show tSeq _ _ _ _ (upd G e0.2.1 (.lst (intsV more)))
          have L8 := LG.wrHeld (G := upd G e0.2.1 (.lst (intsV more))) h0 (l := more) (fun b u nb eb => by rw [upd_ne nb]; exact eb) upd_same
          have L8 : Ly (upd G e0.2.1 (.lst (intsV more))) { v with held := wrB v.held e0.1 more, since := setB s1 x p5 [], marks := v.marks.map fun m => (m.1, m.2.1, f m.2.2) } := L8
          have ha0 := adr_held e0 h0
          have F8 : ∀ b u, b ∉ [o, la, lr] ++ adrs v → H b = some u → upd G e0.2.1 (.lst (intsV more)) b = some u := fun b u nb eb => by rw [upd_ne (hQ.nfr (.inl ha0) nb eb)]; exact FG b u nb eb
          have q8 := qG.keep (H' := upd G e0.2.1 (.lst (intsV more))) (fun b u hb eb => by rw [upd_ne (hQ.nqu (.inl ha0) hb)]; exact eb) fun b xs eb => by rw [upd_ne (ne_ct eb elG nofun)]; exact eb
          have et8 : upd G e0.2.1 (.lst (intsV more)) t = some (.tup [.str x, .int i]) := by rw [upd_ne (ne_ct etG elG nofun)]; exact etG
          generalize upd G e0.2.1 (.lst (intsV more)) = G8 at L8 F8 q8 et8 ⊢
          walk_at "go"
          refine lcLF (fun k => (fun (m : Addr × Addr × Mk Str) => if m.2.2.ask = (x, i) then none else some (V.ref m.1)) ((v.marks.map fun m => (m.1, m.2.1, f m.2.2)).getD k (0, 0, ⟨("", 0), 0, 0, 0⟩))) (fun QQ z => r_dgT rfl (.inl L8.eS) top_m z) (sqL L8.em) (by
            rw [List.length_map]
            show (v.marks.map _).length ≤ _
            rw [List.length_map]
            have := hQ.sn.mln
            omega) (fun _ => rfl) (fun k y H9 Q' R' hy sm h1 h2 => ?_) fun D G9 nD s9 e9 => ?_
          · rw [List.getElem?_map] at hy
            have hy : ((v.marks.map fun (m : Addr × Addr × Mk Str) => ((m.1, m.2.1, f m.2.2) : Addr × Addr × Mk Str))[k]?).map (fun (m : Addr × Addr × Mk Str) => V.ref m.1) = some y := hy
            cases c : (v.marks.map fun m => (m.1, m.2.1, f m.2.2))[k]? with
            | none => rw [c] at hy; exact nomatch hy
            | some m =>
              rw [c] at hy
              obtain rfl := Option.some.inj hy
              have hmm := List.mem_of_getElem? c
              have hg : (v.marks.map fun m => (m.1, m.2.1, f m.2.2)).getD k (0, 0, ⟨("", 0), 0, 0, 0⟩) = m := by rw [List.getD_eq_getElem?_getD, c]; rfl
              rw [hg] at h1 h2
              have hma : m.2.2.ask ∈ as := by
                obtain ⟨m0, hm0, rfl⟩ := List.mem_map.mp hmm
                show (f m0.2.2).ask ∈ as
                rw [hfa, ← I.mks]
                exact List.mem_map.mpr ⟨m0.2.2, List.mem_map.mpr ⟨m0, hm0, rfl⟩, rfl⟩
              walk_at "go"
              refine r_ixL (sqL (sm _ _ (L8.ek m hmm))) (v := .ref m.2.1) rfl ?_
              walk_at "go"
              refine ⟨_, _, dp_ask (p := m.2.2.ask) (sm _ _ (L8.tu m hmm)), dp_ask (p := (x, i)) (sm _ _ et8), sh_ask1 (str_of_name (hq.ok _ hma)), sh_ask1 (str_of_name hx), ?_⟩
              rw [eqv_ask]
              by_cases heq : m.2.2.ask = (x, i)
              · rw [decide_eq_true (by first | exact heq | exact heq.symm)]
                walk_at "go"
                exact h2 (if_pos heq) _ (Same.refl _)
              · rw [decide_eq_false (by first | exact heq | exact fun z => heq z.symm)]
                walk_at "go"
                exact h1 _ (if_neg heq) _ (Same.refl _)
          · have e9 : G9 D = some (.lst (((v.marks.map fun m => (m.1, m.2.1, f m.2.2)).filter fun m => decide (m.2.2.ask ≠ (x, i))).map fun m => V.ref m.1)) := by
              have z := rng_fm ((0, 0, ⟨("", 0), 0, 0, 0⟩) : Addr × Addr × Mk Str) (v.marks.map fun m => (m.1, m.2.1, f m.2.2)) (fun m => if m.2.2.ask = (x, i) then none else some (V.ref m.1))
              rw [e9, List.length_map]
              refine congrArg (fun l => some (HO.lst l)) (z.trans ?_)
              rw [fm_flt (fun m : Addr × Addr × Mk Str => m.2.2.ask = (x, i)) (fun m => V.ref m.1)]
            have L9 := L8.same s9
            have Dm : D ≠ v.S := fun z => by rw [z, L8.eS] at nD; exact nomatch nD
            walk_at "go"
            refine ⟨v.S, _, rfl, .inl ⟨_, .inr "marks", L9.eS, rfl, by show 3 < sizeLine; rw [sizeLine_eq]; omega, rfl⟩, ?_⟩
            rw [top_put]
            obtain ⟨v9, hv9⟩ : ∃ v9 : Sv, v9 = { v with ml := D, held := wrB v.held e0.1 more, since := setB s1 x p5 [], marks := (v.marks.map fun m => (m.1, m.2.1, f m.2.2)).filter fun m => decide (m.2.2.ask ≠ (x, i)) } := ⟨_, rfl⟩
            have LA : Ly (upd G9 v.S (.dK (topD v9))) v9 := by
              rw [hv9]
              exact L8.newMarks (fun m => decide (m.2.2.ask ≠ (x, i))) (D := D) nD (fun b u nb eb => by rw [upd_ne nb]; exact s9 _ _ eb) upd_same (by rw [upd_ne Dm]; exact e9)
            have hDf : D ∈ adrs v ∨ H D = none := hQ.free q8 F8 nD
            have hA : ∀ a ∈ adrs v9, a ∈ adrs v ∨ H a = none := fun a ha' => by
              rw [hv9] at ha'
              unfold adrs at ha'
              rw [wrB_adr] at ha'
              simp only [List.mem_cons, List.mem_append, List.mem_map, List.not_mem_nil, or_false] at ha'
              rcases ha' with rfl | rfl | rfl | rfl | ⟨e, he, rfl⟩ | ⟨e, he, rfl⟩ | ⟨m, hm, rfl⟩
              · exact .inl adr_S
              · exact .inl adr_hd
              · exact .inl adr_sd
              · exact hDf
              · exact .inl (adr_held e he)
              · rcases setB_mem he with rfl | ⟨he, _⟩
                · exact hp5
                · rw [hs1] at he
                  obtain ⟨e3, he3, rfl⟩ := List.mem_map.mp he
                  exact .inl (adr_since e3 he3)
              · obtain ⟨m0, h0, rfl⟩ := List.mem_map.mp (List.mem_filter.mp hm).1
                exact .inl (mA m0 h0)
            have hsr : srvRow as x rest = serveRow as x rest := rfl
            have hdd : (upd G9 v.S (.dK (topD v9))) = upd G9 v.S (.dK (topD { v with ml := D })) := by rw [hv9]; rfl
            walk_at "go"
            show Q (.bl true) (upd G9 v.S (.dK (topD { v with ml := D })))
            rw [← hdd]
            have hnd : (i :: more).Nodup := by rw [← ho]; exact ofG_nd I.nd
            refine q v9 (as.eraseIdx j) (srvRow as x rest) _ (by rw [hv9]) ⟨⟨n, ts.eraseIdx j, n9, ?_⟩, ⟨LA, fun e he => ?_, fun y k hy => ?_, ?_, fun e he => ?_, fun e he => ?_, fun m hm => ?_, ?_, hQ.sn.nok, hQ.sn.nl⟩, fun a ha' hb => hQ.nqu (hA a hb) ha' rfl⟩ ⟨fun b u nb eb => ?_, fun a ha' => ?_⟩ (List.eraseIdx_sublist ..) fun _ => ?_
            · exact (q8.same s9).keep (fun b u hb eb => by rw [upd_ne (hQ.nqu (.inl adr_S) hb)]; exact eb) fun b xs eb => by rw [upd_ne (ne_ct eb L9.eS nofun)]; exact eb
            · rw [erase_flt I.nd hj]
              rw [hv9] at he
              rcases wrB_mem he with ⟨c1, c2, _⟩ | ⟨c1, c2⟩
              · rw [c2, c1, hx0]
                exact ((ofG_fltx (x := x) (i := i) as).trans (by rw [show ofG as x = i :: more from ho, flt_head hnd])).symm
              · rw [hQ.sn.he e c1]
                exact (ofG_flt (as := as) (i := i) (fun z => c2 (by rw [hx0, ← z]))).symm
            · obtain ⟨e, he, rfl⟩ := hQ.sn.hm y k (List.mem_of_mem_eraseIdx hy)
              have : e.1 ∈ (wrB v.held e0.1 more).map (·.1) := by rw [wrB_key]; exact List.mem_map.mpr ⟨e, he, rfl⟩
              rw [hv9]
              exact List.mem_map.mp this
            · rw [erase_flt I.nd hj, hsr, hv9]
              have z := I.served hr0 ho (sf' := fnd (setB s1 x p5 [])) (by rw [setB_fnd, if_pos rfl]) fun y hy => by
                have hyx : y ≠ x := fun z => by
                  have rn := I.rn
                  rw [hr0] at rn
                  exact (List.nodup_cons.mp rn).1 (by rw [← z]; exact hy)
                rw [setB_fnd, if_neg hyx, hs1, fnd_map (g := fun y z => if y ∈ rest then z ++ [x] else z)]
                congr 1
                funext z
                rw [if_pos hy]
              rw [List.map_map] at z
              show Inv _ _ _ (List.map (fun (m : Addr × Addr × Mk Str) => m.2.2) (List.filter (fun (m : Addr × Addr × Mk Str) => decide (m.2.2.ask ≠ (x, i))) (v.marks.map fun m => (m.1, m.2.1, f m.2.2))))
              have e1 : List.map (fun (m : Addr × Addr × Mk Str) => m.2.2) (List.filter (fun (m : Addr × Addr × Mk Str) => decide (m.2.2.ask ≠ (x, i))) (v.marks.map fun m => (m.1, m.2.1, f m.2.2))) = List.filter (fun (m : Mk Str) => decide (m.ask ≠ (x, i))) (List.map (fun (m : Addr × Addr × Mk Str) => f m.2.2) v.marks) := by
                rw [List.filter_map, List.filter_map, List.map_map]
                rfl
              rw [e1, hf]
              exact z
            · rw [hv9] at he
              rcases wrB_mem he with ⟨c1, _⟩ | ⟨c1, _⟩
              · rw [c1, hx0]; exact hxN
              · exact hQ.sn.hn e c1
            · rw [hv9] at he
              rcases setB_mem he with rfl | ⟨he, hne⟩
              · exact ⟨hxN, List.nodup_nil, fun _ z => nomatch z⟩
              · rw [hs1] at he
                obtain ⟨e3, he3, rfl⟩ := List.mem_map.mp he
                have w := hQ.sn.sn e3 he3
                by_cases c : e3.1 ∈ rest
                · obtain ⟨z, hz1, hz2, hz3⟩ := I.fresh hr0 c
                  have hz := (fnd_of hQ.sn.ly.sk he3).symm.trans hz1
                  have hz := Option.some.inj hz
                  show e3.1 ∈ NS ∧ (if e3.1 ∈ rest then e3.2.2 ++ [x] else e3.2.2).Nodup ∧ ∀ y ∈ (if e3.1 ∈ rest then e3.2.2 ++ [x] else e3.2.2), y ∈ NS
                  rw [if_pos c]
                  refine ⟨w.1, List.nodup_append.mpr ⟨w.2.1, List.pairwise_singleton _ _, fun a ha b hb z => ?_⟩, fun y hy => ?_⟩
                  · rw [List.mem_singleton.mp hb] at z
                    rw [z, hz] at ha
                    exact hz2 ha
                  · rcases List.mem_append.mp hy with hy | hy
                    · exact w.2.2 y hy
                    · rw [List.mem_singleton.mp hy]; exact hxN
                · show e3.1 ∈ NS ∧ (if e3.1 ∈ rest then e3.2.2 ++ [x] else e3.2.2).Nodup ∧ ∀ y ∈ (if e3.1 ∈ rest then e3.2.2 ++ [x] else e3.2.2), y ∈ NS
                  rw [if_neg c]
                  exact w
            · rw [hv9] at hm
              obtain ⟨m0, h0, rfl⟩ := List.mem_map.mp (List.mem_filter.mp hm).1
              rw [hf]
              exact hQ.sn.sz m0 h0
            · exact Nat.le_trans (List.length_eraseIdx_le as j) hQ.sn.small
            · rw [upd_ne (hQ.nfr (.inl adr_S) nb eb)]
              exact s9 _ _ (F8 b u nb eb)
            · rcases List.mem_append.mp ha' with h | h
              · exact .inl (List.mem_append_left _ h)
              · rcases hA a h with h | h
                · exact .inl (List.mem_append_right _ h)
                · exact .inr h
            · have hjl : j < as.length := (List.findIdx?_eq_some_iff_getElem.mp hj).1
              rw [List.length_eraseIdx_of_lt hjl]
              omega
end
end K23

namespace K23
open PySem PySem.Spec PyProof.Rows L2 Bk


theorem Ly.ex {H : Hp} {v : Sv} (c : Ly H v) {a : Addr} (ha : a ∈ adrs v) : ∃ u, H a = some u := by
  unfold adrs at ha
  simp only [List.mem_cons, List.mem_append, List.mem_map] at ha
  rcases ha with rfl | rfl | rfl | rfl | ⟨e, he, rfl⟩ | ⟨e, he, rfl⟩ | ⟨m, hm, rfl⟩
  · exact ⟨_, c.eS⟩
  · exact ⟨_, c.eh⟩
  · exact ⟨_, c.es⟩
  · exact ⟨_, c.em⟩
  · exact ⟨_, c.el e he⟩
  · exact ⟨_, c.ez e he⟩
  · exact ⟨_, c.ek m hm⟩
theorem ofG_gone {x : Str} (as : List (Str × Nat)) : ofG (as.filter fun q => decide (q.1 ≠ x)) x = [] := by
  refine List.eq_nil_iff_forall_not_mem.mpr fun k hk => ?_
  have w := List.mem_filter.mp (mem_ofG.mp hk)
  exact of_decide_eq_true w.2 rfl
def spLeftL (A : Ad) : Sp := fun vs H Q _ => ∃ (NS : List Str) (o la lr : Addr) (v : Sv) (as : List (Str × Nat)) (row : List Str) (x : Str), vs = [.ref o, .ref v.S, .str x] ∧ Qs A NS H o la lr v as row ∧ x ∈ NS ∧
  ∀ la' lr' v' H', v'.S = v.S → Qs A NS H' o la' lr' v' (as.filter fun q => decide (q.1 ≠ x)) (row.filter fun y => decide (y ≠ x)) → Mvd H H' ([o, la, lr] ++ adrs v) ([o, la', lr'] ++ adrs v') → Q (.bl true) H'
section
variable {P : Program} {w : World} {K : PySem.W.Frag} {mg : Str → Option Value} {base : Heap} {A : Ad}
theorem ok_left {f : Addr} {fd : FuncData} (F : Fun K "_law_left" "_law_left" s_left_L f fd) (T : Txt K mg A) (c_Queue_leave : CalM P w K mg base (L2.CX P w) 6 A.CQ "leave" (spLeave A)) : FnOk P w K mg base CX0 7 f fd ["_law_queue", "_law_seen", "_law_name"] (spLeftL A) := by
  refine F.ok sc_left_L (fun vs H Q E h => ?_) (fun cdv A' outer s H vs Q E hr h => have hu65 := units65 hr; have hu64 := hr.units; have hu := units1 hr; ⟨_, (C8.pss_cut (ps_if (pt_cmpR (op_neD hu64) (pe_mth (pv 0) T.cl_Queue c_Queue_leave hr (by decide) psY (pa_cons (pv 2) pa_nil)) (pe_dget2 hu (pe_dget hu (pv 1) pe_str (fun _ _ => rfl)) (pv 2) (pe_lstB pa_nil) ⟨rfl, rfl, rfl, rfl⟩) (nomark _)) (pss_one (ps_ret pe_bl)) pss_nil)
    (pss_cons (ps_asg (pe_lstB pa_nil) (pg_sub (pe_dget hu (pv 1) pe_str (fun _ _ => rfl)) (pv 2) (set_dict hu)))
    (pss_cons (ps_asg (pe_lc (own := [("_law_mark", 3)]) rfl sc_left_L.nd (pi_list (pe_dget hu (pv 1) pe_str (fun _ _ => rfl))) (blkOk_by (N := ["_law_queue", "_law_seen", "_law_name", "_law_mark"]) (sc := defScope s_left_L) (by decide +kernel)) (fun _ _ _ _ _ => (pg_name (i := 3) sc_left_L.nd rfl (.inl rfl))) (fun _ _ _ _ _ => pts_one (pt_cmpR op_ne (pe_ix (ix_tupK (K := K) rfl) (pe_ix (ix_listK (K := K) rfl) (pv 3) pe_int (fun _ _ => rfl)) pe_int (fun _ _ => rfl)) (pv 2) (nomark _))) (fun _ _ _ _ _ => (pv 3))) (pg_sub (pv 1) pe_str (set_dict hu)))
    (pss_one (ps_ret pe_bl))))), ?_⟩)
  · obtain ⟨NS, o, la, lr, v, as, row, x, rfl, _⟩ := h
    rfl
  · obtain ⟨NS, o, la, lr, v, as, row, x, rfl, hQ, hx, q⟩ := h
    obtain ⟨n, ts, n9, hq⟩ := hQ.qu
    obtain ⟨dx, fs, e, _, _, hn⟩ := hq.ob
    have L0 := hQ.sn.ly
    walk_at "go"
    refine r_cut (fun σ G => ∃ la' lr' ts' x3, σ = [some (.ref o), some (.ref v.S), some (.str x), x3] ∧ (∀ b ∈ [la', lr'], H b = none) ∧ (∀ b u, b ≠ o → H b = some u → G b = some u) ∧ Qu A.CQ n G o la' lr' ts' (as.filter fun q => decide (q.1 ≠ x)) (row.filter fun y => decide (y ≠ x))) ?_ ?_
    · walk_at "go"
      refine ⟨o, dx, fs, rfl, e, hn.2 _ (by decide +kernel) (by decide +kernel), ?_⟩
      walk_at "go"
      refine ⟨o, la, lr, n, ts, as, row, x, rfl, hq, n9, hQ.sn.nok x hx, fun p la' lr' ts' H1 fr k1 hq1 ep => ?_⟩
      have L1 : Ly H1 v := L0.keep (fun b u hb eb => k1 b u (fun z => hQ.ap o (by simp) (by rw [← z]; exact hb)) eb) fun b xs eb => k1 b _ (ne_ct eb e nofun) eb
      refine r_dget2 (r_dgT rfl (.inl L1.eS) top_h ⟨v.hd, rfl, .inl ⟨_, .inl L1.eh⟩, ?_⟩)
      walk_at "go"
      refine newLB fun p2 H2 np2 g2 s2 e2 => ?_
      have L2' := L1.same s2
      have hsame : ∀ a' Q', H2 a' = some (.lst (intsV (ofN as x))) → Q' (.bl false) H2 → rNeD K (.ref p) (.ref a') H2 Q' := fun a' Q' ea q' => r_neSame (dp_ints (sqL (s2 _ _ ep))) (dp_ints (sqL ea)) (sh_ints _) q'
      have hend : ∃ la' lr' ts' x3, [some (V.ref o), some (.ref v.S), some (.str x), none] = [some (V.ref o), some (.ref v.S), some (.str x), x3] ∧ (∀ b ∈ [la', lr'], H b = none) ∧ (∀ b u, b ≠ o → H b = some u → H2 b = some u) ∧ Qu A.CQ n H2 o la' lr' ts' (as.filter fun q => decide (q.1 ≠ x)) (row.filter fun y => decide (y ≠ x)) := ⟨la', lr', ts', none, rfl, fun b hb => fr b (List.mem_cons_of_mem _ hb), fun b u nb eb => s2 _ _ (k1 b u nb eb), hq1.same s2⟩
      by_cases hk : x ∈ v.held.map (·.1)
      · obtain ⟨e0, h0, hx0⟩ := List.mem_map.mp hk
        have hx0 : e0.1 = x := hx0
        have hv0 : valV (dicD v.held) (.inr x : Key) = some (.ref e0.2.1) := by rw [← hx0]; exact valV_dic L1.hk h0
        refine ⟨some (.ref e0.2.1), .inl ⟨_, .inr x, .inl L2'.eh, rfl, hv0.symm⟩, ?_⟩
        refine hsame e0.2.1 _ (by rw [L2'.el e0 h0, hQ.sn.he e0 h0, hx0]) ?_
        walk_at "go"
        exact hend
      · have ho : ofN as x = [] := (ofG_nil hQ.sn.inv.rm).mpr fun z => by
          obtain ⟨j, hj⟩ := (hQ.sn.inv.rm x).mp z
          obtain ⟨e1, he, hex⟩ := hQ.sn.hm x j hj
          exact hk (List.mem_map.mpr ⟨e1, he, hex⟩)
        refine ⟨none, .inl ⟨_, .inr x, .inl L2'.eh, rfl, (valV_dicN hk).symm⟩, ?_⟩
        refine hsame p2 _ (by rw [e2, ho]; rfl) ?_
        walk_at "go"
        exact hend
    · rintro σ G ⟨la', lr', ts', x3, rfl, fr, k1, hqG⟩
      walk_at "go"
      have nfr : ∀ {a b : Addr} {u : HO}, (a ∈ adrs v ∨ H a = none) → b ∉ [o, la, lr] ++ adrs v → H b = some u → b ≠ a := fun h nb eb => hQ.nfr h nb eb
      have FG : ∀ b u, b ∉ [o, la, lr] ++ adrs v → H b = some u → G b = some u := fun b u nb eb => k1 b u (fun z => nb (by rw [z]; simp)) eb
      have LG : Ly G v := L0.keep (fun b u hb eb => k1 b u (fun z => hQ.ap o (by simp) (by rw [← z]; exact hb)) eb) fun b xs eb => k1 b _ (ne_ct eb e nofun) eb
      have nq : ∀ {a b : Addr}, a ∈ adrs v → b ∈ [o, la', lr'] → b ≠ a := fun {a b} ha hb z => by
        obtain ⟨u, hu⟩ := L0.ex ha
        rcases List.mem_cons.mp hb with h | h
        · exact hQ.ap o (by simp) (by rw [← h, z]; exact ha)
        · have := fr b h
          rw [z, hu] at this
          exact nomatch this
      have fresh : ∀ {p : Addr}, G p = none → (p ∈ [o, la, lr] ++ adrs v ∨ H p = none) ∧ p ∉ [o, la', lr'] ∧ p ∉ adrs v := fun {p} z => by
        refine ⟨?_, fun h => ?_, fun h => ?_⟩
        · cases c : H p with
          | none => exact .inr rfl
          | some u =>
            refine .inl (Decidable.byContradiction fun nb => ?_)
            rw [FG p u nb c] at z
            exact nomatch z
        · obtain ⟨dG, fsG, eG, _⟩ := hqG.ob
          simp only [List.mem_cons, List.not_mem_nil, or_false] at h
          rcases h with rfl | rfl | rfl
          · rw [eG] at z; exact nomatch z
          · rw [hqG.al.at_] at z; exact nomatch z
          · rw [hqG.rw_] at z; exact nomatch z
        · obtain ⟨u, hu⟩ := LG.ex h
          rw [hu] at z
          exact nomatch z
      refine newLB fun p3 H3 np3 g3 s3 e3 => ?_
      have L3 := LG.same s3
      have p3d : p3 ≠ v.hd := fun z => by rw [z, LG.eh] at np3; exact nomatch np3
      refine r_gSub (r_dgT rfl (.inl L3.eS) top_h ⟨.str x, rfl, v.hd, _, rfl, .inl ⟨dicD v.held, .inr x, L3.eh, rfl, ?_, rfl⟩, ?_⟩)
      · unfold dicD
        rw [List.length_map, sizeLine_eq]
        have := hQ.sn.hl
        omega
      rw [putK_dic v.held x p3 []]
      have L4 := LG.setHeld (G := upd H3 v.hd (.dK (dicD (setB v.held x p3 [])))) (x := x) (p := p3) np3 (fun b u nb eb => by rw [upd_ne nb]; exact s3 _ _ eb) (by rw [upd_ne p3d]; exact e3) upd_same
      have L4 : Ly (upd H3 v.hd (.dK (dicD (setB v.held x p3 [])))) { v with held := setB v.held x p3 [] } := L4
      have k4 : ∀ b u, b ≠ v.hd → G b = some u → upd H3 v.hd (.dK (dicD (setB v.held x p3 []))) b = some u := fun b u nb eb => by rw [upd_ne nb]; exact s3 _ _ eb
      have t4 : ∀ b xs, G b = some (.tup xs) → upd H3 v.hd (.dK (dicD (setB v.held x p3 []))) b = some (.tup xs) := fun b xs eb => k4 _ _ (ne_ct eb LG.eh nofun) eb
      have ep4 : ∃ u, upd H3 v.hd (.dK (dicD (setB v.held x p3 []))) p3 = some u := ⟨_, by rw [upd_ne p3d]; exact e3⟩
      generalize upd H3 v.hd (.dK (dicD (setB v.held x p3 []))) = G4 at L4 k4 t4 ep4 ⊢
      walk_at "go"
      refine lcLF (fun k => (fun (m : Addr × Addr × Mk Str) => if m.2.2.ask.1 = x then none else some (V.ref m.1)) (v.marks.getD k (0, 0, ⟨("", 0), 0, 0, 0⟩))) (fun QQ z => r_dgT rfl (.inl L4.eS) top_m z) (sqL L4.em) (by
        rw [List.length_map]
        have := hQ.sn.mln
        show v.marks.length ≤ _
        omega) (fun _ => rfl) (fun k y H9 Q' R' hy sm h1 h2 => ?_) fun D G9 nD s9 e9 => ?_
      · rw [List.getElem?_map] at hy
        have hy : (v.marks[k]?).map (fun (m : Addr × Addr × Mk Str) => V.ref m.1) = some y := hy
        cases c : v.marks[k]? with
        | none => rw [c] at hy; exact nomatch hy
        | some m =>
          rw [c] at hy
          obtain rfl := Option.some.inj hy
          have hmm := List.mem_of_getElem? c
          have hg : v.marks.getD k (0, 0, ⟨("", 0), 0, 0, 0⟩) = m := by rw [List.getD_eq_getElem?_getD, c]; rfl
          rw [hg] at h1 h2
          walk_at "go"
          refine r_ixL (sqL (sm _ _ (L4.ek m hmm))) (v := .ref m.2.1) rfl ?_
          walk_at "go"
          refine r_ixT (sqT (sm _ _ (L4.tu m hmm))) (v := .str m.2.2.ask.1) rfl ?_
          walk_at "go"
          by_cases heq : m.2.2.ask.1 = x
          · rw [decide_eq_true (by rw [heq])]
            walk_at "go"
            exact h2 (if_pos heq) _ (Same.refl _)
          · rw [decide_eq_false (fun z => heq (by injection z))]
            walk_at "go"
            exact h1 _ (if_neg heq) _ (Same.refl _)
      · have e9 : G9 D = some (.lst ((v.marks.filter fun m => decide (m.2.2.ask.1 ≠ x)).map fun m => V.ref m.1)) := by
          have z := rng_fm ((0, 0, ⟨("", 0), 0, 0, 0⟩) : Addr × Addr × Mk Str) v.marks (fun m => if m.2.2.ask.1 = x then none else some (V.ref m.1))
          rw [e9, List.length_map]
          refine congrArg (fun l => some (HO.lst l)) (z.trans ?_)
          rw [fm_flt (fun m : Addr × Addr × Mk Str => m.2.2.ask.1 = x) (fun m => V.ref m.1)]
        have L9 := L4.same s9
        have Dm : D ≠ v.S := fun z => by rw [z, L4.eS] at nD; exact nomatch nD
        walk_at "go"
        refine ⟨v.S, _, rfl, .inl ⟨_, .inr "marks", L9.eS, rfl, by show 3 < sizeLine; rw [sizeLine_eq]; omega, rfl⟩, ?_⟩
        rw [top_put]
        obtain ⟨v9, hv9⟩ : ∃ v9 : Sv, v9 = { v with ml := D, held := setB v.held x p3 [], marks := v.marks.filter fun m => decide (m.2.2.ask.1 ≠ x) } := ⟨_, rfl⟩
        have LA : Ly (upd G9 v.S (.dK (topD v9))) v9 := by
          rw [hv9]
          exact L4.newMarks (fun m => decide (m.2.2.ask.1 ≠ x)) (D := D) nD (fun b u nb eb => by rw [upd_ne nb]; exact s9 _ _ eb) upd_same (by rw [upd_ne Dm]; exact e9)
        have fr3 := fresh np3
        have nDG : G D = none := by
          cases c : G D with
          | none => rfl
          | some u =>
            by_cases d : D = v.hd
            · rw [d, L4.eh] at nD; exact nomatch nD
            · rw [k4 _ _ d c] at nD; exact nomatch nD
        have frD := fresh nDG
        have hA : ∀ a ∈ adrs v9, a ∈ adrs v ∨ a = p3 ∨ a = D := fun a ha' => by
          rw [hv9] at ha'
          unfold adrs at ha'
          simp only [List.mem_cons, List.mem_append, List.mem_map, List.not_mem_nil, or_false] at ha'
          rcases ha' with rfl | rfl | rfl | rfl | ⟨e, he, rfl⟩ | ⟨e, he, rfl⟩ | ⟨m, hm, rfl⟩
          · exact .inl adr_S
          · exact .inl adr_hd
          · exact .inl adr_sd
          · exact .inr (.inr rfl)
          · rcases setB_mem he with rfl | ⟨he, _⟩
            · exact .inr (.inl rfl)
            · exact .inl (adr_held e he)
          · exact .inl (adr_since e he)
          · exact .inl (adr_marks m (List.mem_filter.mp hm).1)
        have hdd : (upd G9 v.S (.dK (topD v9))) = upd G9 v.S (.dK (topD { v with ml := D })) := by rw [hv9]; rfl
        walk_at "go"
        show Q (.bl true) (upd G9 v.S (.dK (topD { v with ml := D })))
        rw [← hdd]
        have kk : ∀ b u, b ≠ v.hd → b ≠ v.S → G b = some u → upd G9 v.S (.dK (topD v9)) b = some u := fun b u n1 n2 eb => by rw [upd_ne n2]; exact s9 _ _ (k4 b u n1 eb)
        refine q la' lr' v9 _ (by rw [hv9]) ⟨⟨n, ts', n9, ?_⟩, ⟨LA, fun e he => ?_, fun y k hy => ?_, ?_, fun e he => ?_, ?_, fun m hm => ?_, ?_, hQ.sn.nok, hQ.sn.nl⟩, fun a ha' hb => ?_⟩ ⟨fun b u nb eb => ?_, fun a ha' => ?_⟩
        · exact hqG.keep (fun b u hb eb => kk b u (nq adr_hd hb) (nq adr_S hb) eb) fun b xs eb => kk _ _ (ne_ct eb LG.eh nofun) (ne_ct eb LG.eS nofun) eb
        · rw [hv9] at he
          rcases setB_mem he with rfl | ⟨c1, c2⟩
          · exact (ofG_gone as).symm
          · rw [hQ.sn.he e c1]
            exact (ofG_leave c2 as).symm
        · have w := List.mem_filter.mp hy
          obtain ⟨e, he, rfl⟩ := hQ.sn.hm y k w.1
          rw [hv9]
          exact ⟨e, setB_old _ _ he (of_decide_eq_true w.2), rfl⟩
        · have z := hQ.sn.inv.left x
          rw [hv9]
          show Inv _ _ _ (List.map (fun (m : Addr × Addr × Mk Str) => m.2.2) (List.filter (fun (m : Addr × Addr × Mk Str) => decide (m.2.2.ask.1 ≠ x)) v.marks))
          rw [List.filter_map] at z
          exact z
        · rw [hv9] at he
          rcases setB_mem he with rfl | ⟨c1, _⟩
          · exact hx
          · exact hQ.sn.hn e c1
        · rw [hv9]
          exact hQ.sn.sn
        · rw [hv9] at hm
          exact hQ.sn.sz m (List.mem_filter.mp hm).1
        · exact Nat.le_trans (List.length_filter_le _ _) hQ.sn.small
        · rcases hA a hb with h | rfl | rfl
          · exact nq h ha' rfl
          · exact fr3.2.1 ha'
          · exact frD.2.1 ha'
        · rw [upd_ne (nfr (.inl adr_S) nb eb)]
          exact s9 _ _ (k4 _ _ (nfr (.inl adr_hd) nb eb) (FG b u nb eb))
        · rcases List.mem_append.mp ha' with h | h
          · rcases List.mem_cons.mp h with rfl | h
            · exact .inl (by simp)
            · exact .inr (fr a h)
          · rcases hA a h with h | rfl | rfl
            · exact .inl (List.mem_append_right _ h)
            · exact fr3.1
            · exact frD.1
end
end K23

namespace K23
open PySem PySem.Spec PyProof.Rows L2 Bk


/-- a copy of a dict's pairs, each list new -/
theorem copyItems {K : PySem.W.Frag} {β : Type} (l : List (Str × Addr × β)) (g : β → List V) {d : Addr} {σ : L2.St} {H : Hp} {Q : VK} {tl : TE} {jn js : Nat} {vs : List Nat}
    (hd : H d = some (.dK (dicD l))) (hl : l.length ≤ 1000) (hc : ∀ e ∈ l, H e.2.1 = some (.lst (g e.2.2)))
    (hv : ∀ (od : Obj) (QQ : VK), QQ (.ref d) (upd H d (.frz od (.dK (dicD l)))) → tl σ (upd H d (.frz od (.dK (dicD l)))) QQ)
    (hw : ∀ x y, wipe (((wipe σ vs).set jn (some x)).set js (some y)) vs = wipe σ vs)
    (h1 : ∀ x y, (((wipe σ vs).set jn (some x)).set js (some y))[jn]? = some (some x)) (h2 : ∀ x y, (((wipe σ vs).set jn (some x)).set js (some y))[js]? = some (some y))
    (q : ∀ (D : Addr) (H' : Hp) (ts as : List Addr), H D = none → Same H H' → H' D = some (.lst (ts.map V.ref)) → ts.length = l.length → as.length = l.length → (∀ (k : Nat) (t a : Addr) (e : Str × Addr × β), ts[k]? = some t → as[k]? = some a → l[k]? = some e → H' t = some (.tup [.str e.1, .ref a]) ∧ H' a = some (.lst (g e.2.2))) → as.Nodup → (∀ a ∈ as, H a = none ∧ a ≠ D) → Q (.ref D) H') :
    tLockE (tLc (iItems tl) (gTup K 2 (gCons (gName jn) (gCons (gName js) gNil))) tYes (tTup (tCons (tVar jn) (tCons (tCB (fun xs H Q => ∃ p ys, xs = [V.ref p] ∧ (SqL K H p ys ∨ SqT K H p ys) ∧ ∀ (l : Addr), H l = none → Q (V.ref l) (upd H l (HO.lst ys))) (tCons (tVar js) tNil)) tNil))) vs) σ H Q := by
  refine ⟨d, .dK (dicD l), hd, trivial, fun od => hv od _ ⟨d, od, dicD l, rfl, upd_same, fun D hD => ?_⟩⟩
  have z0 : H D = none ∧ D ≠ d := by
    by_cases h : D = d
    · rw [h, upd_same] at hD; exact nomatch hD
    · rw [upd_ne h] at hD; exact ⟨hD, h⟩
  have hdl : (dicD l).length = l.length := List.length_map _
  refine lc_it (g := gTup K 2 (gCons (gName jn) (gCons (gName js) gNil))) (tt := tYes) (vs := vs) (σ := σ) walk_items (fun i G => G d = some (.frz od (.dK (dicD l))) ∧ (∀ b u, b ≠ d → H b = some u → G b = some u) ∧ ∃ (ts as : List Addr), G D = some (.lst (ts.map V.ref)) ∧ ts.length = i ∧ as.length = i ∧
      (∀ (k : Nat) (t a : Addr) (e : Str × Addr × β), ts[k]? = some t → as[k]? = some a → l[k]? = some e → G t = some (.tup [.str e.1, .ref a]) ∧ G a = some (.lst (g e.2.2))) ∧ as.Nodup ∧ ∀ a ∈ as, H a = none ∧ a ≠ D ∧ a ≠ d ∧ ∃ u, G a = some u)
    ⟨by rw [upd_ne z0.2.symm]; exact upd_same, fun b u nb eb => by rw [upd_ne (fun z => by rw [z, z0.1] at eb; exact nomatch eb), upd_ne nb]; exact eb, [], [], upd_same, rfl, rfl, fun k t a e z => (nomatch z), List.nodup_nil, fun a z => (nomatch z)⟩ (fun i G _ h => h.1) (fun i x G1 G2 hi hP hY => ?_) fun G hP => ?_
  · obtain ⟨ed, fr, ts, as, eD, lt, la, all, nd, fa⟩ := hP
    obtain ⟨T, x0, y0, rfl, nT, rfl, hx, hy⟩ := hY
    have hx : ((l.map fun e => ((Sum.inr e.1 : Key), V.ref e.2.1))[i]?).map (fun kv => kV kv.1) = some x0 := hx
    have hy : ((l.map fun e => ((Sum.inr e.1 : Key), V.ref e.2.1))[i]?).map (fun kv => kv.2) = some y0 := hy
    rw [List.getElem?_map] at hx hy
    cases c : l[i]? with
    | none => rw [c] at hx; exact nomatch hx
    | some e =>
      rw [c] at hx hy
      obtain rfl := Option.some.inj hx
      obtain rfl := Option.some.inj hy
      have he := List.mem_of_getElem? c
      have ec := hc e he
      have nec : e.2.1 ≠ d := ne_ct ec hd nofun
      refine ⟨T, _, rfl, sqT upd_same, rfl, _, _, rfl, _, _, rfl, rfl, hw _ _, r_yes ?_⟩
      have s2 : Same G1 (upd G1 T (.tup [kV (Sum.inr e.1), V.ref e.2.1])) := same_upd nT
      generalize upd G1 T (.tup [kV (Sum.inr e.1), V.ref e.2.1]) = G2 at s2 ⊢
      refine r_tup (r_cons (r_var (h1 _ _) (r_cons (r_cb (r_cons (r_var (h2 _ _) (r_nil ⟨e.2.1, _, rfl, .inl (sqL (s2 _ _ (fr _ _ nec ec))), fun a na => ?_⟩)))))))
      have s3 := same_upd (o := .lst (g e.2.2)) na
      have e3 : upd G2 a (.lst (g e.2.2)) a = some (.lst (g e.2.2)) := upd_same
      generalize upd G2 a (.lst (g e.2.2)) = G3 at s3 e3 ⊢
      refine r_nil (newT fun t G4 nt s4 e4 => ?_)
      have s14 := s2.trans (s3.trans s4)
      have eD4 := s14 _ _ eD
      have a4 := s4 _ _ e3
      have tD : t ≠ D := ne_ct e4 eD4 nofun
      have na1 : G1 a = none := s2.free na
      have aD : a ≠ D := fun z => by rw [z, eD] at na1; exact nomatch na1
      have ad : a ≠ d := fun z => by rw [z, ed] at na1; exact nomatch na1
      have aH : H a = none := by
        cases w : H a with
        | none => rfl
        | some u => rw [fr _ _ ad w] at na1; exact nomatch na1
      refine ⟨_, eD4, ?_, ?_, fun b u nb eb => ?_, ts ++ [t], as ++ [a], by rw [upd_same, List.map_append]; rfl, by rw [List.length_append, lt]; rfl, by rw [List.length_append, la]; rfl, fun k t' a' e' hk1 hk2 hk3 => ?_, ?_, fun b hb => ?_⟩
      · rw [List.length_map, lt, sizeLine_eq]
        omega
      · rw [upd_ne z0.2.symm]
        exact s14 _ _ ed
      · rw [upd_ne (fun z => by rw [z, z0.1] at eb; exact nomatch eb)]
        exact s14 _ _ (fr b u nb eb)
      · by_cases hki : k < i
        · rw [List.getElem?_append_left (by omega)] at hk1 hk2
          obtain ⟨w1, w2⟩ := all k t' a' e' hk1 hk2 hk3
          have f' := fa a' (List.mem_of_getElem? hk2)
          rw [upd_ne (ne_ct w1 eD nofun), upd_ne f'.2.1]
          exact ⟨s14 _ _ w1, s14 _ _ w2⟩
        · have e5 : k = i := by
            have := (List.getElem?_eq_some_iff.mp hk1).1
            rw [List.length_append] at this
            have h1 : [t].length = 1 := rfl
            omega
          subst e5
          rw [List.getElem?_append_right (by omega), lt, Nat.sub_self] at hk1
          rw [List.getElem?_append_right (by omega), la, Nat.sub_self] at hk2
          rw [c] at hk3
          obtain rfl := Option.some.inj hk1
          obtain rfl := Option.some.inj hk2
          obtain rfl := Option.some.inj hk3
          rw [upd_ne tD, upd_ne aD]
          exact ⟨e4, a4⟩
      · refine List.nodup_append.mpr ⟨nd, List.pairwise_singleton _ _, fun b hb c' hc' z => ?_⟩
        obtain ⟨u, hu⟩ := (fa b hb).2.2.2
        rw [List.mem_singleton.mp hc'] at z
        rw [z, na1] at hu
        exact nomatch hu
      · rcases List.mem_append.mp hb with hb | hb
        · obtain ⟨w1, w2, w3, u, w4⟩ := fa b hb
          exact ⟨w1, w2, w3, u, by rw [upd_ne w2]; exact s14 _ _ w4⟩
        · rw [List.mem_singleton.mp hb]
          exact ⟨aH, aD, ad, _, by rw [upd_ne aD]; exact a4⟩
  · obtain ⟨ed, fr, ts, as, eD, lt, la, all, nd, fa⟩ := hP
    refine ⟨ed, q D _ ts as z0.1 (fun b u eb => ?_) (by rw [upd_ne z0.2]; exact eD) (by rw [lt, hdl]) (by rw [la, hdl]) (fun k t a e hk1 hk2 hk3 => ?_) nd fun a ha => ⟨(fa a ha).1, (fa a ha).2.1⟩⟩
    · by_cases h : b = d
      · rw [h, upd_same, ← hd, ← h]
        exact eb
      · rw [upd_ne h]
        exact fr b u h eb
    · obtain ⟨w1, w2⟩ := all k t a e hk1 hk2 hk3
      have f' := fa a (List.mem_of_getElem? hk2)
      rw [upd_ne f'.2.2.1, upd_ne (ne_ct w1 ed nofun)]
      exact ⟨w1, w2⟩
end K23

namespace K23
open PySem PySem.Spec PyProof.Rows L2 Bk


theorem paired_of {α β : Type} {R : α → β → Prop} : ∀ {ts : List α} {ls : List β}, ts.length = ls.length → (∀ (k : Nat) t e, ts[k]? = some t → ls[k]? = some e → R t e) → PySem.Paired R ts ls
  | [], [], _, _ => .nil
  | [], _ :: _, h, _ => nomatch h
  | _ :: _, [], h, _ => nomatch h
  | t :: ts, e :: ls, h, r => .cons (r 0 t e rfl rfl) (paired_of (Nat.succ.inj h) fun k t e h1 h2 => r (k + 1) t e h1 h2)
theorem valV_dicN' {β : Type} {l : List (Str × Addr × β)} {x : Str} (h : x ∉ l.map (·.1)) : valV (dicD l) (.inr x : Key) = none := valV_dicN h
theorem merge_dic {β : Type} : ∀ (b a : List (Str × Addr × β)), ((a ++ b).map (·.1)).Nodup → mergeK (dicD a) (dicD b) = dicD (a ++ b)
  | [], a, _ => by rw [List.append_nil]; rfl
  | e :: r, a, h => by
    have hn : e.1 ∉ a.map (·.1) := fun z => by
      rw [List.map_append] at h
      exact (List.nodup_append.mp h).2.2 e.1 z e.1 (List.mem_map.mpr ⟨e, List.mem_cons_self, rfl⟩) rfl
    show mergeK (putK (dicD a) (.inr e.1 : Key) (.ref e.2.1)) (dicD r) = _
    rw [putK_new _ (valV_dicN hn)]
    have e1 : dicD a ++ [((Sum.inr e.1 : Key), V.ref e.2.1)] = dicD (a ++ [e]) := by unfold dicD; rw [List.map_append]; rfl
    rw [e1, merge_dic r (a ++ [e]) (by rw [List.append_assoc]; exact h), List.append_assoc]
    rfl
structure Cp {β : Type} (g : β → List V) (H G : Hp) (l l' : List (Str × Addr × β)) (d : Addr) : Prop where
  ed : G d = some (.dK (dicD l'))
  kv : l'.map (fun e => (e.1, e.2.2)) = l.map (fun e => (e.1, e.2.2))
  el : ∀ e ∈ l', G e.2.1 = some (.lst (g e.2.2))
  nd : (l'.map (·.2.1)).Nodup
  dn : ∀ e ∈ l', d ≠ e.2.1
  fr : H d = none ∧ ∀ e ∈ l', H e.2.1 = none
theorem Cp.same {β : Type} {g : β → List V} {H G G' : Hp} {l l' : List (Str × Addr × β)} {d : Addr} (c : Cp g H G l l' d) (s : Same G G') : Cp g H G' l l' d := ⟨s _ _ c.ed, c.kv, fun e he => s _ _ (c.el e he), c.nd, c.dn, c.fr⟩
theorem Cp.but {β : Type} {g : β → List V} {H G G' : Hp} {l l' : List (Str × Addr × β)} {d p : Addr} {u : HO} (c : Cp g H G l l' d) (hp : H p = some u) (s : ∀ b u, b ≠ p → G b = some u → G' b = some u) : Cp g H G' l l' d :=
  ⟨s _ _ (fun z => by rw [← z, c.fr.1] at hp; exact nomatch hp) c.ed, c.kv, fun e he => s _ _ (fun z => by rw [← z, c.fr.2 e he] at hp; exact nomatch hp) (c.el e he), c.nd, c.dn, c.fr⟩
theorem Cp.up {β : Type} {g : β → List V} {H0 H G : Hp} {l l' : List (Str × Addr × β)} {d : Addr} (c : Cp g H G l l' d) (s : Same H0 H) : Cp g H0 G l l' d := ⟨c.ed, c.kv, c.el, c.nd, c.dn, s.free c.fr.1, fun e he => s.free (c.fr.2 e he)⟩
theorem Cp.key {β : Type} {g : β → List V} {H G : Hp} {l l' : List (Str × Addr × β)} {d : Addr} (c : Cp g H G l l' d) : l'.map (·.1) = l.map (·.1) := by
  have z := congrArg (List.map fun p : Str × β => p.1) c.kv
  rw [List.map_map, List.map_map] at z
  exact z
/-- dict([(name, list(some)) for name, some in d.items()]) -/
theorem copyDict {K K' : PySem.W.Frag} (hK : K' = K) {β : Type} (l : List (Str × Addr × β)) (g : β → List V) {d : Addr} {σ : L2.St} {H : Hp} {Q : VK} {tl : TE} {jn js : Nat} {vs : List Nat}
    (hd : H d = some (.dK (dicD l))) (hl : l.length ≤ 1000) (hk : (l.map (·.1)).Nodup) (hc : ∀ e ∈ l, H e.2.1 = some (.lst (g e.2.2)))
    (hv : ∀ (od : Obj) (QQ : VK), QQ (.ref d) (upd H d (.frz od (.dK (dicD l)))) → tl σ (upd H d (.frz od (.dK (dicD l)))) QQ)
    (hw : ∀ x y, wipe (((wipe σ vs).set jn (some x)).set js (some y)) vs = wipe σ vs)
    (h1 : ∀ x y, (((wipe σ vs).set jn (some x)).set js (some y))[jn]? = some (some x)) (h2 : ∀ x y, (((wipe σ vs).set jn (some x)).set js (some y))[js]? = some (some y))
    (q : ∀ (D : Addr) (H' : Hp) (l' : List (Str × Addr × β)), Same H H' → Cp g H H' l l' D → Q (.ref D) H') :
    tCB (fun xs H_1 Q => ∃ a ps kvs, xs = [V.ref a] ∧ SqL K' H_1 a (List.map V.ref ps) ∧ PySem.Paired (fun p (kv : Key × V) => SqT K' H_1 p [kV kv.fst, kv.snd]) ps kvs ∧ ∀ (p : Addr), H_1 p = none → Q (V.ref p) (upd H_1 p (HO.dK (mergeK [] kvs))))
      (tCons (tLockE (tLc (iItems tl) (gTup K 2 (gCons (gName jn) (gCons (gName js) gNil))) tYes (tTup (tCons (tVar jn) (tCons (tCB (fun xs H Q => ∃ p ys, xs = [V.ref p] ∧ (SqL K H p ys ∨ SqT K H p ys) ∧ ∀ (l : Addr), H l = none → Q (V.ref l) (upd H l (HO.lst ys))) (tCons (tVar js) tNil)) tNil))) vs)) tNil) σ H Q := by
  subst hK
  refine r_cb (r_cons (copyItems l g hd hl hc hv hw h1 h2 fun D G ts as nD sG eD lt la all nd fa => ?_))
  obtain ⟨l', hl'⟩ : ∃ l' : List (Str × Addr × β), l' = (l.zip as).map fun p => (p.1.1, p.2, p.1.2.2) := ⟨_, rfl⟩
  have zl : (l.zip as).length = l.length := by rw [List.length_zip, la, Nat.min_self]
  have gl : ∀ (k : Nat) e', l'[k]? = some e' → ∃ e a, l[k]? = some e ∧ as[k]? = some a ∧ e' = (e.1, a, e.2.2) := fun k e' h => by
    rw [hl', List.getElem?_map] at h
    cases c : (l.zip as)[k]? with
    | none => rw [c] at h; exact nomatch h
    | some p =>
      rw [c] at h
      have w := List.getElem?_zip_eq_some.mp c
      exact ⟨p.1, p.2, w.1, w.2, (Option.some.inj h).symm⟩
  have kv : l'.map (fun e => (e.1, e.2.2)) = l.map (fun e => (e.1, e.2.2)) := by
    rw [hl', List.map_map]
    have e1 : ((fun e : Str × Addr × β => (e.1, e.2.2)) ∘ fun p : (Str × Addr × β) × Addr => (p.1.1, p.2, p.1.2.2)) = (fun e : Str × Addr × β => (e.1, e.2.2)) ∘ Prod.fst := rfl
    rw [e1, ← List.map_map, List.map_fst_zip (by omega)]
  have key : l'.map (·.1) = l.map (·.1) := by
    have z := congrArg (List.map fun p : Str × β => p.1) kv
    rw [List.map_map, List.map_map] at z
    exact z
  have adr : l'.map (·.2.1) = as := by
    rw [hl', List.map_map]
    have e1 : ((fun e : Str × Addr × β => e.2.1) ∘ fun p : (Str × Addr × β) × Addr => (p.1.1, p.2, p.1.2.2)) = Prod.snd := rfl
    rw [e1, List.map_snd_zip (by omega)]
  have ll : l'.length = l.length := by rw [hl', List.length_map, zl]
  have hll : (dicD l').length = l.length := by unfold dicD; rw [List.length_map, ll]
  refine r_nil ⟨D, ts, dicD l', rfl, sqL eD, paired_of (by rw [lt, hll]) fun k t e hk1 hk2 => ?_, fun p np => ?_⟩
  · unfold dicD at hk2
    rw [List.getElem?_map] at hk2
    cases c : l'[k]? with
    | none => rw [c] at hk2; exact nomatch hk2
    | some e' =>
      rw [c] at hk2
      obtain rfl := Option.some.inj hk2
      obtain ⟨e0, a0, w1, w2, rfl⟩ := gl k e' c
      exact sqT (all k t a0 e0 hk1 w2 w1).1
  · have e0 : mergeK [] (dicD l') = dicD l' := merge_dic l' [] (by rw [List.nil_append, key]; exact hk)
    rw [e0]
    have s2 := same_upd (o := .dK (dicD l')) np
    have elG : ∀ e ∈ l', G e.2.1 = some (.lst (g e.2.2)) := fun e he => by
      obtain ⟨k, hk'⟩ := List.getElem?_of_mem he
      obtain ⟨e1, a1, w1, w2, rfl⟩ := gl k e hk'
      have hkl : k < ts.length := by rw [lt]; exact (List.getElem?_eq_some_iff.mp w1).1
      exact (all k _ a1 e1 (List.getElem?_eq_getElem hkl) w2 w1).2
    refine q p _ l' (sG.trans s2) ⟨upd_same, kv, fun e he => s2 _ _ (elG e he), by rw [adr]; exact nd, fun e he z => ?_, sG.free np, fun e he => (fa e.2.1 (by rw [← adr]; exact List.mem_map.mpr ⟨e, he, rfl⟩)).1⟩
    have w := elG e he
    rw [← z, np] at w
    exact nomatch w
end K23

namespace K23
open PySem PySem.Spec PyProof.Rows L2 Bk


theorem r_dgV {σ : L2.St} {H : Hp} {Q : VK} {i j : Nat} {a : Addr} {x : Str} {kvs : List (Key × V)} {y : V} (hv : σ[i]? = some (some (.ref a))) (hj : σ[j]? = some (some (.str x))) (e : Rd H a (.dK kvs)) (hx : valV kvs (.inr x : Key) = some y) (q : Q y H) : tDGet (tVar i) (tVar j) σ H Q := ⟨_, hv, _, hj, a, y, rfl, .inl ⟨kvs, .inr x, e, rfl, hx.symm⟩, q⟩
theorem Cp.up' {β : Type} {g : β → List V} {H0 H G : Hp} {l l' : List (Str × Addr × β)} {d : Addr} (c : Cp g H G l l' d) (s : ∀ b u, H0 b = some u → ∃ u', H b = some u') : Cp g H0 G l l' d := by
  have z : ∀ {b}, H b = none → H0 b = none := fun {b} hb => by
    cases w : H0 b with
    | none => rfl
    | some u =>
      obtain ⟨u', h'⟩ := s b u w
      rw [hb] at h'
      exact nomatch h'
  exact ⟨c.ed, c.kv, c.el, c.nd, c.dn, z c.fr.1, fun e he => z (c.fr.2 e he)⟩
def zS (l : List Str) : List V := l.map V.str
def CInv (v : Sv) (H2 : Hp) (p0 : Addr) : Nat → Hp → Prop
  | 0, G => G p0 = some (.dK []) ∧ (∀ b u, b ≠ p0 → H2 b = some u → G b = some u)
  | 1, G => ∃ hd' h', G p0 = some (.dK [(.inr "held", .ref hd')]) ∧ (∀ b u, b ≠ p0 → H2 b = some u → G b = some u) ∧ Cp intsV H2 G v.held h' hd'
  | 2, G => ∃ hd' h' sd' s', G p0 = some (.dK [(.inr "held", .ref hd'), (.inr "since", .ref sd')]) ∧ (∀ b u, b ≠ p0 → H2 b = some u → G b = some u) ∧ Cp intsV H2 G v.held h' hd' ∧ Cp zS H2 G v.since s' sd' ∧ ∀ a, (a = hd' ∨ ∃ e ∈ h', a = e.2.1) → ∀ b, (b = sd' ∨ ∃ e ∈ s', b = e.2.1) → a ≠ b
  | _, _ => False
def spCopied : Sp := fun vs H Q _ => ∃ v : Sv, vs = [.ref v.S] ∧ Ly H v ∧ v.held.length ≤ 1000 ∧ v.since.length ≤ 1000 ∧ v.marks.length ≤ 1000 ∧
  ∀ v' H', Same H H' → Ly H' v' → v'.held.map (fun e => (e.1, e.2.2)) = v.held.map (fun e => (e.1, e.2.2)) → v'.since.map (fun e => (e.1, e.2.2)) = v.since.map (fun e => (e.1, e.2.2)) → v'.marks.map (·.2.2) = v.marks.map (·.2.2) → (∀ a ∈ adrs v', H a = none) → Q (.ref v'.S) H'
section
variable {P : Program} {w : World} {K : PySem.W.Frag} {mg : Str → Option Value} {base : Heap} {A : Ad}
theorem ok_copied {f : Addr} {fd : FuncData} (F : Fun K "_law_copied" "_law_copied" s_copied_L f fd) (T : Txt K mg A) : FnOk P w K mg base CX0 1 f fd ["_law_seen"] spCopied := by
  refine F.ok sc_copied_L (fun vs H Q E h => ?_) (fun cdv A' outer s H vs Q E hr h => have hu65 := units65 hr; have hu64 := hr.units; have hu := units1 hr; ⟨_, (pss_cons (ps_set (i := 1) sc_copied_L.nd rfl (.inl rfl) pe_dnewK)
    (pss_cons (ps_for PassesOwn.never rfl (pi_list (pe_lstB (pa_cons pe_str (pa_cons pe_str pa_nil)))) (pg_name (i := 2) sc_copied_L.nd rfl (.inl rfl))
      (pss_one (ps_asg (pe_callTy (call_dictP rfl) (by rfl) T.m_dict (by decide +kernel) (pa_cons (pe_lock (pe_lc (own := [("_law_name", 4), ("_law_some", 5)]) rfl sc_copied_L.nd (pi_items (pe_dget hu (pv 0) (pv 2) (fun _ _ => rfl))) (blkOk_by (N := ["_law_seen", "_law_found", "_law_word", "_law_mark", "_law_name", "_law_some"]) (sc := defScope s_copied_L) (by decide +kernel)) (fun _ _ _ _ _ => (pg_tupK (K := K) (n := 2) rfl rfl (pgs_cons (pg_name (i := 4) sc_copied_L.nd rfl (.inl rfl)) (pgs_cons (pg_name (i := 5) sc_copied_L.nd rfl (.inl rfl)) pgs_nil)))) (fun _ _ _ _ _ => pts_nil) (fun _ _ _ _ _ => (pe_tup (pa_cons (pv 4) (pa_cons (pe_callTy (call_list_ofK (K := K) rfl) (by rfl) T.m_list (by decide +kernel) (pa_cons (pv 5) pa_nil)) pa_nil)))))) pa_nil)) (pg_sub (pv 1) (pv 2) (set_dict hu)))))
    (pss_cons (ps_asg (pe_lc (own := [("_law_mark", 3)]) rfl sc_copied_L.nd (pi_list (pe_dget hu (pv 0) pe_str (fun _ _ => rfl))) (blkOk_by (N := ["_law_seen", "_law_found", "_law_word", "_law_mark", "_law_name", "_law_some"]) (sc := defScope s_copied_L) (by decide +kernel)) (fun _ _ _ _ _ => (pg_name (i := 3) sc_copied_L.nd rfl (.inl rfl))) (fun _ _ _ _ _ => pts_nil) (fun _ _ _ _ _ => (pe_callTy (call_list_ofK (K := K) rfl) (by rfl) T.m_list (by decide +kernel) (pa_cons (pv 3) pa_nil)))) (pg_sub (pv 1) pe_str (set_dict hu)))
    (pss_one (ps_ret (pv 1)))))), ?_⟩)
  · obtain ⟨v, rfl, _⟩ := h
    rfl
  · obtain ⟨v, rfl, L0, l1, l2, l3, q⟩ := h
    walk_at "go"
    refine newDK fun p0 H1 n0 s0 e0 => ?_
    walk_at "go"
    refine newLB fun pl H2 npl gpl s2 e2 => ?_
    have L2' := (L0.same s0).same s2
    have e02 := s2 _ _ e0
    have nS : v.S ≠ p0 := fun z => by have w := L0.eS; rw [z, n0] at w; exact nomatch w
    have ns : ∀ {b u}, H b = some u → b ≠ p0 := fun eb z => by rw [z, n0] at eb; exact nomatch eb
    have plp : pl ≠ p0 := fun z => by rw [z, e0] at npl; exact nomatch npl
    refine ⟨pl, rfl, ⟨_, sqL e2⟩, for_list (K := K) (a := pl) (xs := [.str "held", .str "since"]) (fun j σ G => (∃ x2, σ = [some (.ref v.S), some (.ref p0), x2, none, none, none]) ∧ CInv v H2 p0 j G)
      ⟨⟨_, rfl⟩, e02, fun _ _ _ e => e⟩ (fun j σ G hj ⟨_, ci⟩ => ?_) ?_ ?_⟩
    · match j, ci with
      | 0, ci => exact sqL (ci.2 _ _ plp e2)
      | 1, ⟨_, _, _, fr, _⟩ => exact sqL (fr _ _ plp e2)
      | 2, ⟨_, _, _, _, _, fr, _⟩ => exact sqL (fr _ _ plp e2)
    · rintro j y σ G hj ⟨⟨x2, rfl⟩, ci⟩
      match j, hj, ci with
      | 0, hj, ⟨ep, fr⟩ =>
        obtain rfl := Option.some.inj hj
        have LG : Ly G v := L2'.keep (fun b u hb eb => fr _ _ (by obtain ⟨u', h'⟩ := L0.ex hb; exact ns h') eb) fun b xs eb => fr _ _ (ne_ct eb e02 nofun) eb
        refine r_name (r_asg ?_)
        refine copyDict (K := K) (jn := 4) (js := 5) (vs := [4, 5]) (σ := [some (.ref v.S), some (.ref p0), some (.str "held"), none, none, none]) rfl v.held intsV LG.eh l1 LG.hk LG.el (fun od QQ z => r_dgV (i := 0) (j := 2) rfl rfl (.inl (by rw [upd_ne LG.ap.bb.1]; exact LG.eS)) top_h z) (fun _ _ => rfl) (fun _ _ => rfl) (fun _ _ => rfl) fun D G2 h' s3 c3 => ?_
        walk_at "go"
        refine ⟨p0, _, rfl, .inl ⟨[], .inr "held", s3 _ _ ep, rfl, by rw [sizeLine_eq]; exact Nat.zero_lt_succ _, rfl⟩, ⟨_, rfl⟩, D, h', ?_, fun b u nb eb => ?_, ?_⟩
        · rw [upd_same]; rfl
        · rw [upd_ne nb]
          exact s3 _ _ (fr b u nb eb)
        · refine Cp.but (H := G) c3 ep (fun b u nb eb => by rw [upd_ne nb]; exact eb) |>.up' ?_
          exact fun b u eb => by
            by_cases c : b = p0
            · exact ⟨_, by rw [c]; exact ep⟩
            · exact ⟨_, fr b u c eb⟩
      | 1, hj, ⟨hd', h', ep, fr, c1⟩ =>
        obtain rfl := Option.some.inj hj
        have LG : Ly G v := L2'.keep (fun b u hb eb => fr _ _ (by obtain ⟨u', h'⟩ := L0.ex hb; exact ns h') eb) fun b xs eb => fr _ _ (ne_ct eb e02 nofun) eb
        refine r_name (r_asg ?_)
        refine copyDict (K := K) (jn := 4) (js := 5) (vs := [4, 5]) (σ := [some (.ref v.S), some (.ref p0), some (.str "since"), none, none, none]) rfl v.since zS LG.es l2 LG.sk LG.ez (fun od QQ z => r_dgV (i := 0) (j := 2) rfl rfl (.inl (by rw [upd_ne LG.ap.bb.2.1]; exact LG.eS)) top_s z) (fun _ _ => rfl) (fun _ _ => rfl) (fun _ _ => rfl) fun D G2 s' s3 c3 => ?_
        walk_at "go"
        refine ⟨p0, _, rfl, .inl ⟨_, .inr "since", s3 _ _ ep, rfl, by rw [sizeLine_eq]; show 1 < _; omega, rfl⟩, ⟨_, rfl⟩, hd', h', D, s', ?_, fun b u nb eb => ?_, ?_, ?_, fun a ha b hb z => ?_⟩
        · rw [upd_same, putK_new _ ((valV_neg ne_hs).trans rfl)]
          rfl
        · rw [upd_ne nb]
          exact s3 _ _ (fr b u nb eb)
        · exact (c1.same s3).but (p := p0) e02 (fun b u nb eb => by rw [upd_ne nb]; exact eb)
        · refine Cp.but (H := G) c3 ep (fun b u nb eb => by rw [upd_ne nb]; exact eb) |>.up' ?_
          exact fun b u eb => by
            by_cases c : b = p0
            · exact ⟨_, by rw [c]; exact ep⟩
            · exact ⟨_, fr b u c eb⟩
        · have hb' : G b = none := by
            rcases hb with rfl | ⟨e, he, rfl⟩
            · exact c3.fr.1
            · exact c3.fr.2 e he
          rcases ha with rfl | ⟨e, he, rfl⟩
          · rw [← z, c1.ed] at hb'; exact nomatch hb'
          · rw [← z, c1.el e he] at hb'; exact nomatch hb'
      | j + 2, hj, _ => exact nomatch hj
    · rintro σ G ⟨⟨x2, rfl⟩, hd', h', sd', s', ep, fr, c1, c2, dj⟩
      have LG : Ly G v := L2'.keep (fun b u hb eb => fr _ _ (by obtain ⟨u', h'⟩ := L0.ex hb; exact ns h') eb) fun b xs eb => fr _ _ (ne_ct eb e02 nofun) eb
      walk_at "go"
      refine lcNewL (K := K) (j := 3) (vs := [3]) (σ := [some (.ref v.S), some (.ref p0), x2, none, none, none]) (fun k => .lst (markV (v.marks.getD k (0, 0, ⟨("", 0), 0, 0, 0⟩)))) (fun QQ z => r_dgT rfl (.inl LG.eS) top_m z) (sqL LG.em) (by rw [List.length_map]; omega) (fun _ => rfl) (fun k y G1 Q' hy sm kk => ?_) fun D G2 ts nD s2' eD lt all nd fr' => ?_
      · rw [List.getElem?_map] at hy
        cases c : v.marks[k]? with
        | none => rw [c] at hy; exact nomatch hy
        | some m =>
          rw [c] at hy
          obtain rfl := Option.some.inj hy
          have hg : v.marks.getD k (0, 0, ⟨("", 0), 0, 0, 0⟩) = m := by rw [List.getD_eq_getElem?_getD, c]; rfl
          rw [hg] at kk
          walk_at "go"
          refine ⟨m.1, _, rfl, .inl (sqL (sm _ _ (LG.ek m (List.mem_of_getElem? c)))), fun l nl => kk l _ nl (same_upd nl) upd_same⟩
      · obtain ⟨m', hm'⟩ : ∃ m' : List (Addr × Addr × Mk Str), m' = (v.marks.zip ts).map fun p => (p.2, p.1.2.1, p.1.2.2) := ⟨_, rfl⟩
        have lt : ts.length = v.marks.length := by rw [lt, List.length_map]
        have gm : ∀ (k : Nat) (e' : Addr × Addr × Mk Str), m'[k]? = some e' → ∃ (m : Addr × Addr × Mk Str) (a : Addr), v.marks[k]? = some m ∧ ts[k]? = some a ∧ e' = (a, m.2.1, m.2.2) := fun k e' h => by
          rw [hm', List.getElem?_map] at h
          cases c : (v.marks.zip ts)[k]? with
          | none => rw [c] at h; exact nomatch h
          | some p =>
            rw [c] at h
            have w := List.getElem?_zip_eq_some.mp c
            exact ⟨p.1, p.2, w.1, w.2, (Option.some.inj h).symm⟩
        have km : List.map (fun (m : Addr × Addr × Mk Str) => m.2.2) m' = List.map (fun (m : Addr × Addr × Mk Str) => m.2.2) v.marks := by
          rw [hm', List.map_map]
          have e1 : ((fun m : Addr × Addr × Mk Str => m.2.2) ∘ fun p : (Addr × Addr × Mk Str) × Addr => (p.2, p.1.2.1, p.1.2.2)) = (fun m : Addr × Addr × Mk Str => m.2.2) ∘ Prod.fst := rfl
          rw [e1, ← List.map_map, List.map_fst_zip (by omega)]
        have am : List.map (fun (m : Addr × Addr × Mk Str) => m.1) m' = ts := by
          rw [hm', List.map_map]
          have e1 : ((fun m : Addr × Addr × Mk Str => m.1) ∘ fun p : (Addr × Addr × Mk Str) × Addr => (p.2, p.1.2.1, p.1.2.2)) = Prod.snd := rfl
          rw [e1, List.map_snd_zip (by omega)]
        have mk' : ∀ m ∈ m', ∃ m0 ∈ v.marks, m.2 = m0.2 ∧ m.1 ∈ ts ∧ G2 m.1 = some (.lst (markV m)) := fun m hm => by
          obtain ⟨k, hk⟩ := List.getElem?_of_mem hm
          obtain ⟨m0, a, w1, w2, rfl⟩ := gm k m hk
          refine ⟨m0, List.mem_of_getElem? w1, rfl, List.mem_of_getElem? w2, ?_⟩
          have hg : v.marks.getD k (0, 0, ⟨("", 0), 0, 0, 0⟩) = m0 := by rw [List.getD_eq_getElem?_getD, w1]; rfl
          have w := all k a w2
          rw [hg] at w
          exact w
        walk_at "go"
        have ep2 := s2' _ _ ep
        refine ⟨p0, _, rfl, .inl ⟨_, .inr "marks", ep2, rfl, by rw [sizeLine_eq]; show 2 < _; omega, rfl⟩, ?_⟩
        obtain ⟨v', hv'⟩ : ∃ v' : Sv, v' = ⟨p0, hd', sd', D, h', s', m'⟩ := ⟨_, rfl⟩
        have etop : putK [((Sum.inr (Str.ofString "held") : Key), V.ref hd'), (.inr "since", .ref sd')] (.inr "marks") (.ref D) = topD v' := by
          rw [putK_new _ ((valV_neg ne_hm).trans ((valV_neg ne_sm).trans rfl)), hv']
          rfl
        rw [etop]
        clear etop
        subst hv'
        have p2 : ∀ {b u}, H2 b = some u → b ≠ p0 → G2 b = some u := fun {b u} eb nb => s2' _ _ (fr b u nb eb)
        have kG : ∀ b u, b ≠ p0 → G2 b = some u → upd G2 p0 (.dK (topD ⟨p0, hd', sd', D, h', s', m'⟩)) b = some u := fun b u nb eb => by rw [upd_ne nb]; exact eb
        have nf : ∀ {b}, H2 b = none → b ≠ p0 := fun hb z => by rw [z, e02] at hb; exact nomatch hb
        have nGp : ∀ {b}, G b = none → b ≠ p0 := fun hb z => by rw [z, ep] at hb; exact nomatch hb
        have nGH : ∀ {b}, G b = none → H b = none := fun {b} hb => by
          cases w : H b with
          | none => rfl
          | some u => rw [fr _ _ (ns w) (s2 _ _ (s0 _ _ w))] at hb; exact nomatch hb
        have n2H : ∀ {b}, H2 b = none → H b = none := fun hb => (s0.trans s2).free hb
        have c1' := c1.same s2'
        have c2' := c2.same s2'
        have gne : ∀ {a b u}, G a = some u → G b = none → a ≠ b := fun ha hb z => by rw [z, hb] at ha; exact nomatch ha
        have LV : Ly (upd G2 p0 (.dK (topD ⟨p0, hd', sd', D, h', s', m'⟩))) ⟨p0, hd', sd', D, h', s', m'⟩ := by
          refine ⟨⟨⟨(nf c1.fr.1).symm, (nf c2.fr.1).symm, (nGp nD).symm, dj _ (.inl rfl) _ (.inl rfl), gne c1.ed nD, gne c2.ed nD⟩,
            fun e he => ⟨(nf (c1.fr.2 e he)).symm, c1.dn e he, (dj _ (.inr ⟨e, he, rfl⟩) _ (.inl rfl)).symm, (gne (c1.el e he) nD).symm⟩,
            fun e he => ⟨(nf (c2.fr.2 e he)).symm, dj _ (.inl rfl) _ (.inr ⟨e, he, rfl⟩), c2.dn e he, (gne (c2.el e he) nD).symm⟩,
            fun m hm => ?_, fun e he f hf => dj _ (.inr ⟨e, he, rfl⟩) _ (.inr ⟨f, hf, rfl⟩), fun e he m hm => ?_, fun e he m hm => ?_, c1.nd, c2.nd, by show (m'.map (·.1)).Nodup; rw [am]; exact (List.nodup_cons.mp nd).2⟩,
            upd_same, kG _ _ (nf c1.fr.1) c1'.ed, kG _ _ (nf c2.fr.1) c2'.ed, ?_, fun e he => kG _ _ (nf (c1.fr.2 e he)) (c1'.el e he), fun e he => kG _ _ (nf (c2.fr.2 e he)) (c2'.el e he), fun m hm => ?_, fun m hm => ?_, by show (h'.map (·.1)).Nodup; rw [c1.key]; exact LG.hk, by show (s'.map (·.1)).Nodup; rw [c2.key]; exact LG.sk⟩
          · obtain ⟨m0, h0, w1, w2, w3⟩ := mk' m hm
            have hn := fr' m.1 w2
            exact ⟨(nGp hn).symm, gne c1.ed hn, gne c2.ed hn, fun z => (List.nodup_cons.mp nd).1 (by rw [show D = m.1 from z]; exact w2)⟩
          · obtain ⟨m0, h0, w1, w2, w3⟩ := mk' m hm
            exact gne (c1.el e he) (fr' m.1 w2)
          · obtain ⟨m0, h0, w1, w2, w3⟩ := mk' m hm
            exact gne (c2.el e he) (fr' m.1 w2)
          · refine kG _ _ (nGp nD) ?_
            show G2 D = some (.lst (m'.map fun m => .ref m.1))
            rw [eD, ← am, List.map_map]
            rfl
          · obtain ⟨m0, h0, w1, w2, w3⟩ := mk' m hm
            exact kG _ _ (nGp (fr' m.1 w2)) w3
          · obtain ⟨m0, h0, w1, w2, w3⟩ := mk' m hm
            rw [w1]
            have w := LG.tu m0 h0
            exact kG _ _ (ne_ct w ep nofun) (s2' _ _ w)
        walk_at "go"
        have z := q ⟨p0, hd', sd', D, h', s', m'⟩ (upd G2 p0 (.dK (topD ⟨p0, hd', sd', D, h', s', m'⟩))) (fun b u eb => kG _ _ (ns eb) (p2 (s2 _ _ (s0 _ _ eb)) (ns eb))) LV c1.kv c2.kv km fun a ha => ?_
        · exact z
        · unfold adrs at ha
          simp only [List.mem_cons, List.mem_append, List.mem_map] at ha
          rcases ha with rfl | rfl | rfl | rfl | ⟨e, he, rfl⟩ | ⟨e, he, rfl⟩ | ⟨m, hm, rfl⟩
          · exact n0
          · exact n2H c1.fr.1
          · exact n2H c2.fr.1
          · exact nGH nD
          · exact n2H (c1.fr.2 e he)
          · exact n2H (c2.fr.2 e he)
          · obtain ⟨m0, h0, w1, w2, w3⟩ := mk' m hm
            exact nGH (fr' m.1 w2)
end
end K23

namespace K23
open PySem PySem.Spec PyProof.Rows L2 Bk


def lowS (z : Str) : Prop := ∀ c ∈ z.cps.toList, 97 ≤ c ∧ c ≤ 122
theorem nameOk_of {z : Str} (h : lowS z) (l1 : 1 ≤ z.length) (l2 : z.length ≤ 8) : nameOk z = true := by
  unfold nameOk
  rw [decide_eq_true ⟨l1, l2⟩, Bool.true_and]
  unfold allW
  refine List.all_eq_true.mpr fun c hc => ?_
  obtain ⟨a, b⟩ := h c hc
  rw [decide_eq_true a, decide_eq_true b]
  rfl
theorem low_app {x y : Str} (hx : lowS x) (hy : lowS y) : lowS (x ++ y) := fun c hc => by
  have w : (x ++ y).cps.toList = x.cps.toList ++ y.cps.toList := Array.toList_append
  rw [w] at hc
  exact (List.mem_append.mp hc).elim (hx c) (hy c)
theorem low_cut {z : Str} {lo hi : Option Int} (h : lowS z) : lowS (cutS z lo hi) := fun c hc => by
  unfold cutS at hc
  exact h c (List.mem_of_mem_drop (List.mem_of_mem_take hc))
theorem cut_pre {z : Str} {m : Int} (h : 0 ≤ m) : (cutS z none (some m)).length = min m.toNat z.length := by
  unfold cutS HT.sIx
  show (List.toArray _).size = _
  rw [List.size_toArray, List.length_take]
  simp only [if_neg (show ¬ m < 0 by omega), Nat.sub_zero, List.drop_zero]
  rw [Array.length_toList]
  show min (min m.toNat z.length) z.length = _
  omega
theorem cut_suf {z : Str} {m : Int} (h : 0 ≤ m) : (cutS z (some m) none).length = z.length - min m.toNat z.length := by
  unfold cutS HT.sIx
  show (List.toArray _).size = _
  rw [List.size_toArray, List.length_take, List.length_drop]
  simp only [if_neg (show ¬ m < 0 by omega)]
  rw [Array.length_toList]
  show min (z.length - min m.toNat z.length) (z.length - min m.toNat z.length) = _
  omega
def one1 (z : Str) : Prop := lowS z ∧ z.length = 1
theorem glue_low : ∀ (ys : List Str) (acc : Array Nat), (∀ y ∈ ys, one1 y) → (∀ c ∈ acc.toList, 97 ≤ c ∧ c ≤ 122) →
    (∀ c ∈ (ys.foldl (fun (acc : Array Nat) (p : Str) => acc ++ (Str.ofString "").cps ++ p.cps) acc).toList, 97 ≤ c ∧ c ≤ 122) ∧ (ys.foldl (fun (acc : Array Nat) (p : Str) => acc ++ (Str.ofString "").cps ++ p.cps) acc).size = acc.size + ys.length
  | [], acc, _, h => ⟨h, rfl⟩
  | y :: r, acc, hy, h => by
    obtain ⟨y1, y2⟩ := hy y List.mem_cons_self
    have e : (Str.ofString "").cps = #[] := by decide +kernel
    have y2 : y.cps.size = 1 := y2
    have z := glue_low r (acc ++ (Str.ofString "").cps ++ y.cps) (fun b hb => hy b (List.mem_cons_of_mem _ hb)) fun c hc => by
      rw [e, Array.append_empty, Array.toList_append] at hc
      exact (List.mem_append.mp hc).elim (h c) (y1 c)
    refine ⟨z.1, z.2.trans ?_⟩
    rw [e, Array.append_empty, Array.size_append, y2, List.length_cons]
    omega
theorem join_low {ys : List Str} (h : ∀ y ∈ ys, one1 y) (h0 : 0 < ys.length) : lowS (Txt.join (Str.ofString "") ys) ∧ (Txt.join (Str.ofString "") ys).length = ys.length := by
  cases ys with
  | nil => exact absurd h0 (by decide)
  | cons y r =>
    obtain ⟨y1, y2⟩ := h y List.mem_cons_self
    have z := glue_low r y.cps (fun b hb => h b (List.mem_cons_of_mem _ hb)) y1
    refine ⟨z.1, z.2.trans ?_⟩
    have y2 : y.cps.size = 1 := y2
    rw [y2, List.length_cons]
    omega
theorem strs_of {R : Str → Prop} : ∀ {xs : List V}, (∀ v ∈ xs, ∃ y, v = .str y ∧ R y) → ∃ ys : List Str, xs = ys.map V.str ∧ ys.length = xs.length ∧ ∀ y ∈ ys, R y
  | [], _ => ⟨[], rfl, rfl, fun _ z => nomatch z⟩
  | v :: r, h => by
    obtain ⟨y, rfl, hy⟩ := h v List.mem_cons_self
    obtain ⟨ys, rfl, l, hs⟩ := strs_of (xs := r) fun u hu => h u (List.mem_cons_of_mem _ hu)
    exact ⟨y :: ys, rfl, by rw [List.length_cons, l, List.length_cons], fun z hz => (List.mem_cons.mp hz).elim (fun w => by rw [w]; exact hy) (hs z)⟩
theorem sum1 : ∀ {ys : List Str}, (∀ y ∈ ys, one1 y) → (ys.map fun x => x.length).sum = ys.length
  | [], _ => rfl
  | y :: r, h => by
    rw [List.map_cons, List.sum_cons, (h y List.mem_cons_self).2, sum1 fun z hz => h z (List.mem_cons_of_mem _ hz), List.length_cons]
    omega
theorem signs_low : ∀ c ∈ (Str.ofString "abcdefghijklmnopqrstuvwxyz").cps.toList, 97 ≤ c ∧ c ≤ 122 := by decide +kernel
theorem z_low : lowS (Str.ofString "z") ∧ (Str.ofString "z").length = 1 := by
  constructor
  · unfold lowS
    decide +kernel
  · decide +kernel
theorem e_low : lowS Str.empty := fun c hc => nomatch hc
theorem sign_ok {c : Nat} (h : 97 ≤ c ∧ c ≤ 122) : one1 ⟨#[c]⟩ := ⟨fun d hd => by
  have w : d = c := List.mem_singleton.mp hd
  rw [w]
  exact h, rfl⟩
def spNames : Sp := fun vs H Q _ => ∃ (bx : Addr) (n : Nat), vs = [.ref bx] ∧ Box bx n H ∧ n < 100000 ∧
  ∀ (p : Addr) (H' : Hp) (NS : List Str), H p = none → But bx H H' → Box bx (n + 30) H' → H' p = some (.lst (NS.map V.str)) → NS.length = 7 → (∀ y ∈ NS, nameOk y = true) → Q (.ref p) H'
section
variable {K : PySem.W.Frag} {σ : L2.St} {H : Hp} {Q : VK} {j1 j2 : Nat} {vs : List Nat} {te : TE} {a : Addr} {xs : List V} {ta : TA}
theorem lcEnum (p : Nat → V) (hv : ∀ QQ : List V → Hp → Prop, QQ [.ref a] H → ta σ H QQ) (hs : SqL K H a xs) (hl : xs.length ≤ 10000) (hw : ∀ x y, wipe (((wipe σ vs).set j1 (some x)).set j2 (some y)) vs = wipe σ vs)
    (ht : ∀ (i : Nat) (y : V) (H1 : Hp) (Q' : VK), xs[i]? = some y → Same H H1 → (∀ H3, Same H1 H3 → Q' (p i) H3) → te (((wipe σ vs).set j1 (some (.int (i : Nat)))).set j2 (some y)) H1 Q')
    (q : ∀ D H', H D = none → Same H H' → H' D = some (.lst ((List.range xs.length).map p)) → Q (.ref D) H') : tLc (iEnum K ta) (gTup K 2 (gCons (gName j1) (gCons (gName j2) gNil))) tYes te vs σ H Q := by
  refine hv _ ⟨a, xs, rfl, hs, fun D hD => ?_⟩
  refine lc_by (g := gTup K 2 (gCons (gName j1) (gCons (gName j2) gNil))) (tt := tYes) (te := te) (vs := vs) (σ := σ) (Q := Q) walk_enum (fun i => some (p i)) hD hl (fun _ s => s.seq hs) (fun i x H1 H2 Q' R' hi sm y h1 h2 => ?_) fun H' s e => q D H' hD s (by rw [e]; congr 2; exact (List.filterMap_eq_map' ..).symm ▸ rfl)
  obtain ⟨T, x0, y0, rfl, nT, rfl, hx, hy⟩ := y
  obtain rfl := Option.some.inj hx
  refine ⟨T, _, rfl, sqT upd_same, rfl, _, _, rfl, _, _, rfl, rfl, hw _ _, r_yes ?_⟩
  have s2 := same_upd (o := .tup [V.int (i : Nat), y0]) nT
  exact ht i y0 _ Q' hy (sm.trans s2) fun H3 s3 => h1 _ rfl _ (s2.trans s3)
end
end K23

namespace K23
open PySem PySem.Spec PyProof.Rows L2 Bk


section
variable {P : Program} {w : World} {K : PySem.W.Frag} {mg : Str → Option Value} {base : Heap} {A : Ad}
theorem ok_names {f : Addr} {fd : FuncData} (F : Fun K "_law_names" "_law_names" s_names_L f fd) (T : Txt K mg A) (c_take_L : CalD P w K mg base CX0 1 "_law_take" spTake []) : FnOk P w K mg base CX0 2 f fd ["_law_box_here"] spNames := by
  refine F.ok sc_names_L (fun vs H Q E h => ?_) (fun cdv A' outer s H vs Q E hr h => have hu65 := units65 hr; have hu64 := hr.units; have hu := units1 hr; ⟨_, (pss_cons (ps_set (i := 1) sc_names_L.nd rfl (.inr rfl) pe_str)
    (pss_cons (ps_set (i := 2) sc_names_L.nd rfl (.inr rfl) (pe_join pe_str (pe_lc (own := [("_law_k", 6)]) rfl sc_names_L.nd (pi_range1 (by rfl) T.m_range (pa_cons pe_int pa_nil)) (blkOk_by (N := ["_law_box_here", "_law_signs", "_law_stem", "_law_first", "_law_at", "_law_names_here", "_law_k", "_law_name"]) (sc := defScope s_names_L) (by decide +kernel)) (fun _ _ _ _ _ => (pg_name (i := 6) sc_names_L.nd rfl (.inl rfl))) (fun _ _ _ _ _ => pts_nil) (fun _ _ _ _ _ => (pe_ix ix_str (pv 1) (pe_cal c_take_L hr (by decide) (by rfl) (pa_cons (pv 0) (pa_cons pe_int pa_nil))) (fun _ _ => rfl))))))
    (pss_cons (ps_asg (pe_tup (pa_cons (pe_cal c_take_L hr (by decide) (by rfl) (pa_cons (pv 0) (pa_cons pe_int pa_nil))) (pa_cons (pe_cal c_take_L hr (by decide) (by rfl) (pa_cons (pv 0) (pa_cons pe_int pa_nil))) pa_nil))) (pg_tup rfl (pgs_cons (pg_name (i := 3) sc_names_L.nd rfl (.inr rfl)) (pgs_cons (pg_name (i := 4) sc_names_L.nd rfl (.inr rfl)) pgs_nil))))
    (pss_cons (ps_if (pt_cmpR op_eq (pe_cal c_take_L hr (by decide) (by rfl) (pa_cons (pv 0) (pa_cons pe_int pa_nil))) pe_int (nomark _)) (pss_one (ps_ret (pe_lc (own := [("_law_k", 6)]) rfl sc_names_L.nd (pi_range1 (by rfl) T.m_range (pa_cons pe_int pa_nil)) (blkOk_by (N := ["_law_box_here", "_law_signs", "_law_stem", "_law_first", "_law_at", "_law_names_here", "_law_k", "_law_name"]) (sc := defScope s_names_L) (by decide +kernel)) (fun _ _ _ _ _ => (pg_name (i := 6) sc_names_L.nd rfl (.inl rfl))) (fun _ _ _ _ _ => pts_nil) (fun _ _ _ _ _ => (pe_slice sl_str (pe_op op_add_str (pv 2) (pe_ix ix_str (pv 1) (pv 3) (fun _ _ => rfl))) po_none (po_some (pe_op op_add pe_int (pe_op op_mod (pe_op op_add (pv 6) (pv 4)) pe_int)))))))) pss_nil)
    (pss_cons (ps_setLc (i := 5) (own := [("_law_k", 6)]) rfl sc_names_L.nd rfl rfl (sw_true rfl rfl rfl (by decide +kernel)) (pi_range1 (by rfl) T.m_range (pa_cons pe_int pa_nil)) (blkOk_by (N := ["_law_box_here", "_law_signs", "_law_stem", "_law_first", "_law_at", "_law_names_here", "_law_k", "_law_name"]) (sc := defScope s_names_L) (by decide +kernel)) (fun _ _ _ _ _ => (pg_name (i := 6) sc_names_L.nd rfl (.inl rfl))) (fun _ _ _ _ _ => pts_nil) (fun _ _ _ _ _ => (pe_op op_add_str (pe_op op_add_str (pe_slice sl_str (pv 2) po_none (po_some (pv 4))) (pe_ix ix_str (pv 1) (pe_op op_mod (pe_op op_add (pv 3) (pe_op op_mulW pe_int (pv 6))) pe_int) (fun _ _ => rfl))) (pe_slice sl_str (pv 2) (po_some (pv 4)) po_none))))
    (pss_one (ps_ret (pe_lc (own := [("_law_k", 6), ("_law_name", 7)]) rfl sc_names_L.nd (pi_enum (by rfl) T.m_enumerate (pa_cons (pv 5) pa_nil)) (blkOk_by (N := ["_law_box_here", "_law_signs", "_law_stem", "_law_first", "_law_at", "_law_names_here", "_law_k", "_law_name"]) (sc := defScope s_names_L) (by decide +kernel)) (fun _ _ _ _ _ => (pg_tupK (K := K) (n := 2) rfl rfl (pgs_cons (pg_name (i := 6) sc_names_L.nd rfl (.inl rfl)) (pgs_cons (pg_name (i := 7) sc_names_L.nd rfl (.inl rfl)) pgs_nil)))) (fun _ _ _ _ _ => pts_nil) (fun _ _ _ _ _ => (pe_op op_add_str (pv 7) (pe_op op_mul01 pe_str (pe_op op_mod (pv 6) pe_int)))))))))))), ?_⟩)
  · obtain ⟨bx, n, rfl, _⟩ := h
    rfl
  · obtain ⟨bx, n, rfl, hB, hn, q⟩ := h
    have hsg : (Str.ofString "abcdefghijklmnopqrstuvwxyz").length = 26 := by decide +kernel
    have hsl : ((Str.ofString "abcdefghijklmnopqrstuvwxyz").cps.toList.length : Int) = 26 := by decide +kernel
    walk_at "go"
    refine ⟨⟨_, rfl⟩, ?_⟩
    refine lcDraw (n := 6) (m := n) (bx := bx) (fun v => ∃ y, v = .str y ∧ one1 y) hB (by decide) (fun _ => rfl) (fun k H1 Q' hk hB1 kk => ?_) fun D H1 xs nD b1 hB1 e1 l1 p1 => ?_
    · walk_at "go"
      refine r_take hB1 (fun d H2 h0 h1 hB2 b2 => ?_)
      refine r_ixS h0 (by rw [hsl]; exact h1) (by rw [hsg]; decide) fun c hc => ?_
      exact kk _ H2 ⟨_, rfl, sign_ok (signs_low c (List.mem_of_getElem? hc))⟩ hB2 b2
    obtain ⟨ys, rfl, ly, hys⟩ := strs_of p1
    rw [l1] at ly
    refine ⟨_, D, ys, rfl, rfl, .inl (sqL e1), by rw [sum1 hys, ly]; decide, ?_⟩
    obtain ⟨jl, jn⟩ := join_low hys (by rw [ly]; decide)
    rw [ly] at jn
    generalize Txt.join (Str.ofString "") ys = stem at jl jn ⊢
    walk_at "go"
    refine r_take hB1 fun d1 H2 h01 h11 hB2 b2 => ?_
    walk_at "go"
    refine r_take hB2 fun d2 H3 h02 h12 hB3 b3 => ?_
    walk_at "go"
    refine newT fun tp H4 n4 s4 e4 => ?_
    refine ⟨tp, _, rfl, sqT e4, rfl, _, _, rfl, _, _, rfl, rfl, ?_⟩
    walk_at "go"
    refine r_take (hB3.same s4) fun d3 H5 h03 h13 hB5 b5 => ?_
    have bb : But bx H H5 := ((b1.trans b2).trans b3).trans ((But.of s4).trans b5)
    walk_at "go"
    refine iteC (fun h3 => ?_) (fun h3 => ?_)
    · walk_at "go"
      refine lcDraw (n := 7) (m := n + 9) (bx := bx) (fun v => ∃ y, v = .str y ∧ nameOk y = true) (hB5.mono (by omega)) (by decide) (fun _ => rfl) (fun k G Q' hk hBG kk => ?_) fun D2 G xs nD2 bG hBG eG lG pG => ?_
      · walk_at "go"
        refine r_ixS h01 (by rw [hsl]; exact h11) (by rw [hsg]; decide) fun c hc => ?_
        have hc1 := sign_ok (signs_low c (List.mem_of_getElem? hc))
        have hc2 : (⟨#[c]⟩ : Str).length = 1 := rfl
        refine ⟨stem, ⟨#[c]⟩, rfl, rfl, by rw [jn, hc2, sizeLine_eq]; decide, ?_⟩
        walk_at "go"
        refine r_I (by decide) ?_
        walk_at "go"
        have hl : (stem ++ (⟨#[c]⟩ : Str)).length = 7 := by rw [str_len_add, jn, hc2]
        refine ⟨_, rfl, by rw [hl, sizeLine_eq]; decide, ?_⟩
        have m0 : 0 ≤ ((k : Int) + d2) % 7 := Int.emod_nonneg _ (by decide)
        have m1 : ((k : Int) + d2) % 7 < 7 := Int.emod_lt_of_pos _ (by decide)
        refine kk _ G ⟨_, rfl, nameOk_of (low_cut (low_app jl hc1.1)) ?_ ?_⟩ (hBG.mono (by omega)) But.refl
        · rw [cut_pre (by omega), hl]
          omega
        · rw [cut_pre (by omega), hl]
          omega
      · obtain ⟨NS, rfl, lN, hN⟩ := strs_of pG
        have nDH : H D2 = none := by
          cases w : H D2 with
          | none => rfl
          | some u => rw [bb _ _ (hB5.ne nD2) w] at nD2; exact nomatch nD2
        exact q D2 G NS nDH (bb.trans bG) (hBG.mono (by omega)) eG (by rw [lN, lG]) hN
    · walk_at "go"
      refine lcDraw (n := 7) (m := n + 9) (bx := bx) (fun v => ∃ y, v = .str y ∧ (lowS y ∧ y.length = 7)) (hB5.mono (by omega)) (by decide) (fun _ => rfl) (fun k G Q' hk hBG kk => ?_) fun D2 G xs nD2 bG hBG eG lG pG => ?_
      · walk_at "go"
        refine ⟨stem, rfl, by rw [jn, sizeLine_eq]; decide, ?_⟩
        walk_at "go"
        refine r_I (cmul (by decide) (by decide) (by omega) (by omega)) ?_
        walk_at "go"
        refine r_I (by decide) ?_
        have m0 : 0 ≤ (d1 + 7 * (k : Int)) % 26 := Int.emod_nonneg _ (by decide)
        have m1 : (d1 + 7 * (k : Int)) % 26 < 26 := Int.emod_lt_of_pos _ (by decide)
        refine r_ixS m0 (by rw [hsl]; exact m1) (by rw [hsg]; decide) fun c hc => ?_
        have hc1 := sign_ok (signs_low c (List.mem_of_getElem? hc))
        have hc2 : (⟨#[c]⟩ : Str).length = 1 := rfl
        have l1' : (cutS stem none (some d2)).length = min d2.toNat 6 := by rw [cut_pre h02, jn]
        have l2' : (cutS stem (some d2) none).length = 6 - min d2.toNat 6 := by rw [cut_suf h02, jn]
        refine ⟨_, ⟨#[c]⟩, rfl, rfl, by rw [l1', hc2, sizeLine_eq]; omega, ?_⟩
        walk_at "go"
        refine ⟨stem, rfl, by rw [jn, sizeLine_eq]; decide, ?_⟩
        refine ⟨_, _, rfl, rfl, by rw [str_len_add, l1', l2', hc2, sizeLine_eq]; omega, ?_⟩
        refine kk _ G ⟨_, rfl, low_app (low_app (low_cut jl) hc1.1) (low_cut jl), ?_⟩ (hBG.mono (by omega)) But.refl
        rw [str_len_add, str_len_add, l1', l2', hc2]
        omega
      · obtain ⟨NS, rfl, lN, hN⟩ := strs_of pG
        have nDH : H D2 = none := by
          cases w : H D2 with
          | none => rfl
          | some u => rw [bb _ _ (hB5.ne nD2) w] at nD2; exact nomatch nD2
        walk_at "go"
        obtain ⟨g, hg⟩ : ∃ g : Nat → Str, g = fun i => NS.getD i "" ++ (if ((i : Nat) : Int) % 2 = 0 then Str.empty else Str.ofString "z") := ⟨_, rfl⟩
        have l7 : NS.length = 7 := by rw [lN, lG]
        have gok : ∀ i, i < 7 → nameOk (g i) = true := fun i hi => by
          have hm : NS.getD i "" ∈ NS := by
            rw [List.getD_eq_getElem?_getD, List.getElem?_eq_getElem (by omega)]
            exact List.getElem_mem _
          obtain ⟨a1, a2⟩ := hN _ hm
          rw [hg]
          show nameOk (NS.getD i "" ++ _) = true
          by_cases c : ((i : Nat) : Int) % 2 = 0
          · rw [if_pos c]
            have e1 : (NS.getD i "" ++ Str.empty).length = 7 := by rw [str_len_add, a2]; rfl
            exact nameOk_of (low_app a1 e_low) (by omega) (by omega)
          · rw [if_neg c]
            have e1 : (NS.getD i "" ++ Str.ofString "z").length = 8 := by rw [str_len_add, a2, z_low.2]
            exact nameOk_of (low_app a1 z_low.1) (by omega) (by omega)
        refine lcEnum (K := K) (a := D2) (fun i => V.str (g i)) (fun QQ z => r_cons (r_var rfl (r_nil z))) (sqL eG) (by rw [List.length_map, l7]; decide) (fun _ _ => rfl) (fun i y G1 Q' hy sm kk => ?_) fun D3 G3 nD3 s3 e3 => ?_
        · rw [List.getElem?_map] at hy
          cases c : NS[i]? with
          | none => rw [c] at hy; exact nomatch hy
          | some z =>
            rw [c] at hy
            obtain rfl := Option.some.inj hy
            have hz := hN z (List.mem_of_getElem? c)
            have hgz : g i = z ++ (if ((i : Nat) : Int) % 2 = 0 then Str.empty else Str.ofString "z") := by
              rw [hg]
              show NS.getD i "" ++ _ = _
              rw [List.getD_eq_getElem?_getD, c]
              rfl
            walk_at "go"
            refine r_I (by decide) ?_
            have m0 : 0 ≤ ((i : Nat) : Int) % 2 := Int.emod_nonneg _ (by decide)
            have m1 : ((i : Nat) : Int) % 2 < 2 := Int.emod_lt_of_pos _ (by decide)
            refine ⟨_, _, rfl, rfl, by omega, ?_⟩
            refine ⟨_, _, rfl, rfl, ?_, ?_⟩
            · have l2 : (if ((i : Nat) : Int) % 2 = 0 then Str.empty else Str.ofString "z").length ≤ 1 := by
                split
                · decide
                · rw [z_low.2]
                  decide
              rw [hz.2, sizeLine_eq]
              omega
            · have w := kk G1 (Same.refl _)
              rw [hgz] at w
              exact w
        · have nD3H : H D3 = none := by
            cases w : H D3 with
            | none => rfl
            | some u => rw [bG _ _ (hBG.ne nD3) (bb _ _ (hBG.ne nD3) w)] at nD3; exact nomatch nD3
          rw [List.length_map] at e3
          refine q D3 G3 ((List.range NS.length).map g) nD3H ((bb.trans bG).same s3) ((hBG.same s3).mono (by omega)) (by rw [e3, List.map_map]; rfl) (by rw [List.length_map, List.length_range]; exact l7) fun y hy => ?_
          obtain ⟨i, hi, rfl⟩ := List.mem_map.mp hy
          exact gok i (by rw [← l7]; exact List.mem_range.mp hi)
end
end K23

namespace K23
open PySem PySem.Spec PyProof.Rows L2 Bk


def markD (m : Addr × Addr × Mk Str) : PyData := .list [askD m.2.2.ask, .int (m.2.2.place : Nat), .int (m.2.2.count : Nat), .int (m.2.2.wide : Nat)]
theorem dps_marks {K : PySem.W.Frag} {H : Hp} : ∀ {ms : List (Addr × Addr × Mk Str)}, (∀ m ∈ ms, H m.1 = some (.lst (markV m))) → (∀ m ∈ ms, H m.2.1 = some (.tup [.str m.2.2.ask.1, .int (m.2.2.ask.2 : Nat)])) → DpAll K H (ms.map fun m => .ref m.1) (ms.map markD)
  | [], _, _ => .nil
  | m :: r, h1, h2 => .cons (.lst (sqL (h1 m List.mem_cons_self)) (.cons (dp_ask (h2 m List.mem_cons_self)) (.cons (.int _) (.cons (.int _) (.cons (.int _) .nil))))) (dps_marks (fun a ha => h1 a (List.mem_cons_of_mem _ ha)) fun a ha => h2 a (List.mem_cons_of_mem _ ha))
theorem lay_marks : ∀ {ms : List (Addr × Addr × Mk Str)}, (∀ m ∈ ms, PyData.strOk m.2.2.ask.1 = true) → PyData.canLayAll0 (ms.map markD) = true ∧ PyData.depthAll (ms.map markD) ≤ 2
  | [], _ => ⟨rfl, Nat.zero_le _⟩
  | m :: r, h => by
    obtain ⟨h1, h2⟩ := lay_marks (ms := r) fun a ha => h a (List.mem_cons_of_mem _ ha)
    have hm := h m List.mem_cons_self
    constructor
    · show (PyData.canLay0 (markD m) && PyData.canLayAll0 _) = true
      rw [h1]
      simp only [markD, askD, PyData.canLay0, PyData.canLayAll0, hm, Bool.true_and]
    · show max (PyData.depth (markD m)) (PyData.depthAll _) ≤ 2
      have : PyData.depth (markD m) ≤ 2 := by
        simp only [markD, askD, PyData.depth, PyData.depthAll]
        decide
      omega
theorem sh_marks {ms : List (Addr × Addr × Mk Str)} (h : ∀ m ∈ ms, PyData.strOk m.2.2.ask.1 = true) : SeqAt.shaped (.list (ms.map markD)) = true := by
  obtain ⟨h1, h2⟩ := lay_marks h
  unfold SeqAt.shaped
  simp only [PyData.canLay0, h1, PyData.depth, Bool.true_and, decide_eq_true_eq]
  exact decide_eq_true (Nat.le_trans (Nat.succ_le_succ h2) (show 3 ≤ 64 by decide))
theorem sh_ask2 {as : List (Str × Nat)} (ok : asOk as) : SeqAt.shaped (.list [.list (as.map askD), .list (as.map askD)]) = true := by
  have h := lay_ask ok
  unfold SeqAt.shaped
  simp only [PyData.canLay0, PyData.canLayAll0, h.1, PyData.depth, PyData.depthAll, Bool.true_and, decide_eq_true_eq]
  refine decide_eq_true ?_
  omega
theorem sh_askL {p : Str × Nat} (h : PyData.strOk p.1 = true) : SeqAt.shaped (.list [askD p]) = true := by
  unfold SeqAt.shaped
  simp only [askD, PyData.canLay0, PyData.canLayAll0, PyData.depth, PyData.depthAll, h, Bool.true_and]
  decide
theorem cut_last {x : V} {l : List V} : cutV (l ++ [x]) (some (-1)) none = [x] := by
  unfold cutV HT.sIx
  have e1 : (l ++ [x]).length = l.length + 1 := by rw [List.length_append]; rfl
  rw [e1]
  show List.take (l.length + 1 - (if (-1 : Int) < 0 then Int.toNat (-1 + ((l.length + 1 : Nat) : Int)) else _)) (List.drop (if (-1 : Int) < 0 then Int.toNat (-1 + ((l.length + 1 : Nat) : Int)) else _) (l ++ [x])) = _
  have e2 : Int.toNat (-1 + ((l.length + 1 : Nat) : Int)) = l.length := by omega
  simp only [if_pos (show (-1 : Int) < 0 by decide)]
  rw [e2, List.drop_left, show l.length + 1 - l.length = 1 by omega]
  rfl
theorem itr_stop {s : List (Str × Nat) × List Str} {k : Nat} (h : (itr k s).2 = []) : ∀ j, nxtA (itr (k + j) s) = none ∧ (itr (k + j) s).2 = []
  | 0 => by
    refine ⟨?_, h⟩
    show nxtA (itr k s) = none
    unfold nxtA
    rw [h]
  | j + 1 => by
    obtain ⟨_, h2⟩ := itr_stop h j
    have e : itr (k + (j + 1)) s = itr (k + j) s := by
      show nxt (itr (k + j) s) = _
      unfold nxt
      rw [h2]
    rw [e]
    exact itr_stop h j
theorem cnt_asks (p : Str × Nat) : ∀ l : List (Str × Nat), (l.map askD).countP (fun z => PyData.eqv z (askD p)) = l.countP fun q => decide (q = p)
  | [] => rfl
  | a :: r => by
    rw [List.map_cons, List.countP_cons, List.countP_cons, cnt_asks p r, eqv_ask]
theorem r_eqSame {K : PySem.W.Frag} {H : Hp} {x y : V} {Q : VK} {d : PyData} (h1 : Dp K H x d) (h2 : Dp K H y d) (s : SeqAt.shaped d = true) (q : Q (.bl true) H) : rEqD K x y H Q :=
  ⟨d, d, h1, h2, s, s, by rw [SeqAt.eqv_refl d (SeqAt.canLay_of_shaped s)]; exact q⟩
def spFore (A : Ad) : Sp := fun vs H Q _ => ∃ (NS : List Str) (bx o la lr : Addr) (v : Sv) (as : List (Str × Nat)) (row : List Str) (n : Nat), vs = [.ref bx, .ref o, .ref v.S] ∧ Qs A NS H o la lr v as row ∧ Box bx n H ∧ n < 500000 ∧ bx ∉ [o, la, lr] ++ adrs v ∧
  ∀ H', But bx H H' → Box bx (n + 1) H' → Q (.bl true) H'
section
variable {P : Program} {w : World} {K : PySem.W.Frag} {mg : Str → Option Value} {base : Heap} {A : Ad}
theorem ok_fore {f : Addr} {fd : FuncData} (F : Fun K "_law_foretold" "_law_foretold" s_foretold_L f fd) (T : Txt K mg A) (c_take_L : CalD P w K mg base CX0 1 "_law_take" spTake [])
    (c_Queue_twin : CalM P w K mg base CX0 3 A.CQ "twin" (spTwinQ A)) (c_Queue_waiting : CalM P w K mg base CX0 1 A.CQ "waiting" (spWaiting A)) (c_Queue_serve : CalM P w K mg base CX0 6 A.CQ "serve" (spServe A)) (c_Queue_comes_at : CalM P w K mg base (L2.CX P w) 7 A.CQ "comes_at" (spComes A)) : FnOk P w K mg base CX0 8 f fd ["_law_box_here", "_law_queue", "_law_seen"] (spFore A) := by
  refine F.ok sc_foretold_L (fun vs H Q E h => ?_) (fun cdv A' outer s H vs Q E hr h => have hu65 := units65 hr; have hu64 := hr.units; have hu := units1 hr; ⟨_, (pss_cons (ps_if (pt_cmpR (op_eqD hu64) (pe_dget hu (pv 2) pe_str (fun _ _ => rfl)) (pe_lstB pa_nil) (nomark _)) (pss_one (ps_ret pe_bl)) pss_nil)
    (pss_cons (ps_set (i := 3) sc_foretold_L.nd rfl (.inl rfl) (pe_ix ix_list (pe_ix ix_list (pe_dget hu (pv 2) pe_str (fun _ _ => rfl)) (pe_cal c_take_L hr (by decide) (by rfl) (pa_cons (pv 0) (pa_cons (pe_callB call_len_seq (by rfl) T.m_len (by decide +kernel) (pa_cons (pe_dget hu (pv 2) pe_str (fun _ _ => rfl)) pa_nil)) pa_nil))) (fun _ _ => rfl)) pe_int (fun _ _ => rfl)))
    (pss_cons (ps_set (i := 4) sc_foretold_L.nd rfl (.inr rfl) (pe_mth0 (pv 1) T.cl_Queue c_Queue_twin hr (by decide) ps0))
    (pss_cons (ps_if (pt_cmpR (op_neD hu64) (pe_lstB (pa_cons (pe_mth0 (pv 1) T.cl_Queue c_Queue_waiting hr (by decide) ps0) (pa_cons (pe_mth0 (pv 4) T.cl_Queue c_Queue_waiting hr (by decide) ps0) pa_nil))) (pe_op op_rep (pe_lstB (pa_cons (pe_lc (own := [("_law_mark", 7)]) rfl sc_foretold_L.nd (pi_list (pe_dget hu (pv 2) pe_str (fun _ _ => rfl))) (blkOk_by (N := ["_law_box_here", "_law_queue", "_law_seen", "_law_ask", "_law_other", "_law_told", "_law_k", "_law_mark"]) (sc := defScope s_foretold_L) (by decide +kernel)) (fun _ _ _ _ _ => (pg_name (i := 7) sc_foretold_L.nd rfl (.inl rfl))) (fun _ _ _ _ _ => pts_nil) (fun _ _ _ _ _ => (pe_ix (ix_listK (K := K) rfl) (pv 7) pe_int (fun _ _ => rfl)))) pa_nil)) pe_int) (nomark _)) (pss_one (ps_ret pe_bl)) pss_nil)
    (pss_cons (ps_setLc (i := 5) (own := [("_law_k", 6)]) rfl sc_foretold_L.nd rfl rfl (sw_true rfl rfl rfl (by decide +kernel)) (pi_range1 (by rfl) T.m_range (pa_cons (pe_mth (pv 1) T.cl_Queue c_Queue_comes_at hr (by decide) psY (pa_cons (pe_ix ix_tup (pv 3) pe_int (fun _ _ => rfl)) (pa_cons (pe_ix ix_tup (pv 3) pe_int (fun _ _ => rfl)) pa_nil))) pa_nil)) (blkOk_by (N := ["_law_box_here", "_law_queue", "_law_seen", "_law_ask", "_law_other", "_law_told", "_law_k", "_law_mark"]) (sc := defScope s_foretold_L) (by decide +kernel)) (fun _ _ _ _ _ => (pg_name (i := 6) sc_foretold_L.nd rfl (.inl rfl))) (fun _ _ _ _ _ => pts_nil) (fun _ _ _ _ _ => (pe_mth0 (pv 4) T.cl_Queue c_Queue_serve hr (by decide) ps0)))
    (pss_one (ps_ret (pe_and (pe_cmpR (op_eqD hu64) (pe_slice sl_list (pv 5) (po_some (pe_un un_neg pe_int)) po_none) (pe_lstB (pa_cons (pv 3) pa_nil)) (nomark _)) (pe_one (pe_cmpR op_eq (pe_bm PySem.F.plainAttrs_list PySem.F.slot_list_count PySem.F.type_list_count (mt_countD hu64) (pv 5) (pa_cons (pv 3) pa_nil)) pe_int (nomark _))))))))))), ?_⟩)
  · obtain ⟨NS, bx, o, la, lr, v, as, row, n, rfl, _⟩ := h
    rfl
  · obtain ⟨NS, bx, o, la, lr, v, as, row, n, rfl, hQ, hB, hn, nbx, q⟩ := h
    obtain ⟨nn, ts, n9, hq⟩ := hQ.qu
    obtain ⟨dx, fs, e, _, _, hnn⟩ := hq.ob
    have L0 := hQ.sn.ly
    walk_at "go"
    refine r_dgT rfl (.inl L0.eS) top_m ?_
    walk_at "go"
    refine newLB fun p1 H1 n1 g1 s1 e1 => ?_
    have L1 := L0.same s1
    have hks : ∀ m ∈ v.marks, m.2.2.ask ∈ as := fun m hm => by rw [← hQ.sn.inv.mks]; exact List.mem_map.mpr ⟨m.2.2, List.mem_map.mpr ⟨m, hm, rfl⟩, rfl⟩
    have hko : ∀ m ∈ v.marks, PyData.strOk m.2.2.ask.1 = true := fun m hm => str_of_name (hq.ok _ (hks m hm))
    refine ⟨_, .list [], .lst (sqL L1.em) (dps_marks L1.ek L1.tu), .lst (sqL e1) .nil, sh_marks hko, sh_nil, ?_⟩
    rw [eqv_nil]
    by_cases hz : v.marks = []
    · rw [decide_eq_true (by rw [hz]; rfl)]
      walk_at "go"
      exact q H1 (.of s1) ((hB.same s1).mono (by omega))
    · rw [decide_eq_false (fun z => hz (List.map_eq_nil_iff.mp z))]
      walk_at "go"
      have hml : 0 < v.marks.length := List.length_pos_iff.mpr hz
      have hmL := hQ.sn.mln
      refine r_dgT rfl (.inl L1.eS) top_m ?_
      walk_at "go"
      refine r_dgT rfl (.inl L1.eS) top_m ?_
      walk_at "go"
      refine ⟨v.ml, _, rfl, .inl (sqL L1.em), ?_⟩
      walk_at "go"
      rw [List.length_map]
      refine r_take (hB.same s1) (fun d H2 h0 h1 hB2 b2 => ?_) (by omega) (by omega) (by omega)
      have nba : ∀ b ∈ adrs v, b ≠ bx := fun b hb z => nbx (by rw [← z]; exact List.mem_append_right _ hb)
      have nbo : ∀ b ∈ [o, la, lr], b ≠ bx := fun b hb z => nbx (by rw [← z]; exact List.mem_append_left _ hb)
      have ebx : ∃ xs, H1 bx = some (.lst xs) := by obtain ⟨x1, y1, z1, eB, _⟩ := hB.same s1; exact ⟨_, eB⟩
      obtain ⟨bxs, ebx⟩ := ebx
      have t2 : ∀ b xs, H1 b = some (.tup xs) → H2 b = some (.tup xs) := fun b xs eb => b2 _ _ (ne_ct eb ebx nofun) eb
      have L2' : Ly H2 v := L1.keep (fun b u hb eb => b2 _ _ (nba b hb) eb) t2
      have hq2 : Qu A.CQ nn H2 o la lr ts as row := (hq.same s1).keep (fun b u hb eb => b2 _ _ (nbo b hb) eb) t2
      have bH : But bx H H2 := (But.of s1).trans b2
      walk_at "go"
      refine r_ixLo (sqL L2'.em) h0 (by rw [List.length_map]; exact h1) fun mv hmv _ => ?_
      obtain ⟨m, hm, rfl⟩ := List.mem_map.mp hmv
      walk_at "go"
      refine r_ixL (sqL (L2'.ek m hm)) (v := .ref m.2.1) rfl ?_
      walk_at "go"
      have tm2 := L2'.tu m hm
      obtain ⟨dx2, fs2, eo2, _, _, hn2⟩ := hq2.ob
      refine ⟨o, dx2, fs2, rfl, eo2, hn2.2 _ (by decide +kernel) (by decide +kernel), ?_⟩
      walk_at "go"
      refine ⟨o, la, lr, nn, ts, as, row, rfl, hq2, fun y la2 lr2 H3 s3 hY fr => ?_⟩
      walk_at "go"
      have hq3 := hq2.same s3
      have L3 := L2'.same s3
      obtain ⟨dx3, fs3, eo3, _, _, hn3⟩ := hq3.ob
      obtain ⟨dy3, fy3, ey3, _, _, hny3⟩ := hY.ob
      refine ⟨o, dx3, fs3, rfl, eo3, hn3.2 _ (by decide +kernel) (by decide +kernel), ?_⟩
      walk_at "go"
      refine ⟨o, la, lr, nn, ts, as, row, rfl, hq3, fun w1 H4 nw1 s4 a4 => ?_⟩
      walk_at "go"
      refine ⟨y, dy3, fy3, rfl, s4 _ _ ey3, hny3.2 _ (by decide +kernel) (by decide +kernel), ?_⟩
      walk_at "go"
      refine ⟨y, la2, lr2, 4, ts, as, row, rfl, hY.same s4, fun w2 H5 nw2 s5 a5 => ?_⟩
      walk_at "go"
      refine newLB fun pw H6 n6 g6 s6 e6 => ?_
      walk_at "go"
      have s36 := s4.trans (s5.trans s6)
      have L6 := L3.same s36
      have hq6 := hq3.same s36
      refine lcLF (fun k => some (V.ref ((v.marks.getD k (0, 0, ⟨("", 0), 0, 0, 0⟩)).2.1))) (fun QQ z => r_dgT rfl (.inl L6.eS) top_m z) (sqL L6.em) (by rw [List.length_map]; omega) (fun _ => rfl) (fun k yv H7 Q' R' hy sm h1' h2' => ?_) fun D H7 nD s7 e7 => ?_
      · rw [List.getElem?_map] at hy
        have hy : (v.marks[k]?).map (fun (m : Addr × Addr × Mk Str) => V.ref m.1) = some yv := hy
        cases c : v.marks[k]? with
        | none => rw [c] at hy; exact nomatch hy
        | some m1 =>
          rw [c] at hy
          obtain rfl := Option.some.inj hy
          have hg : v.marks.getD k (0, 0, ⟨("", 0), 0, 0, 0⟩) = m1 := by rw [List.getD_eq_getElem?_getD, c]; rfl
          rw [hg] at h1'
          refine r_yes ?_
          walk_at "go"
          refine r_ixL (sqL (sm _ _ (L6.ek m1 (List.mem_of_getElem? c)))) (v := .ref m1.2.1) rfl ?_
          exact h1' _ rfl _ (Same.refl _)
      · have e7 : H7 D = some (.lst ((v.marks.map (·.2.1)).map V.ref)) := by
          have z := rng_fm ((0, 0, ⟨("", 0), 0, 0, 0⟩) : Addr × Addr × Mk Str) v.marks (fun m => some (V.ref m.2.1))
          rw [e7, List.length_map]
          refine congrArg (fun l => some (HO.lst l)) (z.trans ?_)
          rw [List.map_map]
          exact congrFun (List.filterMap_eq_map' ..) _
        have aD : AL H7 D (v.marks.map (·.2.1)) as := by
          refine ⟨e7, ?_, fun k t0 p0 hk1 hk2 => ?_⟩
          · rw [← hQ.sn.inv.mks, List.length_map, List.length_map, List.length_map]
          · rw [List.getElem?_map] at hk1
            rw [← hQ.sn.inv.mks, List.getElem?_map, List.getElem?_map] at hk2
            cases c : v.marks[k]? with
            | none => rw [c] at hk1; exact nomatch hk1
            | some m1 =>
              rw [c] at hk1 hk2
              obtain rfl := Option.some.inj hk1
              obtain rfl := Option.some.inj hk2
              exact s7 _ _ (L6.tu m1 (List.mem_of_getElem? c))
        walk_at "go"
        refine newLB fun pd H8 n8 g8 s8 e8 => ?_
        walk_at "go"
        refine ⟨pd, 2, _, rfl, rfl, e8, by decide, by decide, by rw [sizeLine_eq]; show 1 * 2 ≤ 16777216; decide, fun pr npr => ?_⟩
        have s9 := same_upd (o := .lst (List.replicate (Int.toNat 2) [V.ref D]).flatten) npr
        have e9 : upd H8 pr (.lst (List.replicate (Int.toNat 2) [V.ref D]).flatten) pr = some (.lst [.ref D, .ref D]) := by rw [upd_same]; rfl
        generalize upd H8 pr (.lst (List.replicate (Int.toNat 2) [V.ref D]).flatten) = H9 at s9 e9 ⊢
        have ao := hq.ao
        have s79 := s8.trans s9
        have aD9 := aD.same s79
        have a49 := a4.same ((s5.trans s6).trans (s7.trans s79))
        have a59 := a5.same (s6.trans (s7.trans s79))
        refine r_neSame (d := .list [.list (as.map askD), .list (as.map askD)]) (.lst (sqL ((s7.trans s79) _ _ e6)) (.cons a49.dp (.cons a59.dp .nil))) (.lst (sqL e9) (.cons aD9.dp (.cons aD9.dp .nil))) (sh_ask2 ao) ?_
        have s39 := s36.trans (s7.trans s79)
        have hq9 := hq3.same s39
        have hY9 := hY.same s39
        have tm9 := s39 _ _ (s3 _ _ tm2)
        clear aD aD9 a49 a59 a4 a5 e6 e7 e8 e9 L6 hq6
        walk_at "go"
        obtain ⟨dx9, fs9, eo9, _, _, hn9⟩ := hq9.ob
        unfold tLc iRng1
        walk_at "go"
        refine ⟨o, dx9, fs9, rfl, eo9, hn9.2 _ (by decide +kernel) (by decide +kernel), ?_⟩
        walk_at "go"
        refine r_ixT (sqT tm9) (v := .str m.2.2.ask.1) rfl ?_
        walk_at "go"
        refine r_ixT (sqT tm9) (v := .int (m.2.2.ask.2 : Nat)) rfl ?_
        refine ⟨o, la, lr, nn, ts, as, row, m.2.2.ask.1, m.2.2.ask.2, rfl, hq9, hks m hm, fun mm HA sA hmm hnA hno => ?_⟩
        walk_at "go"
        have hsm := hQ.sn.small
        refine ⟨_, rfl, by omega, by omega, fun D2 nD2 => ?_⟩
        have e1' : Int.toNat ((mm : Nat) + 1 : Int) = mm + 1 := by omega
        rw [e1']
        have hYA := hY9.same sA
        have tmA := sA _ _ tm9
        have sH2A : Same H2 HA := s3.trans (s39.trans sA)
        have hyn := fr y (by simp)
        have frA : ∀ b ∈ [la2, lr2], b ≠ D2 := fun b hb z => by
          simp only [List.mem_cons, List.not_mem_nil, or_false] at hb
          rcases hb with rfl | rfl
          · rw [← z, hYA.al.at_] at nD2; exact nomatch nD2
          · rw [← z, hYA.rw_] at nD2; exact nomatch nD2
        have nonlast : ∀ k, k ≤ mm → (itr k (as, row)).2 ≠ [] := fun k hk z => by
          have w := (itr_stop z (mm - k)).1
          rw [show k + (mm - k) = mm by omega, hnA] at w
          exact nomatch w
        refine lc_it (g := gName 6) (tt := tYes) (vs := [6]) (σ := _) (n := mm + 1) walk_range (fun i G => Same H2 G ∧ (∃ ts', Qu A.CQ 4 G y la2 lr2 ts' (itr i (as, row)).1 (itr i (as, row)).2) ∧ ∃ us : List Addr, G D2 = some (.lst (us.map V.ref)) ∧ us.length = i ∧ ∀ (k : Nat) (u : Addr), us[k]? = some u → ∃ p : Str × Nat, nxtA (itr k (as, row)) = some p ∧ nameOk p.1 = true ∧ G u = some (.tup [.str p.1, .int (p.2 : Nat)]))
          ⟨fun b u eb => by rw [upd_ne (fun z => by rw [z, sH2A.free nD2] at eb; exact nomatch eb)]; exact sH2A _ _ eb, ⟨ts, hYA.keep (fun b u hb eb => by rw [upd_ne (fun z => by rw [← z, eb] at nD2; exact nomatch nD2)]; exact eb) fun b xs eb => by rw [upd_ne (fun z => by rw [← z, eb] at nD2; exact nomatch nD2)]; exact eb⟩, [], upd_same, rfl, fun k u z => nomatch z⟩ (fun _ _ _ _ => trivial) (fun i xv G1 G2 hi hP hYd => ?_) fun G hP => ?_
        · obtain ⟨sG, ⟨ts', hG⟩, us, eD, lu, all⟩ := hP
          obtain ⟨rfl, rfl⟩ := hYd
          refine ⟨rfl, r_yes ?_⟩
          have hnl := nonlast i (by omega)
          have hstep : itr (i + 1) (as, row) = nxt (itr i (as, row)) := rfl
          generalize hs : itr i (as, row) = st at hG hnl hstep
          obtain ⟨as', row'⟩ := st
          have hG : Qu A.CQ 4 G2 y la2 lr2 ts' as' row' := hG
          obtain ⟨dy, fy, ey, _, _, hny⟩ := hG.ob
          walk_at "go"
          refine ⟨y, dy, fy, rfl, ey, hny.2 _ (by decide +kernel) (by decide +kernel), ?_⟩
          walk_at "go"
          refine ⟨y, la2, lr2, 4, ts', as', row', rfl, hG, fun z => absurd z hnl, fun x' rest i' j t' H3 hr' hi' hj nt' k3 hG3 et' => ?_⟩
          subst hr'
          have hst : itr (i + 1) (as, row) = (as'.eraseIdx j, srvRow as' x' rest) := hstep.trans (nxt_of hi' hj)
          have nA : nxtA (itr i (as, row)) = some (x', i') := by
            rw [hs]
            show (ofN as' x').head?.map _ = _
            rw [hi']
            rfl
          have hx' : nameOk x' = true := hG.ok _ (mem_ofN.mp (List.mem_of_head? hi'))
          have eD3 := k3 _ _ (frA la2 (by simp)).symm (frA lr2 (by simp)).symm eD
          have t3 : ∀ {b : Addr} {xs : List V}, G2 b = some (.tup xs) → H3 b = some (.tup xs) := fun {b xs} eb => k3 _ _ (ne_ct eb hG.al.at_ nofun) (ne_ct eb hG.rw_ nofun) eb
          have nD2H : H2 D2 = none := sH2A.free nD2
          refine ⟨_, eD3, by rw [List.length_map, lu, sizeLine_eq]; omega, fun b u eb => ?_, ⟨ts'.eraseIdx j, ?_⟩, us ++ [t'], by rw [upd_same, List.map_append]; rfl, by rw [List.length_append, lu]; rfl, fun k u hk => ?_⟩
          · rw [upd_ne (fun z => by rw [z, nD2H] at eb; exact nomatch eb)]
            have f1 := fr la2 (by simp)
            have f2 := fr lr2 (by simp)
            exact k3 _ _ (fun z => by rw [z, f1] at eb; exact nomatch eb) (fun z => by rw [z, f2] at eb; exact nomatch eb) (sG _ _ eb)
          · rw [hst]
            refine hG3.keep (fun b u hb eb => ?_) fun b xs eb => by rw [upd_ne (ne_ct eb eD3 nofun)]; exact eb
            refine (upd_ne fun z => ?_).trans eb
            simp only [List.mem_cons, List.not_mem_nil, or_false] at hb
            rcases hb with h | h | h
            · rw [← z, h, ey] at eD; exact nomatch eD
            · exact frA la2 (by simp) (by rw [← h, z])
            · exact frA lr2 (by simp) (by rw [← h, z])
          · have neD : ∀ {u : Addr} {xs : List V}, H3 u = some (.tup xs) → u ≠ D2 := fun eb => ne_ct eb eD3 nofun
            by_cases hki : k < i
            · rw [List.getElem?_append_left (by omega)] at hk
              obtain ⟨p, a1, a2, a3⟩ := all k u hk
              exact ⟨p, a1, a2, by rw [upd_ne (neD (t3 a3))]; exact t3 a3⟩
            · have e5 : k = i := by
                have := (List.getElem?_eq_some_iff.mp hk).1
                rw [List.length_append] at this
                have h1 : [t'].length = 1 := rfl
                omega
              subst e5
              rw [List.getElem?_append_right (by omega), lu, Nat.sub_self] at hk
              obtain rfl := Option.some.inj hk
              exact ⟨(x', i'), nA, hx', by rw [upd_ne (neD et')]; exact et'⟩
        · obtain ⟨sG, _, us, eD, lu, all⟩ := hP
          have bG : But bx H G := bH.same sG
          have hBG := hB2.same sG
          have tmG := sG _ _ tm2
          obtain ⟨f, hf⟩ : ∃ f : Nat → Str × Nat, f = fun k => (nxtA (itr k (as, row))).getD ("", 0) := ⟨_, rfl⟩
          obtain ⟨us0, ul, rfl⟩ : ∃ us0 ul, us = us0 ++ [ul] := by
            have hne : us ≠ [] := fun z => by rw [z] at lu; exact nomatch lu
            exact ⟨us.dropLast, us.getLast hne, (List.dropLast_concat_getLast hne).symm⟩
          have l0 : us0.length = mm := by
            rw [List.length_append] at lu
            have h1 : [ul].length = 1 := rfl
            omega
          have eul : G ul = some (.tup [.str m.2.2.ask.1, .int (m.2.2.ask.2 : Nat)]) := by
            obtain ⟨p, a1, a2, a3⟩ := all mm ul (by rw [List.getElem?_append_right (by omega), l0, Nat.sub_self]; rfl)
            rw [hnA] at a1
            obtain rfl := Option.some.inj a1
            exact a3
          have hlen : ((us0 ++ [ul]).map V.ref) = us0.map V.ref ++ [V.ref ul] := by rw [List.map_append]; rfl
          have dall : DpAll K G ((us0 ++ [ul]).map V.ref) (((List.range (mm + 1)).map f).map askD) := by
            refine dps_of (by rw [lu, List.length_map, List.length_range]) fun k t0 p0 hk1 hk2 => ?_
            obtain ⟨p, a1, a2, a3⟩ := all k t0 hk1
            have hkl : k < mm + 1 := by rw [← lu]; exact (List.getElem?_eq_some_iff.mp hk1).1
            rw [List.getElem?_map, List.getElem?_range hkl] at hk2
            have : f k = p := by rw [hf]; show (nxtA (itr k (as, row))).getD _ = _; rw [a1]; rfl
            obtain rfl := Option.some.inj hk2
            rw [this]
            exact a3
          walk_at "go"
          refine ⟨D2, _, rfl, sqL eD, fun pc npc => ?_⟩
          have sc := same_upd (o := .lst (cutV ((us0 ++ [ul]).map V.ref) (some (-1)) none)) npc
          have ec : upd G pc (.lst (cutV ((us0 ++ [ul]).map V.ref) (some (-1)) none)) pc = some (.lst [V.ref ul]) := by
            rw [upd_same, hlen, cut_last]
          generalize upd G pc (.lst (cutV ((us0 ++ [ul]).map V.ref) (some (-1)) none)) = G1 at sc ec ⊢
          walk_at "go"
          refine newLB fun pe G2 ne2 ge2 se ee => ?_
          have hok := str_of_name (hq.ok _ (hks m hm))
          refine r_eqSame (d := .list [askD m.2.2.ask]) (.lst (sqL (se _ _ ec)) (.cons (dp_ask ((sc.trans se) _ _ eul)) .nil)) (.lst (sqL ee) (.cons (dp_ask ((sc.trans se) _ _ tmG)) .nil)) (sh_askL hok) ?_
          walk_at "go"
          have sc2 := sc.trans se
          refine ⟨.inl ⟨rfl, _, sqL (sc2 _ _ eD)⟩, ?_⟩
          walk_at "go"
          have dall2 : DpAll K G2 ((us0 ++ [ul]).map V.ref) (((List.range (mm + 1)).map f).map askD) := by
            refine dps_of (by rw [lu, List.length_map, List.length_range]) fun k t0 p0 hk1 hk2 => ?_
            obtain ⟨p, a1, a2, a3⟩ := all k t0 hk1
            have hkl : k < mm + 1 := by rw [← lu]; exact (List.getElem?_eq_some_iff.mp hk1).1
            rw [List.getElem?_map, List.getElem?_range hkl] at hk2
            have : f k = p := by rw [hf]; show (nxtA (itr k (as, row))).getD _ = _; rw [a1]; rfl
            obtain rfl := Option.some.inj hk2
            rw [this]
            exact sc2 _ _ a3
          refine ⟨D2, _, _, _, askD m.2.2.ask, rfl, rfl, sc2 _ _ eD, dall2, dp_ask (sc2 _ _ tmG), plain_ask _, by simp only [askD, PyData.plain, PyData.plainAll]; rfl, by simp only [askD, PyData.depth, PyData.depthAll]; decide, ?_⟩
          have cnt : ((List.range (mm + 1)).map f).countP (fun q => decide (q = m.2.2.ask)) = 1 := by
            rw [List.range_succ, List.map_append, List.countP_append]
            have h1 : ((List.range mm).map f).countP (fun q => decide (q = m.2.2.ask)) = 0 := List.countP_eq_zero.mpr fun q hq' => by
              obtain ⟨k, hk, rfl⟩ := List.mem_map.mp hq'
              have hkm := List.mem_range.mp hk
              have hkl : k < (us0 ++ [ul]).length := by rw [lu]; omega
              obtain ⟨p, a1, a2, a3⟩ := all k _ (List.getElem?_eq_getElem hkl)
              have w := hno k hkm
              simp only [decide_eq_true_eq]
              intro z
              rw [hf] at z
              have z : (nxtA (itr k (as, row))).getD ("", 0) = m.2.2.ask := z
              rw [a1] at z
              have z : p = m.2.2.ask := z
              exact w (by rw [a1, z])
            have h2 : f mm = m.2.2.ask := by rw [hf]; show (nxtA (itr mm (as, row))).getD _ = _; rw [hnA]; rfl
            rw [h1]
            show 0 + List.countP _ [f mm] = 1
            rw [List.countP_cons, h2, decide_eq_true rfl]
            rfl
          rw [cnt_asks, cnt]
          walk_at "go"
          exact q G2 (bG.same sc2) (hBG.same sc2)
end
end K23

namespace K23
open PySem PySem.Spec PyProof.Rows L2 Bk


structure MvB (bx : Addr) (H H' : Hp) (fp fp' : List Addr) : Prop where
  k : ∀ b u, b ≠ bx → b ∉ fp → H b = some u → H' b = some u
  f : ∀ a ∈ fp', a ∈ fp ∨ H a = none
theorem MvB.trans {bx : Addr} {H H1 H2 : Hp} {fp fp1 fp2 : List Addr} (x : MvB bx H H1 fp fp1) (y : MvB bx H1 H2 fp1 fp2) {u : HO} (hb : H1 bx = some u) : MvB bx H H2 fp fp2 := by
  refine ⟨fun b u nb nf eb => y.k b u nb (fun z => (x.f b z).elim nf fun w => by rw [w] at eb; exact nomatch eb) (x.k b u nb nf eb), fun a ha => ?_⟩
  rcases y.f a ha with h | h
  · exact x.f a h
  · cases c : H a with
    | none => exact .inr rfl
    | some u =>
      by_cases d : a ∈ fp
      · exact .inl d
      · by_cases e : a = bx
        · rw [e, hb] at h; exact nomatch h
        · rw [x.k a u e d c] at h; exact nomatch h
theorem Mvd.b {bx : Addr} {H H' : Hp} {fp fp' : List Addr} (m : Mvd H H' fp fp') : MvB bx H H' fp fp' := ⟨fun b u _ nb eb => m.1 b u nb eb, m.2⟩
theorem MvB.but {bx : Addr} {H H' : Hp} {fp : List Addr} (b : But bx H H') : MvB bx H H' fp fp := ⟨fun c u nc _ ec => b c u nc ec, fun _ ha => .inl ha⟩
theorem box_ex {bx : Addr} {m : Nat} {H : Hp} (h : Box bx m H) : ∃ xs, H bx = some (.lst xs) := by
  obtain ⟨x1, y1, z1, eB, _⟩ := h
  exact ⟨_, eB⟩
theorem Qs.but {A : Ad} {NS : List Str} {H H' : Hp} {o la lr bx : Addr} {v : Sv} {as : List (Str × Nat)} {row : List Str} {m : Nat} (hQ : Qs A NS H o la lr v as row) (hB : Box bx m H) (nb : bx ∉ [o, la, lr] ++ adrs v) (b : But bx H H') : Qs A NS H' o la lr v as row := by
  obtain ⟨xs, eb⟩ := box_ex hB
  have t : ∀ c ys, H c = some (.tup ys) → H' c = some (.tup ys) := fun c ys ec => b _ _ (ne_ct ec eb nofun) ec
  obtain ⟨n, ts, n9, hq⟩ := hQ.qu
  exact ⟨⟨n, ts, n9, hq.keep (fun c u hc ec => b _ _ (fun z => nb (by rw [← z]; exact List.mem_append_left _ hc)) ec) t⟩, { hQ.sn with ly := hQ.sn.ly.keep (fun c u hc ec => b _ _ (fun z => nb (by rw [← z]; exact List.mem_append_right _ hc)) ec) t }, hQ.ap⟩
/-- between the deeds of a turn -/
def Tn (A : Ad) (NS : List Str) (bx o S : Addr) (H0 : Hp) (fp0 : List Addr) (m N : Nat) (G : Hp) : Prop := ∃ (la lr : Addr) (v : Sv) (as : List (Str × Nat)) (row : List Str), v.S = S ∧ Qs A NS G o la lr v as row ∧ Box bx m G ∧ MvB bx H0 G fp0 ([o, la, lr] ++ adrs v) ∧ ∀ p ∈ as, p.2 % 1000 < N
section
variable {A : Ad} {NS : List Str} {bx o S : Addr} {H0 G G' : Hp} {fp0 : List Addr} {m m' N N' : Nat}
theorem Tn.but (t : Tn A NS bx o S H0 fp0 m N G) (n0 : bx ∉ fp0) {u : HO} (h0 : H0 bx = some u) (hB : Box bx m' G') (b : But bx G G') : Tn A NS bx o S H0 fp0 m' N G' := by
  obtain ⟨la, lr, v, as, row, e, hQ, hB0, mv, hp⟩ := t
  obtain ⟨xs, ex⟩ := box_ex hB0
  have nb : bx ∉ [o, la, lr] ++ adrs v := fun z => (mv.f bx z).elim n0 fun w => by rw [h0] at w; exact nomatch w
  exact ⟨la, lr, v, as, row, e, hQ.but hB0 nb b, hB, mv.trans (.but b) ex, hp⟩
theorem Tn.mono (t : Tn A NS bx o S H0 fp0 m N G) (h1 : m ≤ m') (h2 : N ≤ N') : Tn A NS bx o S H0 fp0 m' N' G := by
  obtain ⟨la, lr, v, as, row, e, hQ, hB0, mv, hp⟩ := t
  exact ⟨la, lr, v, as, row, e, hQ, hB0.mono h1, mv, fun p h => Nat.lt_of_lt_of_le (hp p h) h2⟩
theorem Tn.box (t : Tn A NS bx o S H0 fp0 m N G) : Box bx m G := by
  obtain ⟨la, lr, v, as, row, e, hQ, hB0, mv, hp⟩ := t
  exact hB0
theorem Tn.at_ (t : Tn A NS bx o S H0 fp0 m N G) {b : Addr} {u : HO} (nb : b ≠ bx) (nf : b ∉ fp0) (eb : H0 b = some u) : G b = some u := by
  obtain ⟨la, lr, v, as, row, e, hQ, hB0, mv, hp⟩ := t
  exact mv.k b u nb nf eb
end
theorem lenQ {A : Ad} {NS : List Str} {H H' : Hp} {o la lr la' lr' bx : Addr} {v v' : Sv} {as as' : List (Str × Nat)} {row row' : List Str} (hQ : Qs A NS H o la lr v as row) (hQ' : Qs A NS H' o la' lr' v' as' row') (b : But bx H H') (h : bx ∉ [o, la, lr] ∧ ∃ xs, H bx = some (.lst xs)) : as'.length = as.length := by
  obtain ⟨n, ts, n9, hq⟩ := hQ.qu
  obtain ⟨n', ts', n9', hq'⟩ := hQ'.qu
  obtain ⟨dx, fs, e, e1, e2, _⟩ := hq.ob
  obtain ⟨dx', fs', e', e1', e2', _⟩ := hq'.ob
  have w := b _ _ (fun z => h.1 (by rw [← z]; simp)) e
  rw [e'] at w
  obtain ⟨_, rfl, rfl⟩ : A.CQ = A.CQ ∧ dx' = dx ∧ fs' = fs := by injection (Option.some.inj w) with h1 h2 h3; exact ⟨h1, h2, h3⟩
  rw [e1] at e1'
  obtain rfl : la = la' := by injection (Option.some.inj e1')
  have w2 := b _ _ (fun z => h.1 (by rw [← z]; simp)) hq.al.at_
  rw [hq'.al.at_] at w2
  have w3 : ts'.map V.ref = ts.map V.ref := by injection (Option.some.inj w2)
  have w4 := congrArg List.length w3
  rw [List.length_map, List.length_map, hq.al.len, hq'.al.len] at w4
  exact w4
def spTurn (A : Ad) : Sp := fun vs H Q _ => ∃ (NS : List Str) (bx o la lr np : Addr) (v : Sv) (as : List (Str × Nat)) (row : List Str) (m fresh : Nat), vs = [.ref bx, .ref o, .ref v.S, .ref np, .int (fresh : Nat)] ∧ Qs A NS H o la lr v as row ∧ Box bx m H ∧ m < 400000 ∧ bx ∉ [o, la, lr] ++ adrs v ∧ H np = some (.lst (NS.map V.str)) ∧ np ∉ [o, la, lr] ++ adrs v ∧ np ≠ bx ∧ 2 ≤ NS.length ∧ fresh ≤ 100 ∧ (∀ p ∈ as, p.2 % 1000 < 7 * fresh) ∧
  ∀ H', Tn A NS bx o v.S H ([o, la, lr] ++ adrs v) (m + 40) (7 * (fresh + 1)) H' → Q (.bl true) H'
section
variable {P : Program} {w : World} {K : PySem.W.Frag} {mg : Str → Option Value} {base : Heap} {A : Ad}
theorem ok_turn {f : Addr} {fd : FuncData} (F : Fun K "_law_turn" "_law_turn" s_turn_L f fd) (T : Txt K mg A) (c_take_L : CalD P w K mg base CX0 1 "_law_take" spTake []) (c_Queue_len : CalM P w K mg base CX0 1 A.CQ "__len__" (spLenQ A))
  (c_left_L : CalD P w K mg base CX0 7 "_law_left" (spLeftL A) []) (c_put_L : CalD P w K mg base CX0 6 "_law_put" (spPutL A) []) (c_served_L : CalD P w K mg base CX0 7 "_law_served" (spServedL A) []) (c_foretold_L : CalD P w K mg base CX0 8 "_law_foretold" (spFore A) []) : FnOk P w K mg base CX0 9 f fd ["_law_box_here", "_law_queue", "_law_seen", "_law_names_here", "_law_fresh"] (spTurn A) := by
  refine F.ok sc_turn_L (fun vs H Q E h => ?_) (fun cdv A' outer s H vs Q E hr h => have hu65 := units65 hr; have hu64 := hr.units; have hu := units1 hr; ⟨_, (pss_cons (ps_set (i := 5) sc_turn_L.nd rfl (.inl rfl) (pe_cal c_take_L hr (by decide) (by rfl) (pa_cons (pv 0) (pa_cons pe_int pa_nil))))
    (pss_cons (ps_set (i := 6) sc_turn_L.nd rfl (.inl rfl) (pe_ix ix_list (pv 3) (pe_cal c_take_L hr (by decide) (by rfl) (pa_cons (pv 0) (pa_cons (pe_callB call_len_seq (by rfl) T.m_len (by decide +kernel) (pa_cons (pv 3) pa_nil)) pa_nil))) (fun _ _ => rfl)))
    (C8.pss_cut (ps_if (PW.pt (pw_and (pt_cmpR op_eq (pv 5) pe_int (nomark _)) (pw_and1 (pt_not (pt_val (pe_cal c_left_L hr (by decide) (by rfl) (pa_cons (pv 1) (pa_cons (pv 2) (pa_cons (pv 6) pa_nil))))))))) (pss_one (ps_ret pe_bl)) pss_nil)
    (pss_cons (ps_set (i := 7) sc_turn_L.nd rfl (.inl rfl) (pe_ix ix_list (pv 3) (pe_cal c_take_L hr (by decide) (by rfl) (pa_cons (pv 0) (pa_cons pe_int pa_nil))) (fun _ _ => rfl)))
    (pss_cons (ps_for PassesOwn.never rfl (pi_range1 (by rfl) T.m_range (pa_cons (pe_op op_add pe_int (pe_cal c_take_L hr (by decide) (by rfl) (pa_cons (pv 0) (pa_cons pe_int pa_nil)))) pa_nil)) (pg_name (i := 8) sc_turn_L.nd rfl (.inl rfl))
      (pss_one (ps_if (pt_cmpR op_lt (pe_callB (call_lenO c_Queue_len hr (by decide)) (by rfl) T.m_len (by decide +kernel) (pa_cons (pv 1) pa_nil)) pe_int (nomark _)) (pss_cons (ps_set (i := 9) sc_turn_L.nd rfl (.inl rfl) (pe_ix ix_list (pe_lstB (pa_cons (pv 7) (pa_cons (pe_ix ix_list (pv 3) (pe_cal c_take_L hr (by decide) (by rfl) (pa_cons (pv 0) (pa_cons (pe_callB call_len_seq (by rfl) T.m_len (by decide +kernel) (pa_cons (pv 3) pa_nil)) pa_nil))) (fun _ _ => rfl)) pa_nil))) (pe_cal c_take_L hr (by decide) (by rfl) (pa_cons (pv 0) (pa_cons pe_int pa_nil))) (fun _ _ => rfl)))
    (pss_one (ps_expr (pe_cal c_put_L hr (by decide) (by rfl) (pa_cons (pv 1) (pa_cons (pv 2) (pa_cons (pv 9) (pa_cons (pe_op op_add (pe_op op_add (pe_op op_mulW pe_int (pe_cal c_take_L hr (by decide) (by rfl) (pa_cons (pv 0) (pa_cons pe_int pa_nil)))) (pe_op op_mulW pe_int (pv 4))) (pv 8)) pa_nil)))))))) pss_nil)))
    (pss_cons (ps_for PassesOwn.never rfl (pi_range1 (by rfl) T.m_range (pa_cons (pe_cal c_take_L hr (by decide) (by rfl) (pa_cons (pv 0) (pa_cons pe_int pa_nil))) pa_nil)) (pg_name (i := 8) sc_turn_L.nd rfl (.inl rfl))
      (pss_one (ps_if (pt_not (pt_val (pe_cal c_served_L hr (by decide) (by rfl) (pa_cons (pv 1) (pa_cons (pv 2) pa_nil))))) (pss_one (ps_ret pe_bl)) pss_nil)))
    (pss_one (ps_ret (pe_and (pe_cmpR op_eq (pe_callB (call_lenO c_Queue_len hr (by decide)) (by rfl) T.m_len (by decide +kernel) (pa_cons (pv 1) pa_nil)) (pe_callB call_len_seq (by rfl) T.m_len (by decide +kernel) (pa_cons (pe_dget hu (pv 2) pe_str (fun _ _ => rfl)) pa_nil)) (nomark _)) (pe_one (pe_cal c_foretold_L hr (by decide) (by rfl) (pa_cons (pv 0) (pa_cons (pv 1) (pa_cons (pv 2) pa_nil)))))))))))))), ?_⟩)
  · obtain ⟨NS, bx, o, la, lr, np, v, as, row, m, fresh, rfl, _⟩ := h
    rfl
  · obtain ⟨NS, bx, o, la, lr, np, v, as, row, m, fresh, rfl, hQ, hB, hm, nbx, en, nnp, npb, h2, hf, hnum, q⟩ := h
    obtain ⟨bxs, ebx⟩ := box_ex hB
    have hnl := hQ.sn.nl
    have t0 : Tn A NS bx o v.S H ([o, la, lr] ++ adrs v) m (7 * fresh) H := ⟨la, lr, v, as, row, rfl, hQ, hB, ⟨fun _ _ _ _ e => e, fun a ha => .inl ha⟩, hnum⟩
    have tb : ∀ {m1 m2 N : Nat} {G G' : Hp}, Tn A NS bx o v.S H ([o, la, lr] ++ adrs v) m1 N G → Box bx m2 G' → But bx G G' → Tn A NS bx o v.S H ([o, la, lr] ++ adrs v) m2 N G' := fun t hB' b => t.but nbx ebx hB' b
    have tn : ∀ {m1 N : Nat} {G : Hp}, Tn A NS bx o v.S H ([o, la, lr] ++ adrs v) m1 N G → G np = some (.lst (NS.map V.str)) := fun t => t.at_ npb nnp en
    walk_at "go"
    refine r_take hB fun d1 H1 h01 h11 hB1 b1 => ?_
    have t1 := tb t0 hB1 b1
    walk_at "go"
    refine ⟨np, _, rfl, .inl (sqL (tn t1)), ?_⟩
    walk_at "go"
    rw [List.length_map]
    refine r_take hB1 (fun d2 H2 h02 h12 hB2 b2 => ?_) (by omega) (by omega) (by omega)
    have t2 := tb t1 hB2 b2
    refine r_ixLo (sqL (tn t2)) h02 (by rw [List.length_map]; exact h12) fun gv hgv _ => ?_
    obtain ⟨gone, hgone, rfl⟩ := List.mem_map.mp hgv
    walk_at "go"
    refine r_cut (fun σ G => σ = [some (.ref bx), some (.ref o), some (.ref v.S), some (.ref np), some (.int (fresh : Nat)), some (.int d1), some (.str gone), none, none, none] ∧ Tn A NS bx o v.S H ([o, la, lr] ++ adrs v) (m + 2) (7 * fresh) G) ?_ ?_
    · walk_at "go"
      refine iteC (fun h => ?_) (fun h => ?_)
      · obtain ⟨la2, lr2, v2, as2, row2, e2, hQ2, hB2', mv2, hp2⟩ := t2
        walk_at "go"
        refine ⟨NS, o, la2, lr2, v2, as2, row2, gone, by rw [e2]; rfl, hQ2, hgone, fun la3 lr3 v3 G e3 hQ3 mv3 => ?_⟩
        walk_at "go"
        refine ⟨rfl, la3, lr3, v3, _, _, e3.trans e2, hQ3, ?_, mv2.trans mv3.b (box_ex hB2').choose_spec, fun p hp => hp2 p (List.mem_filter.mp hp).1⟩
        obtain ⟨x1, y1, z1, eB, r⟩ := hB2'
        refine ⟨x1, y1, z1, mv3.1 _ _ (fun z => (mv2.f bx z).elim nbx fun w => by rw [ebx] at w; exact nomatch w) eB, r⟩
      · walk_at "go"
        exact ⟨rfl, t2⟩
    · rintro σ G ⟨rfl, tG⟩
      clear t2 t1 b2 hB2 b1 hB1
      walk_at "go"
      refine r_take tG.box fun d3 H3 h03 h13 hB3 b3 => ?_
      have t3 := tb tG hB3 b3
      refine r_ixLo (sqL (tn t3)) h03 (by rw [List.length_map]; omega) fun nv hnv _ => ?_
      obtain ⟨noisy, hnoisy, rfl⟩ := List.mem_map.mp hnv
      walk_at "go"
      refine r_take hB3 fun d4 H4 h04 h14 hB4 b4 => ?_
      have t4 := tb t3 hB4 b4
      walk_at "go"
      refine ⟨_, rfl, by omega, by omega, ?_⟩
      have hd4 : ((1 : Int) + d4).toNat ≤ 3 := by omega
      generalize ((1 : Int) + d4).toNat = n1 at hd4 ⊢
      refine for_range (lo := 0) (n := n1) (fun k σ G => (∃ x8 x9, σ = [some (.ref bx), some (.ref o), some (.ref v.S), some (.ref np), some (.int (fresh : Nat)), some (.int d1), some (.str gone), some (.str noisy), x8, x9]) ∧ Tn A NS bx o v.S H ([o, la, lr] ++ adrs v) (m + 4 + 4 * k) (7 * fresh + k) G)
        ⟨⟨_, _, rfl⟩, t4.mono (by omega) (by omega)⟩ ?_ ?_
      · rintro k σ G5 hk ⟨⟨x8, x9, rfl⟩, t5⟩
        have t5' := t5
        obtain ⟨la5, lr5, v5, as5, row5, e5, hQ5, hB5, mv5, hp5⟩ := t5'
        obtain ⟨nn, ts5, nn9, hq5⟩ := hQ5.qu
        obtain ⟨dx, fs, eo, _⟩ := hq5.ob
        have hsm := hQ5.sn.small
        walk_at "go"
        refine ⟨o, dx, fs, rfl, eo, o, la5, lr5, nn, ts5, as5, row5, rfl, hq5, as5.length, rfl, by omega, ?_⟩
        walk_at "go"
        refine iteC (fun h58 => ?_) (fun h58 => ?_)
        · walk_at "go"
          refine ⟨np, _, rfl, .inl (sqL (tn t5)), ?_⟩
          walk_at "go"
          rw [List.length_map]
          refine r_take hB5 (fun d6 H6 h06 h16 hB6 b6 => ?_) (by omega) (by omega) (by omega)
          have t6 := tb t5 hB6 b6
          refine r_ixLo (sqL (tn t6)) h06 (by rw [List.length_map]; exact h16) fun ov hov _ => ?_
          obtain ⟨oth, hoth, rfl⟩ := List.mem_map.mp hov
          walk_at "go"
          refine newLB fun pl H7 n7 g7 s7 e7 => ?_
          walk_at "go"
          refine r_take (hB6.same s7) fun d8 H8 h08 h18 hB8 b8 => ?_
          have epl : pl ≠ bx := hB6.ne n7
          refine r_ixLo (sqL (b8 _ _ epl e7)) h08 (by show d8 < ((2 : Nat) : Int); omega) fun nmv hnm _ => ?_
          obtain ⟨name, hname, rfl⟩ : ∃ name ∈ NS, nmv = .str name := by
            simp only [List.mem_cons, List.not_mem_nil, or_false] at hnm
            rcases hnm with rfl | rfl
            · exact ⟨noisy, hnoisy, rfl⟩
            · exact ⟨oth, hoth, rfl⟩
          have t8 := tb t6 hB8 ((But.of s7).trans b8)
          walk_at "go"
          refine r_take hB8 fun d9 H9 h09 h19 hB9 b9 => ?_
          have t9 := tb t8 hB9 b9
          refine r_I (cmul (by decide) (by decide) (by omega) (by omega)) ?_
          walk_at "go"
          refine r_I (cmul (by decide) (by decide) (by omega) (by omega)) ?_
          walk_at "go"
          obtain ⟨la9, lr9, v9, as9, row9, e9, hQ9, hB9', mv9, hp9⟩ := t9
          obtain ⟨i, hi⟩ : ∃ i : Nat, i = 1000 * d9.toNat + 7 * fresh + k := ⟨_, rfl⟩
          have hi2 : (1000 * d9 + 7 * ((fresh : Nat) : Int) + (0 + ((k : Nat) : Int))) = ((i : Nat) : Int) := by rw [hi]; omega
          have hmod : i % 1000 = 7 * fresh + k := by
            rw [hi, show 1000 * d9.toNat + 7 * fresh + k = (7 * fresh + k) + 1000 * d9.toNat by omega, Nat.add_mul_mod_self_left]
            exact Nat.mod_eq_of_lt (by omega)
          have has : as9.length < 60 := by
            have hl : as9.length = as5.length ∨ True := .inr trivial
            have w1 := hQ9.sn.small
            have w2 : as9.length = as5.length := lenQ hQ5 hQ9 (b6.trans ((But.of s7).trans (b8.trans b9))) ⟨fun z => (mv5.f bx (List.mem_append_left _ z)).elim nbx fun w => (by rw [ebx] at w; exact nomatch w), box_ex hB5⟩
            omega
          rw [hi2]
          refine ⟨NS, o, la9, lr9, v9, as9, row9, name, i, by rw [e9]; rfl, hQ9, hname, fun z => by have := hp9 _ z; rw [hmod] at this; omega, has, fun v' G eS hQ' mv' => ?_⟩
          walk_at "go"
          refine ⟨⟨_, _, rfl⟩, la9, lr9, v', _, _, eS.trans e9, hQ', ?_, mv9.trans mv'.b (box_ex hB9').choose_spec, fun p hp => ?_⟩
          · obtain ⟨x1, y1, z1, eB, r⟩ := hB9'.mono (show m + 4 + 4 * k + 1 + 1 + 1 ≤ m + 4 + 4 * (k + 1) by omega)
            exact ⟨x1, y1, z1, mv'.1 _ _ (fun z => (mv9.f bx z).elim nbx fun w => by rw [ebx] at w; exact nomatch w) eB, r⟩
          · rcases List.mem_append.mp hp with h | h
            · have := hp9 p h
              omega
            · rw [List.mem_singleton.mp h]
              show i % 1000 < _
              omega
        · walk_at "go"
          exact ⟨⟨_, _, rfl⟩, t5.mono (by omega) (by omega)⟩
      · rintro σ G5 ⟨⟨x8, x9, rfl⟩, t5⟩
        walk_at "go"
        refine r_take t5.box (fun d6 H6 h06 h16 hB6 b6 => ?_) (by omega)
        have t6 := (tb t5 hB6 b6).mono (m' := m + 30) (N' := 7 * (fresh + 1)) (by omega) (by omega)
        refine ⟨_, rfl, by omega, by omega, ?_⟩
        refine for_range (lo := 0) (n := d6.toNat) (fun k σ G => (∃ x8 x9, σ = [some (.ref bx), some (.ref o), some (.ref v.S), some (.ref np), some (.int (fresh : Nat)), some (.int d1), some (.str gone), some (.str noisy), x8, x9]) ∧ Tn A NS bx o v.S H ([o, la, lr] ++ adrs v) (m + 30) (7 * (fresh + 1)) G)
          ⟨⟨_, _, rfl⟩, t6⟩ ?_ ?_
        · rintro k σ G7 hk ⟨⟨x8, x9, rfl⟩, t7⟩
          obtain ⟨la7, lr7, v7, as7, row7, e7, hQ7, hB7, mv7, hp7⟩ := t7
          walk_at "go"
          refine ⟨NS, o, la7, lr7, v7, as7, row7, by rw [e7]; rfl, hQ7, fun v' as' row' G eS hQ' mv' hsub _ => ?_⟩
          walk_at "go"
          refine ⟨⟨_, _, rfl⟩, la7, lr7, v', as', row', eS.trans e7, hQ', ?_, mv7.trans mv'.b (box_ex hB7).choose_spec, fun p hp => hp7 p (hsub.subset hp)⟩
          obtain ⟨x1, y1, z1, eB, r⟩ := hB7
          exact ⟨x1, y1, z1, mv'.1 _ _ (fun z => (mv7.f bx z).elim nbx fun w => by rw [ebx] at w; exact nomatch w) eB, r⟩
        · rintro σ G7 ⟨⟨x8, x9, rfl⟩, t7⟩
          have t7' := t7
          obtain ⟨la7, lr7, v7, as7, row7, e7, hQ7, hB7, mv7, hp7⟩ := t7'
          obtain ⟨nn, ts7, nn9, hq7⟩ := hQ7.qu
          obtain ⟨dx, fs, eo, _⟩ := hq7.ob
          have hsm := hQ7.sn.small
          have L7 := hQ7.sn.ly
          have eS7 : G7 v.S = some (.dK (topD v7)) := by rw [← e7]; exact L7.eS
          walk_at "go"
          refine ⟨o, dx, fs, rfl, eo, o, la7, lr7, nn, ts7, as7, row7, rfl, hq7, as7.length, rfl, by omega, ?_⟩
          refine r_dgT rfl (.inl eS7) top_m ?_
          walk_at "go"
          refine ⟨v7.ml, _, rfl, .inl (sqL L7.em), ?_⟩
          have hml : (v7.marks.map fun m => V.ref m.1).length = as7.length := by rw [← hQ7.sn.inv.mks, List.length_map, List.length_map, List.length_map]
          rw [hml]
          walk_at "go"
          have nb7 : bx ∉ [o, la7, lr7] ++ adrs v7 := fun z => (mv7.f bx z).elim nbx fun w => by rw [ebx] at w; exact nomatch w
          refine iteD rfl ?_
          walk_at "go"
          refine ⟨NS, bx, o, la7, lr7, v7, as7, row7, m + 30, by rw [e7]; rfl, hQ7, hB7, by omega, nb7, fun G8 b8 hB8 => q G8 ((tb t7 hB8 b8).mono (by omega) (Nat.le_refl _))⟩
end
end K23

namespace K23
open PySem PySem.Spec PyProof.Rows L2 Bk


theorem Mvd.trans {H H1 H2 : Hp} {fp fp1 fp2 : List Addr} (x : Mvd H H1 fp fp1) (y : Mvd H1 H2 fp1 fp2) : Mvd H H2 fp fp2 := by
  refine ⟨fun b u nf eb => y.1 b u (fun z => (x.2 b z).elim nf fun w => by rw [w] at eb; exact nomatch eb) (x.1 b u nf eb), fun a ha => ?_⟩
  rcases y.2 a ha with h | h
  · exact x.2 a h
  · cases c : H a with
    | none => exact .inr rfl
    | some u =>
      by_cases d : a ∈ fp
      · exact .inl d
      · rw [x.1 a u d c] at h; exact nomatch h
def spEmptied (A : Ad) : Sp := fun vs H Q _ => ∃ (NS : List Str) (o la lr : Addr) (v : Sv) (as : List (Str × Nat)) (row : List Str), vs = [.ref o, .ref v.S] ∧ Qs A NS H o la lr v as row ∧
  ∀ H', (∀ b u, b ∉ [o, la, lr] ++ adrs v → H b = some u → H' b = some u) → Q (.bl true) H'
section
variable {P : Program} {w : World} {K : PySem.W.Frag} {mg : Str → Option Value} {base : Heap} {A : Ad}
theorem ok_emptied {f : Addr} {fd : FuncData} (F : Fun K "_law_emptied" "_law_emptied" s_emptied_L f fd) (T : Txt K mg A) (c_Queue_len : CalM P w K mg base CX0 1 A.CQ "__len__" (spLenQ A)) (c_Queue_serve : CalM P w K mg base CX0 6 A.CQ "serve" (spServe A)) (c_Queue_waiting : CalM P w K mg base CX0 1 A.CQ "waiting" (spWaiting A))
  (c_served_L : CalD P w K mg base CX0 7 "_law_served" (spServedL A) []) : FnOk P w K mg base CX0 8 f fd ["_law_queue", "_law_seen"] (spEmptied A) := by
  refine F.ok sc_emptied_L (fun vs H Q E h => ?_) (fun cdv A' outer s H vs Q E hr h => have hu65 := units65 hr; have hu64 := hr.units; have hu := units1 hr; ⟨_, (pss_cons (ps_while PassesOwn.never (pt_cmpR (op_neD hu64) (pe_dget hu (pv 1) pe_str (fun _ _ => rfl)) (pe_lstB pa_nil) (nomark _))
      (pss_one (ps_if (pt_not (pt_val (pe_cal c_served_L hr (by decide) (by rfl) (pa_cons (pv 0) (pa_cons (pv 1) pa_nil))))) (pss_one (ps_ret pe_bl)) pss_nil)))
    (pss_one (ps_ret (pe_and (pe_cmpR op_isN (pe_mth0 (pv 0) T.cl_Queue c_Queue_serve hr (by decide) ps0) pe_non (nomark _)) (pe_and (pe_cmpR op_eq (pe_callB (call_lenO c_Queue_len hr (by decide)) (by rfl) T.m_len (by decide +kernel) (pa_cons (pv 0) pa_nil)) pe_int (nomark _)) (pe_one (pe_cmpR (op_eqD hu64) (pe_mth0 (pv 0) T.cl_Queue c_Queue_waiting hr (by decide) ps0) (pe_lstB pa_nil) (nomark _)))))))), ?_⟩)
  · obtain ⟨NS, o, la, lr, v, as, row, rfl, _⟩ := h
    rfl
  · obtain ⟨NS, o, la, lr, v, as, row, rfl, hQ, q⟩ := h
    walk_at "go"
    refine r_while (fun d σ G => σ = [some (.ref o), some (.ref v.S)] ∧ ∃ la' lr' v' as' row', v'.S = v.S ∧ Qs A NS G o la' lr' v' as' row' ∧ Mvd H G ([o, la, lr] ++ adrs v) ([o, la', lr'] ++ adrs v') ∧ d = as'.length)
      ⟨_, rfl, la, lr, v, as, row, rfl, hQ, ⟨fun _ _ _ e => e, fun a ha => .inl ha⟩, rfl⟩ fun d σ G hW => ?_
    obtain ⟨rfl, la', lr', v', as', row', eS, hQ', mv, rfl⟩ := hW
    have L' := hQ'.sn.ly
    obtain ⟨nn, ts, n9, hq⟩ := hQ'.qu
    obtain ⟨dx, fs, eo, _, _, hn⟩ := hq.ob
    have eS' : G v.S = some (.dK (topD v')) := by rw [← eS]; exact L'.eS
    walk_at "go"
    refine r_dgT rfl (.inl eS') top_m ?_
    walk_at "go"
    refine newLB fun p1 H1 n1 g1 s1 e1 => ?_
    have L1 := L'.same s1
    have hks : ∀ m ∈ v'.marks, m.2.2.ask ∈ as' := fun m hm => by rw [← hQ'.sn.inv.mks]; exact List.mem_map.mpr ⟨m.2.2, List.mem_map.mpr ⟨m, hm, rfl⟩, rfl⟩
    have hko : ∀ m ∈ v'.marks, PyData.strOk m.2.2.ask.1 = true := fun m hm => str_of_name (hq.ok _ (hks m hm))
    refine ⟨_, .list [], .lst (sqL L1.em) (dps_marks L1.ek L1.tu), .lst (sqL e1) .nil, sh_marks hko, sh_nil, ?_⟩
    rw [eqv_nil]
    have hQ1 : Qs A NS H1 o la' lr' v' as' row' := ⟨⟨nn, ts, n9, hq.same s1⟩, hQ'.sn.same s1, hQ'.ap⟩
    have mv1 : Mvd H H1 ([o, la, lr] ++ adrs v) ([o, la', lr'] ++ adrs v') := ⟨fun b u nb eb => s1 _ _ (mv.1 b u nb eb), mv.2⟩
    by_cases hz : v'.marks = []
    · rw [decide_eq_true (by rw [hz]; rfl)]
      have has : as' = [] := by rw [← hQ'.sn.inv.mks, hz]; rfl
      subst has
      have hrow : row' = [] := by
        cases row' with
        | nil => rfl
        | cons x r =>
          obtain ⟨i, hi⟩ := (hq.mem x).mp List.mem_cons_self
          exact nomatch hi
      walk_at "go"
      refine ⟨o, dx, fs, rfl, s1 _ _ eo, hn.2 _ (by decide +kernel) (by decide +kernel), ?_⟩
      walk_at "go"
      refine ⟨o, la', lr', nn, ts, [], row', rfl, hq.same s1, fun _ => ?_, fun x rest i j t H3 h _ _ _ _ _ _ => by rw [hrow] at h; exact nomatch h⟩
      walk_at "go"
      refine ⟨rfl, _, rfl, iteD rfl ?_⟩
      walk_at "go"
      refine ⟨o, dx, fs, rfl, s1 _ _ eo, o, la', lr', nn, ts, [], row', rfl, hq.same s1, 0, rfl, by decide, ?_⟩
      walk_at "go"
      refine iteD rfl ?_
      walk_at "go"
      refine ⟨o, dx, fs, rfl, s1 _ _ eo, hn.2 _ (by decide +kernel) (by decide +kernel), ?_⟩
      walk_at "go"
      refine ⟨o, la', lr', nn, ts, [], row', rfl, hq.same s1, fun p H3 np s3 a3 => ?_⟩
      walk_at "go"
      refine newLB fun p4 H4 n4 g4 s4 e4 => ?_
      refine ⟨_, .list [], (a3.same s4).dp, .lst (sqL e4) .nil, sh_nil, sh_nil, ?_⟩
      rw [eqv_nil]
      rw [decide_eq_true (show List.map askD [] = [] from rfl)]
      exact q H4 fun b u nb eb => s4 _ _ (s3 _ _ (mv1.1 b u nb eb))
    · rw [decide_eq_false (fun z => hz (List.map_eq_nil_iff.mp z))]
      have hne : as' ≠ [] := fun z => hz (by
        have w := hQ'.sn.inv.mks
        rw [z] at w
        exact List.map_eq_nil_iff.mp (List.map_eq_nil_iff.mp w))
      walk_at "go"
      refine ⟨fun σ' G' => σ' = [some (.ref o), some (.ref v.S)] ∧ ∃ la2 lr2 v2 as2 row2, v2.S = v.S ∧ Qs A NS G' o la2 lr2 v2 as2 row2 ∧ Mvd H G' ([o, la, lr] ++ adrs v) ([o, la2, lr2] ++ adrs v2) ∧ as2.length < as'.length, fun σ' G' ⟨e1, la2, lr2, v2, as2, row2, e2, e3, e4, e5⟩ => ⟨_, e5, e1, la2, lr2, v2, as2, row2, e2, e3, e4, rfl⟩, ?_⟩
      walk_at "go"
      refine ⟨NS, o, la', lr', v', as', row', by rw [eS]; rfl, hQ1, fun v2 as2 row2 G2 eS2 hQ2 mv2 _ hlt => ?_⟩
      walk_at "go"
      exact ⟨rfl, la', lr', v2, as2, row2, eS2.trans eS, hQ2, mv1.trans mv2, hlt hne⟩
end
end K23

namespace K23
open PySem PySem.Spec PyProof.Rows L2 Bk


structure En where
  o : Addr
  la : Addr
  lr : Addr
  v : Sv
  as : List (Str × Nat)
  row : List Str
def fpE (e : En) : List Addr := [e.o, e.la, e.lr] ++ adrs e.v
def QsE (A : Ad) (NS : List Str) (H : Hp) (e : En) : Prop := Qs A NS H e.o e.la e.lr e.v e.as e.row
theorem adr_ct {H : Hp} {v : Sv} (c : Ly H v) {a : Addr} (ha : a ∈ adrs v) : ∃ u, H a = some u ∧ ∀ xs, u ≠ .tup xs := by
  unfold adrs at ha
  simp only [List.mem_cons, List.mem_append, List.mem_map] at ha
  rcases ha with rfl | rfl | rfl | rfl | ⟨e, he, rfl⟩ | ⟨e, he, rfl⟩ | ⟨m, hm, rfl⟩
  · exact ⟨_, c.eS, nofun⟩
  · exact ⟨_, c.eh, nofun⟩
  · exact ⟨_, c.es, nofun⟩
  · exact ⟨_, c.em, nofun⟩
  · exact ⟨_, c.el e he, nofun⟩
  · exact ⟨_, c.ez e he, nofun⟩
  · exact ⟨_, c.ek m hm, nofun⟩
theorem fp_ct {A : Ad} {NS : List Str} {H : Hp} {e : En} (q : QsE A NS H e) {a : Addr} (ha : a ∈ fpE e) : ∃ u, H a = some u ∧ ∀ xs, u ≠ .tup xs := by
  rcases List.mem_append.mp ha with h | h
  · obtain ⟨n, ts, _, hq⟩ := q.qu
    obtain ⟨dx, fs, eo, _⟩ := hq.ob
    simp only [List.mem_cons, List.not_mem_nil, or_false] at h
    rcases h with rfl | rfl | rfl
    · exact ⟨_, eo, nofun⟩
    · exact ⟨_, hq.al.at_, nofun⟩
    · exact ⟨_, hq.rw_, nofun⟩
  · exact adr_ct q.sn.ly h
theorem QsE.keep {A : Ad} {NS : List Str} {H H' : Hp} {e : En} (q : QsE A NS H e) (k : ∀ b u, b ∈ fpE e → H b = some u → H' b = some u) (t : ∀ b xs, H b = some (.tup xs) → H' b = some (.tup xs)) : QsE A NS H' e := by
  obtain ⟨n, ts, n9, hq⟩ := q.qu
  exact ⟨⟨n, ts, n9, hq.keep (fun b u hb eb => k b u (List.mem_append_left _ hb) eb) t⟩, { q.sn with ly := q.sn.ly.keep (fun b u hb eb => k b u (List.mem_append_right _ hb) eb) t }, q.ap⟩
structure Hal (A : Ad) (NS : List Str) (H : Hp) (h np : Addr) (ts : List Addr) (es : List En) (Nf : Nat → Nat) : Prop where
  at_ : H h = some (.lst (ts.map V.ref))
  en : H np = some (.lst (NS.map V.str))
  len : ts.length = es.length
  tup : ∀ (k : Nat) (t : Addr) (e : En), ts[k]? = some t → es[k]? = some e → H t = some (.tup [.ref e.o, .ref e.v.S])
  qs : ∀ (i : Nat) (e : En), es[i]? = some e → QsE A NS H e
  nu : ∀ (i : Nat) (e : En), es[i]? = some e → ∀ p ∈ e.as, p.2 % 1000 < Nf i
  dj : ∀ (i j : Nat) (a b : En), es[i]? = some a → es[j]? = some b → i ≠ j → ∀ x ∈ fpE a, x ∉ fpE b
  nh : ∀ (i : Nat) (e : En), es[i]? = some e → h ∉ fpE e ∧ np ∉ fpE e
  hn : np ≠ h
theorem Hal.same {A : Ad} {NS : List Str} {H H' : Hp} {h np : Addr} {ts : List Addr} {es : List En} {Nf : Nat → Nat} (c : Hal A NS H h np ts es Nf) (s : Same H H') : Hal A NS H' h np ts es Nf :=
  ⟨s _ _ c.at_, s _ _ c.en, c.len, fun k t e a b => s _ _ (c.tup k t e a b), fun i e a => (c.qs i e a).keep (fun b u _ eb => s b u eb) fun b xs eb => s b _ eb, c.nu, c.dj, c.nh, c.hn⟩
theorem Hal.mono' {A : Ad} {NS : List Str} {H : Hp} {h np : Addr} {ts : List Addr} {es : List En} {Nf Ng : Nat → Nat} (c : Hal A NS H h np ts es Nf) (l : ∀ i, i < es.length → Nf i ≤ Ng i) : Hal A NS H h np ts es Ng := { c with nu := fun i e he p hp => Nat.lt_of_lt_of_le (c.nu i e he p hp) (l i (List.getElem?_eq_some_iff.mp he).1) }
theorem Hal.mono {A : Ad} {NS : List Str} {H : Hp} {h np : Addr} {ts : List Addr} {es : List En} {Nf Ng : Nat → Nat} (c : Hal A NS H h np ts es Nf) (l : ∀ i, Nf i ≤ Ng i) : Hal A NS H h np ts es Ng := c.mono' fun i _ => l i
theorem fnd_kv {β : Type} : ∀ {l l' : List (Str × Addr × β)} (x : Str), l'.map (fun e => (e.1, e.2.2)) = l.map (fun e => (e.1, e.2.2)) → fnd l' x = fnd l x
  | [], [], _, _ => rfl
  | [], _ :: _, _, h => nomatch h
  | _ :: _, [], _, h => nomatch h
  | a :: r, b :: s, x, h => by
    rw [List.map_cons, List.map_cons] at h
    injection h with h1 h2
    have hk : b.1 = a.1 := (Prod.mk.inj h1).1
    have hv : b.2.2 = a.2.2 := (Prod.mk.inj h1).2
    have ih := fnd_kv (l := r) (l' := s) x h2
    unfold fnd at ih ⊢
    by_cases c : a.1 = x
    · rw [List.find?_cons_of_pos (by simp [hk, c]), List.find?_cons_of_pos (by simp [c])]
      show some b.2.2 = some a.2.2
      rw [hv]
    · rw [List.find?_cons_of_neg (by simpa [hk] using c), List.find?_cons_of_neg (by simpa using c)]
      exact ih
theorem kv_mem {β : Type} {l l' : List (Str × Addr × β)} (h : l'.map (fun e => (e.1, e.2.2)) = l.map (fun e => (e.1, e.2.2))) {e : Str × Addr × β} (he : e ∈ l') : ∃ e0 ∈ l, e0.1 = e.1 ∧ e0.2.2 = e.2.2 := by
  have w : (e.1, e.2.2) ∈ l'.map (fun e => (e.1, e.2.2)) := List.mem_map.mpr ⟨e, he, rfl⟩
  rw [h] at w
  obtain ⟨e0, h0, h1⟩ := List.mem_map.mp w
  exact ⟨e0, h0, (Prod.mk.inj h1).1, (Prod.mk.inj h1).2⟩
/-- a copy of what was seen -/
theorem Sn.copy {NS : List Str} {H H' : Hp} {v v' : Sv} {as : List (Str × Nat)} {row : List Str} (n : Sn NS H v as row) (L : Ly H' v') (h1 : v'.held.map (fun e => (e.1, e.2.2)) = v.held.map (fun e => (e.1, e.2.2))) (h2 : v'.since.map (fun e => (e.1, e.2.2)) = v.since.map (fun e => (e.1, e.2.2))) (h3 : v'.marks.map (·.2.2) = v.marks.map (·.2.2)) : Sn NS H' v' as row := by
  have hm : ∀ m ∈ v'.marks, ∃ m0 ∈ v.marks, m0.2.2 = m.2.2 := fun m hm => by
    have w : m.2.2 ∈ v'.marks.map (·.2.2) := List.mem_map.mpr ⟨m, hm, rfl⟩
    rw [h3] at w
    exact List.mem_map.mp w
  refine ⟨L, fun e he => ?_, fun x i hi => ?_, ?_, fun e he => ?_, fun e he => ?_, fun m hm' => ?_, n.small, n.nok, n.nl⟩
  · obtain ⟨e0, h0, k1, k2⟩ := kv_mem h1 he
    rw [← k2, ← k1]
    exact n.he e0 h0
  · obtain ⟨e, he, hx⟩ := n.hm x i hi
    obtain ⟨e0, h0, k1, k2⟩ := kv_mem h1.symm he
    exact ⟨e0, h0, k1.trans hx⟩
  · have e1 : fnd v'.since = fnd v.since := funext fun x => fnd_kv x h2
    rw [e1, h3]
    exact n.inv
  · obtain ⟨e0, h0, k1, k2⟩ := kv_mem h1 he
    rw [← k1]
    exact n.hn e0 h0
  · obtain ⟨e0, h0, k1, k2⟩ := kv_mem h2 he
    rw [← k1, ← k2]
    exact n.sn e0 h0
  · obtain ⟨m0, h0, k⟩ := hm m hm'
    rw [← k]
    exact n.sz m0 h0
/-- a turn of one of a hall -/
theorem Hal.turn {A : Ad} {NS : List Str} {H H' : Hp} {h np bx : Addr} {ts : List Addr} {es : List En} {Nf : Nat → Nat} {j M : Nat} {e e' : En} (c : Hal A NS H h np ts es Nf) (hj : es[j]? = some e) (nb : ∀ (i : Nat) (a : En), es[i]? = some a → bx ∉ fpE a) {bxs : List V} (eb : H bx = some (.lst bxs)) (hbx : h ≠ bx ∧ np ≠ bx)
    (eo : e'.o = e.o) (eS : e'.v.S = e.v.S) (q : QsE A NS H' e') (mv : MvB bx H H' (fpE e) (fpE e')) (hp : ∀ p ∈ e'.as, p.2 % 1000 < M) :
    Hal A NS H' h np ts (es.set j e') (fun i => if i = j then M else Nf i) ∧ ∀ (i : Nat) (a : En), (es.set j e')[i]? = some a → bx ∉ fpE a := by
  have hjl : j < es.length := (List.getElem?_eq_some_iff.mp hj).1
  have nfe : ∀ {x u}, H x = some u → x ∉ fpE e → x ∉ fpE e' := fun ex nx z => (mv.f _ z).elim nx fun w => by rw [w] at ex; exact nomatch ex
  have get : ∀ (i : Nat) (a : En), (es.set j e')[i]? = some a → (i = j ∧ a = e') ∨ (i ≠ j ∧ es[i]? = some a) := fun i a ha => by
    by_cases z : i = j
    · subst z
      rw [List.getElem?_set_self hjl] at ha
      exact .inl ⟨rfl, (Option.some.inj ha).symm⟩
    · rw [List.getElem?_set_ne (fun w => z w.symm)] at ha
      exact .inr ⟨z, ha⟩
  have tk : ∀ b xs, H b = some (.tup xs) → H' b = some (.tup xs) := fun b xs ex => mv.k _ _ (ne_ct ex eb nofun) (fun z => by
    obtain ⟨u, hu, hn⟩ := fp_ct (c.qs j e hj) z
    rw [ex] at hu
    exact hn xs (Option.some.inj hu).symm) ex
  refine ⟨⟨mv.k _ _ hbx.1 (c.nh j e hj).1 c.at_, mv.k _ _ hbx.2 (c.nh j e hj).2 c.en, by rw [List.length_set]; exact c.len, fun k t a h1 h2 => ?_, fun i a ha => ?_, fun i a ha p hp' => ?_, fun i k a b ha hb hik x hx hxb => ?_, fun i a ha => ?_, c.hn⟩, fun i a ha => ?_⟩
  · rcases get k a h2 with ⟨rfl, rfl⟩ | ⟨z, h2⟩
    · rw [eo, eS]
      exact tk _ _ (c.tup k t e h1 hj)
    · exact tk _ _ (c.tup k t a h1 h2)
  · rcases get i a ha with ⟨rfl, rfl⟩ | ⟨z, ha⟩
    · exact q
    · exact (c.qs i a ha).keep (fun b u hb ex => mv.k b u (fun w => nb i a ha (by rw [← w]; exact hb)) (fun w => c.dj i j a e ha hj z b hb w) ex) tk
  · rcases get i a ha with ⟨rfl, rfl⟩ | ⟨z, ha⟩
    · rw [if_pos rfl]
      exact hp p hp'
    · rw [if_neg z]
      exact c.nu i a ha p hp'
  · rcases get i a ha with ⟨z1, z1'⟩ | ⟨z, ha'⟩
    · rcases get k b hb with ⟨z2, z2'⟩ | ⟨z2, hb'⟩
      · exact hik (z1.trans z2.symm)
      · obtain ⟨u, hu, _⟩ := fp_ct (c.qs k b hb') hxb
        exact nfe hu (fun w => c.dj k j b e hb' hj z2 x hxb w) (by rw [← z1']; exact hx)
    · rcases get k b hb with ⟨z2, z2'⟩ | ⟨z2, hb'⟩
      · obtain ⟨u, hu, _⟩ := fp_ct (c.qs i a ha') hx
        exact nfe hu (fun w => c.dj i j a e ha' hj z x hx w) (by rw [← z2']; exact hxb)
      · exact c.dj i k a b ha' hb' hik x hx hxb
  · rcases get i a ha with ⟨rfl, rfl⟩ | ⟨z, ha⟩
    · exact ⟨nfe c.at_ (c.nh i e hj).1, nfe c.en (c.nh i e hj).2⟩
    · exact c.nh i a ha
  · rcases get i a ha with ⟨rfl, rfl⟩ | ⟨z, ha⟩
    · exact nfe eb (nb i e hj)
    · exact nb i a ha
/-- one more comes to a hall -/
theorem Hal.push {A : Ad} {NS : List Str} {H H' : Hp} {h np t : Addr} {ts : List Addr} {es : List En} {Nf : Nat → Nat} {M : Nat} {e : En} (c : Hal A NS H h np ts es Nf) (s : Same H H') (q : QsE A NS H' e) (fr : ∀ a ∈ fpE e, H a = none) (et : H' t = some (.tup [.ref e.o, .ref e.v.S])) (hp : ∀ p ∈ e.as, p.2 % 1000 < M) :
    Hal A NS (upd H' h (.lst (ts.map V.ref ++ [.ref t]))) h np (ts ++ [t]) (es ++ [e]) (fun i => if i = es.length then M else Nf i) := by
  have k : ∀ b u, b ≠ h → H' b = some u → upd H' h (.lst (ts.map V.ref ++ [.ref t])) b = some u := fun b u nb eb => by rw [upd_ne nb]; exact eb
  have eh := s _ _ c.at_
  have get : ∀ (i : Nat) (a : En), (es ++ [e])[i]? = some a → (i = es.length ∧ a = e) ∨ (i ≠ es.length ∧ es[i]? = some a) := fun i a ha => by
    by_cases z : i < es.length
    · rw [List.getElem?_append_left z] at ha
      exact .inr ⟨by omega, ha⟩
    · rw [List.getElem?_append_right (by omega)] at ha
      have : i - es.length = 0 := by
        have w := (List.getElem?_eq_some_iff.mp ha).1
        have : [e].length = 1 := rfl
        omega
      rw [this] at ha
      exact .inl ⟨by omega, (Option.some.inj ha).symm⟩
  have ex : ∀ {i a x}, es[i]? = some a → x ∈ fpE a → x ∉ fpE e := fun ha hx hxe => by
    obtain ⟨u, hu, _⟩ := fp_ct (c.qs _ _ ha) hx
    rw [fr _ hxe] at hu
    exact nomatch hu
  have nhe : h ∉ fpE e := fun z => by have w := fr h z; rw [c.at_] at w; exact nomatch w
  have nne : np ∉ fpE e := fun z => by have w := fr np z; rw [c.en] at w; exact nomatch w
  have tk : ∀ b xs, H' b = some (.tup xs) → upd H' h (.lst (ts.map V.ref ++ [.ref t])) b = some (.tup xs) := fun b xs eb => k _ _ (ne_ct eb eh nofun) eb
  refine ⟨by rw [upd_same, List.map_append]; rfl, k _ _ c.hn (s _ _ c.en), by rw [List.length_append, List.length_append, c.len]; rfl, fun i u a h1 h2 => ?_, fun i a ha => ?_, fun i a ha p hp' => ?_, fun i j a b ha hb hij x hx hxb => ?_, fun i a ha => ?_, c.hn⟩
  · rcases get i a h2 with ⟨z, rfl⟩ | ⟨z, h2⟩
    · rw [List.getElem?_append_right (by rw [c.len]; omega), z, c.len, Nat.sub_self] at h1
      obtain rfl := Option.some.inj h1
      exact tk _ _ et
    · have hi : i < ts.length := by rw [c.len]; exact (List.getElem?_eq_some_iff.mp h2).1
      rw [List.getElem?_append_left hi] at h1
      exact tk _ _ (s _ _ (c.tup i u a h1 h2))
  · rcases get i a ha with ⟨z, rfl⟩ | ⟨z, ha⟩
    · exact q.keep (fun b u hb eb => k b u (fun w => nhe (by rw [← w]; exact hb)) eb) tk
    · exact ((c.qs i a ha).keep (fun b u _ eb => s b u eb) fun b xs eb => s b _ eb).keep (fun b u hb eb => k b u (fun w => (c.nh i a ha).1 (by rw [← w]; exact hb)) eb) tk
  · rcases get i a ha with ⟨z, rfl⟩ | ⟨z, ha⟩
    · rw [if_pos z]
      exact hp p hp'
    · rw [if_neg z]
      exact c.nu i a ha p hp'
  · rcases get i a ha with ⟨z, z'⟩ | ⟨z, ha'⟩
    · rcases get j b hb with ⟨z2, z2'⟩ | ⟨z2, hb'⟩
      · exact hij (z.trans z2.symm)
      · exact ex hb' hxb (by rw [← z']; exact hx)
    · rcases get j b hb with ⟨z2, z2'⟩ | ⟨z2, hb'⟩
      · exact ex ha' hx (by rw [← z2']; exact hxb)
      · exact c.dj i j a b ha' hb' hij x hx hxb
  · rcases get i a ha with ⟨z, rfl⟩ | ⟨z, ha⟩
    · exact ⟨nhe, nne⟩
    · exact c.nh i a ha
end K23

namespace K23
open PySem PySem.Spec PyProof.Rows L2 Bk


def spLaw (K : PySem.W.Frag) : Sp := fun vs H Q _ => ∃ (a : Addr) (ns : List Int), vs = [.ref a] ∧ SqL K H a (ns.map V.int) ∧ ns.length ≤ 63 ∧ ∀ H', Q (.bl true) H'
theorem a_low : lowS (Str.ofString "a") ∧ (Str.ofString "a").length = 1 := by
  constructor
  · unfold lowS
    decide +kernel
  · decide +kernel
theorem low_of {z : Str} (h : nameOk z = true) : lowS z := fun c hc => by
  have h2 := (Bool.and_eq_true_iff.mp h).2
  have := List.all_eq_true.mp h2 c hc
  rw [Bool.and_eq_true] at this
  exact ⟨of_decide_eq_true this.1, of_decide_eq_true this.2⟩
theorem inv0 (sf : Str → Option (List Str)) : Inv (α := Str) [] [] sf [] := ⟨List.nodup_nil, rfl, List.nodup_nil, fun x => ⟨fun z => (nomatch z), fun ⟨_, z⟩ => (nomatch z)⟩, fun x z => (nomatch z), fun m z => (nomatch z)⟩
theorem top_new {a b c : V} : mergeK [] [((Sum.inr (Str.ofString "held") : Key), a), (.inr "since", b), (.inr "marks", c)] = [((Sum.inr (Str.ofString "held") : Key), a), (.inr "since", b), (.inr "marks", c)] := by
  show putK (putK (putK ([] : List (Key × V)) (.inr (Str.ofString "held")) a) (.inr (Str.ofString "since")) b) (.inr (Str.ofString "marks")) c = _
  rw [putK_new (kvs := []) _ rfl, List.nil_append, putK_new _ ((valV_neg ne_hs).trans rfl)]
  show putK [((Sum.inr (Str.ofString "held") : Key), a), (.inr (Str.ofString "since"), b)] (.inr (Str.ofString "marks")) c = _
  rw [putK_new _ ((valV_neg ne_hm).trans ((valV_neg ne_sm).trans rfl))]
  rfl
section
variable {P : Program} {w : World} {K : PySem.W.Frag} {mg : Str → Option Value} {base : Heap} {A : Ad}
theorem ok_law {f : Addr} {fd : FuncData} (F : Fun K "law" "law" s_law f fd) (T : Txt K mg A) (c_cell_L : CalD P w K mg base CX0 1 "_law_cell" (Bk.spCell K) []) (c_box_L : CalD P w K mg base CX0 1 "_law_box" spBox []) (c_take_L : CalD P w K mg base CX0 1 "_law_take" spTake [])
    (c_Queue_init : CalC P w K mg base CX0 1 A.CQ "Queue" (spQuInit A)) (c_Queue_twin : CalM P w K mg base CX0 3 A.CQ "twin" (spTwinQ A)) (c_names_L : CalD P w K mg base CX0 2 "_law_names" spNames []) (c_copied_L : CalD P w K mg base CX0 1 "_law_copied" spCopied [])
    (c_turn_L : CalD P w K mg base CX0 9 "_law_turn" (spTurn A) []) (c_emptied_L : CalD P w K mg base CX0 8 "_law_emptied" (spEmptied A) []) : FnOk P w K mg base CX0 10 f fd ["_law_script"] (spLaw K) := by
  refine F.ok sc_law (fun vs H Q E h => ?_) (fun cdv A' outer s H vs Q E hr h => have hu65 := units65 hr; have hu64 := hr.units; have hu := units1 hr; ⟨_, (pss_cons (ps_set (i := 1) sc_law.nd rfl (.inl rfl) (pe_cal c_box_L hr (by decide) (by rfl) (pa_cons (pe_cal c_cell_L hr (by decide) (by rfl) (pa_cons (pv 0) (pa_cons pe_int pa_nil))) pa_nil)))
    (pss_cons (ps_set (i := 2) sc_law.nd rfl (.inl rfl) (pe_cal c_names_L hr (by decide) (by rfl) (pa_cons (pv 1) pa_nil)))
    (C8.pss_cut (ps_if (pt_cmpR op_eq (pe_cal c_take_L hr (by decide) (by rfl) (pa_cons (pv 1) (pa_cons pe_int pa_nil))) pe_int (nomark _)) (pss_one (ps_set (i := 2) sc_law.nd rfl (.inl rfl) (pe_op op_cat (pv 2) (pe_lc (own := [("_law_name", 7)]) rfl sc_law.nd (pi_list (pv 2)) (blkOk_by (N := ["_law_script", "_law_box_here", "_law_names_here", "_law_hall", "_law_k", "_law_queue", "_law_seen", "_law_name"]) (sc := defScope s_law) (by decide +kernel)) (fun _ _ _ _ _ => (pg_name (i := 7) sc_law.nd rfl (.inl rfl))) (fun _ _ _ _ _ => pts_one (pt_cmpR op_lt (pe_callB call_len_str (by rfl) T.m_len (by decide +kernel) (pa_cons (pv 7) pa_nil)) pe_int (nomark _))) (fun _ _ _ _ _ => (pe_op op_add_str (pv 7) pe_str)))))) pss_nil)
    (pss_cons (ps_set (i := 3) sc_law.nd rfl (.inl rfl) (pe_lstB (pa_cons (pe_tup (pa_cons (pe_mk0 c_Queue_init hr (by decide) (by rfl) ps0) (pa_cons (pe_disp (pps_cons pe_str pe_dnewK (pps_cons pe_str pe_dnewK (pps_cons pe_str (pe_lstB pa_nil) pps_nil))) rfl rfl (by simp) (by decide)) pa_nil))) pa_nil)))
    (pss_cons (ps_for PassesOwn.never rfl (pi_range2 (by rfl) T.m_range (pa_cons pe_int (pa_cons (pe_callB (call_max2 rfl) (by rfl) T.m_max (by decide +kernel) (pa_cons pe_int (pa_cons (pe_callB (call_min2 rfl) (by rfl) T.m_min (by decide +kernel) (pa_cons (pe_callB call_len_seq (by rfl) T.m_len (by decide +kernel) (pa_cons (pv 0) pa_nil)) (pa_cons pe_int pa_nil))) pa_nil))) pa_nil))) (pg_name (i := 4) sc_law.nd rfl (.inl rfl))
      (pss_cons (ps_set (i := 1) sc_law.nd rfl (.inl rfl) (pe_cal c_box_L hr (by decide) (by rfl) (pa_cons (pe_cal c_cell_L hr (by decide) (by rfl) (pa_cons (pv 0) (pa_cons (pv 4) pa_nil))) pa_nil)))
    (C8.pss_cut (ps_if (PW.pt (pw_and (pt_cmpR op_eq (pe_callB call_len_seq (by rfl) T.m_len (by decide +kernel) (pa_cons (pv 3) pa_nil)) pe_int (nomark _)) (pw_and1 (pt_cmpR op_eq (pe_cal c_take_L hr (by decide) (by rfl) (pa_cons (pv 1) (pa_cons pe_int pa_nil))) pe_int (nomark _))))) (pss_one (ps_expr (pe_bm PySem.F.plainAttrs_list PySem.F.slot_list_append PySem.F.type_list_append mt_append (pv 3) (pa_cons (pe_tup (pa_cons (pe_mth0 (pe_ix ix_tup (pe_ix ix_list (pv 3) pe_int (fun _ _ => rfl)) pe_int (fun _ _ => rfl)) T.cl_Queue c_Queue_twin hr (by decide) ps0) (pa_cons (pe_cal c_copied_L hr (by decide) (by rfl) (pa_cons (pe_ix ix_tup (pe_ix ix_list (pv 3) pe_int (fun _ _ => rfl)) pe_int (fun _ _ => rfl)) pa_nil)) pa_nil))) pa_nil)))) pss_nil)
    (pss_one (ps_for PassesOwn.never rfl (pi_list (pv 3)) (pg_tup rfl (pgs_cons (pg_name (i := 5) sc_law.nd rfl (.inl rfl)) (pgs_cons (pg_name (i := 6) sc_law.nd rfl (.inl rfl)) pgs_nil)))
      (pss_one (ps_if (pt_not (pt_val (pe_cal c_turn_L hr (by decide) (by rfl) (pa_cons (pv 1) (pa_cons (pv 5) (pa_cons (pv 6) (pa_cons (pv 2) (pa_cons (pv 4) pa_nil)))))))) (pss_one (ps_ret pe_bl)) pss_nil)))))))
    (pss_cons (ps_for PassesOwn.never rfl (pi_list (pv 3)) (pg_tup rfl (pgs_cons (pg_name (i := 5) sc_law.nd rfl (.inl rfl)) (pgs_cons (pg_name (i := 6) sc_law.nd rfl (.inl rfl)) pgs_nil)))
      (pss_one (ps_if (pt_not (pt_val (pe_cal c_emptied_L hr (by decide) (by rfl) (pa_cons (pv 5) (pa_cons (pv 6) pa_nil))))) (pss_one (ps_ret pe_bl)) pss_nil)))
    (pss_one (ps_ret pe_bl)))))))), ?_⟩)
  · obtain ⟨a, ns, rfl, _⟩ := h
    rfl
  · obtain ⟨a, ns, rfl, hS, hl, q⟩ := h
    walk_at "go"
    refine ⟨a, ns, 0, rfl, hS, by decide, fun c => ?_⟩
    walk_at "go"
    refine ⟨c, rfl, fun bx H1 nbx s1 hB => ?_⟩
    walk_at "go"
    refine ⟨bx, 0, rfl, hB, by decide, fun np H2 NS nnp b2 hB2 en lN hN => ?_⟩
    walk_at "go"
    have s2 : Same H H2 := butSame s1 nbx b2
    refine r_cut (fun σ G => ∃ (np : Addr) (NS : List Str), σ = [some (.ref a), some (.ref bx), some (.ref np), none, none, none, none, none] ∧ Same H G ∧ G np = some (.lst (NS.map V.str)) ∧ 7 ≤ NS.length ∧ NS.length ≤ 14 ∧ (∀ y ∈ NS, nameOk y = true)) ?_ ?_
    · walk_at "go"
      refine r_take hB2 fun d H3 h0 h1 hB3 b3 => ?_
      have npb : np ≠ bx := by
        intro z
        obtain ⟨xs, eb⟩ := box_ex hB
        rw [z, eb] at nnp
        exact nomatch nnp
      have en3 := b3 _ _ npb en
      have s3 : Same H H3 := butSame s1 nbx (b2.trans b3)
      walk_at "go"
      refine iteC (fun h => ?_) (fun h => ?_)
      · walk_at "go"
        refine lcLF (fun i => (fun (z : Str) => if z.length < 8 then some (V.str (z ++ Str.ofString "a")) else none) (NS.getD i "")) (fun QQ z => r_var rfl z) (sqL en3) (by rw [List.length_map, lN]; decide) (fun _ => rfl) (fun i y G1 Q' R' hy sm k1 k2 => ?_) fun D G1 nD s4 eD => ?_
        · rw [List.getElem?_map] at hy
          cases c : NS[i]? with
          | none => rw [c] at hy; exact nomatch hy
          | some z =>
            rw [c] at hy
            obtain rfl := Option.some.inj hy
            have hg : NS.getD i "" = z := by rw [List.getD_eq_getElem?_getD, c]; rfl
            rw [hg] at k1 k2
            have hz := len_of_name (hN z (List.mem_of_getElem? c))
            walk_at "go"
            refine ⟨z, rfl, by rw [sizeLine_eq]; omega, ?_⟩
            walk_at "go"
            by_cases h8 : z.length < 8
            · rw [decide_eq_true (by omega)]
              walk_at "go"
              exact ⟨_, _, rfl, rfl, by rw [a_low.2, sizeLine_eq]; omega, k1 _ (if_pos h8) _ (Same.refl _)⟩
            · rw [decide_eq_false (by omega)]
              walk_at "go"
              exact k2 (if_neg h8) _ (Same.refl _)
        · obtain ⟨MS, hMS⟩ : ∃ MS : List Str, MS = NS.filterMap fun z => if z.length < 8 then some (z ++ Str.ofString "a") else none := ⟨_, rfl⟩
          have eD : G1 D = some (.lst (MS.map V.str)) := by
            have z := rng_fm (Str.ofString "") NS (fun z => if z.length < 8 then some (V.str (z ++ Str.ofString "a")) else none)
            rw [eD, List.length_map]
            refine congrArg (fun l => some (HO.lst l)) (z.trans ?_)
            rw [hMS, List.map_filterMap]
            refine congrArg (List.filterMap · NS) (funext fun p => ?_)
            by_cases h8 : p.length < 8
            · rw [if_pos h8, if_pos h8]; rfl
            · rw [if_neg h8, if_neg h8]; rfl
          have lM : MS.length ≤ 7 := by rw [hMS, ← lN]; exact List.length_filterMap_le _ _
          have hM : ∀ y ∈ MS, nameOk y = true := fun y hy => by
            rw [hMS] at hy
            obtain ⟨z, hz, e1⟩ := List.mem_filterMap.mp hy
            by_cases h8 : z.length < 8
            · rw [if_pos h8] at e1
              obtain rfl := Option.some.inj e1
              have hz' := len_of_name (hN z hz)
              have e2 : (z ++ Str.ofString "a").length = z.length + 1 := by rw [str_len_add, a_low.2]
              exact nameOk_of (low_app (low_of (hN z hz)) a_low.1) (by omega) (by omega)
            · rw [if_neg h8] at e1
              exact nomatch e1
          walk_at "go"
          refine ⟨_, _, _, _, rfl, rfl, s4 _ _ en3, eD, by rw [List.length_map, List.length_map, lN, sizeLine_eq]; omega, fun p hp => ?_⟩
          refine ⟨p, NS ++ MS, rfl, (s3.trans s4).trans (same_upd hp), by rw [upd_same, List.map_append], by rw [List.length_append]; omega, by rw [List.length_append]; omega, fun y hy => (List.mem_append.mp hy).elim (hN y) (hM y)⟩
      · walk_at "go"
        exact ⟨np, NS, rfl, s3, en3, by omega, by omega, hN⟩
    · clear hN lN en s2 hB2 b2 nnp NS np H2
      rintro σ G ⟨np, NS, rfl, sG, en, lN, lN2, hN⟩
      walk_at "go"
      intro x1 dx1 nx1 ndx1 nex1
      have t0 : Same G (upd (upd G dx1 (.own x1)) x1 (.ins A.CQ dx1 [])) := fun b o e => by
        rw [upd_ne (ne_of_none e nx1), upd_ne (ne_of_none e ndx1)]
        exact e
      refine ⟨x1, dx1, rfl, upd_same, fun la lr G1 b1 hq nla nlr => ⟨rfl, r_cons ?_⟩⟩
      have sG1 : Same G G1 := fun b o e => b1 _ _ (ne_of_none e nx1) (t0 _ _ e)
      intro pd npd
      unfold tPairs
      walk_at "go"
      have spd := same_upd (o := .dK []) npd
      have epd : upd G1 pd (.dK []) pd = some (.dK []) := upd_same
      generalize upd G1 pd (.dK []) = G2 at spd epd ⊢
      refine newDK fun hd G3 n3 s3 e3 => ?_
      unfold tPairs
      walk_at "go"
      refine newDK fun sd G4 n4 s4 e4 => ?_
      unfold tPairs
      walk_at "go"
      refine newLB fun ml G5 n5 g5 s5 e5 => ?_
      unfold tPairs
      have s25 := s3.trans (s4.trans s5)
      have epd5 := s25 _ _ epd
      refine ⟨epd5, [(.inr "held", .ref hd), (.inr "since", .ref sd), (.inr "marks", .ref ml)], rfl, by show 3 ≤ 15; decide, ?_⟩
      rw [top_new]
      obtain ⟨v0, hv0⟩ : ∃ v0 : Sv, v0 = ⟨pd, hd, sd, ml, [], [], []⟩ := ⟨_, rfl⟩
      have k6 : ∀ b u, b ≠ pd → G5 b = some u → upd G5 pd (.dK (topD v0)) b = some u := fun b u nb eb => by rw [upd_ne nb]; exact eb
      have nhd : hd ≠ pd := fun z => by rw [z, epd] at n3; exact nomatch n3
      have nsd : sd ≠ pd := fun z => by rw [z, s3 _ _ epd] at n4; exact nomatch n4
      have nml : ml ≠ pd := fun z => by rw [z, s4 _ _ (s3 _ _ epd)] at n5; exact nomatch n5
      have nhs : hd ≠ sd := fun z => by rw [← z, e3] at n4; exact nomatch n4
      have nhm : hd ≠ ml := fun z => by rw [← z, s4 _ _ e3] at n5; exact nomatch n5
      have nsm : sd ≠ ml := fun z => by rw [← z, e4] at n5; exact nomatch n5
      have L0 : Ly (upd G5 pd (.dK (topD v0))) v0 := by
        have e6 : upd G5 pd (.dK (topD v0)) pd = some (.dK (topD v0)) := upd_same
        rw [hv0] at e6 k6 ⊢
        exact ⟨⟨⟨nhd.symm, nsd.symm, nml.symm, nhs, nhm, nsm⟩, fun e z => (nomatch z), fun e z => (nomatch z), fun e z => (nomatch z), fun e z => (nomatch z), fun e z => (nomatch z), fun e z => (nomatch z), List.nodup_nil, List.nodup_nil, List.nodup_nil⟩,
          e6, k6 _ _ nhd (s5 _ _ (s4 _ _ e3)), k6 _ _ nsd (s5 _ _ e4), k6 _ _ nml e5, fun e z => (nomatch z), fun e z => (nomatch z), fun e z => (nomatch z), fun e z => (nomatch z), List.nodup_nil, List.nodup_nil⟩
      have sG6 : Same G1 (upd G5 pd (.dK (topD v0))) := fun b u eb => k6 _ _ (ne_of_none eb npd) (s25 _ _ (spd _ _ eb))
      have e0q : QsE A NS (upd G5 pd (.dK (topD v0))) ⟨x1, la, lr, v0, [], []⟩ := by
        refine ⟨⟨2, [], by decide, hq.same sG6⟩, ⟨L0, fun e he => ?_, fun x i z => (nomatch z), ?_, fun e he => ?_, fun e he => ?_, fun m hm => ?_, Nat.zero_le _, hN, by omega⟩, fun b hb => ?_⟩
        · rw [hv0] at he; exact nomatch he
        · rw [hv0]; exact inv0 _
        · rw [hv0] at he; exact nomatch he
        · rw [hv0] at he; exact nomatch he
        · rw [hv0] at hm; exact nomatch hm
        · obtain ⟨dq, fq, eq, _⟩ := hq.ob
          have ex : ∃ u, G1 b = some u := by
            simp only [List.mem_cons, List.not_mem_nil, or_false] at hb
            rcases hb with rfl | rfl | rfl
            · exact ⟨_, eq⟩
            · exact ⟨_, hq.al.at_⟩
            · exact ⟨_, hq.rw_⟩
          obtain ⟨u, hu⟩ := ex
          rw [hv0]
          unfold adrs
          simp only [List.map_nil, List.append_nil, List.mem_cons, List.not_mem_nil, or_false, not_or]
          have w2 := spd _ _ hu
          exact ⟨fun z => (by rw [← z, hu] at npd; exact (nomatch npd)), fun z => (by rw [← z, w2] at n3; exact (nomatch n3)), fun z => (by rw [← z, s3 _ _ w2] at n4; exact (nomatch n4)), fun z => (by rw [← z, s4 _ _ (s3 _ _ w2)] at n5; exact (nomatch n5))⟩
      have fr0 : ∀ b ∈ fpE ⟨x1, la, lr, v0, [], []⟩, G b = none := fun b hb => by
        rcases List.mem_append.mp hb with h | h
        · simp only [List.mem_cons, List.not_mem_nil, or_false] at h
          rcases h with rfl | rfl | rfl
          · exact nx1
          · exact t0.free nla
          · exact t0.free nlr
        · rw [hv0] at h
          unfold adrs at h
          simp only [List.map_nil, List.append_nil, List.mem_cons, List.not_mem_nil, or_false] at h
          rcases h with rfl | rfl | rfl | rfl
          · exact sG1.free npd
          · exact (sG1.trans spd).free n3
          · exact (sG1.trans (spd.trans s3)).free n4
          · exact (sG1.trans (spd.trans (s3.trans s4))).free n5
      have evS : v0.S = pd := by rw [hv0]
      have etop : [((Sum.inr (Str.ofString "held") : Key), V.ref hd), (.inr (Str.ofString "since"), .ref sd), (.inr (Str.ofString "marks"), .ref ml)] = topD v0 := by rw [hv0]; rfl
      rw [etop]
      have sGG : Same G (upd G5 pd (.dK (topD v0))) := sG1.trans sG6
      clear hv0 etop k6 sG6 e3 e4 e5 epd epd5
      generalize upd G5 pd (.dK (topD v0)) = G6 at L0 e0q sGG ⊢
      walk_at "go"
      refine newT fun t1 G7 nt1 s7 et1 => ?_
      walk_at "go"
      refine newLB fun h G8 nh gh s8 eh => ?_
      have hal : Hal A NS G8 h np [t1] [⟨x1, la, lr, v0, [], []⟩] (fun _ => 7 * (1 + 0)) := by
        have one : ∀ (i : Nat) (e : En), ([⟨x1, la, lr, v0, [], []⟩] : List En)[i]? = some e → i = 0 ∧ e = ⟨x1, la, lr, v0, [], []⟩ := fun i e he => by
          cases i with
          | zero => exact ⟨rfl, (Option.some.inj he).symm⟩
          | succ i => exact nomatch he
        have s78 := s7.trans s8
        refine ⟨eh, s8 _ _ (s7 _ _ (sGG _ _ en)), rfl, fun k t e h1 h2 => ?_, fun i e he => ?_, fun i e he p hp => ?_, fun i j a b ha hb hij => ?_, fun i e he => ?_, fun z => ?_⟩
        · obtain ⟨rfl, rfl⟩ := one k e h2
          obtain rfl := Option.some.inj h1
          show G8 t1 = some (.tup [.ref x1, .ref v0.S])
          rw [evS]
          exact s8 _ _ et1
        · obtain ⟨rfl, rfl⟩ := one i e he
          exact e0q.keep (fun b u _ eb => s78 _ _ eb) fun b xs eb => s78 _ _ eb
        · obtain ⟨rfl, rfl⟩ := one i e he
          exact nomatch hp
        · exact absurd ((one i a ha).1.trans (one j b hb).1.symm) hij
        · obtain ⟨rfl, rfl⟩ := one i e he
          refine ⟨fun z => ?_, fun z => ?_⟩
          · obtain ⟨u, hu, _⟩ := fp_ct e0q z
            rw [s7 _ _ hu] at nh
            exact nomatch nh
          · rw [fr0 _ z] at en
            exact nomatch en
        · rw [← z, s7 _ _ (sGG _ _ en)] at nh
          exact nomatch nh
      have frH : ∀ (i : Nat) (e : En), ([⟨x1, la, lr, v0, [], []⟩] : List En)[i]? = some e → ∀ x ∈ fpE e, H x = none := fun i e he x hx => by
        cases i with
        | zero =>
          obtain rfl := Option.some.inj he
          exact sG.free (fr0 x hx)
        | succ i => exact nomatch he
      have nhH : H h = none := (sG.trans (sGG.trans s7)).free nh
      have sG8 : Same H G8 := sG.trans (sGG.trans (s7.trans s8))
      clear s7 s8 et1 eh nh e0q L0 fr0 sGG s25 n3 n4 n5 spd npd hq b1 nla nlr t0 sG1 en
      walk_at "go"
      refine ⟨a, _, rfl, .inl (sG8.seq hS), ?_⟩
      walk_at "go"
      refine ⟨_, _, rfl, ?_⟩
      walk_at "go"
      refine ⟨_, _, rfl, ?_⟩
      walk_at "go"
      rw [List.length_map]
      obtain ⟨J, hJ⟩ : ∃ J : Int, J = if (if (51 : Int) < (ns.length : Nat) then (51 : Int) else (ns.length : Nat)) > 7 then (if (51 : Int) < (ns.length : Nat) then (51 : Int) else (ns.length : Nat)) else 7 := ⟨_, rfl⟩
      have hJb : 7 ≤ J ∧ J ≤ 51 := by
        rw [hJ]
        split <;> split <;> omega
      refine ⟨1, J, by rw [hJ], ⟨by decide, by decide, by omega, by omega⟩, ?_⟩
      clear hJ
      have hn50 : (J - 1).toNat ≤ 50 := by omega
      generalize (J - 1).toNat = n at hn50 ⊢
      refine for_range (lo := 1) (n := n) (fun k σ G => (∃ x1 x4 x5 x6 x7, σ = [some (.ref a), x1, some (.ref np), some (.ref h), x4, x5, x6, x7]) ∧ Same H G ∧ ∃ ts es, Hal A NS G h np ts es (fun _ => 7 * (1 + k)) ∧ 1 ≤ es.length ∧ es.length ≤ 2 ∧ ∀ (i : Nat) (e : En), es[i]? = some e → ∀ x ∈ fpE e, H x = none)
        ⟨⟨_, _, _, _, _, rfl⟩, sG8, [t1], _, hal, Nat.le_refl 1, (show 1 ≤ 2 by decide), frH⟩ ?_ ?_
      · clear hal frH sG8
        rintro k σ G9 hk ⟨⟨x1', x4, x5, x6, x7, rfl⟩, sG9, ts, es, hal, le1, le2, fr⟩
        walk_at "go"
        refine ⟨a, ns, 1 + k, rfl, sG9.seq hS, by omega, fun c2 => ?_⟩
        walk_at "go"
        refine ⟨c2, rfl, fun by_ Ga nby sa hBa => ?_⟩
        walk_at "go"
        have hala := hal.same sa
        have nbyH : H by_ = none := sG9.free nby
        have nb : ∀ (i : Nat) (e : En), es[i]? = some e → by_ ∉ fpE e := fun i e he z => by
          obtain ⟨u, hu, _⟩ := fp_ct (hal.qs i e he) z
          rw [nby] at hu
          exact nomatch hu
        have nbh : h ≠ by_ := fun z => by have w := hal.at_; rw [z, nby] at w; exact nomatch w
        have nbn : np ≠ by_ := fun z => by have w := hal.en; rw [z, nby] at w; exact nomatch w
        refine r_cut (fun σ G => σ = [some (.ref a), some (.ref by_), some (.ref np), some (.ref h), some (.int ((1 + k : Nat) : Int)), x5, x6, x7] ∧ Same H G ∧ Box by_ 5 G ∧ ∃ ts es, Hal A NS G h np ts es (fun _ => 7 * (1 + k)) ∧ 1 ≤ es.length ∧ es.length ≤ 2 ∧ (∀ (i : Nat) (e : En), es[i]? = some e → ∀ x ∈ fpE e, H x = none) ∧ ∀ (i : Nat) (e : En), es[i]? = some e → by_ ∉ fpE e) ?_ ?_
        · walk_at "go"
          refine ⟨h, _, rfl, .inl (sqL hala.at_), ?_⟩
          rw [List.length_map, hala.len]
          walk_at "go"
          refine iteC (fun h1 => ?_) (fun h1 => ?_)
          · walk_at "go"
            refine r_take hBa fun d Gb h0 h1' hBb bb => ?_
            have sab : Same G9 Gb := butSame sa nby bb
            have halb := hal.same sab
            walk_at "go"
            have hl1 : es.length = 1 := by injection h1 with h1; omega
            refine iteC (fun h2 => ?_) (fun h2 => ?_)
            · obtain ⟨e0, rfl⟩ := List.length_eq_one_iff.mp hl1
              obtain ⟨t0, rfl⟩ := List.length_eq_one_iff.mp (halb.len.trans hl1)
              have tp0 := halb.tup 0 t0 e0 rfl rfl
              have q0 := halb.qs 0 e0 rfl
              obtain ⟨n0, tss, n9, hq0⟩ := q0.qu
              obtain ⟨dx0, fs0, eo0, _, _, hn0⟩ := hq0.ob
              walk_at "go"
              refine ⟨.inl ⟨rfl, _, sqL halb.at_⟩, ?_⟩
              walk_at "go"
              refine r_ixL (sqL halb.at_) (v := .ref t0) rfl ?_
              walk_at "go"
              refine r_ixT (sqT tp0) (v := .ref e0.o) rfl ?_
              refine ⟨e0.o, dx0, fs0, rfl, eo0, hn0.2 _ (by decide +kernel) (by decide +kernel), ?_⟩
              walk_at "go"
              refine ⟨e0.o, e0.la, e0.lr, n0, tss, e0.as, e0.row, rfl, hq0, fun y la2 lr2 Gc sc hY frY => ?_⟩
              walk_at "go"
              refine r_ixL (sqL (sc _ _ halb.at_)) (v := .ref t0) rfl ?_
              walk_at "go"
              refine r_ixT (sqT (sc _ _ tp0)) (v := .ref e0.v.S) rfl ?_
              walk_at "go"
              refine ⟨e0.v, rfl, q0.sn.ly.same sc, by have := q0.sn.hl; omega, by have := q0.sn.sl; omega, by have := q0.sn.mln; omega, fun v2 Gd sd L2 k1 k2 k3 frv => ?_⟩
              walk_at "go"
              refine newT fun t2 Ge nt2 se et2 => ?_
              walk_at "go"
              have sbe : Same Gb Ge := sc.trans (sd.trans se)
              have ate := sbe _ _ halb.at_
              refine ⟨h, _, _, rfl, rfl, ate, by rw [sizeLine_eq]; show 1 < _; omega, ?_⟩
              have hYe : Qu A.CQ 4 Ge y la2 lr2 tss e0.as e0.row := hY.same (sd.trans se)
              have q2 : QsE A NS Ge ⟨y, la2, lr2, v2, e0.as, e0.row⟩ := by
                refine ⟨⟨4, tss, by decide, hYe⟩, (q0.sn.copy L2 k1 k2 k3).same se, fun b hb z => ?_⟩
                have w := frv b z
                obtain ⟨dy, fy, ey, _⟩ := hY.ob
                simp only [List.mem_cons, List.not_mem_nil, or_false] at hb
                rcases hb with rfl | rfl | rfl
                · rw [ey] at w; exact nomatch w
                · rw [hY.al.at_] at w; exact nomatch w
                · rw [hY.rw_] at w; exact nomatch w
              have fr2 : ∀ b ∈ fpE ⟨y, la2, lr2, v2, e0.as, e0.row⟩, Gb b = none := fun b hb => by
                rcases List.mem_append.mp hb with z | z
                · exact frY b z
                · exact sc.free (frv b z)
              have hp := halb.push (M := 7 * (1 + k)) (e := ⟨y, la2, lr2, v2, e0.as, e0.row⟩) sbe q2 fr2 et2 (halb.nu 0 e0 rfl)
              obtain ⟨bxs, ebx⟩ := box_ex hBb
              have get : ∀ (i : Nat) (e : En), ([e0] ++ [⟨y, la2, lr2, v2, e0.as, e0.row⟩] : List En)[i]? = some e → (i = 0 ∧ e = e0) ∨ e = ⟨y, la2, lr2, v2, e0.as, e0.row⟩ := fun i e he => by
                match i, he with
                | 0, he => exact .inl ⟨rfl, (Option.some.inj he).symm⟩
                | 1, he => exact .inr (Option.some.inj he).symm
                | i + 2, he => exact nomatch he
              refine ⟨rfl, fun b u eb => ?_, ?_, _, _, hp.mono fun i => ?_, (show 1 ≤ 2 by decide), Nat.le_refl 2, fun i e he x hx => ?_, fun i e he z => ?_⟩
              · rw [upd_ne (fun z => by rw [z, nhH] at eb; exact nomatch eb)]
                exact sbe _ _ (sab _ _ (sG9 _ _ eb))
              · obtain ⟨x1, y1, z1, eB, r1, r2, r3, r4, r5⟩ := hBb
                exact ⟨x1, y1, z1, by rw [upd_ne (fun z => nbh z.symm)]; exact sbe _ _ eB, r1, r2, r3, r4, by omega⟩
              · split <;> omega
              · rcases get i e he with ⟨_, rfl⟩ | rfl
                · exact fr 0 e rfl x hx
                · exact (sG9.trans sab).free (fr2 x hx)
              · rcases get i e he with ⟨_, rfl⟩ | rfl
                · exact nb 0 e rfl z
                · have w := fr2 by_ z
                  rw [ebx] at w
                  exact nomatch w
            · walk_at "go"
              exact ⟨rfl, sG9.trans sab, hBb.mono (by decide), ts, es, halb, le1, le2, fr, nb⟩
          · walk_at "go"
            exact ⟨rfl, sG9.trans sa, hBa.mono (by decide), ts, es, hala, le1, le2, fr, nb⟩
        · clear hala hal nb fr le1 le2 es ts sG9
          rintro σ Gc ⟨rfl, sGc, hBc, ts, es, hal, le1, le2, fr, nb⟩
          walk_at "go"
          refine ⟨h, rfl, ⟨_, sqL hal.at_⟩, for_list (K := K) (a := h) (xs := ts.map V.ref) (fun j σ G => (∃ x5 x6 x7, σ = [some (.ref a), some (.ref by_), some (.ref np), some (.ref h), some (.int ((1 + k : Nat) : Int)), x5, x6, x7]) ∧ Same H G ∧ Box by_ (5 + 40 * j) G ∧ ∃ es, Hal A NS G h np ts es (fun i => if i < j then 7 * (1 + (k + 1)) else 7 * (1 + k)) ∧ 1 ≤ es.length ∧ es.length ≤ 2 ∧ (∀ (i : Nat) (e : En), es[i]? = some e → ∀ x ∈ fpE e, H x = none) ∧ ∀ (i : Nat) (e : En), es[i]? = some e → by_ ∉ fpE e)
            ⟨⟨_, _, _, rfl⟩, sGc, hBc, es, hal.mono (fun i => by rw [if_neg (Nat.not_lt_zero i)]; exact Nat.le_refl _), le1, le2, fr, nb⟩ (fun j σ G _ ⟨_, _, _, _, hl, _⟩ => sqL hl.at_) ?_ ?_⟩
          · clear hal le1 le2 fr nb es hBc sGc
            rintro j y σ G hj ⟨⟨x5, x6, x7, rfl⟩, sG, hB, es, hal, le1, le2, fr, nb⟩
            rw [List.getElem?_map] at hj
            cases ct : ts[j]? with
            | none => rw [ct] at hj; exact nomatch hj
            | some t =>
              rw [ct] at hj
              obtain rfl := Option.some.inj hj
              have hjl : j < es.length := by rw [← hal.len]; exact (List.getElem?_eq_some_iff.mp ct).1
              have ce : es[j]? = some es[j] := List.getElem?_eq_getElem hjl
              have tp := hal.tup j t es[j] ct ce
              obtain ⟨bxs, ebx⟩ := box_ex hB
              refine ⟨t, _, rfl, sqT tp, rfl, .ref es[j].o, _, rfl, .ref es[j].v.S, _, rfl, rfl, ?_⟩
              walk_at "go"
              refine ⟨NS, by_, es[j].o, es[j].la, es[j].lr, np, es[j].v, es[j].as, es[j].row, 5 + 40 * j, 1 + k, rfl, hal.qs j _ ce, hB, by omega, nb j _ ce, hal.en, (hal.nh j _ ce).2, nbn, by omega, by omega, fun p hp => ?_, fun G' tn => ?_⟩
              · have w := hal.nu j _ ce p hp
                rw [if_neg (Nat.lt_irrefl j)] at w
                exact w
              · obtain ⟨la', lr', v', as', row', eS, hQ', hB', mv, hp'⟩ := tn
                obtain ⟨hal', nb'⟩ := hal.turn (e' := ⟨es[j].o, la', lr', v', as', row'⟩) (M := 7 * (1 + (k + 1))) ce nb ebx ⟨nbh, nbn⟩ rfl eS hQ' mv (fun p hp => by have := hp' p hp; omega)
                walk_at "go"
                refine ⟨⟨_, _, _, rfl⟩, fun b u eb => mv.k _ _ (fun z => by rw [z, nbyH] at eb; exact nomatch eb) (fun z => by rw [fr j _ ce b z] at eb; exact nomatch eb) (sG _ _ eb), hB'.mono (by omega), _, hal'.mono (fun i => ?_), by rw [List.length_set]; exact le1, by rw [List.length_set]; exact le2, fun i e he x hx => ?_, nb'⟩
                · by_cases c1 : i = j
                  · rw [if_pos c1, if_pos (by omega)]
                    exact Nat.le_refl _
                  · rw [if_neg c1]
                    by_cases c2 : i < j
                    · rw [if_pos c2, if_pos (by omega)]
                      exact Nat.le_refl _
                    · rw [if_neg c2, if_neg (by omega)]
                      exact Nat.le_refl _
                · by_cases c1 : i = j
                  · subst c1
                    rw [List.getElem?_set_self hjl] at he
                    obtain rfl := Option.some.inj he
                    rcases mv.f x hx with z | z
                    · exact fr i _ ce x z
                    · exact sG.free z
                  · rw [List.getElem?_set_ne (fun w => c1 w.symm)] at he
                    exact fr i e he x hx
          · clear hal le1 le2 fr nb es hBc sGc
            rintro σ G ⟨⟨x5, x6, x7, rfl⟩, sG, hB, es, hal, le1, le2, fr, nb⟩
            refine ⟨⟨_, _, _, _, _, rfl⟩, sG, ts, es, hal.mono' (fun i hi => ?_), le1, le2, fr⟩
            rw [if_pos (by rw [List.length_map, hal.len]; exact hi)]
            exact Nat.le_refl _
      · clear hal frH sG8
        rintro σ G9 ⟨⟨x1', x4, x5, x6, x7, rfl⟩, sG9, ts, es, hal, le1, le2, fr⟩
        walk_at "go"
        refine ⟨h, rfl, ⟨_, sqL hal.at_⟩, for_list (K := K) (a := h) (xs := ts.map V.ref) (fun j σ G => (∃ x5 x6, σ = [some (.ref a), x1', some (.ref np), some (.ref h), x4, x5, x6, x7]) ∧ G h = some (.lst (ts.map V.ref)) ∧ (∀ (k : Nat) (t : Addr) (e : En), ts[k]? = some t → es[k]? = some e → G t = some (.tup [.ref e.o, .ref e.v.S])) ∧ ∀ (i : Nat) (e : En), j ≤ i → es[i]? = some e → QsE A NS G e)
          ⟨⟨_, _, rfl⟩, hal.at_, hal.tup, fun i e _ he => hal.qs i e he⟩ (fun j σ G _ ⟨_, hl, _⟩ => sqL hl) ?_ ?_⟩
        · rintro j y σ G hj ⟨⟨x5, x6, rfl⟩, hl, tp, qs⟩
          rw [List.getElem?_map] at hj
          cases ct : ts[j]? with
          | none => rw [ct] at hj; exact nomatch hj
          | some t =>
            rw [ct] at hj
            obtain rfl := Option.some.inj hj
            have hjl : j < es.length := by rw [← hal.len]; exact (List.getElem?_eq_some_iff.mp ct).1
            have ce : es[j]? = some es[j] := List.getElem?_eq_getElem hjl
            refine ⟨t, _, rfl, sqT (tp j t _ ct ce), rfl, .ref es[j].o, _, rfl, .ref es[j].v.S, _, rfl, rfl, ?_⟩
            walk_at "go"
            refine ⟨NS, es[j].o, es[j].la, es[j].lr, es[j].v, es[j].as, es[j].row, rfl, qs j _ (Nat.le_refl _) ce, fun G' kp => ?_⟩
            have tk : ∀ b xs, G b = some (.tup xs) → G' b = some (.tup xs) := fun b xs eb => kp _ _ (fun z => by
              obtain ⟨u, hu, hn⟩ := fp_ct (qs j _ (Nat.le_refl _) ce) z
              rw [eb] at hu
              exact hn xs (Option.some.inj hu).symm) eb
            walk_at "go"
            exact ⟨⟨_, _, rfl⟩, kp _ _ (hal.nh j _ ce).1 hl, fun k t e a b => tk _ _ (tp k t e a b), fun i e hi he => (qs i e (by omega) he).keep (fun b u hb eb => kp b u (fun z => hal.dj i j e _ he ce (by omega) b hb z) eb) tk⟩
        · rintro σ G ⟨⟨x5, x6, rfl⟩, _⟩
          walk_at "go"
          exact q _
end
end K23

namespace K23
open PySem PySem.Spec PyProof.Rows L2 Bk


section
variable {P : Program} {w : World} {K : PySem.W.Frag} {mg : Str → Option Value} {base : Heap} {A : Ad}
theorem ok_cell {f : Addr} {fd : FuncData} (F : Fun K "_law_cell" "_law_cell" s_cell_L f fd) (T : Txt K mg A) : FnOk P w K mg base CX0 1 f fd ["_law_script", "_law_k"] (Bk.spCell K) := by
  refine F.ok sc_cell_L (fun vs H Q E h => ?_) (fun cdv A' outer s H vs Q E hr h => ⟨_, (pss_cons (ps_if (pt_cmpR op_lt (pv 1) (pe_callB call_len_seq (by rfl) T.m_len (by decide +kernel) (pa_cons (pv 0) pa_nil)) (nomark _)) (pss_one (ps_ret (pe_ix ix_list (pv 0) (pv 1) (fun _ _ => rfl)))) pss_nil)
    (pss_one (ps_ret (pe_op op_add (pe_op op_mulW pe_int (pv 1)) pe_int)))), ?_⟩)
  · obtain ⟨a, ns, k, rfl, _⟩ := h
    rfl
  · obtain ⟨a, ns, k, rfl, hS, hk, q⟩ := h
    walk_at "go"
    refine ⟨a, _, rfl, .inl hS, ?_⟩
    walk_at "go"
    refine ite2 (fun e => ?_) (fun e => ?_)
    · walk_at "go"
      have hl : k < ns.length := by
        have z := of_decide_eq_true e
        rw [List.length_map] at z
        omega
      exact r_ixL hS (at_map hl) (q _)
    · walk_at "go"
      refine r_I (cmul (by decide) (by decide) (by omega) (by omega)) ?_
      walk_at "go"
      exact q _
theorem ok_box {f : Addr} {fd : FuncData} (F : Fun K "_law_box" "_law_box" s_box_L f fd) (T : Txt K mg A) : FnOk P w K mg base CX0 1 f fd ["_law_cell_here"] spBox := by
  refine F.ok sc_box_L (fun vs H Q E h => ?_) (fun cdv A' outer s H vs Q E hr h => ⟨_, (pss_one (ps_ret (pe_lstB (pa_cons (pe_callB (call_max2 rfl) (by rfl) T.m_max (by decide +kernel) (pa_cons pe_int (pa_cons (pe_op op_sub (pv 0) (pe_op op_pow pe_int pe_int)) pa_nil))) (pa_cons (pe_op op_mod (pv 0) pe_int) (pa_cons pe_int pa_nil)))))), ?_⟩)
  · obtain ⟨c, rfl, _⟩ := h
    rfl
  · obtain ⟨c, rfl, q⟩ := h
    walk_at "go"
    refine r_I ⟨by decide, by decide, by decide⟩ ?_
    walk_at "go"
    refine ⟨_, _, rfl, ?_⟩
    walk_at "go"
    refine r_I (by decide) ?_
    walk_at "go"
    refine newLB fun p H' np ns sm e => q p H' np sm ⟨_, _, _, e, ?_, ?_, ?_, ?_, ?_⟩ <;> first | omega | (split <;> omega)
theorem ok_take {f : Addr} {fd : FuncData} (F : Fun K "_law_take" "_law_take" s_take_L f fd) (T : Txt K mg A) : FnOk P w K mg base CX0 1 f fd ["_law_box_here", "_law_many"] spTake := by
  refine F.ok sc_take_L (fun vs H Q E h => ?_) (fun cdv A' outer s H vs Q E hr h => ⟨_, (pss_cons (ps_if (pt_cmpR op_gt (pe_ix ix_list (pv 0) pe_int (fun _ _ => rfl)) pe_int (nomark _)) (pss_cons (ps_set (i := 2) sc_take_L.nd rfl (.inl rfl) (pe_op op_mod (pe_ix ix_list (pv 0) pe_int (fun _ _ => rfl)) (pv 1)))
    (pss_cons (ps_asg (pe_op op_fdivW (pe_ix ix_list (pv 0) pe_int (fun _ _ => rfl)) (pv 1)) (pg_sub (pv 0) pe_int set_list))
    (pss_one (ps_ret (pv 2))))) pss_nil)
    (pss_cons (ps_asg (pe_op op_add (pe_ix ix_list (pv 0) pe_int (fun _ _ => rfl)) pe_int) (pg_sub (pv 0) pe_int set_list))
    (pss_cons (ps_set (i := 3) sc_take_L.nd rfl (.inl rfl) (pe_op op_mod (pe_op op_pow (pe_op op_add (pe_op op_add (pe_ix ix_list (pv 0) pe_int (fun _ _ => rfl)) (pe_op op_mulW pe_int (pe_ix ix_list (pv 0) pe_int (fun _ _ => rfl)))) pe_int) pe_int) pe_int))
    (pss_cons (ps_set (i := 4) sc_take_L.nd rfl (.inl rfl) (pe_op op_mod (pe_op op_pow (pe_op op_add (pe_op op_add (pe_op op_fdivW (pv 3) pe_int) (pe_op op_mulW pe_int (pe_ix ix_list (pv 0) pe_int (fun _ _ => rfl)))) pe_int) pe_int) pe_int))
    (pss_one (ps_ret (pe_op op_mod (pe_op op_add (pe_op op_fdivW (pv 3) pe_int) (pe_op op_mulW pe_int (pe_op op_fdivW (pv 4) pe_int))) (pv 1)))))))), ?_⟩)
  · obtain ⟨a, n, size, rfl, _⟩ := h
    rfl
  · obtain ⟨a, n, size, rfl, ⟨x, y, z, e, hx, hy, hy2, hz, hz2⟩, hn, h0, h1, q⟩ := h
    have i0 : SqL K H a [.int x, .int y, .int z] := sqL e
    walk_at "go"
    refine r_ixL i0 (v := .int x) rfl ?_
    walk_at "go"
    refine ite2 (fun hp => ?_) (fun hp => ?_)
    · walk_at "go"
      refine r_ixL i0 (v := .int x) rfl ?_
      walk_at "go"
      refine r_I h0 ?_
      walk_at "go"
      refine r_ixL i0 (v := .int x) rfl ?_
      walk_at "go"
      refine r_I (cdiv h0 h1) ?_
      walk_at "go"
      refine ⟨a, _, 0, 0, rfl, rfl, e, rfl, ?_⟩
      walk_at "go"
      exact q _ _ (Int.emod_nonneg _ (by omega)) (Int.emod_lt_of_pos _ h0) ⟨x / size, y, z, upd_same, Int.ediv_nonneg hx (by omega), hy, hy2, hz, by omega⟩ But.upd
    · walk_at "go"
      refine r_ixL i0 (v := .int z) rfl ?_
      walk_at "go"
      refine ⟨a, _, 2, 2, rfl, rfl, e, rfl, ?_⟩
      have i1 : SqL K (upd H a (.lst [.int x, .int y, .int (z + 1)])) a [.int x, .int y, .int (z + 1)] := sqL upd_same
      walk_at "go"
      refine r_ixL i1 (v := .int y) rfl ?_
      walk_at "go"
      refine r_ixL i1 (v := .int (z + 1)) rfl ?_
      refine r_I (cmul (by decide) (by decide) (by omega) (by omega)) ?_
      walk_at "go"
      have g1 : (y + 6151 * (z + 1) + 41).natAbs < 2 ^ 64 := by omega
      refine r_I ⟨by decide, by decide, g1⟩ ?_
      walk_at "go"
      refine r_I (by decide) ?_
      walk_at "go"
      generalize hone : (y + 6151 * (z + 1) + 41) ^ (Int.toNat 5) % 2147483647 = one
      have o1 : 0 ≤ one := by rw [← hone]; exact Int.emod_nonneg _ (by decide)
      have o2 : one < 2147483647 := by rw [← hone]; exact Int.emod_lt_of_pos _ (by decide)
      refine r_I (cdiv (by decide) (by decide)) ?_
      walk_at "go"
      refine r_ixL i1 (v := .int (z + 1)) rfl ?_
      refine r_I (cmul (by decide) (by decide) (by omega) (by omega)) ?_
      walk_at "go"
      have g2 : (one / 8 + 104729 * (z + 1) + 67).natAbs < 2 ^ 64 := by omega
      refine r_I ⟨by decide, by decide, g2⟩ ?_
      walk_at "go"
      refine r_I (by decide) ?_
      walk_at "go"
      generalize htwo : (one / 8 + 104729 * (z + 1) + 67) ^ (Int.toNat 3) % 2147483629 = two
      have t1 : 0 ≤ two := by rw [← htwo]; exact Int.emod_nonneg _ (by decide)
      have t2 : two < 2147483629 := by rw [← htwo]; exact Int.emod_lt_of_pos _ (by decide)
      refine r_I (cdiv (by decide) (by decide)) ?_
      walk_at "go"
      refine r_I (cdiv (by decide) (by decide)) ?_
      refine r_I (cmul (by decide) (by decide) (by omega) (by omega)) ?_
      walk_at "go"
      refine r_I h0 ?_
      exact q _ _ (Int.emod_nonneg _ (by omega)) (Int.emod_lt_of_pos _ h0) ⟨x, y, z + 1, upd_same, hx, hy, hy2, by omega, by omega⟩ But.upd

theorem ok_GE {f : Addr} {fd : FuncData} (F : Fun K "__init__" "GuestError.__init__" s_GuestError_init f fd) (T : Txt K mg A) : FnOk P w K mg base CX0 1 f fd ["self", "text"] (spGT K .ve) := by
  refine F.ok sc_GuestError_init (fun vs H Q E h => ?_) (fun cdv A' outer s H vs Q E hr h => ⟨_, (pss_one (ps_expr (pe_veI (by rfl) T.m_ValueError T.vV (pa_cons (pv 0) (pa_cons (pv 1) pa_nil))))), ?_⟩)
  · obtain ⟨a, C, x, rfl, _⟩ := h
    rfl
  · obtain ⟨a, C, x, rfl, hC, e, q⟩ := h
    exact ⟨_, rfl, _, rfl, a, C, [x], rfl, Nat.le_of_ble_eq_true rfl, hC, e, q⟩
theorem ok_KE {f : Addr} {fd : FuncData} (F : Fun K "__init__" "Missing.__init__" s_Missing_init f fd) (T : Txt K mg A) : FnOk P w K mg base CX0 1 f fd ["self", "text"] (spGT K .ke) := by
  refine F.ok sc_Missing_init (fun vs H Q E h => ?_) (fun cdv A' outer s H vs Q E hr h => ⟨_, (pss_one (ps_expr (pe_keI (by rfl) T.m_KeyError T.vK (pa_cons (pv 0) (pa_cons (pv 1) pa_nil))))), ?_⟩)
  · obtain ⟨a, C, x, rfl, _⟩ := h
    rfl
  · obtain ⟨a, C, x, rfl, hC, e, q⟩ := h
    exact ⟨_, rfl, _, rfl, a, C, [x], rfl, Nat.le_of_ble_eq_true rfl, hC, e, q⟩
theorem ok_BB {f : Addr} {fd : FuncData} (F : Fun K "__init__" "Barred.__init__" s_Barred_init f fd) (T : Txt K mg A) : FnOk P w K mg base CX0 1 f fd ["self", "text"] (spGT K .le) := by
  refine F.ok sc_Barred_init (fun vs H Q E h => ?_) (fun cdv A' outer s H vs Q E hr h => ⟨_, (pss_one (ps_expr (pe_leI (by rfl) T.m_LookupError T.vL (pa_cons (pv 0) (pa_cons (pv 1) pa_nil))))), ?_⟩)
  · obtain ⟨a, C, x, rfl, _⟩ := h
    rfl
  · obtain ⟨a, C, x, rfl, hC, e, q⟩ := h
    exact ⟨_, rfl, _, rfl, a, C, [x], rfl, Nat.le_of_ble_eq_true rfl, hC, e, q⟩
theorem ok_iM {f : Addr} {fd fdG : FuncData} (F : Fun K "__init__" "NoNumber.__init__" s_NoNumber_init f fd) (T : Txt K mg A) (c_GuestError_init : Own P w K mg base CX0 1 A.fG fdG ["self", "text"] (spGT K .ve)) : FnOk P w K mg base CX0 2 f fd ["self", "found"] (spInitN "found" A.CM) := by
  refine F.ok sc_NoNumber_init (fun vs H Q E h => ?_) (fun cdv A' outer s H vs Q E hr h => ⟨_, (pss_cons (ps_expr (pe_cdef c_GuestError_init.ok hr (by rfl) T.g_GuestError T.rd_GuestError T.ga_GuestError T.at_GuestError c_GuestError_init.kp c_GuestError_init.bd .nil pass0 (pa_cons (pv 0) (pa_cons pe_str pa_nil))))
    (pss_one (ps_osN (pv 0) (pv 1)))), ?_⟩)
  · obtain ⟨a, x, rfl, _⟩ := h
    rfl
  · obtain ⟨a, x, rfl, e, q⟩ := h
    walk_at "go"
    exact ⟨a, A.CM, _, rfl, T.ox_NoNumber, e, x, rfl, .ref a, rfl, .ve, a, A.CM, rfl, T.ox_NoNumber, T.nf_NoNumber, e, q⟩
theorem ok_iN {f : Addr} {fd fdG : FuncData} (F : Fun K "__init__" "NoName.__init__" s_NoName_init f fd) (T : Txt K mg A) (c_GuestError_init : Own P w K mg base CX0 1 A.fG fdG ["self", "text"] (spGT K .ve)) : FnOk P w K mg base CX0 2 f fd ["self", "found"] (spInitN "found" A.CN) := by
  refine F.ok sc_NoName_init (fun vs H Q E h => ?_) (fun cdv A' outer s H vs Q E hr h => ⟨_, (pss_cons (ps_expr (pe_cdef c_GuestError_init.ok hr (by rfl) T.g_GuestError T.rd_GuestError T.ga_GuestError T.at_GuestError c_GuestError_init.kp c_GuestError_init.bd .nil pass0 (pa_cons (pv 0) (pa_cons pe_str pa_nil))))
    (pss_one (ps_osN (pv 0) (pv 1)))), ?_⟩)
  · obtain ⟨a, x, rfl, _⟩ := h
    rfl
  · obtain ⟨a, x, rfl, e, q⟩ := h
    walk_at "go"
    exact ⟨a, A.CN, _, rfl, T.ox_NoName, e, x, rfl, .ref a, rfl, .ve, a, A.CN, rfl, T.ox_NoName, T.nf_NoName, e, q⟩
theorem ok_iD {f : Addr} {fd fdG : FuncData} (F : Fun K "__init__" "Doubled.__init__" s_Doubled_init f fd) (T : Txt K mg A) (c_GuestError_init : Own P w K mg base CX0 1 A.fG fdG ["self", "text"] (spGT K .ve)) : FnOk P w K mg base CX0 2 f fd ["self", "found"] (spInitN "found" A.CD) := by
  refine F.ok sc_Doubled_init (fun vs H Q E h => ?_) (fun cdv A' outer s H vs Q E hr h => ⟨_, (pss_cons (ps_expr (pe_cdef c_GuestError_init.ok hr (by rfl) T.g_GuestError T.rd_GuestError T.ga_GuestError T.at_GuestError c_GuestError_init.kp c_GuestError_init.bd .nil pass0 (pa_cons (pv 0) (pa_cons pe_str pa_nil))))
    (pss_one (ps_osN (pv 0) (pv 1)))), ?_⟩)
  · obtain ⟨a, x, rfl, _⟩ := h
    rfl
  · obtain ⟨a, x, rfl, e, q⟩ := h
    walk_at "go"
    exact ⟨a, A.CD, _, rfl, T.ox_Doubled, e, x, rfl, .ref a, rfl, .ve, a, A.CD, rfl, T.ox_Doubled, T.nf_Doubled, e, q⟩
theorem ok_iA {f : Addr} {fd fdG : FuncData} (F : Fun K "__init__" "NoAsk.__init__" s_NoAsk_init f fd) (T : Txt K mg A) (c_Missing_init : Own P w K mg base CX0 1 A.fK fdG ["self", "text"] (spGT K .ke)) : FnOk P w K mg base CX0 2 f fd ["self", "found"] (spInitN "found" A.CA) := by
  refine F.ok sc_NoAsk_init (fun vs H Q E h => ?_) (fun cdv A' outer s H vs Q E hr h => ⟨_, (pss_cons (ps_expr (pe_cdef c_Missing_init.ok hr (by rfl) T.g_Missing T.rd_Missing T.ga_Missing T.at_Missing c_Missing_init.kp c_Missing_init.bd .nil pass0 (pa_cons (pv 0) (pa_cons pe_str pa_nil))))
    (pss_one (ps_osN (pv 0) (pv 1)))), ?_⟩)
  · obtain ⟨a, x, rfl, _⟩ := h
    rfl
  · obtain ⟨a, x, rfl, e, q⟩ := h
    walk_at "go"
    exact ⟨a, A.CA, _, rfl, T.ox_NoAsk, e, x, rfl, .ref a, rfl, .ke, a, A.CA, rfl, T.ox_NoAsk, T.nf_NoAsk, e, q⟩
theorem ok_iF {f : Addr} {fd fdG : FuncData} (F : Fun K "__init__" "Full.__init__" s_Full_init f fd) (T : Txt K mg A) (c_Barred_init : Own P w K mg base CX0 1 A.fB fdG ["self", "text"] (spGT K .le)) : FnOk P w K mg base CX0 2 f fd ["self", "many"] (spInitN "many" A.CF) := by
  refine F.ok sc_Full_init (fun vs H Q E h => ?_) (fun cdv A' outer s H vs Q E hr h => ⟨_, (pss_cons (ps_expr (pe_cdef c_Barred_init.ok hr (by rfl) T.g_Barred T.rd_Barred T.ga_Barred T.at_Barred c_Barred_init.kp c_Barred_init.bd .nil pass0 (pa_cons (pv 0) (pa_cons pe_str pa_nil))))
    (pss_one (ps_osN (pv 0) (pv 1)))), ?_⟩)
  · obtain ⟨a, x, rfl, _⟩ := h
    rfl
  · obtain ⟨a, x, rfl, e, q⟩ := h
    walk_at "go"
    exact ⟨a, A.CF, _, rfl, T.ox_Full, e, x, rfl, .ref a, rfl, .le, a, A.CF, rfl, T.ox_Full, T.nf_Full, e, q⟩
theorem ok_ckc {f : Addr} {fd fdM : FuncData} (F : Fun K "_check_count" "_check_count" s_check_count f fd) (T : Txt K mg A) (c_is_count : CalD P w K mg base CX0 1 "is_count" (spCount K) [])
    (c_NoNumber_init : Own P w K mg base CX0 2 A.fM fdM ["self", "found"] (spInitN "found" A.CM)) : FnOk P w K mg base (L2.CX P w) 4 f fd ["thing"] (spCheckC K A.CM) := by
  refine F.okX sc_check_count (fun vs H Q E h => ?_) (fun cdv A' outer s H vs Q E hr h => ⟨_, (pss_one (ps_if (pt_not (pt_val (pe_cal c_is_count hr (by decide) (by rfl) (pa_cons (pv 0) pa_nil)))) (pss_one (ps_raise rfl (takes_of rfl rfl rfl rfl) (pmk_oexT T.ox_NoNumber T.i_NoNumber T.t_NoNumber c_NoNumber_init.ok (hr.mono (by decide)) c_NoNumber_init.bd .nil pass0 (by rfl) T.g_NoNumber (pa_cons (pv 0) pa_nil)))) pss_nil)), ?_⟩)
  · obtain ⟨x, rfl, _⟩ := h
    rfl
  · obtain ⟨x, rfl, hx, q⟩ := h
    walk_at "go"
    refine ⟨x, rfl, hx, ?_⟩
    walk_at "go"
    rcases q with ⟨e, q⟩ | ⟨e, q⟩
    · rw [e]
      walk_at "go"
      exact q
    · rw [e]
      walk_at "go"
      exact ⟨x, rfl, r_mkN q⟩
end
end K23

namespace K23
open PySem PySem.Spec PyProof.Rows L2 Bk
theorem all_mk {l : PySem.W.OpenLaw} {w : World} {K : PySem.W.Frag} {h : Heap} {mg : Str → Option Value} {fa C_GuestError C_Missing C_Barred C_NoNumber C_NoName C_Doubled C_NoAsk C_Full C_Queue f_GuestError_init f_Missing_init f_Barred_init f_NoNumber_init f_NoName_init f_Doubled_init f_NoAsk_init f_Full_init f_is_count f_is_name f_all_within f_check_name f_Queue_init f_Queue_put f_Queue_serve f_Queue_leave f_Queue_of f_Queue_waiting f_Queue_comes_at f_Queue_len f_Queue_twin f_check_count f_cell_L f_box_L f_take_L f_names_L f_copied_L f_row_L f_put_L f_served_L f_left_L f_foretold_L f_turn_L f_emptied_L f_law : Addr} (X : K.In h) (G : h.Ns mainGlobals mg) (hfa : mg "law" = some (.ref fa))
    {od_GuestError_init an_GuestError_init : Option Addr} {sl_GuestError_init : Array (Option Value)} {oc_GuestError_init kV_GuestError_init dc_GuestError_init pm_GuestError_init cd_GuestError_init ct_GuestError_init : Value}
    {od_Missing_init an_Missing_init : Option Addr} {sl_Missing_init : Array (Option Value)} {oc_Missing_init kV_Missing_init dc_Missing_init pm_Missing_init cd_Missing_init ct_Missing_init : Value}
    {od_Barred_init an_Barred_init : Option Addr} {sl_Barred_init : Array (Option Value)} {oc_Barred_init kV_Barred_init dc_Barred_init pm_Barred_init cd_Barred_init ct_Barred_init : Value}
    {od_NoNumber_init an_NoNumber_init : Option Addr} {sl_NoNumber_init : Array (Option Value)} {oc_NoNumber_init kV_NoNumber_init dc_NoNumber_init pm_NoNumber_init cd_NoNumber_init ct_NoNumber_init : Value}
    {od_NoName_init an_NoName_init : Option Addr} {sl_NoName_init : Array (Option Value)} {oc_NoName_init kV_NoName_init dc_NoName_init pm_NoName_init cd_NoName_init ct_NoName_init : Value}
    {od_Doubled_init an_Doubled_init : Option Addr} {sl_Doubled_init : Array (Option Value)} {oc_Doubled_init kV_Doubled_init dc_Doubled_init pm_Doubled_init cd_Doubled_init ct_Doubled_init : Value}
    {od_NoAsk_init an_NoAsk_init : Option Addr} {sl_NoAsk_init : Array (Option Value)} {oc_NoAsk_init kV_NoAsk_init dc_NoAsk_init pm_NoAsk_init cd_NoAsk_init ct_NoAsk_init : Value}
    {od_Full_init an_Full_init : Option Addr} {sl_Full_init : Array (Option Value)} {oc_Full_init kV_Full_init dc_Full_init pm_Full_init cd_Full_init ct_Full_init : Value}
    {od_is_count an_is_count : Option Addr} {sl_is_count : Array (Option Value)} {oc_is_count kV_is_count dc_is_count pm_is_count cd_is_count ct_is_count : Value}
    {od_is_name an_is_name : Option Addr} {sl_is_name : Array (Option Value)} {oc_is_name kV_is_name dc_is_name pm_is_name cd_is_name ct_is_name : Value}
    {od_all_within an_all_within : Option Addr} {sl_all_within : Array (Option Value)} {oc_all_within kV_all_within dc_all_within pm_all_within cd_all_within ct_all_within : Value}
    {od_check_name an_check_name : Option Addr} {sl_check_name : Array (Option Value)} {oc_check_name kV_check_name dc_check_name pm_check_name cd_check_name ct_check_name : Value}
    {od_Queue_init an_Queue_init : Option Addr} {sl_Queue_init : Array (Option Value)} {oc_Queue_init kV_Queue_init dc_Queue_init pm_Queue_init cd_Queue_init ct_Queue_init : Value}
    {od_Queue_put an_Queue_put : Option Addr} {sl_Queue_put : Array (Option Value)} {oc_Queue_put kV_Queue_put dc_Queue_put pm_Queue_put cd_Queue_put ct_Queue_put : Value}
    {od_Queue_serve an_Queue_serve : Option Addr} {sl_Queue_serve : Array (Option Value)} {oc_Queue_serve kV_Queue_serve dc_Queue_serve pm_Queue_serve cd_Queue_serve ct_Queue_serve : Value}
    {od_Queue_leave an_Queue_leave : Option Addr} {sl_Queue_leave : Array (Option Value)} {oc_Queue_leave kV_Queue_leave dc_Queue_leave pm_Queue_leave cd_Queue_leave ct_Queue_leave : Value}
    {od_Queue_of an_Queue_of : Option Addr} {sl_Queue_of : Array (Option Value)} {oc_Queue_of kV_Queue_of dc_Queue_of pm_Queue_of cd_Queue_of ct_Queue_of : Value}
    {od_Queue_waiting an_Queue_waiting : Option Addr} {sl_Queue_waiting : Array (Option Value)} {oc_Queue_waiting kV_Queue_waiting dc_Queue_waiting pm_Queue_waiting cd_Queue_waiting ct_Queue_waiting : Value}
    {od_Queue_comes_at an_Queue_comes_at : Option Addr} {sl_Queue_comes_at : Array (Option Value)} {oc_Queue_comes_at kV_Queue_comes_at dc_Queue_comes_at pm_Queue_comes_at cd_Queue_comes_at ct_Queue_comes_at : Value}
    {od_Queue_len an_Queue_len : Option Addr} {sl_Queue_len : Array (Option Value)} {oc_Queue_len kV_Queue_len dc_Queue_len pm_Queue_len cd_Queue_len ct_Queue_len : Value}
    {od_Queue_twin an_Queue_twin : Option Addr} {sl_Queue_twin : Array (Option Value)} {oc_Queue_twin kV_Queue_twin dc_Queue_twin pm_Queue_twin cd_Queue_twin ct_Queue_twin : Value}
    {od_check_count an_check_count : Option Addr} {sl_check_count : Array (Option Value)} {oc_check_count kV_check_count dc_check_count pm_check_count cd_check_count ct_check_count : Value}
    {od_cell_L an_cell_L : Option Addr} {sl_cell_L : Array (Option Value)} {oc_cell_L kV_cell_L dc_cell_L pm_cell_L cd_cell_L ct_cell_L : Value}
    {od_box_L an_box_L : Option Addr} {sl_box_L : Array (Option Value)} {oc_box_L kV_box_L dc_box_L pm_box_L cd_box_L ct_box_L : Value}
    {od_take_L an_take_L : Option Addr} {sl_take_L : Array (Option Value)} {oc_take_L kV_take_L dc_take_L pm_take_L cd_take_L ct_take_L : Value}
    {od_names_L an_names_L : Option Addr} {sl_names_L : Array (Option Value)} {oc_names_L kV_names_L dc_names_L pm_names_L cd_names_L ct_names_L : Value}
    {od_copied_L an_copied_L : Option Addr} {sl_copied_L : Array (Option Value)} {oc_copied_L kV_copied_L dc_copied_L pm_copied_L cd_copied_L ct_copied_L : Value}
    {od_row_L an_row_L : Option Addr} {sl_row_L : Array (Option Value)} {oc_row_L kV_row_L dc_row_L pm_row_L cd_row_L ct_row_L : Value}
    {od_put_L an_put_L : Option Addr} {sl_put_L : Array (Option Value)} {oc_put_L kV_put_L dc_put_L pm_put_L cd_put_L ct_put_L : Value}
    {od_served_L an_served_L : Option Addr} {sl_served_L : Array (Option Value)} {oc_served_L kV_served_L dc_served_L pm_served_L cd_served_L ct_served_L : Value}
    {od_left_L an_left_L : Option Addr} {sl_left_L : Array (Option Value)} {oc_left_L kV_left_L dc_left_L pm_left_L cd_left_L ct_left_L : Value}
    {od_foretold_L an_foretold_L : Option Addr} {sl_foretold_L : Array (Option Value)} {oc_foretold_L kV_foretold_L dc_foretold_L pm_foretold_L cd_foretold_L ct_foretold_L : Value}
    {od_turn_L an_turn_L : Option Addr} {sl_turn_L : Array (Option Value)} {oc_turn_L kV_turn_L dc_turn_L pm_turn_L cd_turn_L ct_turn_L : Value}
    {od_emptied_L an_emptied_L : Option Addr} {sl_emptied_L : Array (Option Value)} {oc_emptied_L kV_emptied_L dc_emptied_L pm_emptied_L cd_emptied_L ct_emptied_L : Value}
    {od_law an_law : Option Addr} {sl_law : Array (Option Value)} {oc_law kV_law dc_law pm_law cd_law ct_law : Value}
    {t_mw : Tok}
    {nmM qM : Str} {NM : Addr} {bsM : List Value} {snM : List Str} {subM : List Value} {abM : Bool} {colM : Option Bool} {ddM : Option Addr} {wM0 wM1 wM2 wM3 wM5 : Option Value}
    {nmN qN : Str} {NN : Addr} {bsN : List Value} {snN : List Str} {subN : List Value} {abN : Bool} {colN : Option Bool} {ddN : Option Addr} {wN0 wN1 wN2 wN3 wN5 : Option Value}
    {nmD qD : Str} {ND : Addr} {bsD : List Value} {snD : List Str} {subD : List Value} {abD : Bool} {colD : Option Bool} {ddD : Option Addr} {wD0 wD1 wD2 wD3 wD5 : Option Value}
    {nmA qA : Str} {NA : Addr} {bsA : List Value} {snA : List Str} {subA : List Value} {abA : Bool} {colA : Option Bool} {ddA : Option Addr} {wA0 wA1 wA2 wA3 wA5 : Option Value}
    {nmF qF : Str} {NF : Addr} {bsF : List Value} {snF : List Str} {subF : List Value} {abF : Bool} {colF : Option Bool} {ddF : Option Addr} {wF0 wF1 wF2 wF3 wF5 : Option Value}
    (aC_GuestError : PySem.W.nsIn K mainGlobals "GuestError" = some (some (.ref C_GuestError)))
    (aC_Missing : PySem.W.nsIn K mainGlobals "Missing" = some (some (.ref C_Missing)))
    (aC_Barred : PySem.W.nsIn K mainGlobals "Barred" = some (some (.ref C_Barred)))
    (aC_NoNumber : PySem.W.nsIn K mainGlobals "NoNumber" = some (some (.ref C_NoNumber)))
    (aC_NoName : PySem.W.nsIn K mainGlobals "NoName" = some (some (.ref C_NoName)))
    (aC_Doubled : PySem.W.nsIn K mainGlobals "Doubled" = some (some (.ref C_Doubled)))
    (aC_NoAsk : PySem.W.nsIn K mainGlobals "NoAsk" = some (some (.ref C_NoAsk)))
    (aC_Full : PySem.W.nsIn K mainGlobals "Full" = some (some (.ref C_Full)))
    (aC_Queue : PySem.W.nsIn K mainGlobals "Queue" = some (some (.ref C_Queue)))
    (a_GuestError_init : PySem.W.findIn K (.ref C_GuestError) "__init__" = some (some (.ref f_GuestError_init)))
    (l_GuestError_init : K.lookup f_GuestError_init = some ⟨oc_GuestError_init, od_GuestError_init, .func (PySem.W.fnOf "__init__" "GuestError.__init__" (defArgs s_GuestError_init) (defBody s_GuestError_init) (defScope s_GuestError_init) .none kV_GuestError_init dc_GuestError_init pm_GuestError_init an_GuestError_init cd_GuestError_init ct_GuestError_init), sl_GuestError_init⟩)
    (c_GuestError_init : PySem.W.codeIn K cd_GuestError_init "GuestError.__init__" = true)
    (k_GuestError_init : PySem.W.keepIn K (.ref f_GuestError_init) = true)
    (a_Missing_init : PySem.W.findIn K (.ref C_Missing) "__init__" = some (some (.ref f_Missing_init)))
    (l_Missing_init : K.lookup f_Missing_init = some ⟨oc_Missing_init, od_Missing_init, .func (PySem.W.fnOf "__init__" "Missing.__init__" (defArgs s_Missing_init) (defBody s_Missing_init) (defScope s_Missing_init) .none kV_Missing_init dc_Missing_init pm_Missing_init an_Missing_init cd_Missing_init ct_Missing_init), sl_Missing_init⟩)
    (c_Missing_init : PySem.W.codeIn K cd_Missing_init "Missing.__init__" = true)
    (k_Missing_init : PySem.W.keepIn K (.ref f_Missing_init) = true)
    (a_Barred_init : PySem.W.findIn K (.ref C_Barred) "__init__" = some (some (.ref f_Barred_init)))
    (l_Barred_init : K.lookup f_Barred_init = some ⟨oc_Barred_init, od_Barred_init, .func (PySem.W.fnOf "__init__" "Barred.__init__" (defArgs s_Barred_init) (defBody s_Barred_init) (defScope s_Barred_init) .none kV_Barred_init dc_Barred_init pm_Barred_init an_Barred_init cd_Barred_init ct_Barred_init), sl_Barred_init⟩)
    (c_Barred_init : PySem.W.codeIn K cd_Barred_init "Barred.__init__" = true)
    (k_Barred_init : PySem.W.keepIn K (.ref f_Barred_init) = true)
    (a_NoNumber_init : PySem.W.findIn K (.ref C_NoNumber) "__init__" = some (some (.ref f_NoNumber_init)))
    (l_NoNumber_init : K.lookup f_NoNumber_init = some ⟨oc_NoNumber_init, od_NoNumber_init, .func (PySem.W.fnOf "__init__" "NoNumber.__init__" (defArgs s_NoNumber_init) (defBody s_NoNumber_init) (defScope s_NoNumber_init) .none kV_NoNumber_init dc_NoNumber_init pm_NoNumber_init an_NoNumber_init cd_NoNumber_init ct_NoNumber_init), sl_NoNumber_init⟩)
    (c_NoNumber_init : PySem.W.codeIn K cd_NoNumber_init "NoNumber.__init__" = true)
    (k_NoNumber_init : PySem.W.keepIn K (.ref f_NoNumber_init) = true)
    (a_NoName_init : PySem.W.findIn K (.ref C_NoName) "__init__" = some (some (.ref f_NoName_init)))
    (l_NoName_init : K.lookup f_NoName_init = some ⟨oc_NoName_init, od_NoName_init, .func (PySem.W.fnOf "__init__" "NoName.__init__" (defArgs s_NoName_init) (defBody s_NoName_init) (defScope s_NoName_init) .none kV_NoName_init dc_NoName_init pm_NoName_init an_NoName_init cd_NoName_init ct_NoName_init), sl_NoName_init⟩)
    (c_NoName_init : PySem.W.codeIn K cd_NoName_init "NoName.__init__" = true)
    (k_NoName_init : PySem.W.keepIn K (.ref f_NoName_init) = true)
    (a_Doubled_init : PySem.W.findIn K (.ref C_Doubled) "__init__" = some (some (.ref f_Doubled_init)))
    (l_Doubled_init : K.lookup f_Doubled_init = some ⟨oc_Doubled_init, od_Doubled_init, .func (PySem.W.fnOf "__init__" "Doubled.__init__" (defArgs s_Doubled_init) (defBody s_Doubled_init) (defScope s_Doubled_init) .none kV_Doubled_init dc_Doubled_init pm_Doubled_init an_Doubled_init cd_Doubled_init ct_Doubled_init), sl_Doubled_init⟩)
    (c_Doubled_init : PySem.W.codeIn K cd_Doubled_init "Doubled.__init__" = true)
    (k_Doubled_init : PySem.W.keepIn K (.ref f_Doubled_init) = true)
    (a_NoAsk_init : PySem.W.findIn K (.ref C_NoAsk) "__init__" = some (some (.ref f_NoAsk_init)))
    (l_NoAsk_init : K.lookup f_NoAsk_init = some ⟨oc_NoAsk_init, od_NoAsk_init, .func (PySem.W.fnOf "__init__" "NoAsk.__init__" (defArgs s_NoAsk_init) (defBody s_NoAsk_init) (defScope s_NoAsk_init) .none kV_NoAsk_init dc_NoAsk_init pm_NoAsk_init an_NoAsk_init cd_NoAsk_init ct_NoAsk_init), sl_NoAsk_init⟩)
    (c_NoAsk_init : PySem.W.codeIn K cd_NoAsk_init "NoAsk.__init__" = true)
    (k_NoAsk_init : PySem.W.keepIn K (.ref f_NoAsk_init) = true)
    (a_Full_init : PySem.W.findIn K (.ref C_Full) "__init__" = some (some (.ref f_Full_init)))
    (l_Full_init : K.lookup f_Full_init = some ⟨oc_Full_init, od_Full_init, .func (PySem.W.fnOf "__init__" "Full.__init__" (defArgs s_Full_init) (defBody s_Full_init) (defScope s_Full_init) .none kV_Full_init dc_Full_init pm_Full_init an_Full_init cd_Full_init ct_Full_init), sl_Full_init⟩)
    (c_Full_init : PySem.W.codeIn K cd_Full_init "Full.__init__" = true)
    (k_Full_init : PySem.W.keepIn K (.ref f_Full_init) = true)
    (a_is_count : PySem.W.nsIn K mainGlobals "is_count" = some (some (.ref f_is_count)))
    (l_is_count : K.lookup f_is_count = some ⟨oc_is_count, od_is_count, .func (PySem.W.fnOf "is_count" "is_count" (defArgs s_is_count) (defBody s_is_count) (defScope s_is_count) .none kV_is_count dc_is_count pm_is_count an_is_count cd_is_count ct_is_count), sl_is_count⟩)
    (c_is_count : PySem.W.codeIn K cd_is_count "is_count" = true)
    (k_is_count : PySem.W.keepIn K (.ref f_is_count) = true)
    (a_is_name : PySem.W.nsIn K mainGlobals "is_name" = some (some (.ref f_is_name)))
    (l_is_name : K.lookup f_is_name = some ⟨oc_is_name, od_is_name, .func (PySem.W.fnOf "is_name" "is_name" (defArgs s_is_name) (defBody s_is_name) (defScope s_is_name) .none kV_is_name dc_is_name pm_is_name an_is_name cd_is_name ct_is_name), sl_is_name⟩)
    (c_is_name : PySem.W.codeIn K cd_is_name "is_name" = true)
    (k_is_name : PySem.W.keepIn K (.ref f_is_name) = true)
    (a_all_within : PySem.W.nsIn K mainGlobals "_all_within" = some (some (.ref f_all_within)))
    (l_all_within : K.lookup f_all_within = some ⟨oc_all_within, od_all_within, .func (PySem.W.fnOf "_all_within" "_all_within" (defArgs s_all_within) (defBody s_all_within) (defScope s_all_within) .none kV_all_within dc_all_within pm_all_within an_all_within cd_all_within ct_all_within), sl_all_within⟩)
    (c_all_within : PySem.W.codeIn K cd_all_within "_all_within" = true)
    (k_all_within : PySem.W.keepIn K (.ref f_all_within) = true)
    (a_check_name : PySem.W.nsIn K mainGlobals "check_name" = some (some (.ref f_check_name)))
    (l_check_name : K.lookup f_check_name = some ⟨oc_check_name, od_check_name, .func (PySem.W.fnOf "check_name" "check_name" (defArgs s_check_name) (defBody s_check_name) (defScope s_check_name) .none kV_check_name dc_check_name pm_check_name an_check_name cd_check_name ct_check_name), sl_check_name⟩)
    (c_check_name : PySem.W.codeIn K cd_check_name "check_name" = true)
    (k_check_name : PySem.W.keepIn K (.ref f_check_name) = true)
    (a_Queue_init : PySem.W.findIn K (.ref C_Queue) "__init__" = some (some (.ref f_Queue_init)))
    (l_Queue_init : K.lookup f_Queue_init = some ⟨oc_Queue_init, od_Queue_init, .func (PySem.W.fnOf "__init__" "Queue.__init__" (defArgs s_Queue_init) (defBody s_Queue_init) (defScope s_Queue_init) .none kV_Queue_init dc_Queue_init pm_Queue_init an_Queue_init cd_Queue_init ct_Queue_init), sl_Queue_init⟩)
    (c_Queue_init : PySem.W.codeIn K cd_Queue_init "Queue.__init__" = true)
    (k_Queue_init : PySem.W.keepIn K (.ref f_Queue_init) = true)
    (a_Queue_put : PySem.W.findIn K (.ref C_Queue) "put" = some (some (.ref f_Queue_put)))
    (l_Queue_put : K.lookup f_Queue_put = some ⟨oc_Queue_put, od_Queue_put, .func (PySem.W.fnOf "put" "Queue.put" (defArgs s_Queue_put) (defBody s_Queue_put) (defScope s_Queue_put) .none kV_Queue_put dc_Queue_put pm_Queue_put an_Queue_put cd_Queue_put ct_Queue_put), sl_Queue_put⟩)
    (c_Queue_put : PySem.W.codeIn K cd_Queue_put "Queue.put" = true)
    (k_Queue_put : PySem.W.keepIn K (.ref f_Queue_put) = true)
    (a_Queue_serve : PySem.W.findIn K (.ref C_Queue) "serve" = some (some (.ref f_Queue_serve)))
    (l_Queue_serve : K.lookup f_Queue_serve = some ⟨oc_Queue_serve, od_Queue_serve, .func (PySem.W.fnOf "serve" "Queue.serve" (defArgs s_Queue_serve) (defBody s_Queue_serve) (defScope s_Queue_serve) .none kV_Queue_serve dc_Queue_serve pm_Queue_serve an_Queue_serve cd_Queue_serve ct_Queue_serve), sl_Queue_serve⟩)
    (c_Queue_serve : PySem.W.codeIn K cd_Queue_serve "Queue.serve" = true)
    (k_Queue_serve : PySem.W.keepIn K (.ref f_Queue_serve) = true)
    (a_Queue_leave : PySem.W.findIn K (.ref C_Queue) "leave" = some (some (.ref f_Queue_leave)))
    (l_Queue_leave : K.lookup f_Queue_leave = some ⟨oc_Queue_leave, od_Queue_leave, .func (PySem.W.fnOf "leave" "Queue.leave" (defArgs s_Queue_leave) (defBody s_Queue_leave) (defScope s_Queue_leave) .none kV_Queue_leave dc_Queue_leave pm_Queue_leave an_Queue_leave cd_Queue_leave ct_Queue_leave), sl_Queue_leave⟩)
    (c_Queue_leave : PySem.W.codeIn K cd_Queue_leave "Queue.leave" = true)
    (k_Queue_leave : PySem.W.keepIn K (.ref f_Queue_leave) = true)
    (a_Queue_of : PySem.W.findIn K (.ref C_Queue) "of" = some (some (.ref f_Queue_of)))
    (l_Queue_of : K.lookup f_Queue_of = some ⟨oc_Queue_of, od_Queue_of, .func (PySem.W.fnOf "of" "Queue.of" (defArgs s_Queue_of) (defBody s_Queue_of) (defScope s_Queue_of) .none kV_Queue_of dc_Queue_of pm_Queue_of an_Queue_of cd_Queue_of ct_Queue_of), sl_Queue_of⟩)
    (c_Queue_of : PySem.W.codeIn K cd_Queue_of "Queue.of" = true)
    (k_Queue_of : PySem.W.keepIn K (.ref f_Queue_of) = true)
    (a_Queue_waiting : PySem.W.findIn K (.ref C_Queue) "waiting" = some (some (.ref f_Queue_waiting)))
    (l_Queue_waiting : K.lookup f_Queue_waiting = some ⟨oc_Queue_waiting, od_Queue_waiting, .func (PySem.W.fnOf "waiting" "Queue.waiting" (defArgs s_Queue_waiting) (defBody s_Queue_waiting) (defScope s_Queue_waiting) .none kV_Queue_waiting dc_Queue_waiting pm_Queue_waiting an_Queue_waiting cd_Queue_waiting ct_Queue_waiting), sl_Queue_waiting⟩)
    (c_Queue_waiting : PySem.W.codeIn K cd_Queue_waiting "Queue.waiting" = true)
    (k_Queue_waiting : PySem.W.keepIn K (.ref f_Queue_waiting) = true)
    (a_Queue_comes_at : PySem.W.findIn K (.ref C_Queue) "comes_at" = some (some (.ref f_Queue_comes_at)))
    (l_Queue_comes_at : K.lookup f_Queue_comes_at = some ⟨oc_Queue_comes_at, od_Queue_comes_at, .func (PySem.W.fnOf "comes_at" "Queue.comes_at" (defArgs s_Queue_comes_at) (defBody s_Queue_comes_at) (defScope s_Queue_comes_at) .none kV_Queue_comes_at dc_Queue_comes_at pm_Queue_comes_at an_Queue_comes_at cd_Queue_comes_at ct_Queue_comes_at), sl_Queue_comes_at⟩)
    (c_Queue_comes_at : PySem.W.codeIn K cd_Queue_comes_at "Queue.comes_at" = true)
    (k_Queue_comes_at : PySem.W.keepIn K (.ref f_Queue_comes_at) = true)
    (a_Queue_len : PySem.W.findIn K (.ref C_Queue) "__len__" = some (some (.ref f_Queue_len)))
    (l_Queue_len : K.lookup f_Queue_len = some ⟨oc_Queue_len, od_Queue_len, .func (PySem.W.fnOf "__len__" "Queue.__len__" (defArgs s_Queue_len) (defBody s_Queue_len) (defScope s_Queue_len) .none kV_Queue_len dc_Queue_len pm_Queue_len an_Queue_len cd_Queue_len ct_Queue_len), sl_Queue_len⟩)
    (c_Queue_len : PySem.W.codeIn K cd_Queue_len "Queue.__len__" = true)
    (k_Queue_len : PySem.W.keepIn K (.ref f_Queue_len) = true)
    (a_Queue_twin : PySem.W.findIn K (.ref C_Queue) "twin" = some (some (.ref f_Queue_twin)))
    (l_Queue_twin : K.lookup f_Queue_twin = some ⟨oc_Queue_twin, od_Queue_twin, .func (PySem.W.fnOf "twin" "Queue.twin" (defArgs s_Queue_twin) (defBody s_Queue_twin) (defScope s_Queue_twin) .none kV_Queue_twin dc_Queue_twin pm_Queue_twin an_Queue_twin cd_Queue_twin ct_Queue_twin), sl_Queue_twin⟩)
    (c_Queue_twin : PySem.W.codeIn K cd_Queue_twin "Queue.twin" = true)
    (k_Queue_twin : PySem.W.keepIn K (.ref f_Queue_twin) = true)
    (a_check_count : PySem.W.nsIn K mainGlobals "_check_count" = some (some (.ref f_check_count)))
    (l_check_count : K.lookup f_check_count = some ⟨oc_check_count, od_check_count, .func (PySem.W.fnOf "_check_count" "_check_count" (defArgs s_check_count) (defBody s_check_count) (defScope s_check_count) .none kV_check_count dc_check_count pm_check_count an_check_count cd_check_count ct_check_count), sl_check_count⟩)
    (c_check_count : PySem.W.codeIn K cd_check_count "_check_count" = true)
    (k_check_count : PySem.W.keepIn K (.ref f_check_count) = true)
    (a_cell_L : PySem.W.nsIn K mainGlobals "_law_cell" = some (some (.ref f_cell_L)))
    (l_cell_L : K.lookup f_cell_L = some ⟨oc_cell_L, od_cell_L, .func (PySem.W.fnOf "_law_cell" "_law_cell" (defArgs s_cell_L) (defBody s_cell_L) (defScope s_cell_L) .none kV_cell_L dc_cell_L pm_cell_L an_cell_L cd_cell_L ct_cell_L), sl_cell_L⟩)
    (c_cell_L : PySem.W.codeIn K cd_cell_L "_law_cell" = true)
    (k_cell_L : PySem.W.keepIn K (.ref f_cell_L) = true)
    (a_box_L : PySem.W.nsIn K mainGlobals "_law_box" = some (some (.ref f_box_L)))
    (l_box_L : K.lookup f_box_L = some ⟨oc_box_L, od_box_L, .func (PySem.W.fnOf "_law_box" "_law_box" (defArgs s_box_L) (defBody s_box_L) (defScope s_box_L) .none kV_box_L dc_box_L pm_box_L an_box_L cd_box_L ct_box_L), sl_box_L⟩)
    (c_box_L : PySem.W.codeIn K cd_box_L "_law_box" = true)
    (k_box_L : PySem.W.keepIn K (.ref f_box_L) = true)
    (a_take_L : PySem.W.nsIn K mainGlobals "_law_take" = some (some (.ref f_take_L)))
    (l_take_L : K.lookup f_take_L = some ⟨oc_take_L, od_take_L, .func (PySem.W.fnOf "_law_take" "_law_take" (defArgs s_take_L) (defBody s_take_L) (defScope s_take_L) .none kV_take_L dc_take_L pm_take_L an_take_L cd_take_L ct_take_L), sl_take_L⟩)
    (c_take_L : PySem.W.codeIn K cd_take_L "_law_take" = true)
    (k_take_L : PySem.W.keepIn K (.ref f_take_L) = true)
    (a_names_L : PySem.W.nsIn K mainGlobals "_law_names" = some (some (.ref f_names_L)))
    (l_names_L : K.lookup f_names_L = some ⟨oc_names_L, od_names_L, .func (PySem.W.fnOf "_law_names" "_law_names" (defArgs s_names_L) (defBody s_names_L) (defScope s_names_L) .none kV_names_L dc_names_L pm_names_L an_names_L cd_names_L ct_names_L), sl_names_L⟩)
    (c_names_L : PySem.W.codeIn K cd_names_L "_law_names" = true)
    (k_names_L : PySem.W.keepIn K (.ref f_names_L) = true)
    (a_copied_L : PySem.W.nsIn K mainGlobals "_law_copied" = some (some (.ref f_copied_L)))
    (l_copied_L : K.lookup f_copied_L = some ⟨oc_copied_L, od_copied_L, .func (PySem.W.fnOf "_law_copied" "_law_copied" (defArgs s_copied_L) (defBody s_copied_L) (defScope s_copied_L) .none kV_copied_L dc_copied_L pm_copied_L an_copied_L cd_copied_L ct_copied_L), sl_copied_L⟩)
    (c_copied_L : PySem.W.codeIn K cd_copied_L "_law_copied" = true)
    (k_copied_L : PySem.W.keepIn K (.ref f_copied_L) = true)
    (a_row_L : PySem.W.nsIn K mainGlobals "_law_row" = some (some (.ref f_row_L)))
    (l_row_L : K.lookup f_row_L = some ⟨oc_row_L, od_row_L, .func (PySem.W.fnOf "_law_row" "_law_row" (defArgs s_row_L) (defBody s_row_L) (defScope s_row_L) .none kV_row_L dc_row_L pm_row_L an_row_L cd_row_L ct_row_L), sl_row_L⟩)
    (c_row_L : PySem.W.codeIn K cd_row_L "_law_row" = true)
    (k_row_L : PySem.W.keepIn K (.ref f_row_L) = true)
    (a_put_L : PySem.W.nsIn K mainGlobals "_law_put" = some (some (.ref f_put_L)))
    (l_put_L : K.lookup f_put_L = some ⟨oc_put_L, od_put_L, .func (PySem.W.fnOf "_law_put" "_law_put" (defArgs s_put_L) (defBody s_put_L) (defScope s_put_L) .none kV_put_L dc_put_L pm_put_L an_put_L cd_put_L ct_put_L), sl_put_L⟩)
    (c_put_L : PySem.W.codeIn K cd_put_L "_law_put" = true)
    (k_put_L : PySem.W.keepIn K (.ref f_put_L) = true)
    (a_served_L : PySem.W.nsIn K mainGlobals "_law_served" = some (some (.ref f_served_L)))
    (l_served_L : K.lookup f_served_L = some ⟨oc_served_L, od_served_L, .func (PySem.W.fnOf "_law_served" "_law_served" (defArgs s_served_L) (defBody s_served_L) (defScope s_served_L) .none kV_served_L dc_served_L pm_served_L an_served_L cd_served_L ct_served_L), sl_served_L⟩)
    (c_served_L : PySem.W.codeIn K cd_served_L "_law_served" = true)
    (k_served_L : PySem.W.keepIn K (.ref f_served_L) = true)
    (a_left_L : PySem.W.nsIn K mainGlobals "_law_left" = some (some (.ref f_left_L)))
    (l_left_L : K.lookup f_left_L = some ⟨oc_left_L, od_left_L, .func (PySem.W.fnOf "_law_left" "_law_left" (defArgs s_left_L) (defBody s_left_L) (defScope s_left_L) .none kV_left_L dc_left_L pm_left_L an_left_L cd_left_L ct_left_L), sl_left_L⟩)
    (c_left_L : PySem.W.codeIn K cd_left_L "_law_left" = true)
    (k_left_L : PySem.W.keepIn K (.ref f_left_L) = true)
    (a_foretold_L : PySem.W.nsIn K mainGlobals "_law_foretold" = some (some (.ref f_foretold_L)))
    (l_foretold_L : K.lookup f_foretold_L = some ⟨oc_foretold_L, od_foretold_L, .func (PySem.W.fnOf "_law_foretold" "_law_foretold" (defArgs s_foretold_L) (defBody s_foretold_L) (defScope s_foretold_L) .none kV_foretold_L dc_foretold_L pm_foretold_L an_foretold_L cd_foretold_L ct_foretold_L), sl_foretold_L⟩)
    (c_foretold_L : PySem.W.codeIn K cd_foretold_L "_law_foretold" = true)
    (k_foretold_L : PySem.W.keepIn K (.ref f_foretold_L) = true)
    (a_turn_L : PySem.W.nsIn K mainGlobals "_law_turn" = some (some (.ref f_turn_L)))
    (l_turn_L : K.lookup f_turn_L = some ⟨oc_turn_L, od_turn_L, .func (PySem.W.fnOf "_law_turn" "_law_turn" (defArgs s_turn_L) (defBody s_turn_L) (defScope s_turn_L) .none kV_turn_L dc_turn_L pm_turn_L an_turn_L cd_turn_L ct_turn_L), sl_turn_L⟩)
    (c_turn_L : PySem.W.codeIn K cd_turn_L "_law_turn" = true)
    (k_turn_L : PySem.W.keepIn K (.ref f_turn_L) = true)
    (a_emptied_L : PySem.W.nsIn K mainGlobals "_law_emptied" = some (some (.ref f_emptied_L)))
    (l_emptied_L : K.lookup f_emptied_L = some ⟨oc_emptied_L, od_emptied_L, .func (PySem.W.fnOf "_law_emptied" "_law_emptied" (defArgs s_emptied_L) (defBody s_emptied_L) (defScope s_emptied_L) .none kV_emptied_L dc_emptied_L pm_emptied_L an_emptied_L cd_emptied_L ct_emptied_L), sl_emptied_L⟩)
    (c_emptied_L : PySem.W.codeIn K cd_emptied_L "_law_emptied" = true)
    (k_emptied_L : PySem.W.keepIn K (.ref f_emptied_L) = true)
    (a_law : PySem.W.nsIn K mainGlobals "law" = some (some (.ref f_law)))
    (l_law : K.lookup f_law = some ⟨oc_law, od_law, .func (PySem.W.fnOf "law" "law" (defArgs s_law) (defBody s_law) (defScope s_law) .none kV_law dc_law pm_law an_law cd_law ct_law), sl_law⟩)
    (c_law : PySem.W.codeIn K cd_law "law" = true)
    (k_law : PySem.W.keepIn K (.ref f_law) = true)
    (cMW : PySem.W.nsIn K mainGlobals "MOST_WAITING" = some (some (.int 60 t_mw)))
    (rd_GuestError : PySem.W.readsIn K C_GuestError (.type "type") = true)
    (ga_GuestError : PySem.W.specialIn K (.ref C_GuestError) "__getattribute__" = some (some (.builtin "type.__getattribute__")))
    (at_GuestError : PySem.W.findCls K (.ref C_GuestError) (.type "type") "__init__" = some (.val (.ref f_GuestError_init)))
    (v_ValueError : PySem.W.findCls K (.type "ValueError") (.type "type") "__init__" = some (.val (.builtin "ValueError.__init__")))
    (rd_Missing : PySem.W.readsIn K C_Missing (.type "type") = true)
    (ga_Missing : PySem.W.specialIn K (.ref C_Missing) "__getattribute__" = some (some (.builtin "type.__getattribute__")))
    (at_Missing : PySem.W.findCls K (.ref C_Missing) (.type "type") "__init__" = some (.val (.ref f_Missing_init)))
    (v_KeyError : PySem.W.findCls K (.type "KeyError") (.type "type") "__init__" = some (.val (.builtin "KeyError.__init__")))
    (rd_Barred : PySem.W.readsIn K C_Barred (.type "type") = true)
    (ga_Barred : PySem.W.specialIn K (.ref C_Barred) "__getattribute__" = some (some (.builtin "type.__getattribute__")))
    (at_Barred : PySem.W.findCls K (.ref C_Barred) (.type "type") "__init__" = some (.val (.ref f_Barred_init)))
    (v_LookupError : PySem.W.findCls K (.type "LookupError") (.type "type") "__init__" = some (.val (.builtin "LookupError.__init__")))
    (xL_M : K.lookup C_NoNumber = some (excClassObj nmM qM C_NoNumber NM bsM [.ref C_GuestError, .type "ValueError", .type "Exception", .type "BaseException", .type "object"] true snM subM abM colM ddM wM0 wM1 wM2 wM3 wM5 "ValueError.__new__"))
    (sa_M : PySem.W.findIn K (.ref C_NoNumber) "__setattr__" = some (some (.builtin "object.__setattr__")))
    (ex_M : PySem.W.subIn K (.ref C_NoNumber) (.type "BaseException") = some true)
    (ty_M : PySem.W.typeIn K (.ref C_NoNumber) = some (.type "type"))
    (kp_M : PySem.W.keepIn K (.ref C_NoNumber) = true)
    (tf_M : PySem.W.typeIn K (.ref f_NoNumber_init) = some (.type "function"))
    (nf_M : PySem.W.findIn K (.ref C_NoNumber) "found" = some none)
    (hg_M : PySem.W.findIn K (.ref C_NoNumber) "__getattribute__" = some (some (.builtin "BaseException.__getattribute__")))
    (hk_M : PySem.W.findIn K (.ref C_NoNumber) "__getattr__" = some none)
    (hd_M : PySem.W.hasDictIn K C_NoNumber = true)
    (ha_M : PySem.W.findIn K (.ref C_NoNumber) "__class__" = some (some (.builtin "object.__class__")))
    (hm_M : PySem.W.mroIn K C_NoNumber (.type "object") = some true)
    (xL_N : K.lookup C_NoName = some (excClassObj nmN qN C_NoName NN bsN [.ref C_GuestError, .type "ValueError", .type "Exception", .type "BaseException", .type "object"] true snN subN abN colN ddN wN0 wN1 wN2 wN3 wN5 "ValueError.__new__"))
    (sa_N : PySem.W.findIn K (.ref C_NoName) "__setattr__" = some (some (.builtin "object.__setattr__")))
    (ex_N : PySem.W.subIn K (.ref C_NoName) (.type "BaseException") = some true)
    (ty_N : PySem.W.typeIn K (.ref C_NoName) = some (.type "type"))
    (kp_N : PySem.W.keepIn K (.ref C_NoName) = true)
    (tf_N : PySem.W.typeIn K (.ref f_NoName_init) = some (.type "function"))
    (nf_N : PySem.W.findIn K (.ref C_NoName) "found" = some none)
    (hg_N : PySem.W.findIn K (.ref C_NoName) "__getattribute__" = some (some (.builtin "BaseException.__getattribute__")))
    (hk_N : PySem.W.findIn K (.ref C_NoName) "__getattr__" = some none)
    (hd_N : PySem.W.hasDictIn K C_NoName = true)
    (ha_N : PySem.W.findIn K (.ref C_NoName) "__class__" = some (some (.builtin "object.__class__")))
    (hm_N : PySem.W.mroIn K C_NoName (.type "object") = some true)
    (xL_D : K.lookup C_Doubled = some (excClassObj nmD qD C_Doubled ND bsD [.ref C_GuestError, .type "ValueError", .type "Exception", .type "BaseException", .type "object"] true snD subD abD colD ddD wD0 wD1 wD2 wD3 wD5 "ValueError.__new__"))
    (sa_D : PySem.W.findIn K (.ref C_Doubled) "__setattr__" = some (some (.builtin "object.__setattr__")))
    (ex_D : PySem.W.subIn K (.ref C_Doubled) (.type "BaseException") = some true)
    (ty_D : PySem.W.typeIn K (.ref C_Doubled) = some (.type "type"))
    (kp_D : PySem.W.keepIn K (.ref C_Doubled) = true)
    (tf_D : PySem.W.typeIn K (.ref f_Doubled_init) = some (.type "function"))
    (nf_D : PySem.W.findIn K (.ref C_Doubled) "found" = some none)
    (hg_D : PySem.W.findIn K (.ref C_Doubled) "__getattribute__" = some (some (.builtin "BaseException.__getattribute__")))
    (hk_D : PySem.W.findIn K (.ref C_Doubled) "__getattr__" = some none)
    (hd_D : PySem.W.hasDictIn K C_Doubled = true)
    (ha_D : PySem.W.findIn K (.ref C_Doubled) "__class__" = some (some (.builtin "object.__class__")))
    (hm_D : PySem.W.mroIn K C_Doubled (.type "object") = some true)
    (xL_A : K.lookup C_NoAsk = some (excClassObj nmA qA C_NoAsk NA bsA [.ref C_Missing, .type "KeyError", .type "LookupError", .type "Exception", .type "BaseException", .type "object"] true snA subA abA colA ddA wA0 wA1 wA2 wA3 wA5 "LookupError.__new__"))
    (sa_A : PySem.W.findIn K (.ref C_NoAsk) "__setattr__" = some (some (.builtin "object.__setattr__")))
    (ex_A : PySem.W.subIn K (.ref C_NoAsk) (.type "BaseException") = some true)
    (ty_A : PySem.W.typeIn K (.ref C_NoAsk) = some (.type "type"))
    (kp_A : PySem.W.keepIn K (.ref C_NoAsk) = true)
    (tf_A : PySem.W.typeIn K (.ref f_NoAsk_init) = some (.type "function"))
    (nf_A : PySem.W.findIn K (.ref C_NoAsk) "found" = some none)
    (hg_A : PySem.W.findIn K (.ref C_NoAsk) "__getattribute__" = some (some (.builtin "BaseException.__getattribute__")))
    (hk_A : PySem.W.findIn K (.ref C_NoAsk) "__getattr__" = some none)
    (hd_A : PySem.W.hasDictIn K C_NoAsk = true)
    (ha_A : PySem.W.findIn K (.ref C_NoAsk) "__class__" = some (some (.builtin "object.__class__")))
    (hm_A : PySem.W.mroIn K C_NoAsk (.type "object") = some true)
    (xL_F : K.lookup C_Full = some (excClassObj nmF qF C_Full NF bsF [.ref C_Barred, .type "LookupError", .type "Exception", .type "BaseException", .type "object"] true snF subF abF colF ddF wF0 wF1 wF2 wF3 wF5 "LookupError.__new__"))
    (sa_F : PySem.W.findIn K (.ref C_Full) "__setattr__" = some (some (.builtin "object.__setattr__")))
    (ex_F : PySem.W.subIn K (.ref C_Full) (.type "BaseException") = some true)
    (ty_F : PySem.W.typeIn K (.ref C_Full) = some (.type "type"))
    (kp_F : PySem.W.keepIn K (.ref C_Full) = true)
    (tf_F : PySem.W.typeIn K (.ref f_Full_init) = some (.type "function"))
    (nf_F : PySem.W.findIn K (.ref C_Full) "many" = some none)
    (hg_F : PySem.W.findIn K (.ref C_Full) "__getattribute__" = some (some (.builtin "BaseException.__getattribute__")))
    (hk_F : PySem.W.findIn K (.ref C_Full) "__getattr__" = some none)
    (hd_F : PySem.W.hasDictIn K C_Full = true)
    (ha_F : PySem.W.findIn K (.ref C_Full) "__class__" = some (some (.builtin "object.__class__")))
    (hm_F : PySem.W.mroIn K C_Full (.type "object") = some true)
    (s_M_M : PySem.W.subIn K (.ref C_NoNumber) (.ref C_NoNumber) = some true)
    (s_N_M : PySem.W.subIn K (.ref C_NoName) (.ref C_NoNumber) = some false)
    (s_N_N : PySem.W.subIn K (.ref C_NoName) (.ref C_NoName) = some true)
    (s_D_M : PySem.W.subIn K (.ref C_Doubled) (.ref C_NoNumber) = some false)
    (s_D_N : PySem.W.subIn K (.ref C_Doubled) (.ref C_NoName) = some false)
    (s_D_D : PySem.W.subIn K (.ref C_Doubled) (.ref C_Doubled) = some true)
    (s_A_M : PySem.W.subIn K (.ref C_NoAsk) (.ref C_NoNumber) = some false)
    (s_A_N : PySem.W.subIn K (.ref C_NoAsk) (.ref C_NoName) = some false)
    (s_A_D : PySem.W.subIn K (.ref C_NoAsk) (.ref C_Doubled) = some false)
    (s_A_A : PySem.W.subIn K (.ref C_NoAsk) (.ref C_NoAsk) = some true)
    (s_F_M : PySem.W.subIn K (.ref C_Full) (.ref C_NoNumber) = some false)
    (s_F_N : PySem.W.subIn K (.ref C_Full) (.ref C_NoName) = some false)
    (s_F_D : PySem.W.subIn K (.ref C_Full) (.ref C_Doubled) = some false)
    (s_F_A : PySem.W.subIn K (.ref C_Full) (.ref C_NoAsk) = some false)
    (s_F_F : PySem.W.subIn K (.ref C_Full) (.ref C_Full) = some true)
    (hn : PySem.W.specialIn K (.builtin "object.__class__") "__get__" = some (some (.builtin "getset_descriptor.__get__")))
    (htk : PySem.W.takesIn K (.builtin "object.__class__") = some true)
    (pg_Queue : PySem.W.plainGet K C_Queue Str.empty = true)
    (hdd_Queue : PySem.W.hasDictIn K C_Queue = true)
    (po_Queue : PySem.W.plainOver K C_Queue = true)
    (saa_Queue : PySem.W.findIn K (.ref C_Queue) "__setattr__" = some (some (.builtin "object.__setattr__")))
    (mk_Queue : PySem.W.makesIn K C_Queue = true)
    (kc_Queue : PySem.W.keepIn K (.ref C_Queue) = true)
    (na_Queue_asks : PySem.W.findIn K (.ref C_Queue) "_asks" = some none)
    (na_Queue_row : PySem.W.findIn K (.ref C_Queue) "_row" = some none)
    (fn_Queue_init : PySem.W.isFn K (.ref f_Queue_init) = true)
    (fn_Queue_put : PySem.W.isFn K (.ref f_Queue_put) = true)
    (fn_Queue_serve : PySem.W.isFn K (.ref f_Queue_serve) = true)
    (fn_Queue_leave : PySem.W.isFn K (.ref f_Queue_leave) = true)
    (fn_Queue_of : PySem.W.isFn K (.ref f_Queue_of) = true)
    (fn_Queue_waiting : PySem.W.isFn K (.ref f_Queue_waiting) = true)
    (fn_Queue_comes_at : PySem.W.isFn K (.ref f_Queue_comes_at) = true)
    (fn_Queue_len : PySem.W.isFn K (.ref f_Queue_len) = true)
    (fn_Queue_twin : PySem.W.isFn K (.ref f_Queue_twin) = true)
    (z_isinstance : PySem.W.nsIn K mainGlobals "isinstance" = some none)
    (z_int : PySem.W.nsIn K mainGlobals "int" = some none)
    (z_bool : PySem.W.nsIn K mainGlobals "bool" = some none)
    (z_str : PySem.W.nsIn K mainGlobals "str" = some none)
    (z_list : PySem.W.nsIn K mainGlobals "list" = some none)
    (z_len : PySem.W.nsIn K mainGlobals "len" = some none)
    (z_max : PySem.W.nsIn K mainGlobals "max" = some none)
    (z_min : PySem.W.nsIn K mainGlobals "min" = some none)
    (z_range : PySem.W.nsIn K mainGlobals "range" = some none)
    (z_all : PySem.W.nsIn K mainGlobals "all" = some none)
    (z_tuple : PySem.W.nsIn K mainGlobals "tuple" = some none)
    (z_enumerate : PySem.W.nsIn K mainGlobals "enumerate" = some none)
    (z_dict : PySem.W.nsIn K mainGlobals "dict" = some none)
    (z_ValueError : PySem.W.nsIn K mainGlobals "ValueError" = some none)
    (z_LookupError : PySem.W.nsIn K mainGlobals "LookupError" = some none)
    (z_KeyError : PySem.W.nsIn K mainGlobals "KeyError" = some none) :
    ∃ fd : FuncData, (∀ (s : Shared) (v : Value), BindsTo s fd ⟨[v], []⟩ [("_law_script", v)]) ∧ ∀ base : Heap, K.In base → base.Ns mainGlobals mg → FnOk l.prog w K mg base CX0 10 fa fd ["_law_script"] (spLaw K) := by
  have e := hfa.symm.trans (PySem.W.mg_of X G a_law)
  cases e
  have mo : ∀ {x : Str} {u : Value}, PySem.W.nsIn K mainGlobals x = some (some u) → mg x = some u := fun q => PySem.W.mg_of X G q
  have mz : ∀ {x : Str}, PySem.W.nsIn K mainGlobals x = some none → mg x = none := fun q => PySem.W.mg_none_of X G q
  have F_GuestError_init := fun_mk (st := s_GuestError_init) l_GuestError_init c_GuestError_init k_GuestError_init
  have b_GuestError_init := F_GuestError_init.binds (ps := ["self", "text"]) fun _ _ _ _ _ _ us hl => match us, hl with | [_, _], _ => rfl
  have F_Missing_init := fun_mk (st := s_Missing_init) l_Missing_init c_Missing_init k_Missing_init
  have b_Missing_init := F_Missing_init.binds (ps := ["self", "text"]) fun _ _ _ _ _ _ us hl => match us, hl with | [_, _], _ => rfl
  have F_Barred_init := fun_mk (st := s_Barred_init) l_Barred_init c_Barred_init k_Barred_init
  have b_Barred_init := F_Barred_init.binds (ps := ["self", "text"]) fun _ _ _ _ _ _ us hl => match us, hl with | [_, _], _ => rfl
  have F_NoNumber_init := fun_mk (st := s_NoNumber_init) l_NoNumber_init c_NoNumber_init k_NoNumber_init
  have b_NoNumber_init := F_NoNumber_init.binds (ps := ["self", "found"]) fun _ _ _ _ _ _ us hl => match us, hl with | [_, _], _ => rfl
  have F_NoName_init := fun_mk (st := s_NoName_init) l_NoName_init c_NoName_init k_NoName_init
  have b_NoName_init := F_NoName_init.binds (ps := ["self", "found"]) fun _ _ _ _ _ _ us hl => match us, hl with | [_, _], _ => rfl
  have F_Doubled_init := fun_mk (st := s_Doubled_init) l_Doubled_init c_Doubled_init k_Doubled_init
  have b_Doubled_init := F_Doubled_init.binds (ps := ["self", "found"]) fun _ _ _ _ _ _ us hl => match us, hl with | [_, _], _ => rfl
  have F_NoAsk_init := fun_mk (st := s_NoAsk_init) l_NoAsk_init c_NoAsk_init k_NoAsk_init
  have b_NoAsk_init := F_NoAsk_init.binds (ps := ["self", "found"]) fun _ _ _ _ _ _ us hl => match us, hl with | [_, _], _ => rfl
  have F_Full_init := fun_mk (st := s_Full_init) l_Full_init c_Full_init k_Full_init
  have b_Full_init := F_Full_init.binds (ps := ["self", "many"]) fun _ _ _ _ _ _ us hl => match us, hl with | [_, _], _ => rfl
  have F_is_count := fun_mk (st := s_is_count) l_is_count c_is_count k_is_count
  have b_is_count := F_is_count.binds (ps := ["thing"]) fun _ _ _ _ _ _ us hl => match us, hl with | [_], _ => rfl
  have F_is_name := fun_mk (st := s_is_name) l_is_name c_is_name k_is_name
  have b_is_name := F_is_name.binds (ps := ["thing"]) fun _ _ _ _ _ _ us hl => match us, hl with | [_], _ => rfl
  have F_all_within := fun_mk (st := s_all_within) l_all_within c_all_within k_all_within
  have b_all_within := F_all_within.binds (ps := ["text", "first", "last"]) fun _ _ _ _ _ _ us hl => match us, hl with | [_, _, _], _ => rfl
  have F_check_name := fun_mk (st := s_check_name) l_check_name c_check_name k_check_name
  have b_check_name := F_check_name.binds (ps := ["thing"]) fun _ _ _ _ _ _ us hl => match us, hl with | [_], _ => rfl
  have F_Queue_init := fun_mk (st := s_Queue_init) l_Queue_init c_Queue_init k_Queue_init
  have b_Queue_init := F_Queue_init.binds (ps := ["self"]) fun _ _ _ _ _ _ us hl => match us, hl with | [_], _ => rfl
  have F_Queue_put := fun_mk (st := s_Queue_put) l_Queue_put c_Queue_put k_Queue_put
  have b_Queue_put := F_Queue_put.binds (ps := ["self", "name", "number"]) fun _ _ _ _ _ _ us hl => match us, hl with | [_, _, _], _ => rfl
  have F_Queue_serve := fun_mk (st := s_Queue_serve) l_Queue_serve c_Queue_serve k_Queue_serve
  have b_Queue_serve := F_Queue_serve.binds (ps := ["self"]) fun _ _ _ _ _ _ us hl => match us, hl with | [_], _ => rfl
  have F_Queue_leave := fun_mk (st := s_Queue_leave) l_Queue_leave c_Queue_leave k_Queue_leave
  have b_Queue_leave := F_Queue_leave.binds (ps := ["self", "name"]) fun _ _ _ _ _ _ us hl => match us, hl with | [_, _], _ => rfl
  have F_Queue_of := fun_mk (st := s_Queue_of) l_Queue_of c_Queue_of k_Queue_of
  have b_Queue_of := F_Queue_of.binds (ps := ["self", "name"]) fun _ _ _ _ _ _ us hl => match us, hl with | [_, _], _ => rfl
  have F_Queue_waiting := fun_mk (st := s_Queue_waiting) l_Queue_waiting c_Queue_waiting k_Queue_waiting
  have b_Queue_waiting := F_Queue_waiting.binds (ps := ["self"]) fun _ _ _ _ _ _ us hl => match us, hl with | [_], _ => rfl
  have F_Queue_comes_at := fun_mk (st := s_Queue_comes_at) l_Queue_comes_at c_Queue_comes_at k_Queue_comes_at
  have b_Queue_comes_at := F_Queue_comes_at.binds (ps := ["self", "name", "number"]) fun _ _ _ _ _ _ us hl => match us, hl with | [_, _, _], _ => rfl
  have F_Queue_len := fun_mk (st := s_Queue_len) l_Queue_len c_Queue_len k_Queue_len
  have b_Queue_len := F_Queue_len.binds (ps := ["self"]) fun _ _ _ _ _ _ us hl => match us, hl with | [_], _ => rfl
  have F_Queue_twin := fun_mk (st := s_Queue_twin) l_Queue_twin c_Queue_twin k_Queue_twin
  have b_Queue_twin := F_Queue_twin.binds (ps := ["self"]) fun _ _ _ _ _ _ us hl => match us, hl with | [_], _ => rfl
  have F_check_count := fun_mk (st := s_check_count) l_check_count c_check_count k_check_count
  have b_check_count := F_check_count.binds (ps := ["thing"]) fun _ _ _ _ _ _ us hl => match us, hl with | [_], _ => rfl
  have F_cell_L := fun_mk (st := s_cell_L) l_cell_L c_cell_L k_cell_L
  have b_cell_L := F_cell_L.binds (ps := ["_law_script", "_law_k"]) fun _ _ _ _ _ _ us hl => match us, hl with | [_, _], _ => rfl
  have F_box_L := fun_mk (st := s_box_L) l_box_L c_box_L k_box_L
  have b_box_L := F_box_L.binds (ps := ["_law_cell_here"]) fun _ _ _ _ _ _ us hl => match us, hl with | [_], _ => rfl
  have F_take_L := fun_mk (st := s_take_L) l_take_L c_take_L k_take_L
  have b_take_L := F_take_L.binds (ps := ["_law_box_here", "_law_many"]) fun _ _ _ _ _ _ us hl => match us, hl with | [_, _], _ => rfl
  have F_names_L := fun_mk (st := s_names_L) l_names_L c_names_L k_names_L
  have b_names_L := F_names_L.binds (ps := ["_law_box_here"]) fun _ _ _ _ _ _ us hl => match us, hl with | [_], _ => rfl
  have F_copied_L := fun_mk (st := s_copied_L) l_copied_L c_copied_L k_copied_L
  have b_copied_L := F_copied_L.binds (ps := ["_law_seen"]) fun _ _ _ _ _ _ us hl => match us, hl with | [_], _ => rfl
  have F_row_L := fun_mk (st := s_row_L) l_row_L c_row_L k_row_L
  have b_row_L := F_row_L.binds (ps := ["_law_seen"]) fun _ _ _ _ _ _ us hl => match us, hl with | [_], _ => rfl
  have F_put_L := fun_mk (st := s_put_L) l_put_L c_put_L k_put_L
  have b_put_L := F_put_L.binds (ps := ["_law_queue", "_law_seen", "_law_name", "_law_number"]) fun _ _ _ _ _ _ us hl => match us, hl with | [_, _, _, _], _ => rfl
  have F_served_L := fun_mk (st := s_served_L) l_served_L c_served_L k_served_L
  have b_served_L := F_served_L.binds (ps := ["_law_queue", "_law_seen"]) fun _ _ _ _ _ _ us hl => match us, hl with | [_, _], _ => rfl
  have F_left_L := fun_mk (st := s_left_L) l_left_L c_left_L k_left_L
  have b_left_L := F_left_L.binds (ps := ["_law_queue", "_law_seen", "_law_name"]) fun _ _ _ _ _ _ us hl => match us, hl with | [_, _, _], _ => rfl
  have F_foretold_L := fun_mk (st := s_foretold_L) l_foretold_L c_foretold_L k_foretold_L
  have b_foretold_L := F_foretold_L.binds (ps := ["_law_box_here", "_law_queue", "_law_seen"]) fun _ _ _ _ _ _ us hl => match us, hl with | [_, _, _], _ => rfl
  have F_turn_L := fun_mk (st := s_turn_L) l_turn_L c_turn_L k_turn_L
  have b_turn_L := F_turn_L.binds (ps := ["_law_box_here", "_law_queue", "_law_seen", "_law_names_here", "_law_fresh"]) fun _ _ _ _ _ _ us hl => match us, hl with | [_, _, _, _, _], _ => rfl
  have F_emptied_L := fun_mk (st := s_emptied_L) l_emptied_L c_emptied_L k_emptied_L
  have b_emptied_L := F_emptied_L.binds (ps := ["_law_queue", "_law_seen"]) fun _ _ _ _ _ _ us hl => match us, hl with | [_, _], _ => rfl
  have F_law := fun_mk (st := s_law) l_law c_law k_law
  have oex : ∀ {b : Bs} {C : Addr} {nm q : Str} {N : Addr} {bs bm : List Value} {sn : List Str} {sub : List Value} {ab : Bool} {col : Option Bool} {dd : Option Addr} {k0 k1 k2 k3 k5 : Option Value}, K.lookup C = some (excClassObj nm q C N bs bm true sn sub ab col dd k0 k1 k2 k3 k5 b.new) → Tail b bm →
      PySem.W.findIn K (.ref C) "__setattr__" = some (some (.builtin "object.__setattr__")) → PySem.W.subIn K (.ref C) (.type "BaseException") = some true → PySem.W.typeIn K (.ref C) = some (.type "type") → PySem.W.keepIn K (.ref C) = true → OexT K b C :=
    fun l t a b c d => ⟨⟨_, _, _, _, _, _, _, _, _, _, _, _, _, _, _, l, t⟩, a, b, c, d⟩
  have T : Txt K mg { CG := C_GuestError, fG := f_GuestError_init, CK := C_Missing, fK := f_Missing_init, CB := C_Barred, fB := f_Barred_init, CM := C_NoNumber, fM := f_NoNumber_init, CN := C_NoName, fN := f_NoName_init, CD := C_Doubled, fD := f_Doubled_init, CA := C_NoAsk, fA := f_NoAsk_init, CF := C_Full, fF := f_Full_init, CQ := C_Queue } :=
    { m_isinstance := mz z_isinstance, m_int := mz z_int, m_bool := mz z_bool, m_str := mz z_str, m_list := mz z_list, m_len := mz z_len, m_max := mz z_max, m_min := mz z_min, m_range := mz z_range, m_all := mz z_all, m_tuple := mz z_tuple, m_enumerate := mz z_enumerate, m_dict := mz z_dict, m_ValueError := mz z_ValueError, m_LookupError := mz z_LookupError, m_KeyError := mz z_KeyError,
      c_MOST_WAITING := ⟨_, mo cMW, ⟨_, rfl⟩⟩,
      g_GuestError := mo aC_GuestError, rd_GuestError := rd_GuestError, ga_GuestError := ga_GuestError, at_GuestError := at_GuestError, g_Missing := mo aC_Missing, rd_Missing := rd_Missing, ga_Missing := ga_Missing, at_Missing := at_Missing, g_Barred := mo aC_Barred, rd_Barred := rd_Barred, ga_Barred := ga_Barred, at_Barred := at_Barred, vV := v_ValueError, vL := v_LookupError, vK := v_KeyError,
      g_NoNumber := mo aC_NoNumber, g_NoName := mo aC_NoName, g_Doubled := mo aC_Doubled, g_NoAsk := mo aC_NoAsk, g_Full := mo aC_Full,
      xM := ⟨oex (b := .ve) xL_M (.own _ .here) sa_M ex_M ty_M kp_M, a_NoNumber_init, tf_M, nf_M, ⟨hg_M, hk_M, ex_M, hd_M⟩, ⟨hg_M, hk_M, ex_M, hd_M, ha_M, hn, htk, hm_M⟩⟩,
      xN := ⟨oex (b := .ve) xL_N (.own _ .here) sa_N ex_N ty_N kp_N, a_NoName_init, tf_N, nf_N, ⟨hg_N, hk_N, ex_N, hd_N⟩, ⟨hg_N, hk_N, ex_N, hd_N, ha_N, hn, htk, hm_N⟩⟩,
      xD := ⟨oex (b := .ve) xL_D (.own _ .here) sa_D ex_D ty_D kp_D, a_Doubled_init, tf_D, nf_D, ⟨hg_D, hk_D, ex_D, hd_D⟩, ⟨hg_D, hk_D, ex_D, hd_D, ha_D, hn, htk, hm_D⟩⟩,
      xA := ⟨oex (b := .ke) xL_A (.own _ .here) sa_A ex_A ty_A kp_A, a_NoAsk_init, tf_A, nf_A, ⟨hg_A, hk_A, ex_A, hd_A⟩, ⟨hg_A, hk_A, ex_A, hd_A, ha_A, hn, htk, hm_A⟩⟩,
      xF := ⟨oex (b := .le) xL_F (.own _ .here) sa_F ex_F ty_F kp_F, a_Full_init, tf_F, nf_F, ⟨hg_F, hk_F, ex_F, hd_F⟩, ⟨hg_F, hk_F, ex_F, hd_F, ha_F, hn, htk, hm_F⟩⟩,
      cl_Queue := ⟨pg_Queue, hdd_Queue, po_Queue, saa_Queue⟩, na_asks := na_Queue_asks, na_row := na_Queue_row }
  refine ⟨PySem.W.fnOf "law" "law" (defArgs s_law) (defBody s_law) (defScope s_law) .none kV_law dc_law pm_law an_law cd_law ct_law, fun s v => .of_eq rfl, fun base _ _ => ?_⟩
  have c_cell := CalD.mk' (P := l.prog) (w := w) (base := base) (mo a_cell_L) k_cell_L (ok_cell F_cell_L T) b_cell_L
  have c_box := CalD.mk' (P := l.prog) (w := w) (base := base) (mo a_box_L) k_box_L (ok_box F_box_L T) b_box_L
  have c_take := CalD.mk' (P := l.prog) (w := w) (base := base) (mo a_take_L) k_take_L (ok_take F_take_L T) b_take_L
  have o_GE : Own l.prog w K mg base CX0 1 f_GuestError_init _ ["self", "text"] (spGT K .ve) := ⟨ok_GE F_GuestError_init T, b_GuestError_init, k_GuestError_init⟩
  have o_KE : Own l.prog w K mg base CX0 1 f_Missing_init _ ["self", "text"] (spGT K .ke) := ⟨ok_KE F_Missing_init T, b_Missing_init, k_Missing_init⟩
  have o_BB : Own l.prog w K mg base CX0 1 f_Barred_init _ ["self", "text"] (spGT K .le) := ⟨ok_BB F_Barred_init T, b_Barred_init, k_Barred_init⟩
  have o_M : Own l.prog w K mg base CX0 2 f_NoNumber_init _ ["self", "found"] (spInitN "found" C_NoNumber) := ⟨ok_iM F_NoNumber_init T o_GE, b_NoNumber_init, k_NoNumber_init⟩
  have o_N : Own l.prog w K mg base CX0 2 f_NoName_init _ ["self", "found"] (spInitN "found" C_NoName) := ⟨ok_iN F_NoName_init T o_GE, b_NoName_init, k_NoName_init⟩
  have o_D : Own l.prog w K mg base CX0 2 f_Doubled_init _ ["self", "found"] (spInitN "found" C_Doubled) := ⟨ok_iD F_Doubled_init T o_GE, b_Doubled_init, k_Doubled_init⟩
  have o_A : Own l.prog w K mg base CX0 2 f_NoAsk_init _ ["self", "found"] (spInitN "found" C_NoAsk) := ⟨ok_iA F_NoAsk_init T o_KE, b_NoAsk_init, k_NoAsk_init⟩
  have o_F : Own l.prog w K mg base CX0 2 f_Full_init _ ["self", "many"] (spInitN "many" C_Full) := ⟨ok_iF F_Full_init T o_BB, b_Full_init, k_Full_init⟩
  have c_aw := CalD.mk' (P := l.prog) (w := w) (base := base) (mo a_all_within) k_all_within (ok_allW F_all_within T) b_all_within
  have c_nm := CalD.mk' (P := l.prog) (w := w) (base := base) (mo a_is_name) k_is_name (ok_name F_is_name T c_aw) b_is_name
  have c_cn := CalD.mk' (P := l.prog) (w := w) (base := base) (mo a_is_count) k_is_count (ok_count F_is_count T) b_is_count
  have c_ckn := CalX.mk' (P := l.prog) (w := w) (base := base) (mo a_check_name) k_check_name (ok_ckn F_check_name T c_nm o_N) b_check_name
  have c_cc := CalX.mk' (P := l.prog) (w := w) (base := base) (mo a_check_count) k_check_count (ok_ckc F_check_count T c_cn o_M) b_check_count
  have m_of : CalM l.prog w K mg base (L2.CX l.prog w) 5 C_Queue "of" (spOf _) := ⟨_, _, _, ⟨a_Queue_of, fn_Queue_of, k_Queue_of⟩, ok_of F_Queue_of T c_ckn, b_Queue_of⟩
  have m_put : CalM l.prog w K mg base (L2.CX l.prog w) 5 C_Queue "put" (spPut _) := ⟨_, _, _, ⟨a_Queue_put, fn_Queue_put, k_Queue_put⟩, ok_put (fD2 := 0) (fF2 := 0) F_Queue_put T c_ckn c_cc o_D o_F, b_Queue_put⟩
  have m_serve : CalM l.prog w K mg base CX0 6 C_Queue "serve" (spServe _) := ⟨_, _, _, ⟨a_Queue_serve, fn_Queue_serve, k_Queue_serve⟩, ok_serve F_Queue_serve T m_of, b_Queue_serve⟩
  have m_leave : CalM l.prog w K mg base (L2.CX l.prog w) 6 C_Queue "leave" (spLeave _) := ⟨_, _, _, ⟨a_Queue_leave, fn_Queue_leave, k_Queue_leave⟩, ok_leave F_Queue_leave T m_of, b_Queue_leave⟩
  have m_wait : CalM l.prog w K mg base CX0 1 C_Queue "waiting" (spWaiting _) := ⟨_, _, _, ⟨a_Queue_waiting, fn_Queue_waiting, k_Queue_waiting⟩, ok_waiting F_Queue_waiting T, b_Queue_waiting⟩
  have m_len : CalM l.prog w K mg base CX0 1 C_Queue "__len__" (spLenQ _) := ⟨_, _, _, ⟨a_Queue_len, fn_Queue_len, k_Queue_len⟩, ok_len F_Queue_len T, b_Queue_len⟩
  have i_q : CalC l.prog w K mg base CX0 1 C_Queue "Queue" (spQuInit _) := ⟨_, _, _, ⟨mk_Queue, a_Queue_init, fn_Queue_init, kc_Queue⟩, ok_init F_Queue_init T, b_Queue_init, mo aC_Queue⟩
  have m_twin : CalM l.prog w K mg base CX0 3 C_Queue "twin" (spTwinQ _) := ⟨_, _, _, ⟨a_Queue_twin, fn_Queue_twin, k_Queue_twin⟩, ok_twin F_Queue_twin T i_q, b_Queue_twin⟩
  have m_comes : CalM l.prog w K mg base (L2.CX l.prog w) 7 C_Queue "comes_at" (spComes _) := ⟨_, _, _, ⟨a_Queue_comes_at, fn_Queue_comes_at, k_Queue_comes_at⟩, ok_comes F_Queue_comes_at T c_cn o_A m_twin m_serve, b_Queue_comes_at⟩
  have c_row := CalD.mk' (P := l.prog) (w := w) (base := base) (mo a_row_L) k_row_L (ok_row F_row_L T) b_row_L
  have c_put := CalD.mk' (P := l.prog) (w := w) (base := base) (mo a_put_L) k_put_L (ok_putL F_put_L T m_put c_row) b_put_L
  have c_served := CalD.mk' (P := l.prog) (w := w) (base := base) (mo a_served_L) k_served_L (ok_served F_served_L T m_serve c_row) b_served_L
  have c_left := CalD.mk' (P := l.prog) (w := w) (base := base) (mo a_left_L) k_left_L (ok_left F_left_L T m_leave) b_left_L
  have c_copied := CalD.mk' (P := l.prog) (w := w) (base := base) (mo a_copied_L) k_copied_L (ok_copied F_copied_L T) b_copied_L
  have c_names := CalD.mk' (P := l.prog) (w := w) (base := base) (mo a_names_L) k_names_L (ok_names F_names_L T c_take) b_names_L
  have c_fore := CalD.mk' (P := l.prog) (w := w) (base := base) (mo a_foretold_L) k_foretold_L (ok_fore F_foretold_L T c_take m_twin m_wait m_serve m_comes) b_foretold_L
  have c_turn := CalD.mk' (P := l.prog) (w := w) (base := base) (mo a_turn_L) k_turn_L (ok_turn F_turn_L T c_take m_len c_left c_put c_served c_fore) b_turn_L
  have c_emptied := CalD.mk' (P := l.prog) (w := w) (base := base) (mo a_emptied_L) k_emptied_L (ok_emptied F_emptied_L T m_len m_serve m_wait c_served) b_emptied_L
  exact ok_law F_law T c_cell c_box c_take i_q m_twin c_names c_copied c_turn c_emptied
end K23
open PySem PySem.W PyProof.Rows
set_option maxHeartbeats 0 in
theorem PySem.Challenge.cw_guestsalone_k23_whole_nobody_waits_long_holds : PySem.Challenge.rw_guestsalone_k23_whole_nobody_waits_long.Holds := by
  w_on; o_law; k_head; (case hw => w_witness2)
  k_fill
  refine L2.walk_of (l := PySem.Challenge.rw_guestsalone_k23_whole_nobody_waits_long) (n := 63) (k := 10) (x := "_law_script") (CX := fun _ => L2.CX0) (sp := fun w => K23.spLaw _) rfl (by decide) rfl ⟨rfl, by decide, by decide⟩ (fun w h Y => PySem.W.kIn_of Y) ?F (fun _ _ a ns hl _ hS => ⟨a, ns, rfl, hS, hl, fun _ => rfl⟩) (fun _ _ _ _ _ h => h)
  case F =>
    intro w mg fa h KX G hmg
    refine' K23.all_mk KX G hmg ?aC_GuestError ?aC_Missing ?aC_Barred ?aC_NoNumber ?aC_NoName ?aC_Doubled ?aC_NoAsk ?aC_Full ?aC_Queue ?a_GuestError_init ?l_GuestError_init ?c_GuestError_init ?k_GuestError_init ?a_Missing_init ?l_Missing_init ?c_Missing_init ?k_Missing_init ?a_Barred_init ?l_Barred_init ?c_Barred_init ?k_Barred_init ?a_NoNumber_init ?l_NoNumber_init ?c_NoNumber_init ?k_NoNumber_init ?a_NoName_init ?l_NoName_init ?c_NoName_init ?k_NoName_init ?a_Doubled_init ?l_Doubled_init ?c_Doubled_init ?k_Doubled_init ?a_NoAsk_init ?l_NoAsk_init ?c_NoAsk_init ?k_NoAsk_init ?a_Full_init ?l_Full_init ?c_Full_init ?k_Full_init ?a_is_count ?l_is_count ?c_is_count ?k_is_count ?a_is_name ?l_is_name ?c_is_name ?k_is_name ?a_all_within ?l_all_within ?c_all_within ?k_all_within ?a_check_name ?l_check_name ?c_check_name ?k_check_name ?a_Queue_init ?l_Queue_init ?c_Queue_init ?k_Queue_init ?a_Queue_put ?l_Queue_put ?c_Queue_put ?k_Queue_put ?a_Queue_serve ?l_Queue_serve ?c_Queue_serve ?k_Queue_serve ?a_Queue_leave ?l_Queue_leave ?c_Queue_leave ?k_Queue_leave ?a_Queue_of ?l_Queue_of ?c_Queue_of ?k_Queue_of ?a_Queue_waiting ?l_Queue_waiting ?c_Queue_waiting ?k_Queue_waiting ?a_Queue_comes_at ?l_Queue_comes_at ?c_Queue_comes_at ?k_Queue_comes_at ?a_Queue_len ?l_Queue_len ?c_Queue_len ?k_Queue_len ?a_Queue_twin ?l_Queue_twin ?c_Queue_twin ?k_Queue_twin ?a_check_count ?l_check_count ?c_check_count ?k_check_count ?a_cell_L ?l_cell_L ?c_cell_L ?k_cell_L ?a_box_L ?l_box_L ?c_box_L ?k_box_L ?a_take_L ?l_take_L ?c_take_L ?k_take_L ?a_names_L ?l_names_L ?c_names_L ?k_names_L ?a_copied_L ?l_copied_L ?c_copied_L ?k_copied_L ?a_row_L ?l_row_L ?c_row_L ?k_row_L ?a_put_L ?l_put_L ?c_put_L ?k_put_L ?a_served_L ?l_served_L ?c_served_L ?k_served_L ?a_left_L ?l_left_L ?c_left_L ?k_left_L ?a_foretold_L ?l_foretold_L ?c_foretold_L ?k_foretold_L ?a_turn_L ?l_turn_L ?c_turn_L ?k_turn_L ?a_emptied_L ?l_emptied_L ?c_emptied_L ?k_emptied_L ?a_law ?l_law ?c_law ?k_law ?cMW ?rd_GuestError ?ga_GuestError ?at_GuestError ?v_ValueError ?rd_Missing ?ga_Missing ?at_Missing ?v_KeyError ?rd_Barred ?ga_Barred ?at_Barred ?v_LookupError ?xL_M ?sa_M ?ex_M ?ty_M ?kp_M ?tf_M ?nf_M ?hg_M ?hk_M ?hd_M ?ha_M ?hm_M ?xL_N ?sa_N ?ex_N ?ty_N ?kp_N ?tf_N ?nf_N ?hg_N ?hk_N ?hd_N ?ha_N ?hm_N ?xL_D ?sa_D ?ex_D ?ty_D ?kp_D ?tf_D ?nf_D ?hg_D ?hk_D ?hd_D ?ha_D ?hm_D ?xL_A ?sa_A ?ex_A ?ty_A ?kp_A ?tf_A ?nf_A ?hg_A ?hk_A ?hd_A ?ha_A ?hm_A ?xL_F ?sa_F ?ex_F ?ty_F ?kp_F ?tf_F ?nf_F ?hg_F ?hk_F ?hd_F ?ha_F ?hm_F ?s_M_M ?s_N_M ?s_N_N ?s_D_M ?s_D_N ?s_D_D ?s_A_M ?s_A_N ?s_A_D ?s_A_A ?s_F_M ?s_F_N ?s_F_D ?s_F_A ?s_F_F ?hn ?htk ?pg_Queue ?hdd_Queue ?po_Queue ?saa_Queue ?mk_Queue ?kc_Queue ?na_Queue_asks ?na_Queue_row ?fn_Queue_init ?fn_Queue_put ?fn_Queue_serve ?fn_Queue_leave ?fn_Queue_of ?fn_Queue_waiting ?fn_Queue_comes_at ?fn_Queue_len ?fn_Queue_twin ?z_isinstance ?z_int ?z_bool ?z_str ?z_list ?z_len ?z_max ?z_min ?z_range ?z_all ?z_tuple ?z_enumerate ?z_dict ?z_ValueError ?z_LookupError ?z_KeyError
    (case aC_GuestError => k_is)
    (case aC_Missing => k_is)
    (case aC_Barred => k_is)
    (case aC_NoNumber => k_is)
    (case aC_NoName => k_is)
    (case aC_Doubled => k_is)
    (case aC_NoAsk => k_is)
    (case aC_Full => k_is)
    (case aC_Queue => k_is)
    (case a_GuestError_init => k_is)
    (case l_GuestError_init => k_is)
    (case c_GuestError_init => k_is)
    (case k_GuestError_init => k_is)
    (case a_Missing_init => k_is)
    (case l_Missing_init => k_is)
    (case c_Missing_init => k_is)
    (case k_Missing_init => k_is)
    (case a_Barred_init => k_is)
    (case l_Barred_init => k_is)
    (case c_Barred_init => k_is)
    (case k_Barred_init => k_is)
    (case a_NoNumber_init => k_is)
    (case l_NoNumber_init => k_is)
    (case c_NoNumber_init => k_is)
    (case k_NoNumber_init => k_is)
    (case a_NoName_init => k_is)
    (case l_NoName_init => k_is)
    (case c_NoName_init => k_is)
    (case k_NoName_init => k_is)
    (case a_Doubled_init => k_is)
    (case l_Doubled_init => k_is)
    (case c_Doubled_init => k_is)
    (case k_Doubled_init => k_is)
    (case a_NoAsk_init => k_is)
    (case l_NoAsk_init => k_is)
    (case c_NoAsk_init => k_is)
    (case k_NoAsk_init => k_is)
    (case a_Full_init => k_is)
    (case l_Full_init => k_is)
    (case c_Full_init => k_is)
    (case k_Full_init => k_is)
    (case a_is_count => k_is)
    (case l_is_count => k_is)
    (case c_is_count => k_is)
    (case k_is_count => k_is)
    (case a_is_name => k_is)
    (case l_is_name => k_is)
    (case c_is_name => k_is)
    (case k_is_name => k_is)
    (case a_all_within => k_is)
    (case l_all_within => k_is)
    (case c_all_within => k_is)
    (case k_all_within => k_is)
    (case a_check_name => k_is)
    (case l_check_name => k_is)
    (case c_check_name => k_is)
    (case k_check_name => k_is)
    (case a_Queue_init => k_is)
    (case l_Queue_init => k_is)
    (case c_Queue_init => k_is)
    (case k_Queue_init => k_is)
    (case a_Queue_put => k_is)
    (case l_Queue_put => k_is)
    (case c_Queue_put => k_is)
    (case k_Queue_put => k_is)
    (case a_Queue_serve => k_is)
    (case l_Queue_serve => k_is)
    (case c_Queue_serve => k_is)
    (case k_Queue_serve => k_is)
    (case a_Queue_leave => k_is)
    (case l_Queue_leave => k_is)
    (case c_Queue_leave => k_is)
    (case k_Queue_leave => k_is)
    (case a_Queue_of => k_is)
    (case l_Queue_of => k_is)
    (case c_Queue_of => k_is)
    (case k_Queue_of => k_is)
    (case a_Queue_waiting => k_is)
    (case l_Queue_waiting => k_is)
    (case c_Queue_waiting => k_is)
    (case k_Queue_waiting => k_is)
    (case a_Queue_comes_at => k_is)
    (case l_Queue_comes_at => k_is)
    (case c_Queue_comes_at => k_is)
    (case k_Queue_comes_at => k_is)
    (case a_Queue_len => k_is)
    (case l_Queue_len => k_is)
    (case c_Queue_len => k_is)
    (case k_Queue_len => k_is)
    (case a_Queue_twin => k_is)
    (case l_Queue_twin => k_is)
    (case c_Queue_twin => k_is)
    (case k_Queue_twin => k_is)
    (case a_check_count => k_is)
    (case l_check_count => k_is)
    (case c_check_count => k_is)
    (case k_check_count => k_is)
    (case a_cell_L => k_is)
    (case l_cell_L => k_is)
    (case c_cell_L => k_is)
    (case k_cell_L => k_is)
    (case a_box_L => k_is)
    (case l_box_L => k_is)
    (case c_box_L => k_is)
    (case k_box_L => k_is)
    (case a_take_L => k_is)
    (case l_take_L => k_is)
    (case c_take_L => k_is)
    (case k_take_L => k_is)
    (case a_names_L => k_is)
    (case l_names_L => k_is)
    (case c_names_L => k_is)
    (case k_names_L => k_is)
    (case a_copied_L => k_is)
    (case l_copied_L => k_is)
    (case c_copied_L => k_is)
    (case k_copied_L => k_is)
    (case a_row_L => k_is)
    (case l_row_L => k_is)
    (case c_row_L => k_is)
    (case k_row_L => k_is)
    (case a_put_L => k_is)
    (case l_put_L => k_is)
    (case c_put_L => k_is)
    (case k_put_L => k_is)
    (case a_served_L => k_is)
    (case l_served_L => k_is)
    (case c_served_L => k_is)
    (case k_served_L => k_is)
    (case a_left_L => k_is)
    (case l_left_L => k_is)
    (case c_left_L => k_is)
    (case k_left_L => k_is)
    (case a_foretold_L => k_is)
    (case l_foretold_L => k_is)
    (case c_foretold_L => k_is)
    (case k_foretold_L => k_is)
    (case a_turn_L => k_is)
    (case l_turn_L => k_is)
    (case c_turn_L => k_is)
    (case k_turn_L => k_is)
    (case a_emptied_L => k_is)
    (case l_emptied_L => k_is)
    (case c_emptied_L => k_is)
    (case k_emptied_L => k_is)
    (case a_law => k_is)
    (case l_law => k_is)
    (case c_law => k_is)
    (case k_law => k_is)
    (case cMW => k_is)
    (case rd_GuestError => k_is)
    (case ga_GuestError => k_is)
    (case at_GuestError => k_is)
    (case v_ValueError => k_is)
    (case rd_Missing => k_is)
    (case ga_Missing => k_is)
    (case at_Missing => k_is)
    (case v_KeyError => k_is)
    (case rd_Barred => k_is)
    (case ga_Barred => k_is)
    (case at_Barred => k_is)
    (case v_LookupError => k_is)
    (case xL_M => k_is)
    (case sa_M => k_is)
    (case ex_M => k_is)
    (case ty_M => k_is)
    (case kp_M => k_is)
    (case tf_M => k_is)
    (case nf_M => k_is)
    (case hg_M => k_is)
    (case hk_M => k_is)
    (case hd_M => k_is)
    (case ha_M => k_is)
    (case hm_M => k_is)
    (case xL_N => k_is)
    (case sa_N => k_is)
    (case ex_N => k_is)
    (case ty_N => k_is)
    (case kp_N => k_is)
    (case tf_N => k_is)
    (case nf_N => k_is)
    (case hg_N => k_is)
    (case hk_N => k_is)
    (case hd_N => k_is)
    (case ha_N => k_is)
    (case hm_N => k_is)
    (case xL_D => k_is)
    (case sa_D => k_is)
    (case ex_D => k_is)
    (case ty_D => k_is)
    (case kp_D => k_is)
    (case tf_D => k_is)
    (case nf_D => k_is)
    (case hg_D => k_is)
    (case hk_D => k_is)
    (case hd_D => k_is)
    (case ha_D => k_is)
    (case hm_D => k_is)
    (case xL_A => k_is)
    (case sa_A => k_is)
    (case ex_A => k_is)
    (case ty_A => k_is)
    (case kp_A => k_is)
    (case tf_A => k_is)
    (case nf_A => k_is)
    (case hg_A => k_is)
    (case hk_A => k_is)
    (case hd_A => k_is)
    (case ha_A => k_is)
    (case hm_A => k_is)
    (case xL_F => k_is)
    (case sa_F => k_is)
    (case ex_F => k_is)
    (case ty_F => k_is)
    (case kp_F => k_is)
    (case tf_F => k_is)
    (case nf_F => k_is)
    (case hg_F => k_is)
    (case hk_F => k_is)
    (case hd_F => k_is)
    (case ha_F => k_is)
    (case hm_F => k_is)
    (case s_M_M => k_is)
    (case s_N_M => k_is)
    (case s_N_N => k_is)
    (case s_D_M => k_is)
    (case s_D_N => k_is)
    (case s_D_D => k_is)
    (case s_A_M => k_is)
    (case s_A_N => k_is)
    (case s_A_D => k_is)
    (case s_A_A => k_is)
    (case s_F_M => k_is)
    (case s_F_N => k_is)
    (case s_F_D => k_is)
    (case s_F_A => k_is)
    (case s_F_F => k_is)
    (case hn => k_is)
    (case htk => k_is)
    (case pg_Queue => k_is)
    (case hdd_Queue => k_is)
    (case po_Queue => k_is)
    (case saa_Queue => k_is)
    (case mk_Queue => k_is)
    (case kc_Queue => k_is)
    (case na_Queue_asks => k_is)
    (case na_Queue_row => k_is)
    (case fn_Queue_init => k_is)
    (case fn_Queue_put => k_is)
    (case fn_Queue_serve => k_is)
    (case fn_Queue_leave => k_is)
    (case fn_Queue_of => k_is)
    (case fn_Queue_waiting => k_is)
    (case fn_Queue_comes_at => k_is)
    (case fn_Queue_len => k_is)
    (case fn_Queue_twin => k_is)
    (case z_isinstance => k_is)
    (case z_int => k_is)
    (case z_bool => k_is)
    (case z_str => k_is)
    (case z_list => k_is)
    (case z_len => k_is)
    (case z_max => k_is)
    (case z_min => k_is)
    (case z_range => k_is)
    (case z_all => k_is)
    (case z_tuple => k_is)
    (case z_enumerate => k_is)
    (case z_dict => k_is)
    (case z_ValueError => k_is)
    (case z_LookupError => k_is)
    (case z_KeyError => k_is)
