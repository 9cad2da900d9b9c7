import PyProof.Rows.All
import Wide.All
import OpenK.AllK
import Wide.FinOn
import HandS.Base
import HandS.Call
import HandS.List
import HandS.Comp
import HandS.Ends
import HandS.Dict
import HandS.Iter
import HandS.Text
import HandS.Words
import HandS.Wide
import HandS.Flow
import HandS.Style
import HandS.IsInst
import HandS.ExcInit
import HandS.ExcIs
import HandS.Defaults
import HandS.Walk
import HandS.Codes
import KE.IntTextLaws
import PyProof.ReprRoads
import HandS.WordsExc
import HandS.TryMany
import HandS.ExcOwn
import HandS.ExcField
import KE.GoesEnum
import PyProof.ReprBulk
import HandS.WideBits
import PyProof.EqKinds
import PyProof.FactsAll.dict_1
import PyProof.FactsAll.subtypes_3
import PyProof.FactsAll.subtypes_4
import KE.KExcInit
import PyProof.ExcBaseAll.LookupError
import HandS.CallSlots
import HandS.Conv
import HandS.Deep
import KE.DataFind
import HandS.SetKeys
import HandS.Small
import HandS.SetFor
import HandS.WordsDict
import HandS.DictComp
import HandS.TupAny
import PyProof.SliceSyntax
import HandS.TryOnly
import PySem.Challenge.RW_guestsalone_k22_asks_put_and_served
set_option Elab.async false
set_option linter.all false
set_option maxRecDepth 100000
set_option maxHeartbeats 8000000
namespace Bk
open PySem PySem.Spec PyProof.Rows L2
/-! ## 1. rules of our own -/
section
variable {X : Cx} {CX : CXT} {k n : Nat} {f : Addr} {fd : FuncData} {ps ks : List Str} {sp : Sp} {E : XK} {x m : Str} {p p1 p2 pos : Pos} {e : Expr} {es : List Expr} {kws : List Keyword} {t tk ta : TA} {g : List Value → List Value → List Value} {gV : List V → List V → List V}
/-- f(k = v, ..): keywords alone -/
theorem pe_callN0 (F : FnOk X.prog X.w X.K X.mg X.base CX k f fd ps sp) (hr : Room k X.A) (hg : Gl X x) (hm : X.mg x = some (.ref f)) (hk : PySem.W.keepIn X.K (.ref f) = true) (hb : KBn X.K fd ps 0 ks g gV) (hx : Passes CX X E)
    (hkw : PK X kws tk) (hall : (backToKw pos (keywordEach kws X.env)).all (·.1.isSome) = true := by rfl) (hks : (backToKw pos (keywordEach kws X.env)).filterMap (·.1) = ks := by rfl)
    (hdb : (x == ("__debug__" : Str)) = false := by decide)
    (hpl : ((backTo pos (starEach [] X.env)).any (·.1) || (backToKw pos (keywordEach kws X.env)).any (·.1.isNone)) = false := by rfl) :
    PE X (.Call (.Name x p) [] kws pos) (tCallN 0 ks.length sp gV E tNil tk) := by
  refine ⟨fun pins s σ H Q I h => ?_⟩
  refine wpAny_Call_Name_kw (ld_glob I hg hm ?_ hdb)
  refine PySem.W.callWith_KW0 (h₀ := X.base) I.ok.mod.kin hk hall ?_ hpl
  refine thn (hkw.run pos pins s σ H _ I h) fun ws s2 ⟨zs, H2, I2, rz, l1, l2, q2⟩ => ⟨I2.kIn, ?_⟩
  rw [hks]
  exact run_fnN (us := []) (vs := []) F hr hb hx I2 .nil rz rfl l2 q2
/-- C.m(e, ..): m a plain def of the class at B (or above it), read off the class -/
theorem pe_cdef {B : Addr} {mc : Value} {ds : List Value} {dvs : List V} {pl : Sem Bool} (F : FnOk X.prog X.w X.K X.mg X.base CX k f fd ps sp) (hr : Room k X.A) (hg : Gl X x) (hm : X.mg x = some (.ref B))
    (rd : PySem.W.readsIn X.K B mc = true) (ga : PySem.W.specialIn X.K (.ref B) "__getattribute__" = some (some (.builtin "type.__getattribute__"))) (at_ : PySem.W.findCls X.K (.ref B) mc m = some (.val (.ref f)))
    (hk : PySem.W.keepIn X.K (.ref f) = true) (hb : Binds X.K fd ps ds) (hd : Vals dvs ds) (hx : Passes CX X E) (ha : PA X (e :: es) t)
    (ht : eval (.Call (.Attribute (.Name x p1) m p2) (e :: es) [] pos) X.env = (do
      let ov ← eval (.Name x p1) X.env
      standAt p2.atName
      let (f, first) ← holding [ov] (getMethod ov m pl)
      callWith pos f first (backTo pos (starEach (e :: es) X.env)) (backToKw pos (keywordEach [] X.env))) := by rfl)
    (hdb : (x == ("__debug__" : Str)) = false := by decide) (he : starEach (e :: es) X.env = (false, eval e X.env) :: starEach es X.env := by rfl) (hpl : (backTo pos (starEach es X.env)).any (·.1) = false := by rfl) :
    PE X (.Call (.Attribute (.Name x p1) m p2) (e :: es) [] pos) (tCall sp dvs E t) := by
  refine ⟨fun pins s σ H Q I h => ?_⟩
  refine PySem.W.methodCall_KW (pl := pl) (ld_glob I hg hm ?_ hdb) ht
  refine PySem.W.method_cls I.kIn ga (PySem.W.cls_value I.kIn rd at_ rfl ?_)
  have I1 := I.tok (s.toks + 1)
  refine PySem.W.callWith_K (h₀ := X.base) I.ok.mod.kin hk (thn (ha.run pos pins _ σ H _ I1 h) fun us s1 ⟨vs, H1, I2, r, q⟩ => ⟨I2.kIn, ?_⟩) he hpl
  exact run_fn F hr hb hd hx I2 r q
/-- C(e, ..) as a value, C an own exception class under ValueError whose own __init__ keeps sp -/
def tMkV (C : Addr) (sp : Sp) (dvs : List V) (ta : TA) : TE := fun σ H Q => ta σ H fun vs H1 => vs.length ≤ 1000 ∧ ∀ a, H1 a = none → sp (.ref a :: (vs ++ dvs)) (upd H1 a (exo a C none)) (fun v H2 => v = .non ∧ Q (.ref a) H2) (fun _ _ _ => False)
theorem pe_oex {C fI : Addr} {ds : List Value} {dvs : List V} (T : OexC X.K C) (iC : PySem.W.findIn X.K (.ref C) "__init__" = some (some (.ref fI))) (tI : PySem.W.typeIn X.K (.ref fI) = some (.type "function"))
    (F1 : FnOk X.prog X.w X.K X.mg X.base CX k fI fd ps sp) (hr : Room (k + 1) X.A) (hb : Binds X.K fd ps ds) (hd : Vals dvs ds) (hx : Passes CX X (fun _ _ _ => False)) (hg : Gl X x) (hm : X.mg x = some (.ref C)) (ha : PA X (e :: es) ta)
    (hdb : (x == ("__debug__" : Str)) = false := by decide) (he : starEach (e :: es) X.env = (false, eval e X.env) :: starEach es X.env := by rfl) (hpl : (backTo pos (starEach es X.env)).any (·.1) = false := by rfl) :
    PE X (.Call (.Name x p) (e :: es) [] pos) (tMkV C sp dvs ta) := by
  refine ⟨fun pins s σ H Q I h => ?_⟩
  obtain ⟨nm, q, N, bs, bm, sn, sub, ab, col, dd, k0, k1, k2, k3, k5, hC, hbm⟩ := T.cls
  refine wpAny_Call_Name_kw (ld_glob I hg hm ?_ hdb)
  refine PySem.W.callWith_K (h₀ := X.base) I.ok.mod.kin T.kC (thn (ha.run pos pins s σ H _ I h) fun us s1 ⟨vs, H1, I1, r1, hz, q1⟩ => ⟨I1.kIn, ?_⟩) he hpl
  show wpAny _ _ (call (.ref C) us) _ _ _
  obtain ⟨hp, g, dr, tk, os⟩ := s1
  have hsz : hp.objs.size ≤ hp.objs.size + 1 := Nat.le_succ _
  have hn : H1 (hp.objs.size + 1) = none := I1.hok.fresh hsz
  have hq := q1 (hp.objs.size + 1) hn
  have kk : ∀ b o, hp.get? b = some o → ((hp.push (PySem.W.kdv_tup us)).push (PySem.HandSPX.excO C hp.objs.size)).get? b = some o := fun b o e => Heap.get?_push_of_some _ (Heap.get?_push_of_some _ e)
  have hget : ((hp.push (PySem.W.kdv_tup us)).push (PySem.HandSPX.excO C hp.objs.size)).get? (hp.objs.size + 1) = some (PySem.HandSPX.excO C hp.objs.size) := by heap_get
  have I2 : Inv X pins σ (upd H1 (hp.objs.size + 1) (exo (hp.objs.size + 1) C none)) ⟨(hp.push (PySem.W.kdv_tup us)).push (PySem.HandSPX.excO C hp.objs.size), g, dr, tk, os⟩ :=
    I1.laid (t' := tk) (a := hp.objs.size + 1) (o := exo (hp.objs.size + 1) C none) (h' := (hp.push (PySem.W.kdv_tup us)).push (PySem.HandSPX.excO C hp.objs.size)) kk hsz (exo_ok hget)
  have r2 : Vals (V.ref (hp.objs.size + 1) :: (vs ++ dvs)) (Value.ref (hp.objs.size + 1) :: (us ++ ds)) := .cons rfl (r1.append hd)
  have hl : (Value.ref (hp.objs.size + 1) :: us ++ ds).length = ps.length := by
    have e := r2.length
    rw [F1.len _ _ _ _ hq] at e
    exact e.symm
  have hus : us.length ≤ sizeLine := by
    rw [← Paired.length r1, sizeLine_eq]
    omega
  refine wpAny_call (PySem.HandSPX.call_own F.excBase_ValueError (fun Y => PySem.HandSPX.refsVE_contains Y bm hbm) (I1.kIn _ _ hC) (PySem.W.looks_findIn I1.kIn iC) (fun self => PySem.W.bind_fn I1.kIn self tI) hus
    (codeAny_mono (F1.run _ X.stack _ _ ⟨Value.ref (hp.objs.size + 1) :: us, []⟩ (Value.ref (hp.objs.size + 1) :: (us ++ ds)) _ _ (fun _ _ _ => False) (hr.make C us []) (I2.env0.make C us []) (hb _ (Value.ref (hp.objs.size + 1) :: us) I2.kIn hl) r2 hq) fun r s' hq' => ?_))
  cases r with
  | error er => exact hx pins σ _ _ er s' I2 hq'
  | ok fl =>
    cases fl with
    | ret u =>
      obtain ⟨v, H2, I3, rv, ev, q2⟩ := I2.after hq'
      subst ev
      exact ⟨rv, .ref (hp.objs.size + 1), H2, I3, rfl, q2⟩
    | next => exact False.elim hq'
    | brk => exact False.elim hq'
    | cont => exact False.elim hq'
/-- repr of a truth -/
def reprB (b : Bool) : Str := if b then "True" else "False"
theorem reprB_inj {a b : Bool} : decide (V.str (reprB a) = V.str (reprB b)) = decide (a = b) := by
  cases a <;> cases b <;> decide +kernel
theorem call_repr_bl : CallR X (.builtin "repr") (fun xs H Q => ∃ b, xs = [.bl b] ∧ Q (.str (reprB b)) H) := by
  intro pins s σ H xs us Q I r h
  obtain ⟨b, rfl, q⟩ := h
  obtain ⟨u, rfl, rfl⟩ := vals1 r
  exact PySem.P.repr_of_bool ⟨.str _, H, I.tok _, ⟨_, rfl⟩, q⟩
end
/-! ### an exception as a value: isinstance, its field -/
end Bk
namespace PySem.W
open PySem PySem.Spec PySem.Calls PyProof.Rows
section
variable {prog : Program} {w : World} {A : Around} {E : Value → Shared → Prop} {s : Shared} {K : Frag} {x D : Addr} {ox : Obj} {od : Option Obj}
theorem bk_findObj {C : Addr} {name : Str} {a g : Value} (hc : (clsIn K C).isSome = true) (ha : findIn K (.ref C) name = some (some a)) (hg : specialIn K a "__get__" = some (some g)) (ht : takesIn K a = some true) : findObj K C od name = some (.bind g a) := by
  obtain ⟨cd, hc⟩ := Option.isSome_iff_exists.mp hc
  unfold findObj
  rw [hc, Option.bind_some, ha, Option.bind_some]
  simp [hg, ht]
theorem bk_class {Q : Option Value → Shared → Prop} (hga : findIn K (.ref D) "__getattribute__" = some (some (.builtin "BaseException.__getattribute__"))) (hgt : findIn K (.ref D) "__getattr__" = some none) (hsub : subIn K (.ref D) (.type "BaseException") = some true)
    (hdct : hasDictIn K D = true) (ha : findIn K (.ref D) "__class__" = some (some (.builtin "object.__class__")))
    (hn : specialIn K (.builtin "object.__class__") "__get__" = some (some (.builtin "getset_descriptor.__get__"))) (htk : takesIn K (.builtin "object.__class__") = some true) (hm : mroIn K D (.type "object") = some true)
    (X : K.In s.heap) (I : InstAt s.heap x ox D od) (h : Q (some (.ref D)) { s with toks := s.toks + 1 }) : wpAny (model prog w) A (getAttr? (.ref x) "__class__") Q E s := by
  have hf : findObj K D od "__class__" = some (.bind (.builtin "getset_descriptor.__get__") (.builtin "object.__class__")) := bk_findObj (by obtain ⟨cd, hc, _⟩ := any_some hdct; rw [hc]; rfl) ha hn htk
  obtain ⟨hp, g, d, t, os⟩ := s
  have L0 := I.type (M := model prog w)
  have L1 := looks_findIn (M := model prog w) X hga
  have L2 := looks_findIn (M := model prog w) X hgt
  have L3 := looks_find (M := model prog w) X I hf
  have sub : Looks (model prog w) hp (isInstance (.ref x) (.type "BaseException")) true := L0.andThen (looks_subIn X hsub)
  have hx0 : (false && onTheHeap (Value.builtin "BaseException.__getattribute__")) = false := rfl
  have hx2 : (Value.builtin "BaseException.__getattribute__" == Value.builtin "object.__getattribute__") = false := by decide +kernel
  have hx1 : (onTheHeap (Value.ref D) && Value.builtin "BaseException.__getattribute__" == Value.builtin "object.__getattribute__") = false := by rw [hx2]; rfl
  unfold getAttr? getAttrBy? getAttrBy
  refine wpAny_bind (wpAny_mkText (wpAny_bind (wpAny_attempt (wpAny_holding (wpAny_bind (L0.at (wpAny_bind (L1.at ?_))))))))
  show wpAny _ _ (if (onTheHeap (Value.ref D) && Value.builtin "BaseException.__getattribute__" == Value.builtin "object.__getattribute__") = true then _ else _) _ _ _
  rw [hx1, if_neg Bool.false_ne_true]
  unfold getAttrByItsOwn hookBefore
  refine wpAny_bind ?_
  rw [if_pos (show onTheHeap (Value.ref D) = true from rfl)]
  refine L2.at ?_
  refine wpAny_bind (wpAny_attempt (wpAny_holding ?_))
  unfold callGetattribute
  rw [hx0, if_neg Bool.false_ne_true]
  unfold boundAndCalled
  rw [PySem.F.excAttr_ValueError.ga.bind (.ref x)]
  refine wpAny_bind (wpAny_pure ?_)
  show wpAny _ _ (call (.builtin "BaseException.__getattribute__") [.ref x, .str "__class__" t]) _ _ _
  refine wpAny_call (codeAny_call_builtin PySem.F.excAttr_ValueError.ga.plain PySem.F.entry_bexc_ga ?_)
  refine @check_slot (model prog w) _ _ ⟨hp, g, d, t + 1, os⟩ "BaseException.__getattribute__" "BaseException" "__getattribute__" (.ref x) [.str "__class__" t] [] _ (by decide +kernel) (by decide +kernel) sub (PySem.F.args_bexc_ga (.ref x) (.str "__class__" t)) ?_
  unfold Builtin.«object.__getattribute__»
  refine wpAny_bind (wpAny_of_eq (a := ((Value.ref x : Value), [Value.str "__class__" t])) (by first | rfl | (simp only [slotArgs]; rfl)) ?_)
  refine wpAny_bind (wpAny_pure (wpAny_bind (L0.at (wpAny_bind (L3.at ?_)))))
  show wpAny _ _ (holding [Value.builtin "object.__class__"] (call (.builtin "getset_descriptor.__get__") [.builtin "object.__class__", .ref x, .ref D]) >>= ret) _ _ _
  refine wpAny_bind (wpAny_holding (wpAny_call (class_get (s := ⟨hp, g, d, t + 1, os⟩) (ox := ox) (od := od) X I hm ?_)))
  refine wpAny_pure ?_
  show wpAny _ _ (handedOut (.ref D)) _ _ _
  rw [handedOut_of (v := .ref D) rfl]
  first
    | exact wpAny_pure (wpAny_pure h)
    | exact wpAny_pure h
    | exact wpAny_pure (wpAny_bind (wpAny_pure (wpAny_pure h)))
theorem bk_kitx (hga : findIn K (.ref D) "__getattribute__" = some (some (.builtin "BaseException.__getattribute__"))) (hgt : findIn K (.ref D) "__getattr__" = some none) (hsub : subIn K (.ref D) (.type "BaseException") = some true) (hdct : hasDictIn K D = true) (ha : findIn K (.ref D) "__class__" = some (some (.builtin "object.__class__")))
    (hn : specialIn K (.builtin "object.__class__") "__get__" = some (some (.builtin "getset_descriptor.__get__"))) (htk : takesIn K (.builtin "object.__class__") = some true) (hm : mroIn K D (.type "object") = some true) :
    KitX K (.ref x) (.ref D) (fun h => InstAt h x ox D od) where
  ty := fun _ _ _ I => I.type
  it := fun _ _ X _ => by
    obtain ⟨cdD, hcD, _⟩ := any_some hdct
    unfold clsIn at hcD
    split at hcD
    · rename_i c' d' cd' sl' ho
      intro A' Q' E' s' k q
      unfold isType loadHead
      exact wpAny_bind (wpAny_loadPart (k _ _ (X _ _ ho)) (wpAny_pure q))
    · cases hcD
  ne := fun h tp dd its n sl X htp => by
    obtain ⟨cdD, hcD, _⟩ := any_some hdct
    refine Bool.eq_false_iff.mpr fun q => ?_
    have e : D = tp := Value.ref.inj (beq_iff_eq.mp q)
    subst e
    unfold clsIn at hcD
    split at hcD
    · rename_i c' d' cd' sl' ho
      have z := (X _ _ ho).symm.trans htp
      cases z
    · cases hcD
  ca := fun X I k => bk_class hga hgt hsub hdct ha hn htk hm X I k
end
end PySem.W
namespace Bk
open PySem PySem.Spec PyProof.Rows L2
/-- at a: an exception of the class at D, its own dict (at dx) holds fs -/
def XV (H : Hp) (a D dx : Addr) (fs : List (Str × V)) : Prop := H a = some (exo a D (some dx)) ∧ H dx = some (exd dx fs)
theorem xv_inst {X : Cx} {pins : List (Addr × Obj)} {σ : L2.St} {H : Hp} {s : Shared} {a D dx : Addr} {fs : List (Str × V)} (I : Inv X pins σ H s) (h : XV H a D dx fs) :
    ∃ (ox od : Obj) (mA : Str → Option Value), PySem.W.InstAt s.heap a ox D (some od) ∧ (∀ f, PySem.W.lookIn f od = some (mA f)) ∧ ∀ f, RelO (fs.lookup f) (mA f) := by
  obtain ⟨t1, ho⟩ := exo_at I.hok h.1
  obtain ⟨mA, hns, rel⟩ := exd_at I.hok h.2
  obtain ⟨od, hod, hl⟩ := lookIn_ns hns
  exact ⟨_, od, mA, ⟨ho, rfl, rfl, hod⟩, hl, rel⟩
/-- isinstance(e, c), e such an exception -/
def rIsX (K : PySem.W.Frag) : List V → Hp → VK → Prop := fun xs H Q => ∃ (a D dx : Addr) (fs : List (Str × V)) (c : V) (u : Value) (b : Bool), xs = [.ref a, c] ∧ XV H a D dx fs ∧ ExcC K D ∧ ClsV c u ∧ PySem.W.kitOne K (.ref D) u = some b ∧ Q (.bl b) H
theorem call_isX {X : Cx} : CallR X (.builtin "isinstance") (rIsX X.K) := by
  intro pins s σ H xs us Q I r h
  obtain ⟨a, D, dx, fs, c, u, b, rfl, xv, C, k, e, q⟩ := h
  obtain ⟨u1, u2, rfl, r1, r2⟩ := vals2 r
  have e2 := k.eq r2
  subst e2
  obtain rfl : u1 = Value.ref a := r1
  obtain ⟨ox, od, mA, J, _, _⟩ := xv_inst I xv
  exact PySem.W.kia_one (PySem.W.bk_kitx (ox := ox) (od := some od) C.hg C.hk C.hs C.hd C.ha C.hn C.ht C.hm) I.kIn J e (fun z => nomatch z) fun tk => ⟨.bl b, H, I.tok tk, rfl, q⟩
/-- isinstance of a value of any form met here -/
def rIs (K : PySem.W.Frag) : List V → Hp → VK → Prop := fun xs H Q => rIsi K xs H Q ∨ rIsX K xs H Q
theorem call_is {X : Cx} : CallR X (.builtin "isinstance") (rIs X.K) := CallR.or call_isi call_isX
end Bk

namespace Bk
open PySem PySem.Spec PyProof.Rows L2
/-! ## 2. a def that may be called by its name -/
structure Cal (P : Program) (w : World) (K : PySem.W.Frag) (mg : Str → Option Value) (base : Heap) (CX : CXT) (k : Nat) (x : Str) (sp : Sp) : Prop where
  ex : ∃ (f : Addr) (fd : FuncData) (ps : List Str) (ds : List Value) (dvs : List V), mg x = some (.ref f) ∧ PySem.W.keepIn K (.ref f) = true ∧ FnOk P w K mg base CX k f fd ps (fun vs H Q E => sp vs H Q E ∧ vs.length = ps.length) ∧ Binds K fd ps [] ∧ ds = [] ∧ dvs = []
/-- the same with keywords: n values by places, then those of the keywords ks; gV orders them -/
structure CalN (P : Program) (w : World) (K : PySem.W.Frag) (mg : Str → Option Value) (base : Heap) (CX : CXT) (k n : Nat) (ks : List Str) (x : Str) (sp : Sp) (gV : List V → List V → List V) : Prop where
  ex : ∃ (f : Addr) (fd : FuncData) (ps : List Str) (g : List Value → List Value → List Value), mg x = some (.ref f) ∧ PySem.W.keepIn K (.ref f) = true ∧ FnOk P w K mg base CX k f fd ps sp ∧ KBn K fd ps n ks g gV
/-- defaults fill up -/
structure CalD (P : Program) (w : World) (K : PySem.W.Frag) (mg : Str → Option Value) (base : Heap) (CX : CXT) (k : Nat) (x : Str) (sp : Sp) (dvs : List V) : Prop where
  ex : ∃ (f : Addr) (fd : FuncData) (ps : List Str) (ds : List Value), mg x = some (.ref f) ∧ PySem.W.keepIn K (.ref f) = true ∧ FnOk P w K mg base CX k f fd ps sp ∧ Binds K fd ps ds ∧ Vals dvs ds
/-- a method's def, by itself -/
structure Own (P : Program) (w : World) (K : PySem.W.Frag) (mg : Str → Option Value) (base : Heap) (CX : CXT) (k : Nat) (f : Addr) (fd : FuncData) (ps : List Str) (sp : Sp) : Prop where
  ok : FnOk P w K mg base CX k f fd ps sp
  bd : Binds K fd ps []
  kp : PySem.W.keepIn K (.ref f) = true
section
variable {X : Cx} {CX : CXT} {k j n : Nat} {ks : List Str} {sp : Sp} {E : XK} {x : Str} {p pos : Pos} {e : Expr} {es : List Expr} {kws : List Keyword} {t tk : TA} {gV : List V → List V → List V} {dvs : List V}
theorem pe_cal (c : CalD X.prog X.w X.K X.mg X.base CX0 k x sp []) (hr : Room j X.A) (hk : k ≤ j) (hg : Gl X x) (ha : PA X (e :: es) t)
    (hdb : (x == ("__debug__" : Str)) = false := by decide) (he : starEach (e :: es) X.env = (false, eval e X.env) :: starEach es X.env := by rfl) (hpl : (backTo pos (starEach es X.env)).any (·.1) = false := by rfl) :
    PE X (.Call (.Name x p) (e :: es) [] pos) (tCall sp [] E0 t) := by
  obtain ⟨f, fd, ps, ds, h1, h2, h3, h4, h5⟩ := c.ex
  exact pe_call h3 (hr.mono hk) hg h1 h2 h4 h5 pass0 ha hdb he hpl
theorem pe_calD (c : CalD X.prog X.w X.K X.mg X.base CX0 k x sp dvs) (hr : Room j X.A) (hk : k ≤ j) (hg : Gl X x) (ha : PA X (e :: es) t)
    (hdb : (x == ("__debug__" : Str)) = false := by decide) (he : starEach (e :: es) X.env = (false, eval e X.env) :: starEach es X.env := by rfl) (hpl : (backTo pos (starEach es X.env)).any (·.1) = false := by rfl) :
    PE X (.Call (.Name x p) (e :: es) [] pos) (tCall sp dvs E0 t) := by
  obtain ⟨f, fd, ps, ds, h1, h2, h3, h4, h5⟩ := c.ex
  exact pe_call h3 (hr.mono hk) hg h1 h2 h4 h5 pass0 ha hdb he hpl
theorem pe_cal0 (c : CalD X.prog X.w X.K X.mg X.base CX0 k x sp []) (hr : Room j X.A) (hk : k ≤ j) (hg : Gl X x) (hdb : (x == ("__debug__" : Str)) = false := by decide) :
    PE X (.Call (.Name x p) [] [] pos) (tCall sp [] E0 tNil) := by
  obtain ⟨f, fd, ps, ds, h1, h2, h3, h4, h5⟩ := c.ex
  exact pe_call0 h3 (hr.mono hk) hg h1 h2 h4 h5 pass0 hdb
theorem pe_calN (c : CalN X.prog X.w X.K X.mg X.base CX0 k n ks x sp gV) (hr : Room k X.A) (hg : Gl X x) (ha : PA X (e :: es) t) (hkw : PK X kws tk)
    (hall : (backToKw pos (keywordEach kws X.env)).all (·.1.isSome) = true := by rfl) (hks : (backToKw pos (keywordEach kws X.env)).filterMap (·.1) = ks := by rfl)
    (hdb : (x == ("__debug__" : Str)) = false := by decide) (he : starEach (e :: es) X.env = (false, eval e X.env) :: starEach es X.env := by rfl)
    (hpl : ((backTo pos (starEach (e :: es) X.env)).any (·.1) || (backToKw pos (keywordEach kws X.env)).any (·.1.isNone)) = false := by rfl) :
    PE X (.Call (.Name x p) (e :: es) kws pos) (tCallN n ks.length sp gV E0 t tk) := by
  obtain ⟨f, fd, ps, g, h1, h2, h3, h4⟩ := c.ex
  exact pe_callN h3 hr hg h1 h2 h4 pass0 ha hkw hall hks hdb he hpl
theorem pe_calN0 (c : CalN X.prog X.w X.K X.mg X.base CX0 k 0 ks x sp gV) (hr : Room k X.A) (hg : Gl X x) (hkw : PK X kws tk)
    (hall : (backToKw pos (keywordEach kws X.env)).all (·.1.isSome) = true := by rfl) (hks : (backToKw pos (keywordEach kws X.env)).filterMap (·.1) = ks := by rfl)
    (hdb : (x == ("__debug__" : Str)) = false := by decide)
    (hpl : ((backTo pos (starEach [] X.env)).any (·.1) || (backToKw pos (keywordEach kws X.env)).any (·.1.isNone)) = false := by rfl) :
    PE X (.Call (.Name x p) [] kws pos) (tCallN 0 ks.length sp gV E0 tNil tk) := by
  obtain ⟨f, fd, ps, g, h1, h2, h3, h4⟩ := c.ex
  exact pe_callN0 h3 hr hg h1 h2 h4 pass0 hkw hall hks hdb hpl
end
theorem CalD.mk' {P : Program} {w : World} {K : PySem.W.Frag} {mg : Str → Option Value} {base : Heap} {CX : CXT} {k : Nat} {x : Str} {sp : Sp} {f : Addr} {fd : FuncData} {ps : List Str} (g : mg x = some (.ref f)) (kp : PySem.W.keepIn K (.ref f) = true) (F : FnOk P w K mg base CX k f fd ps sp) (b : Binds K fd ps []) :
    CalD P w K mg base CX k x sp [] := ⟨f, fd, ps, [], g, kp, F, b, .nil⟩
/-! ## 3. going through a reading -/
section
variable {K : PySem.W.Frag} {σ : L2.St} {H : Hp} {ta tb tc te : TE} {t u : TT} {x y v : V} {Q : VK} {QB : Bool → Hp → Prop} {QL : List V → Hp → Prop} {r r' : R2} {D : Ends} {a b : TS} {tr : TA}
theorem r_var {i : Nat} (h : σ[i]? = some (some v)) (q : Q v H) : tVar i σ H Q := ⟨v, h, q⟩
theorem r_c (q : Q v H) : tC v σ H Q := q
theorem r_op (q : ta σ H fun x H1 => tb σ H1 fun y H2 => r x y H2 Q) : tOp r ta tb σ H Q := q
theorem r_un {r : V → Hp → VK → Prop} (q : ta σ H fun x H1 => r x H1 Q) : tUn r ta σ H Q := q
theorem r_I0 {g : Int → Int → V} {i j : Int} (q : Q (g i j) H) : rI0 g (.int i) (.int j) H Q := ⟨i, j, rfl, rfl, q⟩
theorem r_I {C : Int → Int → Prop} {g : Int → Int → V} {i j : Int} (c : C i j) (q : Q (g i j) H) : rI C g (.int i) (.int j) H Q := ⟨i, j, rfl, rfl, c, q⟩
theorem r_U {g : Int → V} {i : Int} (q : Q (g i) H) : rU g (.int i) H Q := ⟨i, rfl, q⟩
theorem r_eq (s : scal x y = true) (q : Q (.bl (decide (x = y))) H) : rEq x y H Q := ⟨s, q⟩
theorem r_ne (s : scal x y = true) (q : Q (.bl (!decide (x = y))) H) : rNe x y H Q := ⟨s, q⟩
theorem r_nil (q : QL [] H) : tNil σ H QL := q
theorem r_cons (q : ta σ H fun x H1 => tr σ H1 fun xs H2 => QL (x :: xs) H2) : tCons ta tr σ H QL := q
theorem r_call {sp : Sp} {dvs : List V} {E : XK} (q : tr σ H fun vs H1 => sp (vs ++ dvs) H1 Q E) : tCall sp dvs E tr σ H Q := q
theorem r_callN {n m : Nat} {sp : Sp} {gV : List V → List V → List V} {E : XK} {tk : TA} (q : tr σ H fun vs H1 => tk σ H1 fun zs H2 => vs.length = n ∧ zs.length = m ∧ sp (gV vs zs) H2 Q E) : tCallN n m sp gV E tr tk σ H Q := q
theorem r_cb {rc : List V → Hp → VK → Prop} (q : tr σ H fun vs H1 => rc vs H1 Q) : tCB rc tr σ H Q := q
theorem r_ret (q : te σ H D.rt) : tRet te D σ H := q
theorem r_seq (q : a { D with nx := b D } σ H) : tSeq a b D σ H := q
theorem r_asg {g : TG} (q : te σ H fun x H1 => g x σ H1 D.nx) : tAsg te g D σ H := q
theorem r_name {i : Nat} {Qs : L2.St → Hp → Prop} (q : Qs (σ.set i (some v)) H) : gName i v σ H Qs := q
theorem r_if (q : t σ H fun b' H1 => if b' = true then a D σ H1 else b D σ H1) : tIfS t a b D σ H := q
theorem r_next (q : D.nx σ H) : tNext D σ H := q
theorem r_drop (q : te σ H fun _ H1 => D.nx σ H1) : tDrop te D σ H := q
theorem r_test (q : te σ H fun x H' => ∃ k, x = .bl k ∧ QB k H') : tTest te σ H QB := q
theorem r_tB (q : te σ H fun x H' => ∃ k, x = .bl k ∧ QB k H') : tB te σ H QB := q
theorem r_isb {k : Bool} (q : QB k H) : ∃ k', V.bl k = .bl k' ∧ QB k' H := ⟨k, rfl, q⟩
theorem r_isv {k : Bool} {A : Bool → Prop} (q : A k) : ∃ k', V.bl k = .bl k' ∧ A k' := ⟨k, rfl, q⟩
theorem r_not (q : t σ H fun c H1 => QB (!c) H1) : tNot t σ H QB := q
theorem r_and (q : t σ H fun c H1 => if c = true then u σ H1 QB else QB false H1) : tAnd t u σ H QB := q
theorem r_or (q : t σ H fun c H1 => if c = true then QB true H1 else u σ H1 QB) : tOr t u σ H QB := q
theorem r_andV (q : ta σ H fun x H1 => ∃ c, x = .bl c ∧ if c = true then tb σ H1 Q else Q (.bl false) H1) : tAndV ta tb σ H Q := q
theorem r_orV (q : ta σ H fun x H1 => ∃ c, x = .bl c ∧ if c = true then Q (.bl true) H1 else tb σ H1 Q) : tOrV ta tb σ H Q := q
theorem r_notV (q : ta σ H fun x H1 => ∃ c, x = .bl c ∧ Q (.bl (!c)) H1) : tNotV ta σ H Q := q
theorem r_chain (q : ta σ H fun x H1 => tb σ H1 fun y H2 => r x y H2 fun z H3 => ∃ k, z = .bl k ∧ (if k = true then tc σ H3 fun w' H4 => r' y w' H4 Q else Q (.bl false) H3)) : tChain r r' ta tb tc σ H Q := q
theorem r_ifE (q : t σ H fun c H1 => if c = true then ta σ H1 Q else tb σ H1 Q) : tIf t ta tb σ H Q := q
theorem r_isN (q : Q (.bl (decide (x = .non))) H) : (fun x y H Q => y = V.non ∧ Q (.bl (decide (x = .non))) H : R2) x .non H Q := ⟨rfl, q⟩
def NewL (xs : List V) (H : Hp) (Q : VK) : Prop := xs.length ≤ sizeLine ∧ ∀ p, H p = none → Q (.ref p) (upd H p (.lst xs))
def NewT (xs : List V) (H : Hp) (Q : VK) : Prop := xs.length ≤ sizeLine ∧ ∀ p, H p = none → Q (.ref p) (upd H p (.tup xs))
theorem r_lst (q : tr σ H fun xs H1 => NewL xs H1 Q) : tLst tr σ H Q := q
theorem r_tup (q : tr σ H fun xs H1 => NewT xs H1 Q) : tTup tr σ H Q := q
theorem same_upd {p : Addr} {o : HO} (h : H p = none) : Same H (upd H p o) := fun b x e => by
  rw [upd_ne (ne_of_none e h)]
  exact e
/-- a new object: the heap behind it by what stands in it -/
theorem newL {xs : List V} (q : ∀ p H', H p = none → Same H H' → H' p = some (.lst xs) → Q (.ref p) H') (hl : xs.length ≤ 10000 := by exact Nat.le_of_ble_eq_true rfl) : NewL xs H Q :=
  ⟨Nat.le_trans hl (by decide), fun p hp => q p _ hp (same_upd hp) upd_same⟩
theorem newT {xs : List V} (q : ∀ p H', H p = none → Same H H' → H' p = some (.tup xs) → Q (.ref p) H') (hl : xs.length ≤ 10000 := by exact Nat.le_of_ble_eq_true rfl) : NewT xs H Q :=
  ⟨Nat.le_trans hl (by decide), fun p hp => q p _ hp (same_upd hp) upd_same⟩
def NewDK (kvs : List (Key × V)) (H : Hp) (Q : VK) : Prop := ∀ p, H p = none → Q (.ref p) (upd H p (.dK kvs))
theorem r_dnewK (q : NewDK [] H Q) : tDNewK σ H Q := q
theorem newDK {kvs : List (Key × V)} (q : ∀ p H', H p = none → Same H H' → H' p = some (.dK kvs) → Q (.ref p) H') : NewDK kvs H Q := fun p hp => q p _ hp (same_upd hp) upd_same
def MkV (C : Addr) (sp : Sp) (dvs vs : List V) (H : Hp) (Q : VK) : Prop := vs.length ≤ 1000 ∧ ∀ a, H a = none → sp (.ref a :: (vs ++ dvs)) (upd H a (exo a C none)) (fun v H2 => v = .non ∧ Q (.ref a) H2) (fun _ _ _ => False)
theorem r_mkV {C : Addr} {sp : Sp} {dvs : List V} (q : tr σ H fun vs H1 => MkV C sp dvs vs H1 Q) : tMkV C sp dvs tr σ H Q := q
def ForL (J : It) (g : TG) (tb : TS) (D : Ends) (σ : L2.St) (H : Hp) : Prop := ∃ W : Nat → Nat → L2.St → Hp → Prop, (∃ m, W 0 m σ H) ∧ ∀ i m σ H, W i m σ H →
  (J.stop i H ∧ D.nx σ H) ∨ (J.go i H ∧ ∃ N : L2.St → Hp → Prop, (∀ σ' H', N σ' H' → ∃ m', m' < m ∧ W (i + 1) m' σ' H') ∧ ∀ x H', J.yld i H x H' → g x σ H' fun σ2 H2 => tb { D with nx := N, ct := N, bk := D.nx } σ2 H2)
theorem r_for {wi : TI} {g : TG} (q : wi σ H fun J H1 => ForL J g a D σ H1) : tFor wi g a D σ H := q
theorem r_iList {tl : TE} {R : It → Hp → Prop} (q : tl σ H fun x H1 => ∃ p, x = .ref p ∧ (∃ xs, SqL K H1 p xs) ∧ R (Itl K p) H1) : iList K tl σ H R := q
theorem r_iTup {tl : TE} {R : It → Hp → Prop} (q : tl σ H fun x H1 => ∃ p, x = .ref p ∧ (∃ xs, SqT K H1 p xs) ∧ R (Itt K p) H1) : iTup K tl σ H R := q
theorem r_iRng1 {R : It → Hp → Prop} (q : tr σ H fun vs H1 => ∃ j : Int, vs = [.int j] ∧ -(2 ^ 62) ≤ j ∧ j < 2 ^ 62 ∧ R (Itr 0 j.toNat) H1) : iRng1 tr σ H R := q
theorem r_iRng2 {R : It → Hp → Prop} (q : tr σ H fun vs H1 => ∃ i j : Int, vs = [.int i, .int j] ∧ (-(2 ^ 62) ≤ i ∧ i < 2 ^ 62 ∧ -(2 ^ 62) ≤ j ∧ j < 2 ^ 62) ∧ R (Itr i (j - i).toNat) H1) : iRng2 tr σ H R := q
theorem r_ixL {p : Addr} {xs : List V} {i : Int} (h : SqL K H p xs) (ha : atI xs i = some v) (q : Q v H) : rIxL K (.ref p) (.int i) H Q := ⟨p, xs, i, v, rfl, rfl, h, ha, q⟩
theorem r_ixT {p : Addr} {xs : List V} {i : Int} (h : SqT K H p xs) (ha : atI xs i = some v) (q : Q v H) : rIxT K (.ref p) (.int i) H Q := ⟨p, xs, i, v, rfl, rfl, h, ha, q⟩
theorem r_gSub {to ti : TE} {ts : TSet} {Qs : L2.St → Hp → Prop} (q : to σ H fun o H1 => ti σ H1 fun i H2 => ts o i v H2 fun H3 => Qs σ H3) : gSub to ti ts v σ H Qs := q
theorem r_bm {T : String} {rm : V → List V → Hp → VK → Prop} {to : TE} (q : to σ H fun x H1 => tyV K T x H1 ∧ tr σ H1 fun xs H2 => rm x xs H2 Q) : tBM K T rm to tr σ H Q := q
theorem iteNF {A B : Prop} (h : B) : if (!true) = true then A else B := iteF h
theorem iteNT {A B : Prop} (h : A) : if (!false) = true then A else B := iteT h
theorem iteD {c A B : Prop} [Decidable c] (hc : c) (h : A) : if decide c = true then A else B := by rw [decide_eq_true hc]; exact iteT h
theorem iteDn {c A B : Prop} [Decidable c] (hc : ¬ c) (h : B) : if decide c = true then A else B := by rw [decide_eq_false hc]; exact iteF h
theorem iteND {c A B : Prop} [Decidable c] (hc : c) (h : B) : if (!decide c) = true then A else B := by rw [decide_eq_true hc]; exact iteF h
theorem iteNDn {c A B : Prop} [Decidable c] (hc : ¬ c) (h : A) : if (!decide c) = true then A else B := by rw [decide_eq_false hc]; exact iteT h
/-- a test that is open: both ways, by what it says -/
theorem iteC {c A B : Prop} [Decidable c] (h1 : c → A) (h2 : ¬ c → B) : if decide c = true then A else B := by
  by_cases h : c
  · exact iteD h (h1 h)
  · exact iteDn h (h2 h)
theorem iteNC {c A B : Prop} [Decidable c] (h1 : ¬ c → A) (h2 : c → B) : if (!decide c) = true then A else B := by
  by_cases h : c
  · exact iteND h (h2 h)
  · exact iteNDn h (h1 h)
theorem iteB {b : Bool} {A B : Prop} (h1 : b = true → A) (h2 : b = false → B) : if b = true then A else B := by
  cases b
  · exact iteF (h2 rfl)
  · exact iteT (h1 rfl)
theorem iteNB {b : Bool} {A B : Prop} (h1 : b = false → A) (h2 : b = true → B) : if (!b) = true then A else B := by
  cases b
  · exact iteT (h1 rfl)
  · exact iteF (h2 rfl)
theorem r_m1 {rm : V → List V → Hp → VK → Prop} {to te : TE} (q : to σ H fun x H1 => (∃ a, x = .str a) ∧ te σ H1 fun y H2 => rm x [y] H2 Q) : tM1 rm to te σ H Q := q
theorem r_len {z : Str} (h : z.length ≤ 100000) (q : Q (.int z.length) H) : ∃ z', [V.str z] = [V.str z'] ∧ z'.length ≤ sizeLine ∧ Q (.int z'.length) H := ⟨z, rfl, Nat.le_trans h (by decide), q⟩
theorem sqL {p : Addr} {xs : List V} (h : H p = some (.lst xs)) : SqL K H p xs := .inl (.inl h)
theorem sqT {p : Addr} {xs : List V} (h : H p = some (.tup xs)) : SqT K H p xs := .inl (.inl h)
end
end Bk

namespace Bk
open PySem PySem.Spec PyProof.Rows L2
/-! ## 4. what isinstance answers -/
def IsA (K : PySem.W.Frag) (H : Hp) (x : V) (T : String) (b : Bool) : Prop :=
  (∃ t, TyX K H x t ∧ PySem.W.kitOne K t (.type T) = some b) ∨ (∃ (a D dx : Addr) (fs : List (Str × V)), x = .ref a ∧ XV H a D dx fs ∧ ExcC K D ∧ PySem.W.kitOne K (.ref D) (.type T) = some b)
section
variable {K : PySem.W.Frag} {H H' : Hp} {x : V} {T : String} {b : Bool} {Q : VK}
theorem r_is (h : IsA K H x T b) (q : Q (.bl b) H) : rIs K [x, .ty T] H Q := by
  rcases h with ⟨t, h1, h2⟩ | ⟨a, D, dx, fs, rfl, h1, h2, h3⟩
  · exact .inl ⟨x, .ty T, t, .type T, b, rfl, .ty T, h1, h2, q⟩
  · exact .inr ⟨a, D, dx, fs, .ty T, .type T, b, rfl, h1, h2, .ty T, h3, q⟩
theorem isa_int {i : Int} (h : kitB "int" T = some b := by decide +kernel) : IsA K H (.int i) T b := .inl ⟨.type "int", .base (.int i), kit_ty h⟩
theorem isa_bl {c : Bool} (h : kitB "bool" T = some b := by decide +kernel) : IsA K H (.bl c) T b := .inl ⟨.type "bool", .base (.bl c), kit_ty h⟩
theorem isa_str {z : Str} (h : kitB "str" T = some b := by decide +kernel) : IsA K H (.str z) T b := .inl ⟨.type "str", .base (.str z), kit_ty h⟩
theorem isa_non (h : kitB "NoneType" T = some b := by decide +kernel) : IsA K H .non T b := .inl ⟨.type "NoneType", .base .non, kit_ty h⟩
theorem isa_lst {a : Addr} {xs : List V} (e : H a = some (.lst xs)) (h : kitB "list" T = some b := by decide +kernel) : IsA K H (.ref a) T b := .inl ⟨.type "list", .base (.lst e), kit_ty h⟩
theorem isa_tup {a : Addr} {xs : List V} (e : H a = some (.tup xs)) (h : kitB "tuple" T = some b := by decide +kernel) : IsA K H (.ref a) T b := .inl ⟨.type "tuple", .base (.tup e), kit_ty h⟩
theorem isa_dK {a : Addr} {kvs : List (Key × V)} (e : H a = some (.dK kvs)) (h : kitB "dict" T = some b := by decide +kernel) : IsA K H (.ref a) T b := .inl ⟨.type "dict", .base (.dK e), kit_ty h⟩
theorem isa_exc {a D dx : Addr} {fs : List (Str × V)} (e : XV H a D dx fs) (C : ExcC K D) (h : PySem.W.kitOne K (.ref D) (.type T) = some b) : IsA K H (.ref a) T b := .inr ⟨a, D, dx, fs, rfl, e, C, h⟩
end
/-! ## 5. the box of draws -/
def Box (a : Addr) (n : Nat) (H : Hp) : Prop := ∃ x y z : Int, H a = some (.lst [.int x, .int y, .int z]) ∧ 0 ≤ x ∧ 0 ≤ y ∧ y < 2147483629 ∧ 0 ≤ z ∧ z ≤ (n : Int)
/-- all but what stands at a is as it was -/
def But (a : Addr) (H H' : Hp) : Prop := ∀ b o, b ≠ a → H b = some o → H' b = some o
theorem But.refl {a : Addr} {H : Hp} : But a H H := fun _ _ _ h => h
theorem But.trans {a : Addr} {H H1 H2 : Hp} (x : But a H H1) (y : But a H1 H2) : But a H H2 := fun b o n e => y b o n (x b o n e)
theorem But.same {a : Addr} {H H1 H2 : Hp} (x : But a H H1) (y : Same H1 H2) : But a H H2 := fun b o n e => y b o (x b o n e)
theorem But.of {a : Addr} {H H1 : Hp} (y : Same H H1) : But a H H1 := fun b o _ e => y b o e
theorem But.upd {a : Addr} {H : Hp} {o : HO} : But a H (upd H a o) := fun b u n e => by rw [upd_ne n]; exact e
theorem Box.same {a : Addr} {n : Nat} {H H' : Hp} (h : Box a n H) (s : Same H H') : Box a n H' := by
  obtain ⟨x, y, z, e, r⟩ := h
  exact ⟨x, y, z, s _ _ e, r⟩
theorem Box.mono {a : Addr} {n m : Nat} {H : Hp} (h : Box a n H) (l : n ≤ m) : Box a m H := by
  obtain ⟨x, y, z, e, r1, r2, r3, r4, r5⟩ := h
  exact ⟨x, y, z, e, r1, r2, r3, r4, by omega⟩
theorem Box.ne {a p : Addr} {n : Nat} {H : Hp} (h : Box a n H) (hp : H p = none) : p ≠ a := by
  obtain ⟨x, y, z, e, _⟩ := h
  exact (ne_of_none e hp).symm
theorem Box.ne_tup {a p : Addr} {n : Nat} {H : Hp} {xs : List V} (h : Box a n H) (hp : H p = some (.tup xs)) : p ≠ a := by
  obtain ⟨x, y, z, e, _⟩ := h
  exact fun q => by rw [q, e] at hp; cases hp
def spCell (K : PySem.W.Frag) : Sp := fun vs H Q _ => ∃ (a : Addr) (ns : List Int) (k : Nat), vs = [.ref a, .int k] ∧ SqL K H a (ns.map V.int) ∧ k ≤ 100000 ∧ ∀ c, Q (.int c) H
def spBox : Sp := fun vs H Q _ => ∃ c : Int, vs = [.int c] ∧ ∀ p H', H p = none → Same H H' → Box p 0 H' → Q (.ref p) H'
def spTake : Sp := fun vs H Q _ => ∃ (a : Addr) (n : Nat) (size : Int), vs = [.ref a, .int size] ∧ Box a n H ∧ n < 1000000 ∧ 0 < size ∧ size < 2 ^ 128 ∧
  ∀ d H', 0 ≤ d → d < size → Box a (n + 1) H' → But a H H' → Q (.int d) H'
theorem cdiv {i j : Int} (h : 0 < j) (h2 : j < 2 ^ 128) : CDivW i j := wide_div (b := 128) h (by omega) (by decide) (by decide)
theorem cmul {i j : Int} (h1 : -(2 ^ 128) < i) (h2 : i < 2 ^ 128) (h3 : -(2 ^ 128) < j) (h4 : j < 2 ^ 128) : CMulW i j := wide_mul (a := 128) (b := 128) (by omega) (by omega) (by decide) (by decide) (by decide)
theorem at_map {ns : List Int} {k : Nat} (h : k < ns.length) : atI (ns.map V.int) ((k : Nat) : Int) = some (.int ns[k]) := atI_nat (by rw [List.getElem?_map, List.getElem?_eq_getElem h]; rfl)
end Bk

namespace Bk
open PySem PySem.Spec PyProof.Rows L2
theorem sameBut {H H' : Hp} {D : Addr} {o : HO} (h : Same H H') (n : H D = none) : Same H (upd H' D o) := fun b u e => by
  rw [upd_ne (ne_of_none e n)]
  exact h b u e
/-! ## 6. a comprehension over a text's signs, all of it -/
section
variable {K : PySem.W.Frag} {σ : L2.St} {H : Hp} {Q : VK} {te : TE}
/-- the list of p of each sign -/
theorem r_lcStr {i0 j : Nat} {vs : List Nat} {z : Str} (p : Nat → V) (hv : σ[i0]? = some (some (.str z))) (hz : z.length ≤ 100000)
    (hw : ∀ x, wipe ((wipe σ vs).set j (some x)) vs = wipe σ vs)
    (ht : ∀ (c : Nat) (H' : Hp) (Q' : VK), c ∈ z.cps.toList → Same H H' → (∀ H2, Same H' H2 → Q' (p c) H2) → te ((wipe σ vs).set j (some (.str ⟨#[c]⟩))) H' Q')
    (q : ∀ D H', H D = none → Same H H' → H' D = some (.lst (z.cps.toList.map p)) → Q (.ref D) H') :
    tLc (iStr (tVar i0)) (gName j) tYes te vs σ H Q := by
  refine ⟨_, hv, z, rfl, fun D hD => ?_⟩
  refine lc_it (n := z.cps.size) walk_str (fun i H' => Same H H' ∧ H' D = some (.lst ((z.cps.toList.take i).map p))) ⟨same_upd hD, by rw [upd_same]; rfl⟩ (fun _ _ _ _ => trivial) ?_ ?_
  · rintro i x H1 H2 hi ⟨sm, e⟩ ⟨rfl, c, hc, rfl⟩
    have hc' : z.cps.toList[i]? = some c := by rw [Array.getElem?_toList]; exact hc
    refine ⟨hw _, ?_⟩
    show te _ _ _
    refine ht c _ _ (List.mem_of_getElem? hc') sm fun H3 s3 => ⟨_, s3 _ _ e, ?_, sameBut (sm.trans s3) hD, ?_⟩
    · have l : ((z.cps.toList.take i).map p).length ≤ z.cps.size := by
        rw [List.length_map, List.length_take, Array.length_toList]
        omega
      have hz' : z.cps.size ≤ 100000 := hz
      exact Nat.lt_of_le_of_lt (Nat.le_trans l hz') (by decide)
    · rw [upd_same, List.take_add_one, hc', List.map_append]
      rfl
  · rintro H1 ⟨sm, e⟩
    refine q D H1 hD sm ?_
    rw [e]
    have l : z.cps.size = z.cps.toList.length := (Array.length_toList).symm
    rw [l, List.take_length]
/-- all([p(sign) for sign in text]) -/
theorem r_allStr {i0 j : Nat} {vs : List Nat} {z : Str} (p : Nat → Bool) (hv : σ[i0]? = some (some (.str z))) (hz : z.length ≤ 100000)
    (hw : ∀ x, wipe ((wipe σ vs).set j (some x)) vs = wipe σ vs)
    (ht : ∀ (c : Nat) (H' : Hp) (Q' : VK), c ∈ z.cps.toList → Same H H' → (∀ H2, Same H' H2 → Q' (.bl (p c)) H2) → te ((wipe σ vs).set j (some (.str ⟨#[c]⟩))) H' Q')
    (q : ∀ H', Same H H' → Q (.bl (z.cps.toList.all p)) H') :
    tCB (rAll K) (tCons (tLc (iStr (tVar i0)) (gName j) tYes te vs) tNil) σ H Q := by
  refine r_cb (r_cons ?_)
  refine r_lcStr (fun c => .bl (p c)) hv hz hw ht fun D H' nD sm e => ?_
  refine r_nil ⟨D, z.cps.toList.map p, rfl, sqL ?_, ?_⟩
  · rw [e, List.map_map]
    rfl
  · rw [List.all_map]
    exact q H' sm
end
/-! ## 7. draws, items, slices -/
section
variable {K : PySem.W.Frag} {σ : L2.St} {H : Hp} {Q : VK} {E : XK} {te : TE} {tl th : TO} {QO : Option Int → Hp → Prop}
theorem r_take {a : Addr} {n : Nat} {size : Int} (hB : Box a n H) (q : ∀ d H', 0 ≤ d → d < size → Box a (n + 1) H' → But a H H' → Q (.int d) H') (hn : n < 1000000 := by omega) (h0 : 0 < size := by decide) (h1 : size < 2 ^ 128 := by decide) : spTake [.ref a, .int size] H Q E :=
  ⟨a, n, size, rfl, hB, hn, h0, h1, q⟩
theorem r_ixS {z : Str} {d : Int} (h0 : 0 ≤ d) (h1 : d < (z.cps.toList.length : Int)) (hz : z.length ≤ 100000) (q : ∀ c, z.cps.toList[d.toNat]? = some c → Q (.str ⟨#[c]⟩) H) : rIxS (.str z) (.int d) H Q := by
  have l : d.toNat < z.cps.toList.length := by omega
  obtain ⟨c, hc⟩ : ∃ c, z.cps.toList[d.toNat]? = some c := ⟨_, List.getElem?_eq_getElem l⟩
  refine ⟨z, d, c, rfl, rfl, Nat.le_trans hz (by decide), ?_, q c hc⟩
  have e : d = ((d.toNat : Nat) : Int) := by omega
  rw [e]
  exact atI_nat hc
theorem r_ixLo {p : Addr} {xs : List V} {d : Int} (h : SqL K H p xs) (h0 : 0 ≤ d) (h1 : d < (xs.length : Int)) (q : ∀ v, v ∈ xs → xs[d.toNat]? = some v → Q v H) : rIxL K (.ref p) (.int d) H Q := by
  have l : d.toNat < xs.length := by omega
  obtain ⟨v, hv⟩ : ∃ v, xs[d.toNat]? = some v := ⟨_, List.getElem?_eq_getElem l⟩
  refine r_ixL h (v := v) ?_ (q v (List.mem_of_getElem? hv) hv)
  have e : d = ((d.toNat : Nat) : Int) := by omega
  rw [e]
  exact atI_nat hv
theorem r_sl {r : V → Option Int → Option Int → Hp → VK → Prop} (q : te σ H fun x H1 => tl σ H1 fun l H2 => th σ H2 fun u H3 => r x l u H3 Q) : tSl r te tl th σ H Q := q
theorem r_noPart (q : QO none H) : tNoPart σ H QO := q
theorem r_part (q : te σ H fun x H1 => ∃ i, x = .int i ∧ QO (some i) H1) : tPart te σ H QO := q
theorem r_isi {i : Int} {A : Int → Prop} (q : A i) : ∃ i', V.int i = .int i' ∧ A i' := ⟨i, rfl, q⟩
theorem r_slS {z : Str} {lo hi : Option Int} (hz : z.length ≤ 100000) (q : ∀ y : Str, y.length ≤ z.length → Q (.str y) H) : rSlS (.str z) lo hi H Q := ⟨z, rfl, Nat.le_trans hz (by decide), q _ (cutS_length z lo hi)⟩
end
theorem r_cut {a b : TS} {D : Ends} {σ : L2.St} {H : Hp} (Mid : L2.St → Hp → Prop) (h1 : a { D with nx := Mid } σ H) (h2 : ∀ σ' H', Mid σ' H' → b D σ' H') : C8.tCut a b D σ H := ⟨Mid, h1, h2⟩
theorem str_len_add (x y : Str) : (x ++ y).length = x.length + y.length := by
  have h : ∀ z : Str, z.length = z.cps.toList.length := fun z => (Array.length_toList).symm
  rw [h, h, h]; show (TL.tl (x ++ y)).length = _; rw [TL.tl_append]
  exact List.length_append
theorem lt1 {c d : Nat} : decide ([c] < [d]) = decide (c < d) := by
  by_cases h : c < d
  · rw [decide_eq_true h]
    exact decide_eq_true (List.Lex.rel h)
  · rw [decide_eq_false h]
    refine decide_eq_false fun z => ?_
    cases z with
    | rel q => exact h q
    | cons q => cases q
theorem sign_tl {c : Nat} : (⟨#[c]⟩ : Str).cps.toList = [c] := rfl
/-- a text begins with this sign -/
theorem starts1 (z : Str) (c : Nat) : Txt.startswith z ⟨#[c]⟩ = decide (z.cps.toList[0]? = some c) := by
  have h := PySem.StrLaws.subAt_one z c 0
  unfold Txt.startswith
  by_cases e : z.cps.toList[0]? = some c
  · obtain ⟨h1, h2⟩ := h.mpr e
    rw [decide_eq_true e, h2, decide_eq_true h1]
    rfl
  · rw [decide_eq_false e]
    by_cases h1 : 0 + (⟨#[c]⟩ : Str).length ≤ z.length
    · rw [decide_eq_true h1, Bool.true_and]
      exact Bool.eq_false_iff.mpr fun h2 => e (h.mp ⟨h1, h2⟩)
    · rw [decide_eq_false h1]
      rfl
end Bk

namespace Bk
open PySem PySem.Spec PyProof.Rows L2
/-! ## 9. defs that are run where no text is being told of a thing -/
structure FnG (P : Program) (w : World) (K : PySem.W.Frag) (mg : Str → Option Value) (base : Heap) (CX : CXT) (k : Nat) (f : Addr) (fd : FuncData) (ps : List Str) (sp : Sp) : Prop where
  len : ∀ vs H Q E, sp vs H Q E → vs.length = ps.length
  go : ∀ (A : Around) (ou : List Env) (s : Shared) (H : Hp) (ar : Args) (us : List Value) (vs : List V) (Q : VK) (E : XK), A.guards = some [] → Room k A → Env0 P w K mg base A ou s H → BindsTo s fd ar (ps.zip us) → Vals vs us → sp vs H Q E →
    codeAny (model P w) A (.call (.ref f) ar) (CR CX ou P w H s Q E) s
section
variable {P : Program} {w : World} {K : PySem.W.Frag} {mg : Str → Option Value} {base : Heap} {CX : CXT} {j k : Nat} {f : Addr} {fd : FuncData} {N ps : List Str} {sp : Sp} {x qual : Str} {st : Stmt}
theorem FnG.of (F : FnOk P w K mg base CX k f fd ps sp) : FnG P w K mg base CX k f fd ps sp := ⟨F.len, fun A ou s H ar us vs Q E _ => F.run A ou s H ar us vs Q E⟩
theorem FnG.up (F : FnG P w K mg base CX j f fd ps sp) (h : j ≤ k) : FnG P w K mg base CX k f fd ps sp := ⟨F.len, fun A ou s H ar us vs Q E g hr => F.go A ou s H ar us vs Q E g (hr.mono h)⟩
/-- by its body -/
theorem fun_okG (F : Fun K x qual st f fd) (S : FnScope N ps (defScope st)) (len : ∀ vs H Q E, sp vs H Q E → vs.length = ps.length)
    (hbody : ∀ (cdv : Value) (A : Around) (ou : List Env) (s : Shared) (H : Hp) (vs : List V) (Q : VK) (E : XK), (A.deeper (envOfC qual (defScope st) s.heap.objs.size f cdv)).guards = some [] → Room k (A.deeper (envOfC qual (defScope st) s.heap.objs.size f cdv)) → sp vs H Q E →
      ∃ t, PSs (cxOf CX0 P w K mg base N qual (defScope st) f cdv A ou s H E).nox (defBody st) t ∧ t { nx := fun _ H' => Q .non H', rt := Q } (start N vs) H) : FnG P w K mg base CX0 (k + 1) f fd ps sp := by
  obtain ⟨oc, od, kV, doc, pm, an, cdv, ct, osl, rfl, lk, hcd⟩ := F.ex
  refine ⟨len, fun A ou s H ar us vs Q E hg hr e0 hb rv hsp => ?_⟩
  have KX : K.In s.heap := e0.mod.kin.keeps fun b o z => (e0.bs b o z).1
  refine Att.call_fn KX (e0.mod.nolimit.keeps fun b o z => (e0.bs b o z).1) lk hcd hr.depth hb ?_ (fun s1 x1 => ?_) S.co S.gen S.kind
  · rw [List.all_eq_true]
    rintro ⟨n, v⟩ hy
    rcases S.par n (List.of_mem_zip hy).1 with q | q <;> simp [q]
  · obtain ⟨t, ht, hq⟩ := hbody cdv A ou s H vs Q E hg (hr.deeper _) hsp
    have I := inv_start (CX := CX0) (E := E) S hr.hd e0 (len _ _ _ _ hsp) rv x1
    refine wpAny_mono (ht.nox.run [] s1 (start N vs) H _ I hq) (fun fl s2 z => ?_) fun _ _ z => z
    cases fl with
    | ret u => exact let ⟨v, _, H2, J, r2, q2⟩ := z; ⟨v, H2, J.os, J.bare, J.base, J.hok, r2, q2⟩
    | next => exact let ⟨_, H2, J, q2⟩ := z; ⟨.non, H2, J.os, J.bare, J.base, J.hok, rfl, q2⟩
    | brk => exact (let ⟨_, _, _, q2⟩ := z; q2 : False).elim
    | cont => exact (let ⟨_, _, _, q2⟩ := z; q2 : False).elim
end
structure CalG (P : Program) (w : World) (K : PySem.W.Frag) (mg : Str → Option Value) (base : Heap) (CX : CXT) (k : Nat) (x : Str) (sp : Sp) : Prop where
  ex : ∃ (f : Addr) (fd : FuncData) (ps : List Str), mg x = some (.ref f) ∧ PySem.W.keepIn K (.ref f) = true ∧ FnG P w K mg base CX k f fd ps sp ∧ Binds K fd ps []
theorem CalG.mk' {P : Program} {w : World} {K : PySem.W.Frag} {mg : Str → Option Value} {base : Heap} {CX : CXT} {k : Nat} {x : Str} {sp : Sp} {f : Addr} {fd : FuncData} {ps : List Str} (g : mg x = some (.ref f)) (kp : PySem.W.keepIn K (.ref f) = true) (F : FnG P w K mg base CX k f fd ps sp) (b : Binds K fd ps []) :
    CalG P w K mg base CX k x sp := ⟨f, fd, ps, g, kp, F, b⟩
section
variable {X : Cx} {k j : Nat} {sp : Sp} {x : Str} {p pos : Pos} {e : Expr} {es : List Expr} {t : TA}
theorem pe_calG (c : CalG X.prog X.w X.K X.mg X.base CX0 k x sp) (ga : X.A.guards = some []) (hr : Room j X.A) (hk : k ≤ j) (hg : Gl X x) (ha : PA X (e :: es) t)
    (hdb : (x == ("__debug__" : Str)) = false := by decide) (he : starEach (e :: es) X.env = (false, eval e X.env) :: starEach es X.env := by rfl) (hpl : (backTo pos (starEach es X.env)).any (·.1) = false := by rfl) :
    PE X (.Call (.Name x p) (e :: es) [] pos) (tCall sp [] E0 t) := by
  obtain ⟨f, fd, ps, h1, h2, h3, h4⟩ := c.ex
  refine ⟨fun pins s σ H Q I h => wpAny_Call_Name_kw (ld_glob I hg h1 (PySem.W.callWith_K (h₀ := X.base) I.ok.mod.kin h2 (thn (ha.run pos pins s σ H _ I h) fun us s1 ⟨vs, H1, I1, r, q⟩ => ⟨I1.kIn, ?_⟩) he hpl) hdb)⟩
  have q' : sp vs H1 Q E0 := by have z : sp (vs ++ []) H1 Q E0 := q; rw [List.append_nil] at z; exact z
  have b := h4 s1 us I1.kIn (by rw [List.append_nil, ← r.length]; exact h3.len _ _ _ _ q')
  rw [List.append_nil] at b
  refine wpAny_call (codeAny_mono (h3.go X.A X.stack s1 H1 ⟨us, []⟩ us vs Q E0 ga (hr.mono hk) I1.env0 b r q') fun rr s2 z => ?_)
  match rr, z with
  | .ok (.ret _), z => exact I1.after z
end
/-! ### the head -/
section
variable {P : Program} {w : World} {K : PySem.W.Frag} {mg mb : Str → Option Value} {s : Shared} {a : Addr} {vs : List Value} {ns : List Int} {H : Hp}
theorem lawG_core {k : Nat} {fa : Addr} {fd : FuncData} {x : Str} {sp : Sp} (KX : K.In s.heap) (hns : s.heap.Ns mainGlobals mg) (hb : s.heap.Ns builtinsNs mb) (hbb : ∀ x : Str, x ≠ "__name__" → mb x = bootBuiltins x) (hlim : s.heap.NoLimit) (hg : s.gens = #[])
    (ha : s.heap.get? a = some { cls := .type "list", data := .seq vs.toArray }) (hr : Room k callerA)
    (F : ∀ base : Heap, K.In base → base.Ns mainGlobals mg → FnG P w K mg base CX0 k fa fd [x] sp) (hbind : ∀ (s : Shared) (u : Value), BindsTo s fd ⟨[u], []⟩ [(x, u)])
    (hO : Only H) (hq : sp [.ref a] H (fun v _ => v = .bl true) fun _ _ _ => False) (ok : HOk P w H s.heap) (hA : ∀ b, H b ≠ none → b = a ∧ K.lookup a = none) :
    codeAny (model P w) callerA (.call (.ref fa) ⟨[.ref a], []⟩) (fun r s' => r = .ok (.ret (.bool true)) ∧ OldK s.heap s'.heap ∧ s'.os = s.os ∧ AllBare s'.gens) s := by
  have un : ∀ {b : Addr} {o : Obj}, s.heap.get? b = some o → (b = a → K.lookup a ≠ none ∨ ∃ es ep, o.data = .dict es ep) → (hidT s.heap H).get? b = some o := fun {b o} e n => hidT_get e (by
    apply Classical.byContradiction
    intro z
    obtain ⟨rfl, kn⟩ := hA b z
    rcases n rfl with q | ⟨es, ep, q⟩
    · exact q kn
    · rw [ha] at e
      cases e
      exact nomatch q)
  have nsK : ∀ {b : Addr} {m : Str → Option Value}, s.heap.Ns b m → (hidT s.heap H).Ns b m := fun ⟨o, es, ep, e, d, r⟩ => ⟨o, es, ep, un e fun _ => .inr ⟨es, ep, d⟩, d, r⟩
  have hKb : K.In (hidT s.heap H) := fun b o e => un (KX b o e) fun z => .inl (by rw [← z, e]; exact Option.some_ne_none o)
  have e0 : Env0 P w K mg (hidT s.heap H) callerA [] s H := ⟨rfl, ⟨hKb, nsK hns, ⟨mb, nsK hb, hbb⟩, hlim.elim fun mc z => ⟨mc, nsK z.1, z.2⟩⟩, fun b o z => of_hidT z, Nat.le_of_eq (hidT_size _ _), trivial, fun _ z => absurd z List.not_mem_nil, ok, .of_eq hg⟩
  refine codeAny_mono ((F _ hKb (nsK hns)).go callerA [] s H ⟨[.ref a], []⟩ [.ref a] [.ref a] _ _ rfl hr e0 (hbind s (.ref a)) (.cons rfl .nil) hq) fun r s' h => ?_
  match r, h with
  | .ok (.ret u), h =>
    obtain ⟨v, H2, os, bare, un2, ok2, rv, q2⟩ := h
    obtain rfl : v = .bl true := q2
    obtain rfl : u = Value.bool true := rv
    refine ⟨rfl, OldK.of_keep fun b o e => ?_, os, bare⟩
    rcases hO b with z | ⟨ob, xs, z⟩
    · exact un2.keep b o e z List.not_mem_nil List.not_mem_nil
    · have o1 := (ok b _ z).1
      have o2 := (ok2 b _ (un2.frzs b ob _ z)).1
      rw [e] at o1
      rw [o1]
      exact o2
theorem lawG {k : Nat} {fa : Addr} {fd : FuncData} {x : Str} {sp : Sp} (KX : K.In s.heap) (hns : s.heap.Ns mainGlobals mg) (hb : s.heap.Ns builtinsNs mb) (hbb : ∀ x : Str, x ≠ "__name__" → mb x = bootBuiltins x) (hlim : s.heap.NoLimit) (hg : s.gens = #[])
    (ha : s.heap.get? a = some { cls := .type "list", data := .seq vs.toArray }) (hi : IntsAre vs ns) (hl : ns.length ≤ sizeLine) (hr : Room k callerA)
    (F : ∀ base : Heap, K.In base → base.Ns mainGlobals mg → FnG P w K mg base CX0 k fa fd [x] sp) (hbind : ∀ (s : Shared) (u : Value), BindsTo s fd ⟨[u], []⟩ [(x, u)])
    (hsp : ∀ H : Hp, Only H → SqL K H a (ns.map V.int) → sp [.ref a] H (fun v _ => v = .bl true) fun _ _ _ => False) :
    codeAny (model P w) callerA (.call (.ref fa) ⟨[.ref a], []⟩) (fun r s' => r = .ok (.ret (.bool true)) ∧ OldK s.heap s'.heap ∧ s'.os = s.os ∧ AllBare s'.gens) s := by
  have rv := vals_ints hi
  cases hk : K.lookup a with
  | some o =>
    have e := KX a o hk
    rw [ha] at e
    cases e
    exact lawG_core KX hns hb hbb hlim hg ha hr F hbind (fun _ => .inl rfl) (hsp (fun _ => none) (fun _ => .inl rfl) (.inr ⟨_, vs.toArray, _, hk, rfl, rfl, rfl, by rw [List.size_toArray, hi.length]; exact hl, rv⟩)) (fun b u z => nomatch z) fun b z => absurd rfl z
  | none =>
    have ke : (fun b => if b = a then some (HO.frz { cls := .type "list", data := .seq vs.toArray } (.lst (ns.map V.int))) else none) a = some (HO.frz { cls := .type "list", data := .seq vs.toArray } (.lst (ns.map V.int))) := if_pos rfl
    have only : ∀ b, (fun b => if b = a then some (HO.frz { cls := .type "list", data := .seq vs.toArray } (.lst (ns.map V.int))) else none) b ≠ none → b = a := fun b z => Classical.byContradiction fun n => z (if_neg n)
    have hO : Only (fun b => if b = a then some (HO.frz { cls := .type "list", data := .seq vs.toArray } (.lst (ns.map V.int))) else none) := fun b => by
      by_cases q : b = a
      · exact .inr ⟨_, _, if_pos q⟩
      · exact .inl (if_neg q)
    refine lawG_core KX hns hb hbb hlim hg ha hr F hbind hO (hsp _ hO (.inl (.inr ⟨_, ke⟩))) (fun b u z => ?_) fun b z => ⟨only b z, hk⟩
    obtain rfl := only b fun y => nomatch z.symm.trans y
    have z2 := ke.symm.trans z
    cases z2
    exact ⟨ha, by rw [List.length_map]; exact hl, vs, _, rv, ha⟩
end
theorem walk_ofG {l : PySem.W.OpenLaw} {n k : Nat} {q : Program} {loose : List Str} {XP : (Str → Option Value) → Heap → Prop} {YP : World → Heap → Prop} {d : DefRec} {K : Params → PySem.W.Frag} {sp : World → Sp} {x : Str}
    (hn : l.most = some n) (hn2 : n ≤ sizeLine) (hdf : d.params.defaults = []) (hr : Room k callerA) (hY : ∀ (w : World) (h : Heap), YP w h → (K w.params).In h)
    (F : ∀ (w : World) (mg : Str → Option Value) (fa : Addr) (h : Heap), (K w.params).In h → h.Ns mainGlobals mg → mg d.name = some (.ref fa) →
      ∃ fd : FuncData, (∀ (s : Shared) (u : Value), BindsTo s fd ⟨[u], []⟩ [(x, u)]) ∧ ∀ base : Heap, (K w.params).In base → base.Ns mainGlobals mg → FnG l.prog w (K w.params) mg base CX0 k fa fd [x] (sp w))
    (hsp : ∀ (w : World) (H : Hp) (a : Addr) (ns : List Int), ns.length ≤ n → Only H → SqL (K w.params) H a (ns.map V.int) → sp w [.ref a] H (fun v _ => v = .bl true) fun _ _ _ => False) :
    PySem.W.WalkO q loose XP YP l.row.toRowW d [] (fun f vs => PySem.call f vs) :=
  Att.attach_call hn hdf fun w s₀ s₁ mg mb fa o pm cd doc a vs ns G Y ho hd hcd hmg hobj hints hlen hg => by
    obtain ⟨fd, hb, hF⟩ := F w mg fa _ (hY w _ Y) G.T.g hmg
    exact lawG (hY w _ Y) G.T.g G.T.b G.T.builtins G.T.nolimit hg hobj hints (Nat.le_trans hlen hn2) hr hF hb fun H hO hS => hsp w H a ns hlen hO hS
/-! ## 10. a thing's text -/
mutual
theorem dp_flat {K : PySem.W.Frag} {H : Hp} : ∀ (d : PyData) (v : V), Dp K H v d → d.hasDict = false
  | .none, _, _ => by simp only [PyData.hasDict]
  | .bool _, _, _ => by simp only [PyData.hasDict]
  | .int _, _, _ => by simp only [PyData.hasDict]
  | .str _, _, _ => by simp only [PyData.hasDict]
  | .list ds, _, h => by
    cases h with
    | lst _ ha => simpa only [PyData.hasDict] using dp_flatAll ds _ ha
  | .tuple ds, _, h => by
    cases h with
    | tup _ ha => simpa only [PyData.hasDict] using dp_flatAll ds _ ha
  | .dict _, _, h => by cases h
theorem dp_flatAll {K : PySem.W.Frag} {H : Hp} : ∀ (ds : List PyData) (vs : List V), DpAll K H vs ds → PyData.hasDictAll ds = false
  | [], _, _ => by simp only [PyData.hasDictAll]
  | d :: ds, _, h => by
    cases h with
    | cons h1 h2 => simp only [PyData.hasDictAll, dp_flat d _ h1, dp_flatAll ds _ h2, Bool.or_false]
end
/-- z is how repr tells v -/
def Shw (K : PySem.W.Frag) (H : Hp) (v : V) (z : Str) : Prop := (∃ d, Dp K H v d ∧ d.showable = true ∧ d.shown.length ≤ sizeLine ∧ d.depth ≤ 60 ∧ z = d.shown) ∨ ∃ a, v = .ref a ∧ H a = some (.dK []) ∧ z = "{}"
section
variable {X : Cx} {j : Nat}
theorem call_repr_shw (ga : X.A.guards = some []) (hr : Room j X.A) : CallR X (.builtin "repr") (fun xs H Q => ∃ v z, xs = [v] ∧ Shw X.K H v z ∧ Q (.str z) H) := by
  intro pins s σ H xs us Q I r h
  obtain ⟨v, z, rfl, hs, q⟩ := h
  obtain ⟨u, rfl, rv⟩ := vals1 r
  have hu := hr.units
  rcases hs with ⟨d, hd, h1, h2, h3, rfl⟩ | ⟨a, rfl, ha, rfl⟩
  · have fin : ∀ {x : Str} {t : Nat}, x = d.shown → EP X pins σ Q (.str x s.toks) { s with toks := t } := fun {x t} e => ⟨.str _, H, I.tok _, ⟨_, rfl⟩, by rw [e]; exact q⟩
    have ref : ∀ {a : Addr}, v = .ref a → wpAny (model X.prog X.w) X.A (call (.builtin "repr") [u]) (EP X pins σ Q) X.xe s := fun {a} e => by
      subst e
      obtain rfl : u = Value.ref a := rv
      obtain ⟨as, rd⟩ := Dp.reads I d (.ref a) _ hd rfl
      exact repr_of_reads' rd h1 (PyData.noDict_hsm (dp_flat d _ hd)) ga (by omega) (fun _ _ e => e) (fun h' u tk hk => ⟨.str _, H, I.kept hk, ⟨_, rfl⟩, q⟩) h2
    cases hd with
    | non =>
      cases rv
      exact PySem.P.repr_of_none (fin (by simp only [PyData.shown]))
    | bl b =>
      cases rv
      exact PySem.P.repr_of_bool (fin (by simp only [PyData.shown]))
    | int i =>
      obtain ⟨t, rfl⟩ := rv
      exact PySem.P.repr_of_int (by simpa only [PyData.showable, decide_eq_true_eq] using h1) (fin (by simp only [PyData.shown]))
    | str x =>
      obtain ⟨t, rfl⟩ := rv
      exact PySem.P.repr_of_str (fin (by simp only [PyData.shown])) (by simpa only [PyData.shown] using h2)
    | lst _ _ => exact ref rfl
    | tup _ _ => exact ref rfl
  · obtain rfl : u = Value.ref a := rv
    obtain ⟨_, hm, vs, kv, o, es, ep, ho, hx, hde, _, pr, _⟩ := I.hok a _ ha
    cases kv
    have e0 : es.toList = [] := by
      have z := pr
      generalize es.toList = l at z
      cases z
      rfl
    have hc : o.cls = .type "dict" := hx.1
    have rd : Reads s.heap (.ref a) (.dict []) [a] := by
      have z : Reads s.heap (.ref a) (.dict []) (a :: [] ++ []) := .dict ho hc hde (by rw [e0]; exact .nil) (by rw [e0]; exact .nil)
      exact z
    have nm : sysModules ∉ [a] := fun z => by
      rw [List.mem_singleton.mp z] at hm
      exact absurd hm (by simp)
    have dp : (PyData.dict []).depth = 1 := by simp [PyData.depth, PyData.depthKv]
    have tx : (PyData.dict []).shown = ("{}" : Str) := by simp [PyData.shown, PyData.shownKv]; rfl
    refine repr_of_reads' rd (by simp only [PyData.showable, PyData.showableKv]) (fun _ => nm) ga (by rw [dp]; omega) (fun _ _ e => e) (fun h' u tk hk => ⟨.str _, H, I.kept hk, ⟨_, rfl⟩, ?_⟩) ?_
    · rw [tx]
      exact q
    · rw [tx]
      decide
end
end Bk

namespace Bk
open PySem PySem.Spec PyProof.Rows L2
/-! ## 11. try: .. except A as e: .. except B as e: .. , what none of them takes does not come -/
abbrev ClA := Value × Nat × (Addr → Value → Option Addr → TS)
def offI (i : Nat) (D : Ends) : Ends := { nx := fun τ G => D.nx (τ.set i none) G, rt := D.rt, bk := fun τ G => D.bk (τ.set i none) G, ct := fun τ G => D.ct (τ.set i none) G }
def wAM (K : PySem.W.Frag) (D : Ends) : List ClA → WX
  | [] => fun _ _ _ _ => False
  | q :: l => fun cls d τ G => ∃ b, PySem.W.exmOne K cls q.1 = some b ∧ (b = true → ∀ a, G a = none → q.2.2 a cls d (offI q.2.1 D) (τ.set q.2.1 (some (.ref a))) G) ∧ (b = false → wAM K D l cls d τ G)
inductive HdA (X : Cx) : List ExceptHandler → List ClA → Prop
  | stop {hds : List ExceptHandler} : HdA X hds []
  | more {x n : Str} {c : Value} {i : Nat} {ts : Addr → Value → Option Addr → TS} {b : Stmt} {bs : List Stmt} {p1 p2 : Pos} {hds : List ExceptHandler} {l : List ClA} (nm : Names X x c) (hi : X.N[i]? = some n) (hn : X.env.kindOf n = some .local)
      (su : ∀ (a : Addr) (oe : Obj) (cls : Value) (d : Option Addr) (pn : List (Addr × Obj)), Zc cls d oe → (∃ vs, oe.data = .fields vs) → PSs (X.suite a ((a, oe) :: pn)) (b :: bs) (ts a cls d)) (r : HdA X hds l) :
      HdA X (.ExceptHandler (some (.Name x p1)) (some n) (b :: bs) p2 :: hds) ((c, i, ts) :: l)
section
variable {X : Cx} {body : List Stmt} {h₀ : ExceptHandler} {hds : List ExceptHandler} {l : List ClA} {pos : Pos} {tb : WX → TS}
theorem ps_try_asM (st : X.stack = X.env :: X.outer) (fr : X.env.frame = some X.env.locals) (nd : X.N.Nodup)
    (hb : ∀ (W : WX) (pn : List (Addr × Obj)) (xe : Value → Shared → Prop), Takes (X.tr pn xe) W → PassesOwn (model X.prog X.w) X.A X.env xe → PSs (X.tr pn xe) body (tb W))
    (hh : HdA X (h₀ :: hds) l) : PS X (.Try body (h₀ :: hds) [] [] pos) (fun D τ G => tb (wAM X.K D l) D τ G) := by
  refine ⟨fun pins s τ G D I hq => wpAny_Try_except ?_⟩
  have ok := I.ok
  refine wpAny_mono ((hb (wAM X.K D l) (X.pn ++ pins) _ (fun u s2 z => ?_) PassesOwn.looking).run [] s τ G D (I.toTry _) hq) (fun fl s2 z => ?_) (fun _ _ z => z)
  · -- what came out of the body
    obtain ⟨a, B, sI, pins2, τ2, G2, cls, d, rfl, J2, nb, up, sky, na, os, ag, w⟩ := z
    have J : Inv X pins τ2 G2 sI := J2.ofTry ok
    refine Sky.land Zc.steady (show X.A.frames = some (X.env :: X.outer) by rw [ok.frames, st]) fr (by rw [← st]; exact sky) fun h3 fl3 up3 => ?_
    obtain ⟨o3, v3, g3, z3, d3⟩ := fl3.there
    have J3 : Inv X pins τ2 G2 { s2 with heap := h3 } := J.landed nb fl3.1 (up.trans up3) os ag
    have out : a ∉ frs (X.env :: X.outer) := fun m => by
      obtain ⟨_, o4, g4, n4⟩ := fl3.2.2.1.mem m
      rw [g3] at g4
      cases g4
      exact n4 _ d3
    have aL : a ≠ X.env.locals := fun e => out (List.mem_filterMap.mpr ⟨X.env, List.mem_cons_self, by rw [fr, e]⟩)
    have aF : a ∉ X.fs := fun m => by
      obtain ⟨e, me, q⟩ := List.mem_filterMap.mp m
      exact out (List.mem_filterMap.mpr ⟨e, List.mem_cons_of_mem _ me, q⟩)
    have S3 := J3.suite g3 d3 na aL aF
    have all : ∀ {hs : List ExceptHandler} {k : List ClA}, HdA X hs k → wAM X.K D k cls d τ2 G2 → wpAny (model X.prog X.w) X.A (handleBy (.ref a) X.env hs) (SP X pins D) X.xe { s2 with heap := h3 } := by
      intro hs k hk
      induction hk with
      | stop => exact fun z => z.elim
      | @more x n c i ts b bs p1 p2 hs2 k2 nm hi hn su r ih =>
        rintro ⟨yes, e1, w1, w2⟩
        refine wpAny_handleBy_cons (codeAny_handlers_test ?_) (fun q => nomatch q)
        have T1 : PySem.W.Looks (model X.prog X.w) h3 (typeOf (.ref a)) cls := fun A Q E s k q => wpAny_typeOf_ref (k _ _ g3) (by rw [z3.1]; exact q)
        have T2 := PySem.W.exm_one (M := model X.prog X.w) J3.kIn T1 e1
        have ask : ∀ {Q : Value → Shared → Prop} {E : Value → Shared → Prop}, Q c { s2 with heap := h3 } → wpAny (model X.prog X.w) (X.A.mark (some (.ref a))) (eval (.Name x p1) X.env) Q E { s2 with heap := h3 } := fun {Q E} q => by
          obtain ⟨g1, g2, m1 | ⟨m1, m2, m3⟩⟩ := nm
          · exact ld_glob (X := X.suite a ((a, o3) :: (X.pn ++ pins))) S3 g1 m1 q g2
          · exact ld_blt (X := X.suite a ((a, o3) :: (X.pn ++ pins))) S3 g1 m1 m2 q m3 g2
        refine ask (T2.here ?_)
        match yes, w1, w2 with
        | false, w1, w2 => exact ih (w2 rfl)
        | true, w1, w2 =>
          refine codeAny_handlers_suite_as (HandSPX.lands_againZ fl3 fun h4 fl4 up4 => ?_)
          obtain ⟨o4, v4, g4, z4, d4⟩ := fl4.there
          have S4 := (J.landed nb fl4.1 ((up.trans up3).trans up4) os ag : Inv X pins τ2 G2 { s2 with heap := h4 }).suite g4 d4 na aL aF
          refine store_ok (X := X.suite a ((a, o4) :: (X.pn ++ pins))) (v := .ref a) S4 nd hi (.inl hn) rfl (fun s5 S5 => ?_) (.inr hn)
          refine wpAny_mono ((su a o4 cls d (X.pn ++ pins) z4 ⟨_, d4⟩).run [] s5 _ G2 _ S5 (w1 rfl a na)) (fun fl s6 z6 => ?_) fun _ _ z6 => z6.elim
          have back : ∀ {τ6 : L2.St} {G6 : Hp} {R : Shared → Prop}, Inv (X.suite a ((a, o4) :: (X.pn ++ pins))) [] τ6 G6 s6 → (∀ s7, Inv X pins (τ6.set i none) G6 s7 → R s7) →
              wpAny (model X.prog X.w) X.A (do bindName X.env n .none; unbindBehindTheSuite X.env n p2) (fun _ s7 => R s7) X.xe s6 := fun {τ6 G6 R} S6 f => gone_ok (S6.unsuite ok) nd hi hn f
          match fl, z6 with
          | .next, ⟨_, _, S6, q6⟩ => exact back S6 fun s7 J7 => ⟨_, _, J7, q6⟩
          | .brk, ⟨_, _, S6, q6⟩ => exact back S6 fun s7 J7 => ⟨_, _, J7, q6⟩
          | .cont, ⟨_, _, S6, q6⟩ => exact back S6 fun s7 J7 => ⟨_, _, J7, q6⟩
          | .ret u, ⟨_, _, _, S6, r6, q6⟩ => exact back S6 fun s7 J7 => ⟨_, _, _, J7, r6, q6⟩
    exact all hh w
  · match fl, z with
    | .next, ⟨_, _, J, q⟩ => exact wpAny_execs_nil ⟨_, _, J.ofTry ok, q⟩
    | .brk, ⟨_, _, J, q⟩ => exact ⟨_, _, J.ofTry ok, q⟩
    | .cont, ⟨_, _, J, q⟩ => exact ⟨_, _, J.ofTry ok, q⟩
    | .ret u, ⟨_, _, _, J, r, q⟩ => exact ⟨_, _, _, J.ofTry ok, r, q⟩
end
end Bk

namespace Bk
open PySem PySem.Spec PyProof.Rows L2
/-! ## 12. enumerate of a tuple -/
theorem meets_enum1 {v : Value} {o : Obj} {S : Heap → Prop} (B : Begins v o S) :
    Meets (Builtin.«enumerate.__new__» ⟨[.type "enumerate", v], []⟩) (fun _ R s => S s.heap ∧
      R (.ok (.ret (.ref (s.heap.push o).objs.size))) { s with heap := (s.heap.push o).push { cls := .type "enumerate", data := .fields #[.none, .bool false, .ref s.heap.objs.size, rawInt 0, .none, .none] } }) :=
  .of_wp fun prog w A R s z => by
    obtain ⟨hp, g, d, tk, os⟩ := s
    obtain ⟨z1, z2⟩ := z
    have sub := sub_enumerate
    have it : ∀ {A' : Around} {E : Value → Shared → Prop} {Q : Value → Shared → Prop}, Q (.ref hp.objs.size) ⟨hp.push o, g, d, tk, os⟩ → wpAny (model prog w) A' (pyIter v) Q E ⟨hp, g, d, tk, os⟩ := fun q => B.iter prog w _ _ _ _ z1 q
    wp_walk using it
    refine wpAny_stack_any fun st => wpAny_pure ?_
    split
    · rename_i c _ _ _ _ _
      cases (c == Value.type "enumerate") <;> (wp_walk using it; exact ⟨_, rfl, z2⟩)
    · wp_walk using it
      exact ⟨_, rfl, z2⟩
theorem enum1 {prog : Program} {w : World} {A : Around} {E : Value → Shared → Prop} {s : Shared} {v : Value} {o : Obj} {S : Heap → Prop} {Q : Value → Shared → Prop} (B : Begins v o S) (z : S s.heap)
    (q : ∀ h', IsEnum h' (s.heap.objs.size + 1) s.heap.objs.size 0 .none → h'.get? s.heap.objs.size = some o → h'.objs.size = s.heap.objs.size + 2 → (∀ b u, s.heap.get? b = some u → h'.get? b = some u) → Q (.ref (s.heap.objs.size + 1)) { s with heap := h' }) :
    wpAny (model prog w) A (call (.type "enumerate") [v]) Q E s := by
  refine callType_new F.called_enumerate (by decide) (F.typeCall_enumerate_1 _) (F.newCall_enumerate_1 _) (fun u => F.args_object_init_2 u _) F.entry_enumerate_new (meets_enum1 B) ⟨z, ?_⟩
  have sz : (s.heap.push o).objs.size = s.heap.objs.size + 1 := Heap.size_push ..
  have top := Heap.get?_push_size (s.heap.push o) (o := { cls := .type "enumerate", data := .fields #[.none, .bool false, .ref s.heap.objs.size, rawInt 0, .none, .none] }) rfl
  show _ ∧ _
  rw [sz] at top ⊢
  exact ⟨⟨_, top, rfl⟩, q _ top (Heap.get?_push_of_some _ (Heap.get?_push_size _ B.free)) (by rw [Heap.size_push, sz]) fun b u e => Heap.get?_push_of_some _ (Heap.get?_push_of_some _ e)⟩
/-- the tuple's items in new pairs -/
def Itu (K : PySem.W.Frag) (a : Addr) : It :=
  ⟨fun i H => ∃ (xs : List V) (x : V), SqT K H a xs ∧ xs[i]? = some x, fun i H v H' => ∃ T x, v = .ref T ∧ H T = none ∧ H' = upd H T (.tup [.int (i : Nat), x]) ∧ ∀ xs, SqT K H a xs → xs[i]? = some x, fun i H => ∃ xs : List V, SqT K H a xs ∧ xs.length ≤ i⟩
theorem turn_enumT {P : Program} {w : World} {K : PySem.W.Frag} {elts : List Expr} {kk : Nat} {tpos : Pos} (a e it : Addr) (ai : a ≠ it) (ae : a ≠ e) :
    Turn P w K (.Tuple elts kk tpos) (Itu K a) [e, it] e (fun i h => (∃ old, IsEnum h e it ((i : Nat) : Int) old) ∧ h.IsTupleIter it a i ∧ e ≠ it) where
  mem := List.mem_cons_self
  obj := fun i h st b hb => by
    obtain ⟨⟨old, he⟩, ⟨o, ho, _, hd⟩, _⟩ := st
    rcases List.mem_cons.mp hb with z | z
    · subst z
      exact ⟨_, he, fun v q => nomatch q⟩
    · exact ⟨o, by rw [List.mem_singleton.mp z]; exact ho, fun v q => by rw [hd] at q; exact nomatch q⟩
  keep := fun i h h' st k => ⟨st.1.elim fun old z => ⟨old, k e List.mem_cons_self _ z⟩, st.2.1.at fun o q => k it (List.mem_cons_of_mem _ List.mem_cons_self) o q, st.2.2⟩
  item := by
    intro X hP hw hK hc i pins s σ H E I hf st hg
    subst hP hw hK
    obtain ⟨⟨old, he⟩, hit, ne⟩ := st
    obtain ⟨xs, x, hq, hx⟩ := hg
    obtain ⟨its, rv, p, _⟩ := I.tuple hq
    obtain ⟨u, hu, ru⟩ := rv.get hx
    have e1 := Heap.lt_size he
    have i1 : it < s.heap.objs.size := let ⟨_, q, _⟩ := hit; Heap.lt_size q
    have li : i < its.toArray.size := by
      rw [List.size_toArray]
      exact (List.getElem?_eq_some_iff.mp hu).1
    refine wpAny_pyNext_enum_itemD (Draws.tuple (show X.A.in1.handled = none from I.ok.hd hc) it a ai its.toArray) he ⟨hit, p⟩ li ne (fun z => ?_) fun v h' tk hv ho hs hT _ hk => ?_
    · rcases List.mem_cons.mp z with z | z
      · exact ne z
      · exact ae (List.mem_singleton.mp z).symm
    obtain rfl : v = u := by
      have hv' : its.toArray[i]? = some v := hv
      rw [List.getElem?_toArray, hu] at hv'
      exact (Option.some.inj hv').symm
    refine ⟨_, rfl, wpAny_letOwnedTupleGo_enum (s := { s with heap := h', toks := tk + 1 }) ho fun h2 he2 sb => ?_⟩
    have T2 : h2.get? s.heap.objs.size = some { cls := .type "tuple", data := .seq #[.int i tk, v] } := (sb.2 _ (Nat.ne_of_gt e1)).trans hT
    have fresh := I.hok.fresh (Nat.le_refl s.heap.objs.size)
    have J : Inv X pins σ (upd H s.heap.objs.size (.tup [.int (i : Nat), x])) { s with heap := h2, toks := tk + 1 } :=
      I.turnedNew (ch := [e, it]) (fun b ob hb q => (sb.2 b (fun z => hb (by simp [z]))).trans (hk b ob (fun z => hb (by simp [z])) (fun z => hb (by simp [z])) q)) hf (Nat.le_refl _)
        (show ObjOk X.prog X.w _ h2 _ (.tup [.int (i : Nat), x]) from ⟨Nat.le_of_ble_eq_true rfl, [.int i tk, v], .cons ⟨_, rfl⟩ (.cons ru .nil), ⟨_, T2, rfl, _, rfl⟩⟩)
    refine ⟨.ref s.heap.objs.size, _, J, rfl, ⟨_, x, rfl, fresh, rfl, fun ys hy => by rw [I.tuple_inj hy hq]; exact hx⟩, ⟨⟨v, ?_⟩, hs.1.at fun o q => (sb.2 it (Ne.symm ne)).trans q, ne⟩, fun b hb => ?_⟩
    · rw [show ((i + 1 : Nat) : Int) = (i : Int) + 1 by omega]
      exact he2
    · have lb : b < s.heap.objs.size := by
        rcases List.mem_cons.mp hb with z | z
        · rw [z]; exact e1
        · rw [List.mem_singleton.mp z]; exact i1
      rw [upd_ne (Nat.ne_of_lt lb)]
      exact (hf b hb).1
  done := by
    intro X hP hw hK hc i pins s σ H E I hf st hg
    subst hP hw hK
    obtain ⟨⟨old, he⟩, hit, ne⟩ := st
    obtain ⟨xs, hq, hx⟩ := hg
    obtain ⟨its, rv, p, _⟩ := I.tuple hq
    obtain ⟨f0, f1, f2, f3, f4, f5⟩ := hf it (List.mem_cons_of_mem _ List.mem_cons_self)
    have ln := rv.length
    have hn : its.toArray[i]? = none := by
      rw [List.getElem?_toArray]
      exact List.getElem?_eq_none (by omega)
    have hT : s.TypeIs (.ref e) "enumerate" := ⟨_, he, rfl⟩
    unfold pyNext
    refine wpAny_bind (wpAny_attempt (wpAny_callSpecial?_slot (name := Str.ofString "__next__") hT F.slot_enumerate_next
      (wpAny_call_entry F.slot_enumerate_next hT F.entry_enumerate_next ?_ (F.args_enumerate_next_1 _))))
    show wpAny (model X.prog X.w) _ (field (.ref e) 2 >>= _) _ _ _
    refine wpAny_bind (wpAny_field he rfl (x := .ref it) rfl ?_)
    refine wpAny_bind (wpAny_nextOf_tuple_end (I.ok.hd hc) hit p hn fun h' x he' hx' => ?_)
    obtain ⟨o, ho, hcl⟩ := hx'
    exact wpAny_bind (wpAny_isInstance (T := "StopIteration") (b := true) ⟨o, ho, hcl⟩ isSubtype_stop (wpAny_pure ⟨rfl, I.turned (t' := s.toks) (fun b o hb q => he' b o hb q) f0 f1 f3 f4 f5⟩))
  self := fun A i s Q E st h => let ⟨⟨_, he⟩, _⟩ := st; wpAny_pyIter_enum he h
def iEnumA (K : PySem.W.Frag) (ta : TA) : TI := fun σ H R => ta σ H fun vs H1 => ∃ a xs, vs = [.ref a] ∧ ((SqL K H1 a xs ∧ R (Ite K a) H1) ∨ (SqT K H1 a xs ∧ R (Itu K a) H1))
def iSeqA (K : PySem.W.Frag) (te : TE) : TI := fun σ H R => te σ H fun x H1 => ∃ a xs, x = .ref a ∧ ((SqL K H1 a xs ∧ R (Itl K a) H1) ∨ (SqT K H1 a xs ∧ R (Itt K a) H1))
section
variable {X : Cx} {e tg : Expr} {ta : TA} {te : TE} {p pos tpos : Pos} {elts : List Expr} {kk : Nat}
theorem pi_enumA (hg : Gl X "enumerate") (hm : X.mg "enumerate" = none) (ha : PA X [e] ta) (hs : starEach [e] X.env = [(false, eval e X.env)] := by rfl) : PI X (.Tuple elts kk tpos) (.Call (.Name "enumerate" p) [e] [] pos) (iEnumA X.K ta) := by
  refine ⟨fun pins s σ H R I h => Call_ (ld_blt I hg hm boot_enumerate (PyProof.Rows.callWith_type1 (thn (ha.run pos pins s σ H _ I h) fun us s1 ⟨vs, H1, I1, r1, q1⟩ => ?_) hs rfl))⟩
  obtain ⟨a, xs, rfl, q⟩ := q1
  obtain ⟨u, rfl, rv⟩ := vals1 r1
  obtain rfl : u = Value.ref a := rv
  have near : ∀ {b : Addr}, b ∈ [s1.heap.objs.size + 1, s1.heap.objs.size] → FpOk X pins H1 b := fun {b} hb => by
    have le : s1.heap.objs.size ≤ b := by
      rcases List.mem_cons.mp hb with z | z
      · rw [z]; exact Nat.le_succ _
      · rw [List.mem_singleton.mp z]; exact Nat.le_refl _
    exact I1.fpOk le (I1.hok.fresh le)
  rcases q with ⟨hq, q⟩ | ⟨hq, q⟩
  · obtain ⟨its, rv, p', hz⟩ := I1.list hq
    refine call_enumerate_list p'.isList fun h' he hit _ hk => wpAny_pyIter_enum he ?_
    exact ⟨s1.heap.objs.size + 1, [s1.heap.objs.size + 1, s1.heap.objs.size], _, _, H1, rfl, I1.kept (t' := s1.toks) hk, turn_enum a (s1.heap.objs.size + 1) s1.heap.objs.size, ⟨⟨.none, he⟩, hit, Nat.succ_ne_self _⟩, fun b hb => near hb, q⟩
  · obtain ⟨its, rv, p', hz⟩ := I1.tuple hq
    have la : a < s1.heap.objs.size := let ⟨_, z, _⟩ := p'; Heap.lt_size z
    refine enum1 (begins_tuple a its.toArray) p' fun h' he hit _ hk => wpAny_pyIter_enum he ?_
    exact ⟨s1.heap.objs.size + 1, [s1.heap.objs.size + 1, s1.heap.objs.size], _, _, H1, rfl, I1.kept (t' := s1.toks) hk, turn_enumT a (s1.heap.objs.size + 1) s1.heap.objs.size (Nat.ne_of_lt la) (Nat.ne_of_lt (Nat.lt_succ_of_lt la)), ⟨⟨.none, he⟩, ⟨_, hit, rfl, rfl⟩, Nat.succ_ne_self _⟩, fun b hb => near hb, q⟩
theorem pi_seqA (he : PE X e te) : PI X tg e (iSeqA X.K te) := by
  refine ⟨fun pins s σ H R I h => thn (he.run pins s σ H _ I h) fun v s1 ⟨x, H1, I1, r1, q1⟩ => ?_⟩
  obtain ⟨a, xs, rfl, q⟩ := q1
  obtain rfl : v = Value.ref a := r1
  have near : ∀ {b : Addr}, b ∈ [s1.heap.objs.size] → FpOk X pins H1 b := fun {b} hb => by
    rw [List.mem_singleton.mp hb]
    exact I1.fpOk (Nat.le_refl _) (I1.hok.fresh (Nat.le_refl _))
  have J : ∀ {o : Obj}, Inv X pins σ H1 { s1 with heap := s1.heap.push o } := fun {o} => I1.kept (t' := s1.toks) fun b u z => Heap.get?_push_of_some _ z
  rcases q with ⟨hq, q⟩ | ⟨hq, q⟩
  · obtain ⟨its, rv, p', hz⟩ := I1.list hq
    exact wpAny_pyIter_list p'.isList ⟨s1.heap.objs.size, [s1.heap.objs.size], _, _, H1, rfl, J, turn_list a _, ⟨_, Heap.get?_push_size _ rfl, rfl, rfl⟩, fun b hb => near hb, q⟩
  · obtain ⟨its, rv, p', hz⟩ := I1.tuple hq
    exact wpAny_pyIter_tuple (show s1.heap.IsTuple a its.toArray from p') ⟨s1.heap.objs.size, [s1.heap.objs.size], _, _, H1, rfl, J, turn_tuple a _, ⟨_, Heap.get?_push_size _ rfl, rfl, rfl⟩, fun b hb => near hb, q⟩
end
section
variable {K : PySem.W.Frag} {a : Addr} {xs : List V}
theorem walk_enumT : Walk (Itu K a) xs.length (fun H => SqT K H a xs) (YPair (fun i => some (.int (i : Nat))) (fun i => xs[i]?)) :=
  ⟨fun i _ hi q => ⟨xs, xs[i], q, List.getElem?_eq_getElem hi⟩, fun _ q => ⟨xs, q, Nat.le_refl _⟩, fun i H v H' _ q ⟨T, x, h1, h2, h3, h4⟩ => ⟨T, .int (i : Nat), x, h1, h2, h3, rfl, h4 xs q⟩⟩
end
end Bk

namespace Bk
open PySem PySem.Spec PyProof.Rows L2
/-! ## 13. defs that refuse -/
/-- what a refusal is: a new own exception of the class at C, v its only field -/
def Refuse (C : Addr) (v : V) (H : Hp) (E : XK) : Prop := ∀ d H', H d = none → Same H H' → H' d = some (.xd [("found", v)]) → E (.ref C) (some d) H'
theorem Refuse.same {C : Addr} {v : V} {H H' : Hp} {E : XK} (r : Refuse C v H E) (s : Same H H') (n : ∀ d, H' d = none → H d = none) : Refuse C v H' E := fun d H2 hd s2 e => r d H2 (n d hd) (s.trans s2) e
def noE : XK := fun _ _ _ => False
structure CalX (P : Program) (w : World) (K : PySem.W.Frag) (mg : Str → Option Value) (base : Heap) (k : Nat) (x : Str) (sp : Sp) : Prop where
  ex : ∃ (f : Addr) (fd : FuncData) (ps : List Str), mg x = some (.ref f) ∧ PySem.W.keepIn K (.ref f) = true ∧ FnOk P w K mg base (L2.CX P w) k f fd ps sp ∧ Binds K fd ps []
theorem CalX.mk' {P : Program} {w : World} {K : PySem.W.Frag} {mg : Str → Option Value} {base : Heap} {k : Nat} {x : Str} {sp : Sp} {f : Addr} {fd : FuncData} {ps : List Str} (g : mg x = some (.ref f)) (kp : PySem.W.keepIn K (.ref f) = true) (F : FnOk P w K mg base (L2.CX P w) k f fd ps sp) (b : Binds K fd ps []) :
    CalX P w K mg base k x sp := ⟨f, fd, ps, g, kp, F, b⟩
/-- with keywords alone -/
structure CalNX (P : Program) (w : World) (K : PySem.W.Frag) (mg : Str → Option Value) (base : Heap) (k : Nat) (ks : List Str) (x : Str) (sp : Sp) (gV : List V → List V → List V) : Prop where
  ex : ∃ (f : Addr) (fd : FuncData) (ps : List Str) (g : List Value → List Value → List Value), mg x = some (.ref f) ∧ PySem.W.keepIn K (.ref f) = true ∧ FnOk P w K mg base (L2.CX P w) k f fd ps sp ∧ KBn K fd ps 0 ks g gV
theorem CalNX.mk' {P : Program} {w : World} {K : PySem.W.Frag} {mg : Str → Option Value} {base : Heap} {k : Nat} {ks : List Str} {x : Str} {sp : Sp} {gV : List V → List V → List V} {f : Addr} {fd : FuncData} {ps : List Str} {g : List Value → List Value → List Value} (a : mg x = some (.ref f)) (kp : PySem.W.keepIn K (.ref f) = true)
    (F : FnOk P w K mg base (L2.CX P w) k f fd ps sp) (b : KBn K fd ps 0 ks g gV) : CalNX P w K mg base k ks x sp gV := ⟨f, fd, ps, g, a, kp, F, b⟩
section
variable {X : Cx} {k j : Nat} {ks : List Str} {sp : Sp} {x : Str} {p pos : Pos} {e : Expr} {es : List Expr} {kws : List Keyword} {t tk : TA} {W : WX} {gV : List V → List V → List V}
/-- in a def that may let it out itself -/
theorem pe_calX {E : XK} (c : CalX X.prog X.w X.K X.mg X.base k x sp) (hr : Room j X.A) (hk : k ≤ j) (hg : Gl X x) (tk : Takes X (fun cls d _ H => E cls d H)) (ha : PA X (e :: es) t)
    (hdb : (x == ("__debug__" : Str)) = false := by decide) (he : starEach (e :: es) X.env = (false, eval e X.env) :: starEach es X.env := by rfl) (hpl : (backTo pos (starEach es X.env)).any (·.1) = false := by rfl) :
    PE X (.Call (.Name x p) (e :: es) [] pos) (tCall sp [] E t) := by
  obtain ⟨f, fd, ps, h1, h2, h3, h4⟩ := c.ex
  exact pe_call h3 (hr.mono hk) hg h1 h2 h4 .nil (passes_call tk fun _ _ _ _ h => h) ha hdb he hpl
theorem pass_no : Passes (L2.CX X.prog X.w) X noE := fun _ _ _ _ _ _ _ z => by
  obtain ⟨_, _, _, _, _, _, _, _, _, _, _, _, q⟩ := z
  exact q.elim
/-- where it is not refused -/
theorem pe_calY (c : CalX X.prog X.w X.K X.mg X.base k x sp) (hr : Room j X.A) (hk : k ≤ j) (hg : Gl X x) (ha : PA X (e :: es) t)
    (hdb : (x == ("__debug__" : Str)) = false := by decide) (he : starEach (e :: es) X.env = (false, eval e X.env) :: starEach es X.env := by rfl) (hpl : (backTo pos (starEach es X.env)).any (·.1) = false := by rfl) :
    PE X (.Call (.Name x p) (e :: es) [] pos) (tCall sp [] noE t) := by
  obtain ⟨f, fd, ps, h1, h2, h3, h4⟩ := c.ex
  exact pe_call h3 (hr.mono hk) hg h1 h2 h4 .nil pass_no ha hdb he hpl
theorem pe_calNY (c : CalNX X.prog X.w X.K X.mg X.base k ks x sp gV) (hr : Room j X.A) (hk : k ≤ j) (hg : Gl X x) (hkw : PK X kws tk)
    (hall : (backToKw pos (keywordEach kws X.env)).all (·.1.isSome) = true := by rfl) (hks : (backToKw pos (keywordEach kws X.env)).filterMap (·.1) = ks := by rfl)
    (hdb : (x == ("__debug__" : Str)) = false := by decide)
    (hpl : ((backTo pos (starEach [] X.env)).any (·.1) || (backToKw pos (keywordEach kws X.env)).any (·.1.isNone)) = false := by rfl) :
    PE X (.Call (.Name x p) [] kws pos) (tCallN 0 ks.length sp gV noE tNil tk) := by
  obtain ⟨f, fd, ps, g, h1, h2, h3, h4⟩ := c.ex
  exact pe_callN0 h3 (hr.mono hk) hg h1 h2 h4 pass_no hkw hall hks hdb hpl
/-- in a try -/
theorem pe_calT (c : CalX X.prog X.w X.K X.mg X.base k x sp) (hr : Room j X.A) (hk : k ≤ j) (hg : Gl X x) (tk : Takes X W) (ha : PA X (e :: es) t)
    (hdb : (x == ("__debug__" : Str)) = false := by decide) (he : starEach (e :: es) X.env = (false, eval e X.env) :: starEach es X.env := by rfl) (hpl : (backTo pos (starEach es X.env)).any (·.1) = false := by rfl) :
    PE X (.Call (.Name x p) (e :: es) [] pos) (tCallS sp (WE W) t) := by
  obtain ⟨f, fd, ps, h1, h2, h3, h4⟩ := c.ex
  exact pe_callS h3 (hr.mono hk) hg h1 h2 h4 (passAt tk) ha hdb he hpl
end
section
variable {K : PySem.W.Frag} {σ : L2.St} {H : Hp} {Q : VK} {D : Ends} {l : List ClA} {q : ClA} {cls : Value} {d : Option Addr}
theorem r_callS {sp : Sp} {E : L2.St → XK} {t : TA} (z : t σ H fun vs H1 => sp vs H1 Q (E σ)) : tCallS sp E t σ H Q := z
theorem r_try {tb : WX → TS} (z : tb (wAM K D l) D σ H) : (fun D τ G => tb (wAM K D l) D τ G) D σ H := z
theorem w_hit (h : PySem.W.exmOne K cls q.1 = some true) (z : ∀ a, H a = none → q.2.2 a cls d (offI q.2.1 D) (σ.set q.2.1 (some (.ref a))) H) : wAM K D (q :: l) cls d σ H := ⟨true, h, fun _ => z, fun y => absurd y.symm Bool.false_ne_true⟩
theorem w_miss (h : PySem.W.exmOne K cls q.1 = some false) (z : wAM K D l cls d σ H) : wAM K D (q :: l) cls d σ H := ⟨false, h, fun y => absurd y Bool.false_ne_true, fun _ => z⟩
theorem r_raise {t : L2.St → Hp → XK → Prop} {W : WX} (z : t σ H fun cls d H' => W cls d σ H') : (fun (_ : Ends) (τ : L2.St) (G : Hp) => t τ G fun cls d G' => W cls d τ G') D σ H := z
/-- raise C(v), C's own __init__ being this -/
def spInit (C : Addr) : Sp := fun vs H Q _ => ∃ (a : Addr) (x : V), vs = [.ref a, x] ∧ H a = some (exo a C none) ∧ ∀ dx, H dx = none → dx ≠ a → Q .non (upd (upd H dx (exd dx [("found", x)])) a (exo a C (some dx)))
theorem r_mkO {C : Addr} {v : V} {E : XK} (z : Refuse C v H E) : [v].length ≤ 1000 ∧ ∀ a, H a = none → spInit C (.ref a :: ([v] ++ [])) (upd H a (exo a C none))
    (fun u H2 => u = .non ∧ ∃ (d : Addr) (fs : List (Str × V)), H2 a = some (exo a C (some d)) ∧ H2 d = some (exd d fs) ∧ H d = none ∧ E (.ref C) (some d) (upd (del H2 a) d (.xd fs))) (fun _ _ _ => False) := by
  refine ⟨Nat.le_of_ble_eq_true rfl, fun a ha => ⟨a, v, rfl, upd_same, fun dx hd ne => ⟨rfl, dx, [("found", v)], upd_same, ?_, ?_, ?_⟩⟩⟩
  · rw [upd_ne ne, upd_same]
  · rw [upd_ne ne] at hd
    exact hd
  · rw [upd_ne ne] at hd
    refine z dx _ hd (fun b o e => ?_) upd_same
    have h1 : b ≠ a := ne_of_none e ha
    have h2 : b ≠ dx := ne_of_none e hd
    rw [upd_ne h2]
    show del _ a b = some o
    unfold del
    rw [if_neg h1, upd_ne h1, upd_ne h2, upd_ne h1]
    exact e
end
/-! ## 14. isinstance of several classes -/
def rIs2 (K : PySem.W.Frag) : List V → Hp → VK → Prop := fun xs H Q => rIsi K xs H Q ∨ rIsiT K xs H Q
theorem call_is2 {X : Cx} : CallR X (.builtin "isinstance") (rIs2 X.K) := CallR.or call_isi call_isiT
def IsB (K : PySem.W.Frag) (H : Hp) (x : V) (T U : String) (b : Bool) : Prop := ∃ t, TyX K H x t ∧ PySem.W.kitAny K t [.type T, .type U] = some b
theorem kit2 {K : PySem.W.Frag} {t : Value} {T U : String} {a b : Bool} (h : PySem.W.kitOne K t (.type T) = some a) (h2 : PySem.W.kitOne K t (.type U) = some b) : PySem.W.kitAny K t [.type T, .type U] = some (a || b) := by
  cases a with
  | true => exact kitAny_cons h (fun z => nomatch z) (fun _ => rfl)
  | false => exact kitAny_cons h (fun _ => by cases b with
      | true => exact kitAny_cons h2 (fun z => nomatch z) (fun _ => rfl)
      | false => exact kitAny_cons h2 (fun _ => kitAny_nil) (fun z => nomatch z)) (fun z => nomatch z)
section
variable {K : PySem.W.Frag} {H H' : Hp} {x : V} {T U : String} {b c : Bool} {Q : VK} {tp : Addr}
theorem r_is2 (h : IsB K H x T U b) (e : H tp = some (.tup [.ty T, .ty U])) (q : Q (.bl b) H) : rIs2 K [x, .ref tp] H Q := by
  obtain ⟨t, h1, h2⟩ := h
  exact .inr ⟨x, tp, [.ty T, .ty U], t, [.type T, .type U], b, rfl, e, .cons (.ty T) (.cons (.ty U) .nil), h1, h2, q⟩
theorem r_is1 (h : ∃ t, TyX K H x t ∧ PySem.W.kitOne K t (.type T) = some b) (q : Q (.bl b) H) : rIs2 K [x, .ty T] H Q := by
  obtain ⟨t, h1, h2⟩ := h
  exact .inl ⟨x, .ty T, t, .type T, b, rfl, .ty T, h1, h2, q⟩
end
/-! ## 15. a comprehension, by what each turn gives -/
section
variable {J : It} {n : Nat} {G : Hp → Prop} {Y : Nat → Hp → V → Hp → Prop} {g : TG} {tt : TT} {te : TE} {vs : List Nat} {σ : L2.St} {H : Hp} {D : Addr} {Q : VK}
theorem lc_by (w : Walk J n G Y) (p : Nat → Option V) (hD : H D = none) (hn : n ≤ 10000) (hG : ∀ H', Same H H' → G H')
    (hs : ∀ i x H1 H2 (Q' : VK) (R' : Hp → Prop), i < n → Same H H1 → Y i H1 x H2 → (∀ v, p i = some v → ∀ H3, Same H1 H3 → Q' v H3) → (p i = none → ∀ H3, Same H1 H3 → R' H3) →
      g x (wipe σ vs) H2 fun τ H3 => wipe τ vs = wipe σ vs ∧ tt τ H3 fun b H4 => if b = true then te τ H4 Q' else R' H4)
    (q : ∀ H', Same H H' → H' D = some (.lst ((List.range n).filterMap p)) → Q (.ref D) H') :
    ∃ W : Nat → Nat → Hp → Prop, (∃ m, W 0 m (upd H D (.lst []))) ∧ ∀ i m H, W i m H →
      (J.stop i H ∧ Q (.ref D) H) ∨ (J.go i H ∧ ∃ Nx : Hp → Prop, (∀ H', Nx H' → ∃ m', m' < m ∧ W (i + 1) m' H') ∧ ∀ x H', J.yld i H x H' → g x (wipe σ vs) H' fun σ2 H2 => wipe σ2 vs = wipe σ vs ∧ tt σ2 H2 fun b H3 =>
        if b = true then te σ2 H3 fun y H4 => ∃ acc, H4 D = some (.lst acc) ∧ acc.length < sizeLine ∧ Nx (upd H4 D (.lst (acc ++ [y]))) else Nx H3) := by
  refine lc_it w (fun i G => Same H G ∧ G D = some (.lst ((List.range i).filterMap p))) ⟨same_upd hD, by rw [upd_same]; rfl⟩ (fun i G _ z => hG G z.1) (fun i x H1 H2 hi ⟨sm, e⟩ y => ?_) fun G z => q G z.1 z.2
  refine hs i x H1 H2 _ _ hi sm y (fun v hv H3 s3 => ⟨_, s3 _ _ e, ?_, sameBut (sm.trans s3) hD, ?_⟩) fun hv H3 s3 => ⟨sm.trans s3, ?_⟩
  · have l := List.length_filterMap_le p (List.range i)
    rw [List.length_range] at l
    exact Nat.lt_of_le_of_lt (Nat.le_trans l (Nat.le_trans (Nat.le_of_lt hi) hn)) (by decide)
  · rw [upd_same, List.range_succ, List.filterMap_append]
    simp only [List.filterMap_cons, List.filterMap_nil, hv]
  · rw [s3 _ _ e, List.range_succ, List.filterMap_append]
    simp only [List.filterMap_cons, List.filterMap_nil, hv, List.append_nil]
end
end Bk

namespace Bk
open PySem PySem.Spec PyProof.Rows L2
/-! ## 8. binding with keywords -/
theorem vals_rev : ∀ {zs : List V} {ws : List Value}, Vals zs ws → Vals zs.reverse ws.reverse
  | _, _, .nil => .nil
  | _, _, .cons r t => by
    rw [List.reverse_cons, List.reverse_cons]
    exact (vals_rev t).append (.cons r .nil)
section
variable {K : PySem.W.Frag} {x qual : Str} {params : Arguments} {body : List Stmt} {scope : Scope} {kws : List (Str × V)} {f : Addr} {fd : FuncData} {ps : List Str}
theorem kbinds0 (F : FunD K x qual params body scope [] kws f fd) (n : Nat) (ks : List Str) (ms : List (Str × V)) (g : {α : Type} → List α → List α → List α → List α) (hk : kws ≠ []) (hms : ∀ q ∈ ms, q ∈ kws)
    (hrel : ∀ {vs mz zs : List V} {us mv ws : List Value}, Vals vs us → Vals mz mv → Vals zs ws → Vals (g vs mz zs) (g us mv ws))
    (h : ∀ (D : Addr) (doc pm : Value) (an : Option Addr) (cdv ct : Value) (us mv ws : List Value), us.length = n → mv.length = ms.length → ws.length = ks.length →
      KwChain D ((ms.map (·.1)).zip mv) (bindArgs (PySem.W.fnOf x qual params body scope .none (.ref D) doc pm an cdv ct) ⟨us, ks.zip ws⟩) (ps.zip (g us mv ws))) :
    ∃ mv : List Value, KBn K fd ps n ks (fun us ws => g us mv ws) (fun vs zs => g vs (ms.map (·.2)) zs) := by
  obtain ⟨oc, od, dV, kV, doc, pm, an, cdv, ct, osl, rfl, lk, hcd, hD, hK⟩ := F.ex
  rcases hD with ⟨_, rfl⟩ | ⟨e, _⟩
  · rcases hK with e | ⟨D, rfl, hq⟩
    · exact absurd e hk
    · obtain ⟨mv, hl, rk, hks⟩ := kwd_vals (ms := ms) fun q hm => hq q (hms q hm)
      refine ⟨mv, ⟨fun s us ws X l1 l2 => ?_, fun r1 r2 => hrel r1 rk r2⟩⟩
      exact BindsTo.of_looks fun M => KwChain.looks X hks (h D doc pm an cdv ct us mv ws l1 hl l2)
  · exact absurd rfl e
/-- keywords alone or beside values, no defaults -/
theorem kbPlain {st : Stmt} {f : Addr} {fd : FuncData} (F : Fun K x qual st f fd) (n : Nat) (ks : List Str) (g : {α : Type} → List α → List α → List α)
    (hrel : ∀ {vs zs : List V} {us ws : List Value}, Vals vs us → Vals zs ws → Vals (g vs zs) (g us ws))
    (h : ∀ (kV doc pm : Value) (an : Option Addr) (cdv ct : Value) (us ws : List Value), us.length = n → ws.length = ks.length → bindArgs (PySem.W.fnOf x qual (defArgs st) (defBody st) (defScope st) .none kV doc pm an cdv ct) ⟨us, ks.zip ws⟩ = pure (ps.zip (g us ws))) :
    KBn K fd ps n ks (fun us ws => g us ws) (fun vs zs => g vs zs) := by
  obtain ⟨oc, od, kV, doc, pm, an, cdv, ct, osl, rfl, lk, hcd⟩ := F.ex
  exact ⟨fun s us ws X l1 l2 => .of_eq (h kV doc pm an cdv ct us ws l1 l2), fun r1 r2 => hrel r1 r2⟩
end
theorem kit_sub {K : PySem.W.Frag} {C : Addr} {T : String} {b : Bool} (hm : PySem.W.kitMeta T = true) (h : PySem.W.subIn K (.ref C) (.type T) = some b) : PySem.W.kitOne K (.ref C) (.type T) = some b := by
  unfold PySem.W.kitOne PySem.W.kitCls
  rw [if_neg (fun z => by cases (beq_iff_eq.mp z))]
  show (if PySem.W.kitMeta T = true then PySem.W.subIn K (.ref C) (.type T) else none) = some b
  rw [if_pos hm]
  exact h
theorem CalN.mk' {P : Program} {w : World} {K : PySem.W.Frag} {mg : Str → Option Value} {base : Heap} {CX : CXT} {k n : Nat} {ks : List Str} {x : Str} {sp : Sp} {gV : List V → List V → List V} {f : Addr} {fd : FuncData} {ps : List Str} {g : List Value → List Value → List Value} (a : mg x = some (.ref f)) (kp : PySem.W.keepIn K (.ref f) = true) (F : FnOk P w K mg base CX k f fd ps sp) (b : KBn K fd ps n ks g gV) :
    CalN P w K mg base CX k n ks x sp gV := ⟨f, fd, ps, g, a, kp, F, b⟩
/-! ### within a comprehension: K by name -/
theorem call_isK {X : Cx} {K : PySem.W.Frag} (h : X.K = K) : CallR X (.builtin "isinstance") (rIs K) := by
  subst h
  exact call_is
theorem pg_tupK {X : Cx} {K : PySem.W.Frag} {es : List Expr} {k : Nat} {t : TGs} {n : Nat} {pos : Pos} (e : X.K = K) (hc : X.calm = true) (h : PGs X es t) (hn : (assignEach es X.env).length = n := by rfl) (hst : (assignEach es X.env).findIdx? (·.1) = none := by rfl) :
    PG X (.Tuple es k pos) (gTup K n t) := by
  subst e
  exact pg_tup hc h hn hst
theorem butSame {p : Addr} {H H1 H2 : Hp} (s : Same H H1) (n : H p = none) (b : But p H1 H2) : Same H H2 := fun c o e => b c o (ne_of_none e n) (s c o e)
end Bk

namespace Bk
open PySem PySem.Spec PyProof.Rows L2
/-! ## 16. things whose text is short -/
mutual
def smallD : PyData → Bool
  | .none | .bool _ => true
  | .int i => decide (i.natAbs < 10 ^ 38)
  | .str x => x.cps.toList.all fun c => decide (c < 16 ^ 8)
  | .list xs | .tuple xs => smallL xs
  | .dict _ => false
def smallL : List PyData → Bool
  | [] => true
  | x :: xs => smallD x && smallL xs
end
mutual
theorem small_ok : ∀ d : PyData, smallD d = true → d.showable = true ∧ d.leavesShort 40 = true
  | .none, _ => ⟨rfl, rfl⟩
  | .bool _, _ => ⟨rfl, rfl⟩
  | .int i, h => by
    have h' : i.natAbs < 10 ^ 38 := by simpa only [smallD, decide_eq_true_eq] using h
    have l1 := int_text_length_le10 (k := 38) (by decide) h'
    refine ⟨?_, ?_⟩
    · simp only [PyData.showable, decide_eq_true_eq]
      by_cases z : i.natAbs = 0
      · rw [z]; decide
      · have z2 := (Nat.log2_lt z (k := 128)).mpr (Nat.lt_of_lt_of_le h' (by decide))
        omega
    · simp only [PyData.leavesShort]
      refine decide_eq_true ?_
      have e : (PyData.shown (.int i)).length = (toString i).length := by
        simp only [PyData.shown]
        exact PySem.ofString_length _
      omega
  | .str x, h => ⟨by simp only [PyData.showable], by simpa only [smallD, PyData.leavesShort] using h⟩
  | .list xs, h => by simpa only [PyData.showable, PyData.leavesShort] using small_okL xs (by simpa only [smallD] using h)
  | .tuple xs, h => by simpa only [PyData.showable, PyData.leavesShort] using small_okL xs (by simpa only [smallD] using h)
  | .dict _, h => by simp only [smallD] at h; exact nomatch h
theorem small_okL : ∀ xs : List PyData, smallL xs = true → PyData.showableAll xs = true ∧ PyData.leavesShortAll 40 xs = true
  | [], _ => ⟨rfl, rfl⟩
  | x :: xs, h => by
    have h' : smallD x = true ∧ smallL xs = true := by simpa only [smallL, Bool.and_eq_true] using h
    obtain ⟨a, b⟩ := small_ok x h'.1
    obtain ⟨c, d⟩ := small_okL xs h'.2
    exact ⟨by simp only [PyData.showableAll, a, c, Bool.and_true], by simp only [PyData.leavesShortAll, b, d, Bool.and_true]⟩
end
section
variable {K : PySem.W.Frag} {H H' : Hp} {v : V} {a : Addr} {xs : List V}
theorem shw_of {d : PyData} (h : Dp K H v d) (s : smallD d = true) (b : d.bulk ≤ 20000) (e : d.depth ≤ 60) : Shw K H v d.shown := by
  obtain ⟨h1, h2⟩ := small_ok d s
  have h3 := PyData.shown_le_bulk 40 (by decide) d h2
  exact .inl ⟨d, h, h1, by rw [sizeLine_eq]; omega, e, rfl⟩
theorem shw_dK (e : H a = some (.dK [])) : Shw K H (.ref a) "{}" := .inr ⟨a, rfl, e, rfl⟩
/-- a thing within a list -/
def Itm (K : PySem.W.Frag) (H : Hp) (v : V) : Prop := ∃ d, Dp K H v d ∧ smallD d = true ∧ d.bulk ≤ 100 ∧ d.depth ≤ 20
theorem itm_shw (h : Itm K H v) : ∃ z, Shw K H v z := let ⟨_, h1, h2, h3, h4⟩ := h; ⟨_, shw_of h1 h2 (by omega) (by omega)⟩
theorem itms : ∀ {xs : List V}, (∀ y ∈ xs, Itm K H y) → ∃ ds, DpAll K H xs ds ∧ smallL ds = true ∧ PyData.bulkAll ds ≤ 101 * xs.length ∧ PyData.depthAll ds ≤ 20
  | [], _ => ⟨[], .nil, rfl, Nat.le_refl _, Nat.zero_le _⟩
  | y :: ys, h => by
    obtain ⟨d, h1, h2, h3, h4⟩ := h y List.mem_cons_self
    obtain ⟨ds, g1, g2, g3, g4⟩ := itms fun z hz => h z (List.mem_cons_of_mem _ hz)
    refine ⟨d :: ds, .cons h1 g1, by simp only [smallL, h2, g2, Bool.and_true], ?_, ?_⟩
    · simp only [PyData.bulkAll, List.length_cons]
      omega
    · simp only [PyData.depthAll]
      omega
theorem shw_lst (h : SqL K H a xs) (i : ∀ y ∈ xs, Itm K H y) (l : xs.length ≤ 150) : ∃ z, Shw K H (.ref a) z := by
  obtain ⟨ds, g1, g2, g3, g4⟩ := itms i
  exact ⟨_, shw_of (.lst h g1) (by simpa only [smallD] using g2) (by simp only [PyData.bulk]; omega) (by simp only [PyData.depth]; omega)⟩
theorem shw_tup (h : SqT K H a xs) (i : ∀ y ∈ xs, Itm K H y) (l : xs.length ≤ 150) : ∃ z, Shw K H (.ref a) z := by
  obtain ⟨ds, g1, g2, g3, g4⟩ := itms i
  exact ⟨_, shw_of (.tup h g1) (by simpa only [smallD] using g2) (by simp only [PyData.bulk]; omega) (by simp only [PyData.depth]; omega)⟩
/-! scalars -/
def datS : V → PyData
  | .bl b => .bool b
  | .int i => .int i
  | .str z => .str z
  | _ => .none
def smS : V → Bool
  | .non | .bl _ => true
  | .int i => decide (i.natAbs < 10 ^ 38)
  | .str z => decide (z.length ≤ 90) && z.cps.toList.all fun c => decide (c < 16 ^ 8)
  | _ => false
theorem datS_ok (h : smS v = true) : Dp K H v (datS v) ∧ smallD (datS v) = true ∧ (datS v).bulk ≤ 100 ∧ (datS v).depth = 0 := by
  cases v with
  | non => exact ⟨.non, by simp only [datS, smallD], by simp [datS, PyData.bulk], by simp only [datS, PyData.depth]⟩
  | bl b => exact ⟨.bl b, by simp only [datS, smallD], by simp [datS, PyData.bulk], by simp only [datS, PyData.depth]⟩
  | int i => exact ⟨.int i, by simpa only [datS, smallD, smS] using h, by simp [datS, PyData.bulk], by simp only [datS, PyData.depth]⟩
  | str z =>
    have h' : z.length ≤ 90 ∧ (z.cps.toList.all fun c => decide (c < 16 ^ 8)) = true := by
      have z2 := Bool.and_eq_true_iff.mp (show (decide (z.length ≤ 90) && z.cps.toList.all fun c => decide (c < 16 ^ 8)) = true from h)
      exact ⟨of_decide_eq_true z2.1, z2.2⟩
    have hz : z.cps.size ≤ 90 := h'.1
    exact ⟨.str z, by simpa only [datS, smallD] using h'.2, by simp only [datS, PyData.bulk]; omega, by simp only [datS, PyData.depth]⟩
  | _ => exact nomatch h
theorem itm_sc (h : smS v = true) : Itm K H v := let ⟨h1, h2, h3, h4⟩ := datS_ok h; ⟨_, h1, h2, h3, by omega⟩
theorem shw_sc (h : smS v = true) : Shw K H v (datS v).shown := let ⟨h1, h2, h3, h4⟩ := datS_ok h; shw_of h1 h2 (by omega) (by omega)
theorem datSs : ∀ {xs : List V}, xs.all smS = true → DpAll K H xs (xs.map datS) ∧ smallL (xs.map datS) = true ∧ PyData.bulkAll (xs.map datS) ≤ 101 * xs.length ∧ PyData.depthAll (xs.map datS) = 0
  | [], _ => ⟨.nil, rfl, Nat.le_refl _, rfl⟩
  | y :: ys, h => by
    rw [List.all_cons, Bool.and_eq_true] at h
    obtain ⟨h1, h2, h3, h4⟩ := datS_ok (K := K) (H := H) h.1
    obtain ⟨g1, g2, g3, g4⟩ := datSs h.2
    rw [List.map_cons]
    refine ⟨.cons h1 g1, by simp only [smallL, h2, g2, Bool.and_true], ?_, ?_⟩
    · simp only [PyData.bulkAll, List.length_cons]
      omega
    · simp only [PyData.depthAll, h4, g4]
      rfl
theorem shw_lsc (h : SqL K H a xs) (i : xs.all smS = true) (l : xs.length ≤ 150) : Shw K H (.ref a) (PyData.list (xs.map datS)).shown := by
  obtain ⟨g1, g2, g3, g4⟩ := datSs (K := K) (H := H) i
  exact shw_of (.lst h g1) (by simpa only [smallD] using g2) (by simp only [PyData.bulk]; omega) (by simp only [PyData.depth]; omega)
theorem shw_tsc (h : SqT K H a xs) (i : xs.all smS = true) (l : xs.length ≤ 150) : Shw K H (.ref a) (PyData.tuple (xs.map datS)).shown := by
  obtain ⟨g1, g2, g3, g4⟩ := datSs (K := K) (H := H) i
  exact shw_of (.tup h g1) (by simpa only [smallD] using g2) (by simp only [PyData.bulk]; omega) (by simp only [PyData.depth]; omega)
end
theorem smS_int {i : Int} (h : i.natAbs < 10 ^ 38) : smS (.int i) = true := decide_eq_true h
theorem smS_bls {bs : List Bool} : (bs.map V.bl).all smS = true := by
  rw [List.all_map]
  exact List.all_eq_true.mpr fun _ _ => rfl
end Bk

namespace Bk
open PySem PySem.Spec PyProof.Rows L2
/-! ## 18. what k03 left for all -/
theorem seqT {K : PySem.W.Frag} {H H' : Hp} {a : Addr} {xs : List V} (s : Same H H') (h : SqT K H a xs) : SqT K H' a xs := by
  rcases h with (h | ⟨o, h⟩) | h
  · exact .inl (.inl (s _ _ h))
  · exact .inl (.inr ⟨o, s _ _ h⟩)
  · exact .inr h
theorem Refuse.on {C : Addr} {v : V} {H H' : Hp} {E : XK} (r : Refuse C v H E) (s : Same H H') : Refuse C v H' E := fun d H2 hd s2 e => r d H2 (s.free hd) (s.trans s2) e
section
variable {K : PySem.W.Frag} {H : Hp} {a : Addr} {T U : String} {b c : Bool}
theorem isb_lst {xs : List V} (e : H a = some (.lst xs)) (h : kitB "list" T = some b := by decide +kernel) (h2 : kitB "list" U = some c := by decide +kernel) : IsB K H (.ref a) T U (b || c) := ⟨.type "list", .base (.lst e), kit2 (kit_ty h) (kit_ty h2)⟩
theorem isb_tup {xs : List V} (e : H a = some (.tup xs)) (h : kitB "tuple" T = some b := by decide +kernel) (h2 : kitB "tuple" U = some c := by decide +kernel) : IsB K H (.ref a) T U (b || c) := ⟨.type "tuple", .base (.tup e), kit2 (kit_ty h) (kit_ty h2)⟩
theorem isb_dK {kvs : List (Key × V)} (e : H a = some (.dK kvs)) (h : kitB "dict" T = some b := by decide +kernel) (h2 : kitB "dict" U = some c := by decide +kernel) : IsB K H (.ref a) T U (b || c) := ⟨.type "dict", .base (.dK e), kit2 (kit_ty h) (kit_ty h2)⟩
theorem isb_int {i : Int} (h : kitB "int" T = some b := by decide +kernel) (h2 : kitB "int" U = some c := by decide +kernel) : IsB K H (.int i) T U (b || c) := ⟨.type "int", .base (.int i), kit2 (kit_ty h) (kit_ty h2)⟩
theorem isb_bl {k : Bool} (h : kitB "bool" T = some b := by decide +kernel) (h2 : kitB "bool" U = some c := by decide +kernel) : IsB K H (.bl k) T U (b || c) := ⟨.type "bool", .base (.bl k), kit2 (kit_ty h) (kit_ty h2)⟩
theorem isb_str {z : Str} (h : kitB "str" T = some b := by decide +kernel) (h2 : kitB "str" U = some c := by decide +kernel) : IsB K H (.str z) T U (b || c) := ⟨.type "str", .base (.str z), kit2 (kit_ty h) (kit_ty h2)⟩
theorem isb_non (h : kitB "NoneType" T = some b := by decide +kernel) (h2 : kitB "NoneType" U = some c := by decide +kernel) : IsB K H .non T U (b || c) := ⟨.type "NoneType", .base .non, kit2 (kit_ty h) (kit_ty h2)⟩
end
theorem r_yes {σ : L2.St} {H : Hp} {te : TE} {Q : VK} {R : Hp → Prop} (q : te σ H Q) : tYes σ H (fun b H4 => if b = true then te σ H4 Q else R H4) := by
  show if true = true then te σ H Q else R H
  exact iteT q
section
variable {K : PySem.W.Frag} {σ : L2.St} {H : Hp} {Q : VK} {i0 j j1 j2 : Nat} {vs : List Nat} {a : Addr} {xs : List V} {te : TE} {tt : TT}
/-- over a list or a tuple -/
theorem lcA (p : Nat → V) (hv : σ[i0]? = some (some (.ref a))) (hs : SqL K H a xs ∨ SqT K H a xs) (hl : xs.length ≤ 10000) (hw : ∀ x, wipe ((wipe σ vs).set j (some x)) vs = wipe σ vs)
    (ht : ∀ (i : Nat) (y : V) (H' : Hp) (Q' : VK), xs[i]? = some y → Same H H' → (∀ H2, Same H' H2 → Q' (p i) H2) → te ((wipe σ vs).set j (some y)) H' Q')
    (q : ∀ D H', H D = none → Same H H' → H' D = some (.lst ((List.range xs.length).map p)) → Q (.ref D) H') : tLc (iSeqA K (tVar i0)) (gName j) tYes te vs σ H Q := by
  have go : ∀ {J : It} {G : Hp → Prop}, Walk J xs.length G (YAt xs) → (∀ H', Same H H' → G H') → ∀ D, H D = none → _ := fun {J G} wk hG D hD =>
    lc_by (g := gName j) (tt := tYes) (te := te) (vs := vs) (σ := σ) (Q := Q) wk (fun i => some (p i)) hD hl hG (fun i y H1 H2 Q' R' hi sm ⟨e, hy⟩ h1 _ => ⟨hw _, by
      subst e
      exact r_yes (ht i y H2 Q' hy sm (h1 _ rfl))⟩) fun H' sm e => q D H' hD sm (by
      rw [e]
      show some (HO.lst (List.filterMap (some ∘ p) _)) = _
      rw [List.filterMap_eq_map])
  refine ⟨_, hv, a, xs, rfl, ?_⟩
  rcases hs with hs | hs
  · exact .inl ⟨hs, go walk_list fun H' sm => sm.seq hs⟩
  · exact .inr ⟨hs, go walk_tup fun H' sm => seqT sm hs⟩
/-- enumerate of a list or a tuple, some left out -/
theorem lcE (p : Nat → V → Option V) (hv : σ[i0]? = some (some (.ref a))) (hs : SqL K H a xs ∨ SqT K H a xs) (hl : xs.length ≤ 10000) (hw : ∀ x y, wipe (((wipe σ vs).set j1 (some x)).set j2 (some y)) vs = wipe σ vs)
    (ht : ∀ (i : Nat) (y : V) (H' : Hp) (Q' : VK) (R' : Hp → Prop), xs[i]? = some y → Same H H' → (∀ v, p i y = some v → ∀ H2, Same H' H2 → Q' v H2) → (p i y = none → ∀ H2, Same H' H2 → R' H2) →
      tt (((wipe σ vs).set j1 (some (.int i))).set j2 (some y)) H' fun b H4 => if b = true then te (((wipe σ vs).set j1 (some (.int i))).set j2 (some y)) H4 Q' else R' H4)
    (q : ∀ D H', H D = none → Same H H' → H' D = some (.lst ((List.range xs.length).filterMap fun i => xs[i]?.bind (p i))) → Q (.ref D) H') :
    tLc (iEnumA K (tCons (tVar i0) tNil)) (gTup K 2 (gCons (gName j1) (gCons (gName j2) gNil))) tt te vs σ H Q := by
  have go : ∀ {J : It} {G : Hp → Prop}, Walk J xs.length G (YPair (fun i => some (.int (i : Nat))) (fun i => xs[i]?)) → (∀ H', Same H H' → G H') → ∀ D, H D = none → _ := fun {J G} wk hG D hD =>
    lc_by (g := gTup K 2 (gCons (gName j1) (gCons (gName j2) gNil))) (tt := tt) (te := te) (vs := vs) (σ := σ) (Q := Q) wk (fun i => xs[i]?.bind (p i)) hD hl hG (fun i v H1 H2 Q' R' hi sm ⟨Tn, x, y, e1, nT, e2, hx, hy⟩ h1 h2 => by
      subst e1 e2
      injection hx with hx
      subst hx
      have sT := same_upd (o := .tup [.int (i : Nat), y]) nT
      have ey : xs[i]?.bind (p i) = p i y := by
        rw [show xs[i]? = some y from hy]
        rfl
      refine ⟨Tn, _, rfl, sqT upd_same, rfl, .int i, _, rfl, y, _, rfl, rfl, hw _ _, ?_⟩
      exact ht i y _ Q' R' hy (sm.trans sT) (fun v hv H3 s3 => h1 v (by rw [ey]; exact hv) H3 (sT.trans s3)) fun hn H3 s3 => h2 (by rw [ey]; exact hn) H3 (sT.trans s3)) fun H' sm e => q D H' hD sm e
  refine ⟨_, hv, a, xs, rfl, ?_⟩
  rcases hs with hs | hs
  · exact .inl ⟨hs, go walk_enum fun H' sm => sm.seq hs⟩
  · exact .inr ⟨hs, go walk_enumT fun H' sm => seqT sm hs⟩
end
theorem map_getD {α : Type} (f : V → α) (d : V) (xs : List V) : (List.range xs.length).map (fun i => f (xs.getD i d)) = xs.map f := by
  refine List.ext_getElem (by simp) fun i h1 h2 => ?_
  simp only [List.getElem_map, List.getElem_range]
  have h : i < xs.length := by simpa using h1
  rw [List.getD_eq_getElem?_getD, List.getElem?_eq_getElem h]
  rfl
/-! ## 17. comprehensions over a list, a tuple, a range -/
section
variable {K : PySem.W.Frag} {σ : L2.St} {H : Hp} {Q : VK} {i0 j : Nat} {vs : List Nat} {a : Addr} {xs : List V} {te : TE}
theorem lc_map {J : It} {n : Nat} {G : Hp → Prop} {Y : Nat → Hp → V → Hp → Prop} {D : Addr} (wk : Walk J n G Y) (hY : ∀ i H1 x H2, i < n → Y i H1 x H2 → H2 = H1) (p : Nat → V) (hl : n ≤ 10000) (hG : ∀ H', Same H H' → G H') (hw : ∀ x, wipe ((wipe σ vs).set j (some x)) vs = wipe σ vs)
    (ht : ∀ (i : Nat) (y : V) (H1 H' : Hp) (Q' : VK), i < n → Y i H1 y H' → Same H H' → (∀ H2, Same H' H2 → Q' (p i) H2) → te ((wipe σ vs).set j (some y)) H' Q')
    (q : ∀ D H', H D = none → Same H H' → H' D = some (.lst ((List.range n).map p)) → Q (.ref D) H') (hD : H D = none) : ∃ W : Nat → Nat → Hp → Prop, (∃ m, W 0 m (upd H D (.lst []))) ∧ ∀ i m H, W i m H →
      (J.stop i H ∧ Q (.ref D) H) ∨ (J.go i H ∧ ∃ Nx : Hp → Prop, (∀ H', Nx H' → ∃ m', m' < m ∧ W (i + 1) m' H') ∧ ∀ x H', J.yld i H x H' → gName j x (wipe σ vs) H' fun σ2 H2 => wipe σ2 vs = wipe σ vs ∧ tYes σ2 H2 fun b H3 =>
        if b = true then te σ2 H3 fun y H4 => ∃ acc, H4 D = some (.lst acc) ∧ acc.length < sizeLine ∧ Nx (upd H4 D (.lst (acc ++ [y]))) else Nx H3) :=
  lc_by (g := gName j) (tt := tYes) (te := te) (vs := vs) (σ := σ) (Q := Q) wk (fun i => some (p i)) hD hl hG (fun i y H1 H2 Q' R' hi sm e h1 _ => ⟨hw _, by
    obtain rfl := hY i _ _ _ hi e
    exact r_yes (ht i y H2 H2 Q' hi e sm (h1 _ rfl))⟩) fun H' sm e => q D H' hD sm (by
      rw [e]
      show some (HO.lst (List.filterMap (some ∘ p) _)) = _
      rw [List.filterMap_eq_map])
theorem lcT (p : Nat → V) (hv : σ[i0]? = some (some (.ref a))) (hs : SqT K H a xs) (hl : xs.length ≤ 10000) (hw : ∀ x, wipe ((wipe σ vs).set j (some x)) vs = wipe σ vs)
    (ht : ∀ (i : Nat) (y : V) (H' : Hp) (Q' : VK), xs[i]? = some y → Same H H' → (∀ H2, Same H' H2 → Q' (p i) H2) → te ((wipe σ vs).set j (some y)) H' Q')
    (q : ∀ D H', H D = none → Same H H' → H' D = some (.lst ((List.range xs.length).map p)) → Q (.ref D) H') : tLc (iTup K (tVar i0)) (gName j) tYes te vs σ H Q :=
  ⟨_, hv, a, rfl, ⟨xs, hs⟩, fun D hD => lc_map (j := j) walk_tup (fun _ _ _ _ _ z => z.1) p hl (fun H' sm => seqT sm hs) hw (fun i y H1 H' Q' _ e sm k => ht i y H' Q' e.2 sm k) q hD⟩
theorem lcL (p : Nat → V) (hv : σ[i0]? = some (some (.ref a))) (hs : SqL K H a xs) (hl : xs.length ≤ 10000) (hw : ∀ x, wipe ((wipe σ vs).set j (some x)) vs = wipe σ vs)
    (ht : ∀ (i : Nat) (y : V) (H' : Hp) (Q' : VK), xs[i]? = some y → Same H H' → (∀ H2, Same H' H2 → Q' (p i) H2) → te ((wipe σ vs).set j (some y)) H' Q')
    (q : ∀ D H', H D = none → Same H H' → H' D = some (.lst ((List.range xs.length).map p)) → Q (.ref D) H') : tLc (iList K (tVar i0)) (gName j) tYes te vs σ H Q :=
  ⟨_, hv, a, rfl, ⟨xs, hs⟩, fun D hD => lc_map (j := j) walk_list (fun _ _ _ _ _ z => z.1) p hl (fun H' sm => sm.seq hs) hw (fun i y H1 H' Q' _ e sm k => ht i y H' Q' e.2 sm k) q hD⟩
/-- what is drawn at each turn: the box changes -/
theorem lcDraw {n m : Nat} {bx : Addr} (p : V → Prop) (hb : Box bx m H) (hl : n ≤ 1000) (hw : ∀ x, wipe ((wipe σ vs).set j (some x)) vs = wipe σ vs)
    (ht : ∀ (i : Nat) (H' : Hp) (Q' : VK), i < n → Box bx (m + i) H' → (∀ v H2, p v → Box bx (m + i + 1) H2 → But bx H' H2 → Q' v H2) → te ((wipe σ vs).set j (some (.int i))) H' Q')
    (q : ∀ D H' xs, H D = none → But bx H H' → Box bx (m + n) H' → H' D = some (.lst xs) → xs.length = n → (∀ v ∈ xs, p v) → Q (.ref D) H') : tLc (iRng1 (tCons (tC (.int n)) tNil)) (gName j) tYes te vs σ H Q := by
  refine ⟨_, rfl, by omega, by omega, fun D hD => ?_⟩
  have nD : D ≠ bx := hb.ne hD
  rw [Int.toNat_natCast]
  refine lc_it (g := gName j) (tt := tYes) (te := te) (vs := vs) (σ := σ) (n := n) walk_range (fun i G => But bx H G ∧ Box bx (m + i) G ∧ ∃ xs, G D = some (.lst xs) ∧ xs.length = i ∧ ∀ v ∈ xs, p v)
    ⟨.of (same_upd hD), hb.same (same_upd hD), [], upd_same, rfl, fun _ z => nomatch z⟩ (fun _ _ _ _ => trivial) (fun i x H1 H2 hi ⟨bt, hB, xs, e, l, hp⟩ y => ?_) fun G ⟨bt, hB, xs, e, l, hp⟩ => q D G xs hD bt hB e l hp
  obtain ⟨rfl, rfl⟩ := y
  refine ⟨hw _, ?_⟩
  show te ((wipe σ vs).set j (some (.int (0 + (i : Int))))) _ _
  rw [Int.zero_add]
  refine ht i H2 _ hi hB fun v H3 pv hB3 b3 => ⟨xs, b3 _ _ nD e, by rw [l]; exact Nat.lt_of_lt_of_le hi (Nat.le_trans hl (by decide)), ?_, ?_, xs ++ [v], upd_same, by rw [List.length_append, l]; rfl, fun u hu => ?_⟩
  · exact fun b o ne e0 => by
      have z := b3 _ _ ne (bt _ _ ne e0)
      rw [upd_ne (ne_of_none e0 hD)]
      exact z
  · obtain ⟨x1, y1, z1, eB, r⟩ := hB3
    exact ⟨x1, y1, z1, by rw [upd_ne nD.symm]; exact eB, r⟩
  · rcases List.mem_append.mp hu with z | z
    · exact hp u z
    · rw [List.mem_singleton.mp z]; exact pv
end
/-- except C as e: return (tag, e.found) -/
theorem caught_at {K : PySem.W.Frag} {C d : Addr} {i : Nat} {σ : L2.St} {H' : Hp} {D : Ends} {l : List ClA} {v : V} {tag : Str} (e : PySem.W.exmOne K (.ref C) (.ref C) = some true) (hi : i < σ.length) (ed : H' d = some (.xd [("found", v)]))
    (q : ∀ p H2, H' p = none → Same H' H2 → H2 p = some (.tup [.str tag, v]) → D.rt (.ref p) H2) :
    wAM K D ((.ref C, i, fun a cls d => tRet (tTup (tCons (tC (.str tag)) (tCons (tXf a cls d C "found" (tVar i)) tNil)))) :: l) (.ref C) (some d) σ H' := by
  refine w_hit e fun a na => ?_
  show tRet (tTup (tCons (tC (.str tag)) (tCons (tXf a (.ref C) (some d) C "found" (tVar i)) tNil))) (offI i D) (σ.set i (some (.ref a))) H'
  refine r_ret (r_tup (r_cons (r_c (r_cons ?_))))
  refine ⟨.ref a, List.getElem?_set_self hi, rfl, rfl, d, _, v, rfl, ed, rfl, ?_⟩
  exact r_nil (newT fun p H2 np s2 e2 => q p H2 np s2 e2)
theorem fm_congr {α β : Type} {f g : α → Option β} : ∀ {l : List α}, (∀ x ∈ l, f x = g x) → l.filterMap f = l.filterMap g
  | [], _ => rfl
  | x :: l, h => by
    rw [List.filterMap_cons, List.filterMap_cons, h x List.mem_cons_self, fm_congr fun y hy => h y (List.mem_cons_of_mem _ hy)]
section
variable {K : PySem.W.Frag} {H : Hp} {x y : V} {Q : VK}
theorem r_neSame {d : PyData} (h1 : Dp K H x d) (h2 : Dp K H y d) (s : SeqAt.shaped d = true) (q : Q (.bl false) H) : rNeD K x y H Q :=
  ⟨d, d, h1, h2, s, s, by rw [SeqAt.eqv_refl d (SeqAt.canLay_of_shaped s)]; exact q⟩
end
theorem box_upd {bx a : Addr} {n : Nat} {H : Hp} {o : HO} (h : Box bx n H) (ne : a ≠ bx) : Box bx n (upd H a o) := by
  obtain ⟨x, y, z, e, r⟩ := h
  exact ⟨x, y, z, by rw [upd_ne ne.symm]; exact e, r⟩
theorem but_upd {bx a : Addr} {H0 H : Hp} {o : HO} (b : But bx H0 H) (fr : H0 a = none) : But bx H0 (upd H a o) := fun c u ne e => by
  rw [upd_ne (ne_of_none e fr)]
  exact b c u ne e
theorem cut_to {xs : List V} {m : Nat} (h : m ≤ xs.length) : cutV xs none (some (m : Int)) = xs.take m := by
  unfold cutV
  rw [HT.sIx_none, HT.sIx_nat, Nat.min_eq_left h, List.drop_zero, Nat.sub_zero]
theorem cut_from {xs : List V} {m : Nat} (h : m ≤ xs.length) : cutV xs (some (m : Int)) none = xs.drop m := by
  unfold cutV
  rw [HT.sIx_none, HT.sIx_nat, Nat.min_eq_left h]
  exact List.take_of_length_le (by rw [List.length_drop]; exact Nat.le_refl _)
section
variable {H : Hp} {Q : VK} {a b : Addr} {xs ys : List V} {lo hi : Option Int}
theorem r_slL {K : PySem.W.Frag} (h : SqL K H a xs) (e : cutV xs lo hi = ys) (q : ∀ p H', H p = none → Same H H' → H' p = some (.lst ys) → Q (.ref p) H') : rSlL K (.ref a) lo hi H Q :=
  ⟨a, xs, rfl, h, fun p n => q p _ n (same_upd n) (by rw [upd_same, e])⟩
theorem r_cat (h1 : H a = some (.lst xs)) (h2 : H b = some (.lst ys)) (q : ∀ p H', H p = none → Same H H' → H' p = some (.lst (xs ++ ys)) → Q (.ref p) H') (l : xs.length + ys.length ≤ 10000 := by omega) : rCat (.ref a) (.ref b) H Q :=
  ⟨a, b, xs, ys, rfl, rfl, h1, h2, Nat.le_trans l (by decide), fun p n => q p _ n (same_upd n) upd_same⟩
end
theorem shw_tup2 {K : PySem.W.Frag} {H : Hp} {a b : Addr} {xs : List V} (h : SqT K H a xs) (h2 : SqT K H b xs) (i : ∀ y ∈ xs, Itm K H y) (l : xs.length ≤ 150) : ∃ z, Shw K H (.ref a) z ∧ Shw K H (.ref b) z := by
  obtain ⟨ds, g1, g2, g3, g4⟩ := itms i
  exact ⟨_, shw_of (.tup h g1) (by simpa only [smallD] using g2) (by simp only [PyData.bulk]; omega) (by simp only [PyData.depth]; omega),
    shw_of (.tup h2 g1) (by simpa only [smallD] using g2) (by simp only [PyData.bulk]; omega) (by simp only [PyData.depth]; omega)⟩
theorem but_none {a c : Addr} {H G : Hp} (b : But a H G) (ne : c ≠ a) (h : G c = none) : H c = none := by
  cases e : H c with
  | none => rfl
  | some o => exact nomatch h.symm.trans (b _ _ ne e)
theorem r_par {i j : Nat} {ta : TA} {D : Ends} {σ : L2.St} {H : Hp} (q : ta σ H fun vs H1 => ∃ v w, vs = [v, w] ∧ D.nx ((σ.set i (some v)).set j (some w)) H1) : tPar i j ta D σ H := q
theorem small_int {i : Int} (h0 : -100000 ≤ i) (h1 : i ≤ 100000) : smS (.int i) = true := smS_int (Nat.lt_of_lt_of_le (show i.natAbs < 1000000 by omega) (by decide))
structure Exc (K : PySem.W.Frag) (C f : Addr) : Prop where
  ox : OexC K C
  i : PySem.W.findIn K (.ref C) "__init__" = some (some (.ref f))
  t : PySem.W.typeIn K (.ref f) = some (.type "function")
  nf : PySem.W.findIn K (.ref C) "found" = some none
  xf : XfC K C
def spGE (K : PySem.W.Frag) : Sp := fun vs H Q _ => ∃ (a C : Addr) (x : V), vs = [.ref a, x] ∧ OexC K C ∧ H a = some (exo a C none) ∧ Q .non H
def wholeV (x : V) (lo hi : Int) : Bool := match x with
  | .int i => decide (lo ≤ i) && decide (i ≤ hi)
  | _ => false
/-- a thing of which isinstance(.., int) is known -/
def WD (K : PySem.W.Frag) (H : Hp) (x : V) : Prop := (∃ i, x = .int i) ∨ (∃ b, x = .bl b) ∨ (IsA K H x "int" false ∧ ∀ l h, wholeV x l h = false)
def spWhole (K : PySem.W.Frag) : Sp := fun vs H Q _ => ∃ (x : V) (lo hi : Int), vs = [x, .int lo, .int hi] ∧ WD K H x ∧ Q (.bl (wholeV x lo hi)) H
def wd (x : V) : Bool := wholeV x 0 4095
def spIsWord (K : PySem.W.Frag) : Sp := fun vs H Q _ => ∃ x : V, vs = [x] ∧ WD K H x ∧ Q (.bl (wd x)) H
def spCheck (K : PySem.W.Frag) (CW : Addr) : Sp := fun vs H Q E => ∃ x : V, vs = [x] ∧ WD K H x ∧ ((wd x = true ∧ Q .non H) ∨ (wd x = false ∧ Refuse CW x H E))
theorem wd_int {i : Int} (h0 : 0 ≤ i) (h1 : i ≤ 4095) : wd (.int i) = true := by
  show (decide (0 ≤ i) && decide (i ≤ 4095)) = true
  rw [decide_eq_true h0, decide_eq_true h1]
  rfl
end Bk

namespace Bk
open PySem PySem.Spec PyProof.Rows L2
/-! ## 19. a text is no dict -/
theorem str_not_dict (x : Str) (t : Tok) (d : Addr) (o : Obj) (es : Array DictEntry) (ep : Nat) (hd : o.data = .dict es ep) (hc : o.cls = .type "dict") :
    Meets (Builtin.«str.__eq__» ⟨[.str x t, .ref d], []⟩) (fun _ R s => s.heap.get? d = some o ∧ R (.ok (.ret .notImplemented)) s) :=
  .of_wp fun prog w A R s h => by
    obtain ⟨hp, g, dr, tk, os⟩ := s
    obtain ⟨hl, h⟩ := h
    obtain ⟨c, dd, dt, sl⟩ := o
    subst hd hc
    wp_walk using wpAny_load hl
    exact ⟨_, rfl, h⟩
theorem dict_not_str (x : Str) (t : Tok) (d : Addr) (o : Obj) (es : Array DictEntry) (ep : Nat) (hd : o.data = .dict es ep) (hc : o.cls = .type "dict") :
    Meets (Builtin.«dict.__eq__» ⟨[.ref d, .str x t], []⟩) (fun _ R s => s.heap.get? d = some o ∧ R (.ok (.ret .notImplemented)) s) :=
  .of_wp fun prog w A R s h => by
    obtain ⟨hp, g, dr, tk, os⟩ := s
    obtain ⟨hl, h⟩ := h
    obtain ⟨c, dd, dt, sl⟩ := o
    subst hd hc
    have f1 := F.sub_str_dict
    wp_walk using wpAny_load hl
    exact ⟨_, rfl, h⟩
def rEqSD : R2 := fun x y H Q => ∃ (z : Str) (a : Addr) (kvs : List (Key × V)), x = .str z ∧ y = .ref a ∧ H a = some (.dK kvs) ∧ Q (.bl false) H
section
variable {X : Cx}
theorem op_eqSD (hu : X.A.units < cLine) : OpR X (compareOp .Eq) rEqSD := by
  intro pins s σ H x y v u Q I rx ry h
  obtain ⟨z, a, kvs, rfl, rfl, e, q⟩ := h
  obtain ⟨t, rfl⟩ := rx
  obtain rfl : u = Value.ref a := ry
  obtain ⟨_, _, vs, _, o, es, ep, ho, hx, hd, _⟩ := I.hok a _ e
  have hc : o.cls = .type "dict" := hx.1
  exact SeqAt.rc_eq_decline_or (k := false) (typeIs_str s z t) ⟨_, ho, hc⟩ (by decide) F.sub_dict_str F.slot_str_eq F.slot_dict_eq_refl
    (fun _ hq => call_meets F.slot_str_eq (typeIs_str s z t) F.entry_str_eq (F.args_str_eq_2 _ _) (str_not_dict z t a o es ep hd hc) ⟨ho, hq⟩)
    (fun _ hq => call_meets F.slot_dict_eq_refl ⟨_, ho, hc⟩ F.entry_dict_eq (F.args_dict_eq_2 _ _) (dict_not_str z t a o es ep hd hc) ⟨ho, hq⟩)
    (fun _ hq => wpAny_of_eq (rfl : isSame (.str z t) (.ref a) = pure false) hq) (.inr hu) ⟨.bl false, H, I, rfl, q⟩
/-- a text beside any thing -/
def rEqS (K : PySem.W.Frag) : R2 := fun x y H Q => (rEq x y H Q ∨ rEqD K x y H Q) ∨ rEqSD x y H Q
theorem op_eqS (hu : X.A.units + 64 < cLine) : OpR X (compareOp .Eq) (rEqS X.K) := OpR.or (OpR.or op_eq (op_eqD hu)) (op_eqSD (by omega))
end
/-! ## 20. refusing defs called with keywords beside values, or with defaults -/
structure CalMX (P : Program) (w : World) (K : PySem.W.Frag) (mg : Str → Option Value) (base : Heap) (k n : Nat) (ks : List Str) (x : Str) (sp : Sp) (gV : List V → List V → List V) : Prop where
  ex : ∃ (f : Addr) (fd : FuncData) (ps : List Str) (g : List Value → List Value → List Value), mg x = some (.ref f) ∧ PySem.W.keepIn K (.ref f) = true ∧ FnOk P w K mg base (L2.CX P w) k f fd ps sp ∧ KBn K fd ps n ks g gV
theorem CalMX.mk' {P : Program} {w : World} {K : PySem.W.Frag} {mg : Str → Option Value} {base : Heap} {k n : Nat} {ks : List Str} {x : Str} {sp : Sp} {gV : List V → List V → List V} {f : Addr} {fd : FuncData} {ps : List Str} {g : List Value → List Value → List Value} (a : mg x = some (.ref f)) (kp : PySem.W.keepIn K (.ref f) = true)
    (F : FnOk P w K mg base (L2.CX P w) k f fd ps sp) (b : KBn K fd ps n ks g gV) : CalMX P w K mg base k n ks x sp gV := ⟨f, fd, ps, g, a, kp, F, b⟩
structure CalXD (P : Program) (w : World) (K : PySem.W.Frag) (mg : Str → Option Value) (base : Heap) (k : Nat) (x : Str) (sp : Sp) (dvs : List V) : Prop where
  ex : ∃ (f : Addr) (fd : FuncData) (ps : List Str) (ds : List Value), mg x = some (.ref f) ∧ PySem.W.keepIn K (.ref f) = true ∧ FnOk P w K mg base (L2.CX P w) k f fd ps sp ∧ Binds K fd ps ds ∧ Vals dvs ds
def tCallNS (n m : Nat) (sp : Sp) (gV : List V → List V → List V) (E : L2.St → XK) (t tk : TA) : TE := fun σ H Q => t σ H fun vs H1 => tk σ H1 fun zs H2 => vs.length = n ∧ zs.length = m ∧ sp (gV vs zs) H2 Q (E σ)
section
variable {X : Cx} {k j n : Nat} {ks : List Str} {sp : Sp} {x : Str} {p pos : Pos} {e : Expr} {es : List Expr} {kws : List Keyword} {t tk : TA} {W : WX} {gV : List V → List V → List V} {dvs : List V}
theorem r_callNS {n m : Nat} {E : L2.St → XK} {σ : L2.St} {H : Hp} {Q : VK} (q : t σ H fun vs H1 => tk σ H1 fun zs H2 => vs.length = n ∧ zs.length = m ∧ sp (gV vs zs) H2 Q (E σ)) : tCallNS n m sp gV E t tk σ H Q := q
theorem pe_calMY (c : CalMX X.prog X.w X.K X.mg X.base k n ks x sp gV) (hr : Room j X.A) (hk : k ≤ j) (hg : Gl X x) (ha : PA X (e :: es) t) (hkw : PK X kws tk)
    (hall : (backToKw pos (keywordEach kws X.env)).all (·.1.isSome) = true := by rfl) (hks : (backToKw pos (keywordEach kws X.env)).filterMap (·.1) = ks := by rfl)
    (hdb : (x == ("__debug__" : Str)) = false := by decide) (he : starEach (e :: es) X.env = (false, eval e X.env) :: starEach es X.env := by rfl)
    (hpl : ((backTo pos (starEach (e :: es) X.env)).any (·.1) || (backToKw pos (keywordEach kws X.env)).any (·.1.isNone)) = false := by rfl) :
    PE X (.Call (.Name x p) (e :: es) kws pos) (tCallN n ks.length sp gV noE t tk) := by
  obtain ⟨f, fd, ps, g, h1, h2, h3, h4⟩ := c.ex
  exact pe_callN h3 (hr.mono hk) hg h1 h2 h4 pass_no ha hkw hall hks hdb he hpl
theorem pe_calYD (c : CalXD X.prog X.w X.K X.mg X.base k x sp dvs) (hr : Room j X.A) (hk : k ≤ j) (hg : Gl X x) (ha : PA X (e :: es) t)
    (hdb : (x == ("__debug__" : Str)) = false := by decide) (he : starEach (e :: es) X.env = (false, eval e X.env) :: starEach es X.env := by rfl) (hpl : (backTo pos (starEach es X.env)).any (·.1) = false := by rfl) :
    PE X (.Call (.Name x p) (e :: es) [] pos) (tCall sp dvs noE t) := by
  obtain ⟨f, fd, ps, ds, h1, h2, h3, h4, h5⟩ := c.ex
  exact pe_call h3 (hr.mono hk) hg h1 h2 h4 h5 pass_no ha hdb he hpl
/-- in a try -/
theorem pe_calMT (c : CalMX X.prog X.w X.K X.mg X.base k n ks x sp gV) (hr : Room j X.A) (hk : k ≤ j) (hg : Gl X x) (tkW : Takes X W) (ha : PA X (e :: es) t) (hkw : PK X kws tk)
    (hall : (backToKw pos (keywordEach kws X.env)).all (·.1.isSome) = true := by rfl) (hks : (backToKw pos (keywordEach kws X.env)).filterMap (·.1) = ks := by rfl)
    (hdb : (x == ("__debug__" : Str)) = false := by decide) (he : starEach (e :: es) X.env = (false, eval e X.env) :: starEach es X.env := by rfl)
    (hpl : ((backTo pos (starEach (e :: es) X.env)).any (·.1) || (backToKw pos (keywordEach kws X.env)).any (·.1.isNone)) = false := by rfl) :
    PE X (.Call (.Name x p) (e :: es) kws pos) (tCallNS n ks.length sp gV (WE W) t tk) := by
  obtain ⟨f, fd, ps, g, h1, h2, h3, h4⟩ := c.ex
  refine ⟨fun pins s σ H Q I h => ?_⟩
  refine wpAny_Call_Name_kw (ld_glob I hg h1 (PySem.W.callWith_KW (h₀ := X.base) I.ok.mod.kin h2 hall (thn (ha.run pos pins s σ H _ I h) fun us s1 ⟨vs, H1, I1, r, q⟩ => ?_) hpl he) hdb)
  refine thn (hkw.run pos pins s1 σ H1 _ I1 q) fun ws s2 ⟨zs, H2, I2, rz, l1, l2, q2⟩ => ⟨I2.kIn, ?_⟩
  rw [hks]
  refine wpAny_call (codeAny_mono (h3.run X.A X.stack s2 H2 ⟨us, ks.zip ws⟩ (g us ws) (gV vs zs) Q (WE W σ) (hr.mono hk) I2.env0 (h4.to s2 us ws I2.kIn (r.length.symm.trans l1) (rz.length.symm.trans l2)) (h4.rel r rz) q2) fun rr s3 z => ?_)
  match rr, z with
  | .error u, z => exact passAt tkW σ pins H2 s2 u s3 I2 z
  | .ok (.ret _), z => exact I2.after z
end
theorem ix_listK {X : Cx} {K : PySem.W.Frag} (h : X.K = K) : IxR X (rIxL K) := by
  subst h
  exact ix_list
theorem ix_tupK {X : Cx} {K : PySem.W.Frag} (h : X.K = K) : IxR X (rIxT K) := by
  subst h
  exact ix_tup
end Bk

namespace Bk
open PySem PySem.Spec PySem.Calls PyProof.Rows L2
/-! ## 20a. own exception classes under ValueError, LookupError or KeyError -/
/-- what a built-in __init__ of errors must be -/
structure IniF (B initId : String) : Prop where
  init : Slot B "__init__" initId
  entry : entryFor table initId = some Builtin.«BaseException.__init__»
  split : splitId initId = some (B, "__init__")
  kind : builtinKind initId = some .slot
  row : Manifest.signature? initId = some ⟨.positional, "*", B, .self, [⟨"args", .varPos, false⟩]⟩
  noStar : (B != "*") = true
theorem inf_of {B newId initId : String} (F : ExcCallFacts B newId initId) : IniF B initId := ⟨F.init, F.initEntry, F.initSplit, F.initKind, F.initRow, F.noStar⟩
theorem inf_KE : IniF "KeyError" "KeyError.__init__" where
  init := .of (owner := "KeyError") (n := "__init__") (by rw [typeLookup_type, builtinLookup_eq_fast]; kernel_rfl) (by decide +kernel) (by decide +kernel) (by decide +kernel)
    (by first | exact .inl (by decide +kernel) | exact .inr (by decide +kernel)) (by rw [isSubtype_type]; kernel_rfl)
  entry := entryFor_alias (id' := "BaseException.__init__") (by rw [fastTable_eq_tree]; kernel_rfl) (by first | rfl | decide +kernel) (by decide +kernel) (by rw [fastTable_eq_tree]; kernel_rfl)
  split := by kernel_rfl
  kind := by kernel_rfl
  row := by kernel_rfl
  noStar := by decide +kernel
section
variable {M : Model} {prog : Program} {w : World} {A : Around} {E : Value → Shared → Prop} {R : Result → Shared → Prop} {h : Heap} {g : Array GenState} {d : Drawn} {t : Nat} {os : OsState}
variable {nm q : Str} {C N : Addr} {bs bm bmB : List Value} {hdct : Bool} {sn : List Str} {sub : List Value} {ab : Bool} {col : Option Bool} {dd : Option Addr} {k0 k1 k2 k3 k5 : Option Value} {B newId i0 IB initId : String} {rest : List Value}
theorem checkNewW (F : ExcBaseFacts B newId i0 bmB) (hB : bm.contains (.type B) = true) {Q : Unit → Shared → Prop} (hC : h.get? C = some (excClassObj nm q C N bs bm hdct sn sub ab col dd k0 k1 k2 k3 k5 newId)) (hq : Q () ⟨h, g, d, t, os⟩) :
    wpAny M A (checkBuiltinCall newId ⟨.ref C :: rest, []⟩) Q E ⟨h, g, d, t, os⟩ := by
  have cB : (Value.ref C :: bm).contains (.type B) = true := by rw [List.contains_cons, hB, Bool.or_true]
  have star := F.noStar
  simp only [checkBuiltinCall, F.newKind, F.newSplit, F.newRow]
  repeat (first | refine wpAny_loadPart_at hC ?_ | (refine wpAny_isSubtype_exc hC ?_; rw [cB]) | refine wpAny_staticBase_exc hC ?_ | refine wpAny_madeBy_exc hC ?_ | simp only [bne_self_eq_false, Bool.false_eq_true, if_false] | wp_step)
  exact hq
theorem checkInitW (F : IniF IB initId) (hI : bm.contains (.type IB) = true) {e : Addr} {oe : Obj} {Q : Unit → Shared → Prop} (hC : h.get? C = some (excClassObj nm q C N bs bm hdct sn sub ab col dd k0 k1 k2 k3 k5 newId)) (he : h.get? e = some oe) (hcls : oe.cls = .ref C) (hq : Q () ⟨h, g, d, t, os⟩) :
    wpAny M A (checkBuiltinCall initId ⟨.ref e :: rest, []⟩) Q E ⟨h, g, d, t, os⟩ := by
  have cI : (Value.ref C :: bm).contains (.type IB) = true := by rw [List.contains_cons, hI, Bool.or_true]
  have star := F.noStar
  simp only [checkBuiltinCall, F.kind, F.split, F.row]
  repeat (first | (with_reducible refine wpAny_loadPart_at he ?_; rw [hcls]) | with_reducible refine wpAny_loadPart_at hC ?_ | (with_reducible refine wpAny_isSubtype_exc hC ?_; rw [cI]) | wp_step)
  refine wpAny_onRaise ?_
  rw [show ∀ (a b : String) (n : Nat), Bind.check ⟨.positional, "*", IB, .self, [⟨"args", .varPos, false⟩]⟩ a b n (List.map (fun x => x.fst) ({ pos := Value.ref e :: rest } : Args).kw) = pure () from fun a b n => check_star_args _ _ _ _ _ _]
  exact wpAny_pure hq
theorem newW (F : ExcBaseFacts B newId i0 bmB) (hB : bm.contains (.type B) = true) (hA : bm.contains (.type "AttributeError") = false) (hN : bm.contains (.type "NameError") = false) (hC : h.get? C = some (excClassObj nm q C N bs bm hdct sn sub ab col dd k0 k1 k2 k3 k5 newId)) (hrest : rest.length ≤ sizeLine)
    (hq : R (.ok (.ret (.ref (h.objs.size + 1)))) ⟨(h.push (PySem.W.kdv_tup rest)).push (PySem.HandSPX.excO C h.objs.size), g, d, t, os⟩) : codeAny (model prog w) A (.builtin newId ⟨.ref C :: rest, []⟩) R ⟨h, g, d, t, os⟩ := by
  have hends := F.ends
  have cB : (Value.ref C :: bm).contains (.type B) = true := by rw [List.contains_cons, hB, Bool.or_true]
  have cA : (Value.ref C :: bm).contains (.type "AttributeError") = false := by rw [List.contains_cons, hA]; rfl
  have cN : (Value.ref C :: bm).contains (.type "NameError") = false := by rw [List.contains_cons, hN]; rfl
  refine codeAny_builtinAt F.entry ?_
  unfold Builtin.«BaseException.__new__»
  refine PySem.wpAt_bind ?_
  show PySem.wpAt _ _ _ (stack >>= _) _ _ _
  refine PySem.wpAt_bind (PySem.wpAt_stack fun p below => PySem.wpAt_of_wpAny ?_)
  wp_walk
  refine PySem.wpAt_of_wpAny ?_
  rw [F.owner]
  repeat (first | with_reducible refine wpAny_madeHere_exc F.canon hC ?_ | with_reducible refine wpAny_loadPart_at hC ?_ | (with_reducible refine wpAny_isSubtype_exc hC ?_; first | rw [cB] | rw [cA] | rw [cN]) | wp_step)
  show R _ _
  rw [Heap.size_push]
  exact hq
theorem typeCallW (F : ExcBaseFacts B newId i0 bmB) (hB : bm.contains (.type B) = true) (hA : bm.contains (.type "AttributeError") = false) (hN : bm.contains (.type "NameError") = false) {fI : Addr} {Q : Fin → Shared → Prop} (hC : h.get? C = some (excClassObj nm q C N bs bm hdct sn sub ab col dd k0 k1 k2 k3 k5 newId))
    (hi : PySem.W.Looks (model prog w) h (typeLookup (.ref C) "__init__") (some (.ref fI))) (hb : ∀ self, PySem.W.Looks (model prog w) h (bindSpecial (.ref fI) self) (.ref fI, [self])) (hrest : rest.length ≤ sizeLine) {kw : List (Str × Value)} {Af : Around}
    (hq : codeAny (model prog w) A (.call (.ref fI) ⟨.ref (h.objs.size + 1) :: rest, []⟩) (fun r s' => match r with | .ok (.ret v) => v = .none ∧ Q (.done (.ret (.ref (h.objs.size + 1)))) s' | .ok _ => False | .error e => E e s') ⟨(h.push (PySem.W.kdv_tup rest)).push (PySem.HandSPX.excO C h.objs.size), g, d, t, os⟩) :
    wpAny (model prog w) A (Builtin.«type.__call__» ⟨.ref C :: rest, []⟩) Q E ⟨h, g, d, t, os⟩ := by
  repeat (first | with_reducible refine wpAny_loadPart_at hC ?_ | with_reducible refine wpAny_madeBy_exc hC ?_ | wp_step)
  refine codeAny_call_builtin_code (Code.quiet_builtin _ F.quiet) (checkNewW F hB hC ?_)
  refine newW F hB hA hN hC hrest ?_
  show wpAny _ _ _ _ _ _
  have k : ∀ c o, h.get? c = some o → ((h.push (PySem.W.kdv_tup rest)).push (PySem.HandSPX.excO C h.objs.size)).get? c = some o := fun c o e => Heap.get?_push_of_some _ (Heap.get?_push_of_some _ e)
  have hC1 := k _ _ hC
  have hget : ((h.push (PySem.W.kdv_tup rest)).push (PySem.HandSPX.excO C h.objs.size)).get? (h.objs.size + 1) = some (PySem.HandSPX.excO C h.objs.size) := by heap_get
  have cC : (Value.ref C :: bm).contains (.ref C) = true := by simp
  have i1 := hi.keeps k
  have b1 := (hb (.ref (h.objs.size + 1))).keeps k
  unfold isInstance
  repeat (first | with_reducible refine wpAny_loadPart_at hget ?_ | (with_reducible refine wpAny_isSubtype_exc hC1 ?_; rw [cC]) | wp_step)
  show wpAny _ _ (typeLookup (.ref C) _) _ _ _
  refine i1.at (wpAny_holding (wpAny_bind (b1.at (wpAny_bind (wpAny_call (codeAny_mono hq fun r s' z => ?_))))))
  rcases r with e | (v | _ | _ | _) <;> first | exact z | exact z.elim | skip
  obtain ⟨rfl, z⟩ := z
  first
    | exact wpAny_pure (wpAny_pure z)
    | (wp_walk; exact z)
theorem callW (F : ExcBaseFacts B newId i0 bmB) (hB : bm.contains (.type B) = true) (hA : bm.contains (.type "AttributeError") = false) (hN : bm.contains (.type "NameError") = false) {fI : Addr} (hC : h.get? C = some (excClassObj nm q C N bs bm hdct sn sub ab col dd k0 k1 k2 k3 k5 newId))
    (hi : PySem.W.Looks (model prog w) h (typeLookup (.ref C) "__init__") (some (.ref fI))) (hb : ∀ self, PySem.W.Looks (model prog w) h (bindSpecial (.ref fI) self) (.ref fI, [self])) (hrest : rest.length ≤ sizeLine)
    (hq : codeAny (model prog w) (A.under (.builtin "type.__call__" ⟨.ref C :: rest, []⟩)) (.call (.ref fI) ⟨.ref (h.objs.size + 1) :: rest, []⟩) (PySem.W.InitBack (h.objs.size + 1) R) ⟨(h.push (PySem.W.kdv_tup rest)).push (PySem.HandSPX.excO C h.objs.size), g, d, t, os⟩) :
    codeAny (model prog w) A (.call (.ref C) ⟨rest, []⟩) R ⟨h, g, d, t, os⟩ := by
  have f1 := PySem.tc_lookup
  have f2 := PySem.tc_bind (.ref C)
  have hTy : (⟨h, g, d, t, os⟩ : Shared).TypeIs (.ref C) "type" := ⟨_, hC, rfl⟩
  refine codeAny_of_tree ?_
  show wpAny _ _ (callAny (.ref C) _) _ _ _
  repeat (any_goals (first | assumption | with_reducible refine wpAny_loadPart_at hC ?_ | wp_step))
  refine ⟨rfl, codeAny_call_builtin_at (Code.quiet_builtin _ (by decide +kernel)) entry_typeCall (wpAny_check_type_call_sub hC (typeCallW F hB hA hN hC hi hb hrest (kw := []) (Af := A) ?_))⟩
  refine codeAny_mono hq fun r s' z => ?_
  rcases r with e | (v | _ | _ | _) <;> exact z
theorem initW (F : IniF IB initId) (hI : bm.contains (.type IB) = true) {e t0 : Addr} (hC : h.get? C = some (excClassObj nm q C N bs bm hdct sn sub ab col dd k0 k1 k2 k3 k5 newId)) (he : h.get? e = some (PySem.HandSPX.excO C t0)) (hrest : rest.length ≤ sizeLine)
    (hq : ∀ h' t1, (∀ c o, c ≠ e → h.get? c = some o → h'.get? c = some o) → h'.get? e = some (PySem.HandSPX.excO C t1) → R (.ok (.ret .none)) ⟨h', g, d, t, os⟩) : codeAny (model prog w) A (.call (.builtin initId) ⟨.ref e :: rest, []⟩) R ⟨h, g, d, t, os⟩ := by
  refine codeAny_call_builtin F.init.plain F.entry (checkInitW F hI hC he rfl ?_)
  wp_walk
  refine hq _ h.objs.size (fun c o hc ho => ?_) ?_
  · rw [Heap.get?_update_other _ _ (Ne.symm hc)]
    exact Heap.get?_push_of_some _ ho
  · rw [Heap.get?_update_self _ (Heap.get?_push_of_some _ he) rfl]
    rfl
end
inductive Bs where
  | ve
  | le
  | ke
def Bs.nm : Bs → String
  | .ve => "ValueError"
  | .le => "LookupError"
  | .ke => "KeyError"
/-- whose __new__ it is -/
def Bs.nb : Bs → String
  | .ve => "ValueError"
  | _ => "LookupError"
def Bs.new : Bs → String
  | .ve => "ValueError.__new__"
  | _ => "LookupError.__new__"
def Bs.init : Bs → String
  | .ve => "ValueError.__init__"
  | .le => "LookupError.__init__"
  | .ke => "KeyError.__init__"
def Bs.tl : Bs → List Value
  | .ve => [.type "ValueError", .type "Exception", .type "BaseException", .type "object"]
  | .le => [.type "LookupError", .type "Exception", .type "BaseException", .type "object"]
  | .ke => [.type "KeyError", .type "LookupError", .type "Exception", .type "BaseException", .type "object"]
theorem Bs.f : ∀ b : Bs, ∃ i0 bmB, ExcBaseFacts b.nb b.new i0 bmB
  | .ve => ⟨_, _, F.excBase_ValueError⟩
  | .le => ⟨_, _, F.excBase_LookupError⟩
  | .ke => ⟨_, _, F.excBase_LookupError⟩
theorem Bs.i : ∀ b : Bs, IniF b.nm b.init
  | .ve => inf_of F.excBase_ValueError.toExcCallFacts
  | .le => inf_of F.excBase_LookupError.toExcCallFacts
  | .ke => inf_KE
theorem pass_KE (self : Value) : refuseLoop self "__setattr__" [.type "KeyError", .type "LookupError", .type "Exception", .type "BaseException", .type "object"] = pure () := by kernel_rfl
theorem Bs.pass : ∀ (b : Bs) (self : Value), refuseLoop self "__setattr__" b.tl = pure ()
  | .ve, self => F.store_ValueError.passes self
  | .le, self => F.store_LookupError.passes self
  | .ke, self => pass_KE self
theorem Bs.obj (b : Bs) : b.tl.contains (.type "object") = true := by cases b <;> decide +kernel
theorem Bs.hB (b : Bs) : b.tl.contains (.type b.nb) = true := by cases b <;> decide +kernel
theorem Bs.hI (b : Bs) : b.tl.contains (.type b.nm) = true := by cases b <;> decide +kernel
theorem Bs.hA (b : Bs) : b.tl.contains (.type "AttributeError") = false := by cases b <;> decide +kernel
theorem Bs.hN (b : Bs) : b.tl.contains (.type "NameError") = false := by cases b <;> decide +kernel
/-- own classes, then the built-in one's line -/
inductive Tail (b : Bs) : List Value → Prop
  | here : Tail b b.tl
  | own (C : Addr) {l : List Value} : Tail b l → Tail b (.ref C :: l)
section
variable {b : Bs} {l : List Value}
theorem Tail.pass (h : Tail b l) (self : Value) : refuseLoop self "__setattr__" l = pure () := by
  induction h with
  | here => exact b.pass self
  | own C _ ih => rw [refuseLoop_ref]; exact ih
theorem Tail.has (h : Tail b l) (X : String) : l.contains (.type X) = b.tl.contains (.type X) := by
  induction h with
  | here => rfl
  | own C _ ih => rw [List.contains_cons, ih]; rfl
theorem Tail.ne (h : Tail b l) : l.isEmpty = false := by
  cases h with
  | here => cases b <;> rfl
  | own C _ => rfl
end
section
open Builtin Builtin.ObjectAttr
variable {prog : Program} {w : World} {A : Around} {E : Value → Shared → Prop} {R : Result → Shared → Prop} {hp : Heap} {g : Array GenState} {d : Drawn} {t : Nat} {os : OsState}
/-- the first field of an exception -/
theorem osaT {K : PySem.W.Frag} {b : Bs} {name : Str} {tk : Tok} {v : Value} {x C : Addr} {fv : Array Value} {cd : ClassData} (X : K.In hp) (hx : hp.get? x = some { cls := .ref C, data := .fields fv }) (hcd : PySem.W.clsIn K C = some cd) (hm : Tail b cd.mro) (hh : cd.hasDict = true) (ha : PySem.W.findIn K (.ref C) name = some none)
    (hq : ∀ h' tk' dx, (∀ c o, c ≠ x → hp.get? c = some o → h'.get? c = some o) → hp.objs.size ≤ dx → dx ≠ x → h'.get? x = some { cls := .ref C, dict := some dx, data := .fields fv } → h'.Ns1 dx (fun y => if y = name then some v else none) → R (.ok (.ret .none)) ⟨h', g, d, tk', os⟩) :
    codeAny (model prog w) A (.call (.builtin "object.__setattr__") ⟨[.ref x, .str name tk, v], []⟩) R ⟨hp, g, d, t, os⟩ := by
  have I : PySem.W.InstAt hp x { cls := .ref C, data := .fields fv } C none := ⟨hx, rfl, rfl, trivial⟩
  have SF := F.store_object
  have hob : cd.mro.contains (.type "object") = true := (hm.has "object").trans b.obj
  have hxs : x ≠ hp.objs.size := Nat.ne_of_lt (Heap.lt_size hx)
  have isO : PySem.W.Looks (model prog w) hp (isInstance (.ref x) (.type "object")) true :=
    I.type.andThen (PySem.W.looks_mroIn X (by unfold PySem.W.mroIn; rw [hcd, Option.bind_some, if_neg (by rw [hm.ne]; decide), hob]))
  have lineL : PySem.W.Looks (model prog w) hp (mroOf (.ref C)) cd.mro := (PySem.W.looks_clsIn X hcd).andThen .now
  have noTaker : PySem.W.Looks (model prog w) hp (storeTaker? none) none := .now
  have clsL : PySem.W.Looks (model prog w) hp (classData C) cd := PySem.W.looks_clsIn X hcd
  refine codeAny_call_builtin SF.slot.plain SF.entry (@PySem.W.check_slot (model prog w) _ _ ⟨hp, g, d, t, os⟩ "object.__setattr__" "object" "__setattr__" (.ref x) [.str name tk, v] [] _ SF.kind SF.split isO (SF.args (.ref x) (.str name tk) v) ?_)
  rw [PySem.W.osa_eq, refuse_eq]
  refine wpAny_bind (wpAny_bind (I.type.at (wpAny_bind (lineL.at ?_))))
  rw [hm.pass]
  refine wpAny_pure (wpAny_bind (I.type.at (wpAny_bind ((PySem.W.looks_findIn X ha).at (wpAny_bind (noTaker.at ?_))))))
  show wpAny _ _ (storeInOwnDict (.ref x) (.ref C) (.str name tk) name v false) _ _ _
  obtain ⟨nm, bs, mro, ns, qn, hd, sn, sb, ab, col, del⟩ := cd
  dsimp only at hh
  subst hh
  unfold storeInOwnDict ownDictForStores
  repeat (first | with_reducible refine PySem.HandSPX.store_in_new ?_ ?_ | with_reducible refine wpAny_loadPart_at hx ?_ | with_reducible refine clsL.at ?_ | wp_step)
  · exact ⟨_, #[], _, (Heap.get?_update_ne _ _ _ _ hxs.symm).trans (Heap.get?_push_at rfl rfl), rfl, fun e he => absurd he (by simp), fun _ => rfl⟩
  · intro h' tk' hn' hs
    have hx1 : (hp.push { cls := .type "dict", data := .dict #[] }).get? x = some { cls := .ref C, data := .fields fv } := Heap.get?_push_of_some _ hx
    refine hq h' tk' hp.objs.size (fun c o hc ho => ?_) (Nat.le_refl _) hxs.symm ?_ hn'
    · have z1 := hs.2 c (Nat.ne_of_lt (Heap.lt_size ho))
      exact z1.trans ((Heap.get?_update_ne _ _ _ _ hc).trans (Heap.get?_push_of_some _ ho))
    · exact (hs.2 x hxs).trans (Heap.get?_update_self _ hx1 rfl)
end
/-- what the written part says of the class -/
structure OexT (K : PySem.W.Frag) (b : Bs) (C : Addr) : Prop where
  cls : ∃ nm q N bs bm sn sub ab col dd k0 k1 k2 k3 k5, K.lookup C = some (excClassObj nm q C N bs bm true sn sub ab col dd k0 k1 k2 k3 k5 b.new) ∧ Tail b bm
  sa : PySem.W.findIn K (.ref C) "__setattr__" = some (some (.builtin "object.__setattr__"))
  exC : PySem.W.subIn K (.ref C) (.type "BaseException") = some true
  tyC : PySem.W.typeIn K (.ref C) = some (.type "type")
  kC : PySem.W.keepIn K (.ref C) = true
section
variable {X : Cx} {pins : List (Addr × Obj)} {σ : L2.St} {H : Hp} {s : Shared} {a C dx : Addr} {f : Str} {y : V} {u : Value} {b : Bs} {Q : Unit → Shared → Prop} {E : Value → Shared → Prop} {A : Around}
theorem ost_newT (T : OexT X.K b C) (I : Inv X pins σ H s) (e : H a = some (exo a C none)) (hno : PySem.W.findIn X.K (.ref C) f = some none) (ry : RelV y u)
    (h : ∀ dx s', H dx = none → dx ≠ a → Inv X pins σ (upd (upd H dx (exd dx [(f, y)])) a (exo a C (some dx))) s' → Q () s') : wpAny (model X.prog X.w) A (setAttr (.ref a) f u) Q E s := by
  obtain ⟨nm, q, N, bs, bm, sn, sub, ab, col, dd, k0, k1, k2, k3, k5, hC, hbm⟩ := T.cls
  obtain ⟨t1, ho⟩ := exo_at I.hok e
  obtain ⟨hp, g, d, t, os⟩ := s
  have hcl : PySem.W.clsIn X.K C = some { name := nm, bases := bs, mro := .ref C :: bm, ns := N, qualname := q, hasDict := true, slotNames := sn, subclasses := sub, abstract := ab, collection := col, hasDel := false } := by
    unfold PySem.W.clsIn
    rw [hC] <;> rfl
  refine PySem.W.set_plain I.kIn (ox := { cls := .ref C, dict := none, data := .fields #[.ref t1, .none, .none, .none, .bool false, .none] }) (od := none) ⟨ho, rfl, rfl, trivial⟩ T.sa ?_
  refine osaT I.kIn ho hcl (.own C hbm) rfl hno fun h' tk' dx k dn dne hx hn => ?_
  have hnd : H dx = none := I.hok.fresh dn
  have nd : ∀ {c : Addr} {o : Obj}, hp.get? c = some o → c ≠ dx := fun {c o} z => Nat.ne_of_lt (Nat.lt_of_lt_of_le (Heap.lt_size z) dn)
  have na : ∀ {c : Addr}, H c = none → c ≠ a := fun {c} n z => by
    rw [z, e] at n
    exact nomatch n
  have un : Un X.fs [] H (upd (upd H dx (exd dx [(f, y)])) a (exo a C (some dx))) hp h' := by
    refine ⟨fun c o z n _ _ => k c o (na n) z, fun c o z n _ _ => ⟨o.slots, k c o (na n) z⟩, fun c o z n _ => by rw [upd_ne (na n), upd_ne (nd z)]; exact n, fun c o z _ => ?_, fun c xs z => ?_, fun c o v z => ?_, fun c ps z => ⟨#[], ?_⟩⟩
    · by_cases hc : c = a
      · exact ⟨_, by rw [hc]; exact hx⟩
      · exact ⟨o, k c o hc z⟩
    · rw [upd_ne (at_ne e z exo_tup), upd_ne (ne_of_none z hnd)]; exact z
    · rw [upd_ne (at_ne e z exo_frz), upd_ne (ne_of_none z hnd)]; exact z
    · rw [upd_ne (at_ne e z exo_tbl), upd_ne (ne_of_none z hnd), z]; simp
  refine h dx _ hnd dne (I.un (t' := tk') un fun c o z => ?_)
  by_cases hc : c = a
  · subst hc
    rw [upd_same] at z
    obtain rfl := Option.some.inj z
    exact exo_ok hx
  · rw [upd_ne hc] at z
    by_cases hd : c = dx
    · subst hd
      rw [upd_same] at z
      obtain rfl := Option.some.inj z
      exact exd_ok hn (relO_put (fs := []) ry fun _ => True.intro)
    · rw [upd_ne hd] at z
      refine (I.hok c o z).stay (fun c2 v hc2 z2 => k c2 v ?_ z2) (fun c2 z2 => ?_) fun c2 xs z2 => ?_
      · rcases hc2 with q2 | q2
        · rw [q2]; exact hc
        · exact at_ne e q2 exo_own
      · rw [upd_ne (at_ne e z2 exo_own), upd_ne (ne_of_none z2 hnd)]; exact z2
      · rw [upd_ne (at_ne e z2 exo_tup), upd_ne (ne_of_none z2 hnd)]; exact z2
/-- the built-in class's __init__: nothing of it is told -/
theorem oinitT {us : List Value} {Q : Value → Shared → Prop} (T : OexT X.K b C) (I : Inv X pins σ H s) (e : H a = some (exo a C none)) (hl : us.length ≤ sizeLine) (h : ∀ s', Inv X pins σ H s' → Q .none s') : wpAny (model X.prog X.w) A (call (.builtin b.init) (.ref a :: us)) Q E s := by
  obtain ⟨nm, q, N, bs, bm, sn, sub, ab, col, dd, k0, k1, k2, k3, k5, hC, hbm⟩ := T.cls
  obtain ⟨t1, ho⟩ := exo_at I.hok e
  obtain ⟨hp, g, d, t, os⟩ := s
  refine wpAny_call (initW b.i ((hbm.has _).trans b.hI) (I.kIn _ _ hC) ho hl fun h' t2 k hx => ?_)
  have J := I.write (t' := t) (x := a) (e := a) (o := exo a C none) (by rw [e]; exact True.intro) (.inl rfl) k ⟨_, hx⟩ (exo_ok hx)
  have eu : upd H a (exo a C none) = H := funext fun c => by
    by_cases hc : c = a
    · rw [hc, upd_same, e]
    · rw [upd_ne hc]
  exact h _ (eu ▸ J)
end
def tBaI (K : PySem.W.Frag) (b : Bs) (ta : TA) : TE := fun σ H Q => ta σ H fun vs H1 => ∃ (a C : Addr) (ws : List V), vs = .ref a :: ws ∧ ws.length ≤ 1000 ∧ OexT K b C ∧ H1 a = some (exo a C none) ∧ Q .non H1
/-- self.f = e, the first one -/
def tOsN (K : PySem.W.Frag) (f : Str) (to te : TE) : TS := fun D σ H => te σ H fun y H1 => to σ H1 fun x H2 => ∃ (b : Bs) (a C : Addr), x = .ref a ∧ OexT K b C ∧ PySem.W.findIn K (.ref C) f = some none ∧
  H2 a = some (exo a C none) ∧ ∀ dx, H2 dx = none → dx ≠ a → D.nx σ (upd (upd H2 dx (exd dx [(f, y)])) a (exo a C (some dx)))
section
variable {X : Cx} {o e : Expr} {es : List Expr} {to te : TE} {ta : TA} {f : Str} {p p' p1 p2 pos : Pos}
theorem typ_LE : typeOf (.type "LookupError") = pure (.type "type") := by kernel_rfl
theorem pe_veI {pl : Sem Bool} (hg : Gl X "ValueError") (hm : X.mg "ValueError" = none) (vV : PySem.W.findCls X.K (.type "ValueError") (.type "type") "__init__" = some (.val (.builtin "ValueError.__init__"))) (ha : PA X (e :: es) ta)
    (hc : eval (.Call (.Attribute (.Name "ValueError" p1) "__init__" p2) (e :: es) [] pos) X.env = (do
      let ov ← eval (.Name "ValueError" p1) X.env
      standAt p2.atName
      let (f, first) ← holding [ov] (getMethod ov "__init__" pl)
      callWith pos f first (backTo pos (starEach (e :: es) X.env)) (backToKw pos (keywordEach [] X.env))) := by rfl)
    (he : starEach (e :: es) X.env = (false, eval e X.env) :: starEach es X.env := by rfl) (hpl : (backTo pos (starEach es X.env)).any (·.1) = false := by rfl) :
    PE X (.Call (.Attribute (.Name "ValueError" p1) "__init__" p2) (e :: es) [] pos) (tBaI X.K .ve ta) := by
  refine ⟨fun pins s σ H Q I h => PySem.W.methodCall_KW (ld_blt I hg hm PyProof.Rows.Boot.«ValueError» ?_ (by decide) (by decide)) hc⟩
  obtain ⟨m, fr⟩ := I.fr
  refine PySem.W.method_type fr I.ok.mod.kin PySem.OEX.typ_VE (by decide +kernel) vV (by decide +kernel) ?_
  refine PyProof.Rows.callWith_method1 (thn (ha.run pos pins _ σ H _ (I.tok _) h) fun us s1 ⟨vs, H1, I1, r1, a, C, ws, ev, hl, T, ea, q⟩ => ?_) he hpl
  subst ev
  cases r1 with
  | @cons _ u0 _ ur ra rw' =>
    obtain rfl : u0 = Value.ref a := ra
    exact oinitT T I1 ea (by rw [← Paired.length rw', sizeLine_eq]; omega) fun s' J => ⟨.non, H1, J, rfl, q⟩
theorem pe_leI {pl : Sem Bool} (hg : Gl X "LookupError") (hm : X.mg "LookupError" = none) (vV : PySem.W.findCls X.K (.type "LookupError") (.type "type") "__init__" = some (.val (.builtin "LookupError.__init__"))) (ha : PA X (e :: es) ta)
    (hc : eval (.Call (.Attribute (.Name "LookupError" p1) "__init__" p2) (e :: es) [] pos) X.env = (do
      let ov ← eval (.Name "LookupError" p1) X.env
      standAt p2.atName
      let (f, first) ← holding [ov] (getMethod ov "__init__" pl)
      callWith pos f first (backTo pos (starEach (e :: es) X.env)) (backToKw pos (keywordEach [] X.env))) := by rfl)
    (he : starEach (e :: es) X.env = (false, eval e X.env) :: starEach es X.env := by rfl) (hpl : (backTo pos (starEach es X.env)).any (·.1) = false := by rfl) :
    PE X (.Call (.Attribute (.Name "LookupError" p1) "__init__" p2) (e :: es) [] pos) (tBaI X.K .le ta) := by
  refine ⟨fun pins s σ H Q I h => PySem.W.methodCall_KW (ld_blt I hg hm PyProof.Rows.Boot.«LookupError» ?_ (by decide) (by decide)) hc⟩
  obtain ⟨m, fr⟩ := I.fr
  refine PySem.W.method_type fr I.ok.mod.kin typ_LE (by decide +kernel) vV (by decide +kernel) ?_
  refine PyProof.Rows.callWith_method1 (thn (ha.run pos pins _ σ H _ (I.tok _) h) fun us s1 ⟨vs, H1, I1, r1, a, C, ws, ev, hl, T, ea, q⟩ => ?_) he hpl
  subst ev
  cases r1 with
  | @cons _ u0 _ ur ra rw' =>
    obtain rfl : u0 = Value.ref a := ra
    exact oinitT T I1 ea (by rw [← Paired.length rw', sizeLine_eq]; omega) fun s' J => ⟨.non, H1, J, rfl, q⟩
theorem typ_KE : typeOf (.type "KeyError") = pure (.type "type") := by kernel_rfl
theorem pe_keI {pl : Sem Bool} (hg : Gl X "KeyError") (hm : X.mg "KeyError" = none) (vV : PySem.W.findCls X.K (.type "KeyError") (.type "type") "__init__" = some (.val (.builtin "KeyError.__init__"))) (ha : PA X (e :: es) ta)
    (hc : eval (.Call (.Attribute (.Name "KeyError" p1) "__init__" p2) (e :: es) [] pos) X.env = (do
      let ov ← eval (.Name "KeyError" p1) X.env
      standAt p2.atName
      let (f, first) ← holding [ov] (getMethod ov "__init__" pl)
      callWith pos f first (backTo pos (starEach (e :: es) X.env)) (backToKw pos (keywordEach [] X.env))) := by rfl)
    (he : starEach (e :: es) X.env = (false, eval e X.env) :: starEach es X.env := by rfl) (hpl : (backTo pos (starEach es X.env)).any (·.1) = false := by rfl) :
    PE X (.Call (.Attribute (.Name "KeyError" p1) "__init__" p2) (e :: es) [] pos) (tBaI X.K .ke ta) := by
  refine ⟨fun pins s σ H Q I h => PySem.W.methodCall_KW (ld_blt I hg hm PyProof.Rows.Boot.«KeyError» ?_ (by decide) (by decide)) hc⟩
  obtain ⟨m, fr⟩ := I.fr
  refine PySem.W.method_type fr I.ok.mod.kin typ_KE (by decide +kernel) vV (by decide +kernel) ?_
  refine PyProof.Rows.callWith_method1 (thn (ha.run pos pins _ σ H _ (I.tok _) h) fun us s1 ⟨vs, H1, I1, r1, a, C, ws, ev, hl, T, ea, q⟩ => ?_) he hpl
  subst ev
  cases r1 with
  | @cons _ u0 _ ur ra rw' =>
    obtain rfl : u0 = Value.ref a := ra
    exact oinitT T I1 ea (by rw [← Paired.length rw', sizeLine_eq]; omega) fun s' J => ⟨.non, H1, J, rfl, q⟩
theorem ps_osN (ho : PE X o to) (he : PE X e te) (hs : swapsWith e (some (.Attribute o f p')) pos.line X.env = pure false := by rfl) : PS X (.Assign [.Attribute o f p'] e pos) (tOsN X.K f to te) := by
  refine ⟨fun pins s σ H D I h => plainObj_wpAny_Assign_Attribute (thn (he.run pins s σ H _ I h) fun v s1 ⟨y, H1, I1, r1, q1⟩ => thn (ho.run pins s1 σ H1 _ I1 q1) fun u s2 ⟨x, H2, I2, r2, b, a, C, ex, T, hno, ea, q⟩ => ?_) hs⟩
  subst ex
  obtain rfl : u = Value.ref a := r2
  exact ost_newT T I2 ea hno r1 fun dx s' n ne J => ⟨σ, _, J, q dx n ne⟩
/-- C(e, ..) that is raised -/
theorem pmk_oexT {b : Bs} {CX : CXT} {x : Str} {C fI : Addr} {k : Nat} {fd : FuncData} {ps : List Str} {sp : Sp} {ds : List Value} {dvs : List V} (T : OexT X.K b C) (iC : PySem.W.findIn X.K (.ref C) "__init__" = some (some (.ref fI))) (tI : PySem.W.typeIn X.K (.ref fI) = some (.type "function"))
    (F1 : FnOk X.prog X.w X.K X.mg X.base CX k fI fd ps sp) (hr : Room (k + 1) X.A) (hb : Binds X.K fd ps ds) (hd : Vals dvs ds) (hx : Passes CX X (fun _ _ _ => False)) (hg : Gl X x) (hm : X.mg x = some (.ref C)) (ha : PA X (e :: es) ta)
    (hdb : (x == ("__debug__" : Str)) = false := by decide) (he : starEach (e :: es) X.env = (false, eval e X.env) :: starEach es X.env := by rfl) (hpl : (backTo pos (starEach es X.env)).any (·.1) = false := by rfl) :
    PMk X (.Call (.Name x p) (e :: es) [] pos) (tMkO C sp dvs ta) := by
  intro pins s σ H Q I h
  obtain ⟨nm, q, N, bs, bm, sn, sub, ab, col, dd, k0, k1, k2, k3, k5, hC, hbm⟩ := T.cls
  refine wpAny_Call_Name_kw (ld_glob I hg hm ?_ hdb)
  refine PySem.W.callWith_K (h₀ := X.base) I.ok.mod.kin T.kC (thn (ha.run pos pins s σ H _ I h) fun us s1 ⟨vs, H1, I1, r1, hz, q1⟩ => ⟨I1.kIn, ?_⟩) he hpl
  show wpAny _ _ (call (.ref C) us) _ _ _
  obtain ⟨hp, g, dr, tk, os⟩ := s1
  have hsz : hp.objs.size ≤ hp.objs.size + 1 := Nat.le_succ _
  have hq := q1 (hp.objs.size + 1) (I1.hok.fresh hsz)
  have hget : ((hp.push (PySem.W.kdv_tup us)).push (PySem.HandSPX.excO C hp.objs.size)).get? (hp.objs.size + 1) = some (PySem.HandSPX.excO C hp.objs.size) := by heap_get
  have kk : ∀ c o, hp.get? c = some o → ((hp.push (PySem.W.kdv_tup us)).push (PySem.HandSPX.excO C hp.objs.size)).get? c = some o := fun c o z => Heap.get?_push_of_some _ (Heap.get?_push_of_some _ z)
  have I2 : Inv X pins σ (upd H1 (hp.objs.size + 1) (exo (hp.objs.size + 1) C none)) ⟨(hp.push (PySem.W.kdv_tup us)).push (PySem.HandSPX.excO C hp.objs.size), g, dr, tk, os⟩ :=
    I1.laid (t' := tk) (a := hp.objs.size + 1) (o := exo (hp.objs.size + 1) C none) (h' := (hp.push (PySem.W.kdv_tup us)).push (PySem.HandSPX.excO C hp.objs.size)) kk hsz (exo_ok hget)
  have r2 : Vals (V.ref (hp.objs.size + 1) :: (vs ++ dvs)) (Value.ref (hp.objs.size + 1) :: (us ++ ds)) := .cons rfl (r1.append hd)
  have hl : (Value.ref (hp.objs.size + 1) :: us ++ ds).length = ps.length := r2.length.symm.trans (F1.len _ _ _ _ hq)
  have hus : us.length ≤ sizeLine := by rw [← Paired.length r1, sizeLine_eq]; omega
  obtain ⟨i0, bmB, bf⟩ := b.f
  refine wpAny_call (callW bf ((hbm.has _).trans b.hB) ((hbm.has _).trans b.hA) ((hbm.has _).trans b.hN) (I1.kIn _ _ hC) (PySem.W.looks_findIn I1.kIn iC) (fun self => PySem.W.bind_fn I1.kIn self tI) hus
    (codeAny_mono (F1.run _ X.stack _ _ ⟨Value.ref (hp.objs.size + 1) :: us, []⟩ (Value.ref (hp.objs.size + 1) :: (us ++ ds)) _ _ (fun _ _ _ => False) (hr.make C us []) (I2.env0.make C us []) (hb _ (Value.ref (hp.objs.size + 1) :: us) I2.kIn hl) r2 hq) fun r s' hq' => ?_))
  match r, hq' with
  | .error er, hq' => exact hx pins σ _ _ er s' I2 hq'
  | .ok (.ret u), hq' =>
    obtain ⟨v, H2, os2, bare2, un2, hok2, rv, ev, d, fs, ea, ed, hd1, q2⟩ := hq'
    subst ev
    obtain ⟨h2, g2, d2, t2, os'⟩ := s'
    exact ⟨rv, mk_end (raises_own T.exC T.tyC) I1 hsz kk un2 hok2 os2 bare2 ea ed hd1 q2⟩
end
/-- Base.__init__(self, text) of an own family -/
def spGT (K : PySem.W.Frag) (b : Bs) : Sp := fun vs H Q _ => ∃ (a C : Addr) (x : V), vs = [.ref a, x] ∧ OexT K b C ∧ H a = some (exo a C none) ∧ Q .non H
end Bk

namespace Bk
open PySem PySem.Spec PyProof.Rows L2
/-! ## 21. methods of own classes: what is raised is wished for at the caller's slots -/
structure CalM (P : Program) (w : World) (K : PySem.W.Frag) (mg : Str → Option Value) (base : Heap) (CX : CXT) (k : Nat) (C : Addr) (m : Str) (sp : Sp) : Prop where
  ex : ∃ (f : Addr) (fd : FuncData) (ps : List Str), Meth K C m f ∧ FnOk P w K mg base CX k f fd ps sp ∧ Binds K fd ps []
structure CalMK (P : Program) (w : World) (K : PySem.W.Frag) (mg : Str → Option Value) (base : Heap) (CX : CXT) (k n : Nat) (ks : List Str) (C : Addr) (m : Str) (sp : Sp) (gV : List V → List V → List V) : Prop where
  ex : ∃ (f : Addr) (fd : FuncData) (ps : List Str) (g : List Value → List Value → List Value), Meth K C m f ∧ FnOk P w K mg base CX k f fd ps sp ∧ KBn K fd ps (n + 1) ks g gV
/-- C(..) of a class whose objects are plain -/
structure CalC (P : Program) (w : World) (K : PySem.W.Frag) (mg : Str → Option Value) (base : Heap) (CX : CXT) (k : Nat) (C : Addr) (x : Str) (sp : Sp) : Prop where
  ex : ∃ (f : Addr) (fd : FuncData) (ps : List Str), Mk K C f ∧ FnOk P w K mg base CX k f fd ps sp ∧ Binds K fd ps [] ∧ mg x = some (.ref C)
def tMeS (C : Addr) (m : Str) (sp : Sp) (E : L2.St → XK) (ta : TE) (t : TA) : TE := fun σ H Q => ta σ H fun x H1 => ∃ a dx fs, x = .ref a ∧ H1 a = some (.ins C dx fs) ∧ fs.lookup m = none ∧ t σ H1 fun vs H2 => sp (x :: vs) H2 Q (E σ)
def tMeK (C : Addr) (m : Str) (j : Nat) (sp : Sp) (gV : List V → List V → List V) (E : L2.St → XK) (ta : TE) (tk : TA) : TE := fun σ H Q => ta σ H fun x H1 => ∃ a dx fs, x = .ref a ∧ H1 a = some (.ins C dx fs) ∧ fs.lookup m = none ∧ tk σ H1 fun zs H2 => zs.length = j ∧ sp (gV [x] zs) H2 Q (E σ)
def tMkS (C : Addr) (sp : Sp) (E : L2.St → XK) (t : TA) : TE := fun σ H Q => t σ H fun vs H1 => ∀ x dx, H1 x = none → H1 dx = none → dx ≠ x →
  sp (.ref x :: vs) (upd (upd H1 dx (.own x)) x (.ins C dx [])) (fun v H2 => v = .non ∧ Q (.ref x) H2) (E σ)
section
variable {X : Cx} {CX : CXT} {k j n : Nat} {ks : List Str} {f C : Addr} {fd : FuncData} {ps : List Str} {sp : Sp} {E : L2.St → XK} {x m : Str} {p pos apos : Pos} {e o : Expr} {es : List Expr} {kws : List Keyword} {ta : TE} {t tk : TA} {W : WX} {gV : List V → List V → List V} {g : List Value → List Value → List Value}
theorem ps0 : ∀ σ, PassesAt CX0 X σ ((fun _ => E0) σ) := fun _ _ _ _ _ _ _ h => h.elim
theorem psY : ∀ σ, PassesAt (L2.CX X.prog X.w) X σ ((fun _ => noE) σ) := fun σ pins H s e s' I h => pass_no (X := X) pins σ H s e s' I h
theorem psX {E : XK} (tk : Takes X (fun cls d _ H => E cls d H)) : ∀ σ, PassesAt (L2.CX X.prog X.w) X σ ((fun _ => E) σ) := fun σ pins H s e s' I h => passes_call tk (fun _ _ _ _ z => z) pins σ H s e s' I h
theorem psT (tk : Takes X W) : ∀ σ, PassesAt (L2.CX X.prog X.w) X σ (WE W σ) := passAt tk
/-- o.m(e, ..) -/
theorem pe_mth {pl : Sem Bool} (he : PE X o ta) (cl : Cls X.K C) (c : CalM X.prog X.w X.K X.mg X.base CX k C m sp) (hr : Room j X.A) (hk : k ≤ j) (hx : ∀ σ, PassesAt CX X σ (E σ)) (ha : PA X (e :: es) t)
    (hst : starEach (e :: es) X.env = (false, eval e X.env) :: starEach es X.env := by rfl) (hpl : (backTo pos (starEach es X.env)).any (·.1) = false := by rfl)
    (ht : eval (.Call (.Attribute o m apos) (e :: es) [] pos) X.env = (do
      let ov ← eval o X.env
      standAt apos.atName
      let (f, first) ← holding [ov] (getMethod ov m pl)
      callWith pos f first (backTo pos (starEach (e :: es) X.env)) (backToKw pos (keywordEach [] X.env))) := by rfl) :
    PE X (.Call (.Attribute o m apos) (e :: es) [] pos) (tMeS C m sp E ta t) := by
  obtain ⟨f, fd, ps, hm, F, hb⟩ := c.ex
  refine ⟨fun pins s σ H Q I h => ?_⟩
  refine PySem.W.methodCall_KW (pl := pl) (thn (he.run pins s σ H _ I h) fun u s1 ⟨x, H1, I1, rx, a, dx, fs, ex, ea, l, q⟩ => ?_) ht
  subst ex
  obtain rfl : u = Value.ref a := rx
  refine getmeth_ok I1 ea cl hm l ?_
  refine PySem.W.callWith_K (first := [.ref a]) (h₀ := X.base) I.ok.mod.kin hm.kp (thn (ha.run pos pins s1 σ H1 _ I1 q) fun us s2 ⟨vs, H2, I2, r, q2⟩ => ⟨I2.kIn, ?_⟩) hst hpl
  exact run_fnS (us := .ref a :: us) (vs := .ref a :: vs) F (hr.mono hk) hb (hx σ) I2 (.cons rfl r) q2
/-- o.m() -/
theorem pe_mth0 {pl : Sem Bool} (he : PE X o ta) (cl : Cls X.K C) (c : CalM X.prog X.w X.K X.mg X.base CX k C m sp) (hr : Room j X.A) (hk : k ≤ j) (hx : ∀ σ, PassesAt CX X σ (E σ))
    (ht : eval (.Call (.Attribute o m apos) [] [] pos) X.env = (do
      let ov ← eval o X.env
      standAt apos.atName
      let (f, first) ← holding [ov] (getMethod ov m pl)
      callWith pos f first (backTo pos (starEach [] X.env)) (backToKw pos (keywordEach [] X.env))) := by rfl) :
    PE X (.Call (.Attribute o m apos) [] [] pos) (tMeS C m sp E ta tNil) := by
  obtain ⟨f, fd, ps, hm, F, hb⟩ := c.ex
  refine ⟨fun pins s σ H Q I h => ?_⟩
  refine PySem.W.methodCall_KW (pl := pl) (thn (he.run pins s σ H _ I h) fun u s1 ⟨x, H1, I1, rx, a, dx, fs, ex, ea, l, q⟩ => ?_) ht
  subst ex
  obtain rfl : u = Value.ref a := rx
  refine getmeth_ok I1 ea cl hm l ?_
  exact PySem.W.callWith_K0 (first := [.ref a]) I1.kIn hm.kp (run_fnS (us := [.ref a]) (vs := [.ref a]) F (hr.mono hk) hb (hx σ) I1 (.cons rfl .nil) q)
theorem run_fnNS {pins : List (Addr × Obj)} {σ : L2.St} {H : Hp} {s : Shared} {Q : VK} {us ws : List Value} {vs zs : List V} (F : FnOk X.prog X.w X.K X.mg X.base CX k f fd ps sp) (hr : Room k X.A) (hb : KBn X.K fd ps n ks g gV) (hx : PassesAt CX X σ (E σ))
    (I : Inv X pins σ H s) (r : Vals vs us) (rz : Vals zs ws) (l1 : vs.length = n) (l2 : zs.length = ks.length) (h : sp (gV vs zs) H Q (E σ)) : wpAny (model X.prog X.w) X.A (call (.ref f) us (ks.zip ws)) (EP X pins σ Q) X.xe s := by
  refine wpAny_call (codeAny_mono (F.run X.A X.stack s H ⟨us, ks.zip ws⟩ (g us ws) (gV vs zs) Q (E σ) hr I.env0 (hb.to s us ws I.kIn (r.length.symm.trans l1) (rz.length.symm.trans l2)) (hb.rel r rz) h) fun rr s3 z => ?_)
  match rr, z with
  | .error u, z => exact hx pins H s u s3 I z
  | .ok (.ret _), z => exact I.after z
/-- o.m(k = e, ..) -/
theorem pe_mthK {pl : Sem Bool} (he : PE X o ta) (cl : Cls X.K C) (c : CalMK X.prog X.w X.K X.mg X.base CX k 0 ks C m sp gV) (hr : Room j X.A) (hk : k ≤ j) (hx : ∀ σ, PassesAt CX X σ (E σ)) (hkw : PK X kws tk)
    (hall : (backToKw pos (keywordEach kws X.env)).all (·.1.isSome) = true := by rfl) (hks : (backToKw pos (keywordEach kws X.env)).filterMap (·.1) = ks := by rfl)
    (hpl : ((backTo pos (starEach [] X.env)).any (·.1) || (backToKw pos (keywordEach kws X.env)).any (·.1.isNone)) = false := by rfl)
    (ht : eval (.Call (.Attribute o m apos) [] kws pos) X.env = (do
      let ov ← eval o X.env
      standAt apos.atName
      let (f, first) ← holding [ov] (getMethod ov m pl)
      callWith pos f first (backTo pos (starEach [] X.env)) (backToKw pos (keywordEach kws X.env))) := by rfl) :
    PE X (.Call (.Attribute o m apos) [] kws pos) (tMeK C m ks.length sp gV E ta tk) := by
  obtain ⟨f, fd, ps, g, hm, F, hb⟩ := c.ex
  refine ⟨fun pins s σ H Q I h => ?_⟩
  refine PySem.W.methodCall_KW (pl := pl) (thn (he.run pins s σ H _ I h) fun u s1 ⟨x, H1, I1, rx, a, dx, fs, ex, ea, l, q⟩ => ?_) ht
  subst ex
  obtain rfl : u = Value.ref a := rx
  refine getmeth_ok I1 ea cl hm l ?_
  refine PySem.W.callWith_KW0 (first := [.ref a]) (h₀ := X.base) I.ok.mod.kin hm.kp hall ?_ hpl
  refine thn (hkw.run pos pins s1 σ H1 _ I1 q) fun ws s2 ⟨zs, H2, I2, rz, l2, q2⟩ => ⟨I2.kIn, ?_⟩
  rw [hks]
  exact run_fnNS (us := [.ref a]) (vs := [.ref a]) F (hr.mono hk) hb (hx σ) I2 (.cons rfl .nil) rz rfl l2 q2
theorem run_mkS {pins : List (Addr × Obj)} {σ : L2.St} {H : Hp} {s : Shared} {Q : VK} {us : List Value} {vs : List V} (M : Mk X.K C f) (F : FnOk X.prog X.w X.K X.mg X.base CX k f fd ps sp) (hr : Room (k + 1) X.A) (hb : Binds X.K fd ps [])
    (hx : PassesAt CX X σ (E σ)) (I : Inv X pins σ H s) (r : Vals vs us)
    (h : ∀ x dx, H x = none → H dx = none → dx ≠ x → sp (.ref x :: vs) (upd (upd H dx (.own x)) x (.ins C dx [])) (fun v H2 => v = .non ∧ Q (.ref x) H2) (E σ)) :
    wpAny (model X.prog X.w) X.A (call (.ref C) us) (EP X pins σ Q) X.xe s := by
  have hq := h (s.heap.objs.size + 1) s.heap.objs.size (I.hok.fresh (Nat.le_succ _)) (I.hok.fresh (Nat.le_refl _)) (Nat.ne_of_lt (Nat.lt_succ_self _))
  have I2 := Inv.made (C := C) I
  have r2 : Vals (V.ref (s.heap.objs.size + 1) :: vs) (Value.ref (s.heap.objs.size + 1) :: us) := .cons rfl r
  have hl : (Value.ref (s.heap.objs.size + 1) :: us).length = ps.length := by
    have e := r2.length
    rw [F.len _ _ _ _ hq] at e
    exact e.symm
  have bb := hb { s with heap := _ } (Value.ref (s.heap.objs.size + 1) :: us) I2.kIn (by rw [List.append_nil]; exact hl)
  rw [List.append_nil] at bb
  refine wpAny_call (make_map (f := f) I.kIn M.makes M.init (beq_iff_eq.mp M.fn) (codeAny_mono (F.run _ X.stack _ _ ⟨Value.ref (s.heap.objs.size + 1) :: us, []⟩ (Value.ref (s.heap.objs.size + 1) :: us) _ _ (E σ) (hr.make C us [])
    (I2.env0.make C us []) bb r2 hq) fun r s' hq' => ?_))
  cases r with
  | error e => exact hx pins _ _ e s' I2 hq'
  | ok fl =>
    cases fl with
    | ret u =>
      obtain ⟨v, H', I3, rv, ev, q3⟩ := I2.after hq'
      subst ev
      exact ⟨rv, ⟨V.ref (s.heap.objs.size + 1), H', I3, rfl, q3⟩⟩
    | next => exact False.elim hq'
    | brk => exact False.elim hq'
    | cont => exact False.elim hq'
theorem pe_mk (c : CalC X.prog X.w X.K X.mg X.base CX k C x sp) (hr : Room j X.A) (hk : k + 1 ≤ j) (hg : Gl X x) (hx : ∀ σ, PassesAt CX X σ (E σ)) (ha : PA X (e :: es) t)
    (hdb : (x == ("__debug__" : Str)) = false := by decide) (he : starEach (e :: es) X.env = (false, eval e X.env) :: starEach es X.env := by rfl) (hpl : (backTo pos (starEach es X.env)).any (·.1) = false := by rfl) :
    PE X (.Call (.Name x p) (e :: es) [] pos) (tMkS C sp E t) := by
  obtain ⟨f, fd, ps, M, F, hb, hm⟩ := c.ex
  refine ⟨fun pins s σ H Q I h => ?_⟩
  refine wpAny_Call_Name_kw (ld_glob I hg hm ?_ hdb)
  refine PySem.W.callWith_K (h₀ := X.base) I.ok.mod.kin M.kp (thn (ha.run pos pins s σ H _ I h) fun us s1 ⟨vs, H1, I1, r, q⟩ => ⟨I1.kIn, ?_⟩) he hpl
  exact run_mkS M F (hr.mono hk) hb (hx σ) I1 r q
theorem pe_mk0 (c : CalC X.prog X.w X.K X.mg X.base CX k C x sp) (hr : Room j X.A) (hk : k + 1 ≤ j) (hg : Gl X x) (hx : ∀ σ, PassesAt CX X σ (E σ))
    (hdb : (x == ("__debug__" : Str)) = false := by decide) : PE X (.Call (.Name x p) [] [] pos) (tMkS C sp E tNil) := by
  obtain ⟨f, fd, ps, M, F, hb, hm⟩ := c.ex
  refine ⟨fun pins s σ H Q I h => ?_⟩
  refine wpAny_Call_Name_kw (ld_glob I hg hm ?_ hdb)
  exact PySem.W.callWith_K0 I.kIn M.kp (run_mkS (us := []) (vs := []) M F (hr.mono hk) hb (hx σ) I .nil h)
/-- repr and the like in a guarded def -/
theorem run_fnGS {pins : List (Addr × Obj)} {σ : L2.St} {H : Hp} : True := trivial
end
section
variable {σ : L2.St} {H : Hp} {Q : VK} {C a dx : Addr} {m : Str} {sp : Sp} {E : L2.St → XK} {ta : TE} {t tk : TA} {fs : List (Str × V)}
theorem r_mth (q : ta σ H fun x H1 => ∃ a dx fs, x = .ref a ∧ H1 a = some (.ins C dx fs) ∧ fs.lookup m = none ∧ t σ H1 fun vs H2 => sp (x :: vs) H2 Q (E σ)) : tMeS C m sp E ta t σ H Q := q
theorem r_mthK {j : Nat} {gV : List V → List V → List V} (q : ta σ H fun x H1 => ∃ a dx fs, x = .ref a ∧ H1 a = some (.ins C dx fs) ∧ fs.lookup m = none ∧ tk σ H1 fun zs H2 => zs.length = j ∧ sp (gV [x] zs) H2 Q (E σ)) : tMeK C m j sp gV E ta tk σ H Q := q
theorem r_mkS (q : t σ H fun vs H1 => ∀ x dx, H1 x = none → H1 dx = none → dx ≠ x → sp (.ref x :: vs) (upd (upd H1 dx (.own x)) x (.ins C dx [])) (fun v H2 => v = .non ∧ Q (.ref x) H2) (E σ)) : tMkS C sp E t σ H Q := q
theorem r_fld {K : PySem.W.Frag} {f : Str} {v : V} (q : ta σ H fun x H1 => ∃ a C dx fs v, x = .ref a ∧ H1 a = some (.ins C dx fs) ∧ Cls K C ∧ NoAttr K C f ∧ fs.lookup f = some v ∧ Q v H1) : tFld K ta f σ H Q := q
end
/-! ## 22. refusals whose field has another name -/
def RefuseN (nm : Str) (C : Addr) (v : V) (H : Hp) (E : XK) : Prop := ∀ d H', H d = none → Same H H' → H' d = some (.xd [(nm, v)]) → E (.ref C) (some d) H'
theorem RefuseN.on {nm : Str} {C : Addr} {v : V} {H H' : Hp} {E : XK} (r : RefuseN nm C v H E) (s : Same H H') : RefuseN nm C v H' E := fun d H2 hd s2 e => r d H2 (s.free hd) (s.trans s2) e
def spInitN (nm : Str) (C : Addr) : Sp := fun vs H Q _ => ∃ (a : Addr) (x : V), vs = [.ref a, x] ∧ H a = some (exo a C none) ∧ ∀ dx, H dx = none → dx ≠ a → Q .non (upd (upd H dx (exd dx [(nm, x)])) a (exo a C (some dx)))
theorem r_mkN {nm : Str} {C : Addr} {v : V} {H : Hp} {E : XK} (z : RefuseN nm C v H E) : [v].length ≤ 1000 ∧ ∀ a, H a = none → spInitN nm C (.ref a :: ([v] ++ [])) (upd H a (exo a C none))
    (fun u H2 => u = .non ∧ ∃ (d : Addr) (fs : List (Str × V)), H2 a = some (exo a C (some d)) ∧ H2 d = some (exd d fs) ∧ H d = none ∧ E (.ref C) (some d) (upd (del H2 a) d (.xd fs))) (fun _ _ _ => False) := by
  refine ⟨Nat.le_of_ble_eq_true rfl, fun a ha => ⟨a, v, rfl, upd_same, fun dx hd ne => ⟨rfl, dx, [(nm, v)], upd_same, ?_, ?_, ?_⟩⟩⟩
  · rw [upd_ne ne, upd_same]
  · rw [upd_ne ne] at hd
    exact hd
  · rw [upd_ne ne] at hd
    refine z dx _ hd (fun b o e => ?_) upd_same
    have h1 : b ≠ a := ne_of_none e ha
    have h2 : b ≠ dx := ne_of_none e hd
    rw [upd_ne h2]
    show del _ a b = some o
    unfold del
    rw [if_neg h1, upd_ne h1, upd_ne h2, upd_ne h1]
    exact e
structure ExcN (K : PySem.W.Frag) (nm : Str) (C f : Addr) : Prop where
  ox : OexC K C
  i : PySem.W.findIn K (.ref C) "__init__" = some (some (.ref f))
  t : PySem.W.typeIn K (.ref f) = some (.type "function")
  nf : PySem.W.findIn K (.ref C) nm = some none
  xf : XfC K C
/-! ## 23. a comprehension each turn of which lays a new object, all of them unlike -/
section
variable {J : It} {n : Nat} {G : Hp → Prop} {Y : Nat → Hp → V → Hp → Prop} {g : TG} {te : TE} {vs : List Nat} {σ : L2.St} {H : Hp} {D : Addr} {Q : VK}
theorem lc_new (w : Walk J n G Y) (c : Nat → HO) (hD : H D = none) (hn : n ≤ 10000) (hG : ∀ H', Same H H' → G H')
    (hs : ∀ i x H1 H2 (Q' : VK) (R' : Hp → Prop), i < n → Same H H1 → Y i H1 x H2 → (∀ t H3, H1 t = none → Same H1 H3 → H3 t = some (c i) → Q' (.ref t) H3) →
      g x (wipe σ vs) H2 fun τ H3 => wipe τ vs = wipe σ vs ∧ tYes τ H3 fun b H4 => if b = true then te τ H4 Q' else R' H4)
    (q : ∀ H' (ts : List Addr), Same H H' → H' D = some (.lst (ts.map V.ref)) → ts.length = n → (∀ k t, ts[k]? = some t → H' t = some (c k)) → (D :: ts).Nodup → (∀ t ∈ ts, H t = none) → Q (.ref D) H') :
    ∃ W : Nat → Nat → Hp → Prop, (∃ m, W 0 m (upd H D (.lst []))) ∧ ∀ i m H, W i m H →
      (J.stop i H ∧ Q (.ref D) H) ∨ (J.go i H ∧ ∃ Nx : Hp → Prop, (∀ H', Nx H' → ∃ m', m' < m ∧ W (i + 1) m' H') ∧ ∀ x H', J.yld i H x H' → g x (wipe σ vs) H' fun σ2 H2 => wipe σ2 vs = wipe σ vs ∧ tYes σ2 H2 fun b H3 =>
        if b = true then te σ2 H3 fun y H4 => ∃ acc, H4 D = some (.lst acc) ∧ acc.length < sizeLine ∧ Nx (upd H4 D (.lst (acc ++ [y]))) else Nx H3) := by
  refine lc_it w (fun i G => Same H G ∧ ∃ ts : List Addr, G D = some (.lst (ts.map V.ref)) ∧ ts.length = i ∧ (∀ k t, ts[k]? = some t → G t = some (c k)) ∧ (D :: ts).Nodup ∧ ∀ t ∈ ts, H t = none)
    ⟨same_upd hD, [], upd_same, rfl, (fun _ _ z => nomatch z), (by simp), (fun _ z => nomatch z)⟩ (fun i G _ z => hG G z.1) (fun i x H1 H2 hi ⟨sm, ts, e, l, all, nd, fr⟩ y => ?_) fun G ⟨sm, ts, e, l, all, nd, fr⟩ => q G ts sm e l all nd fr
  refine hs i x H1 H2 _ _ hi sm y fun t H3 nt s3 et => ?_
  have tD : t ≠ D := fun z => by rw [z, e] at nt; exact nomatch nt
  have tts : t ∉ ts := fun z => by
    obtain ⟨k, hk⟩ := List.getElem?_of_mem z
    rw [all k t hk] at nt
    exact nomatch nt
  obtain ⟨nD, nts⟩ := List.nodup_cons.mp nd
  refine ⟨_, s3 _ _ e, by rw [List.length_map, l]; exact Nat.lt_of_lt_of_le hi (Nat.le_trans hn (by decide)), sameBut (sm.trans s3) hD, ts ++ [t], ?_, by rw [List.length_append, l]; rfl, fun k u hk => ?_, ?_, fun u hu => ?_⟩
  · rw [upd_same, List.map_append]
    rfl
  · by_cases hk2 : k < ts.length
    · rw [List.getElem?_append_left hk2] at hk
      have z := s3 _ _ (all k u hk)
      have nu : u ≠ D := fun q => by subst q; exact nD (List.mem_of_getElem? hk)
      rw [upd_ne nu]
      exact z
    · have e3 : k = i := by
        have := (List.getElem?_eq_some_iff.mp hk).1
        rw [List.length_append] at this
        have h1 : [t].length = 1 := rfl
        omega
      subst e3
      rw [List.getElem?_append_right (by omega), l, Nat.sub_self] at hk
      obtain rfl := Option.some.inj hk
      rw [upd_ne tD]
      exact et
  · refine List.nodup_cons.mpr ⟨fun z => ?_, List.nodup_append.mpr ⟨nts, by simp, fun a ha b hb q => ?_⟩⟩
    · rcases List.mem_append.mp z with z | z
      · exact nD z
      · exact tD (List.mem_singleton.mp z).symm
    · rw [List.mem_singleton.mp hb] at q
      exact tts (q ▸ ha)
  · rcases List.mem_append.mp hu with z | z
    · exact fr u z
    · rw [List.mem_singleton.mp z]
      exact sm.free nt
end
/-! ## 24. a list of lists -/
/-- at l: a list of the lists at rows, which hold ws -/
structure LL (H : Hp) (l : Addr) (rows : List Addr) (ws : List (List V)) : Prop where
  at_ : H l = some (.lst (rows.map V.ref))
  len : rows.length = ws.length
  row : ∀ (k : Nat) (r : Addr) (w : List V), rows[k]? = some r → ws[k]? = some w → H r = some (.lst w)
  nd : (l :: rows).Nodup
theorem LL.keep {H H' : Hp} {l : Addr} {rows : List Addr} {ws : List (List V)} (h : LL H l rows ws) (k : ∀ b ∈ l :: rows, H' b = H b) : LL H' l rows ws :=
  ⟨by rw [k l List.mem_cons_self]; exact h.at_, h.len, fun i r w h1 h2 => by rw [k r (List.mem_cons_of_mem _ (List.mem_of_getElem? h1))]; exact h.row i r w h1 h2, h.nd⟩
theorem LL.same {H H' : Hp} {l : Addr} {rows : List Addr} {ws : List (List V)} (h : LL H l rows ws) (s : Same H H') : LL H' l rows ws :=
  ⟨s _ _ h.at_, h.len, fun i r w h1 h2 => s _ _ (h.row i r w h1 h2), h.nd⟩
/-- the row at k grows -/
theorem LL.put {H H' : Hp} {l r : Addr} {rows : List Addr} {ws : List (List V)} {k : Nat} {w w' : List V} (h : LL H l rows ws) (hr : rows[k]? = some r) (hw : ws[k]? = some w) (b : But r H H') (e : H' r = some (.lst w')) : LL H' l rows (ws.set k w') := by
  obtain ⟨nl, nr⟩ := List.nodup_cons.mp h.nd
  have lr : l ≠ r := fun q => nl (q ▸ List.mem_of_getElem? hr)
  refine ⟨b _ _ lr h.at_, by rw [List.length_set]; exact h.len, fun i r2 w2 h1 h2 => ?_, h.nd⟩
  by_cases q : i = k
  · subst q
    rw [hr] at h1
    obtain rfl := Option.some.inj h1
    rw [List.getElem?_set_self (List.getElem?_eq_some_iff.mp hw).1] at h2
    obtain rfl := Option.some.inj h2
    exact e
  · rw [List.getElem?_set_ne (fun z => q z.symm)] at h2
    refine b _ _ (fun z => ?_) (h.row i r2 w2 h1 h2)
    subst z
    exact q ((List.getElem?_inj (List.getElem?_eq_some_iff.mp h1).1 nr).mp (h1.trans hr.symm))
end Bk

namespace Bk
open PySem PySem.Spec PyProof.Rows L2
/-! ## 25. the text of things, dicts among them -/
mutual
/-- v is the thing d; b: a dict may be in it, and each list stands where no dict of modules does -/
inductive Dq (b : Bool) (K : PySem.W.Frag) (H : Hp) : V → PyData → Prop
  | non : Dq b K H .non .none
  | bl (c : Bool) : Dq b K H (.bl c) (.bool c)
  | int (i : Int) : Dq b K H (.int i) (.int i)
  | str (x : Str) : Dq b K H (.str x) (.str x)
  | lst {a : Addr} {xs : List V} {ds : List PyData} : (b = true → a ≠ sysModules) → SqL K H a xs → DqAll b K H xs ds → Dq b K H (.ref a) (.list ds)
  | tup {a : Addr} {xs : List V} {ds : List PyData} : SqT K H a xs → DqAll b K H xs ds → Dq b K H (.ref a) (.tuple ds)
  | dK {a : Addr} {kvs : List (Key × V)} {ps : List (PyData × PyData)} : b = true → H a = some (.dK kvs) → DqAll b K H (kvs.map fun q => kV q.1) (ps.map (·.1)) → DqAll b K H (kvs.map (·.2)) (ps.map (·.2)) → Dq b K H (.ref a) (.dict ps)
inductive DqAll (b : Bool) (K : PySem.W.Frag) (H : Hp) : List V → List PyData → Prop
  | nil : DqAll b K H [] []
  | cons {v : V} {vs : List V} {d : PyData} {ds : List PyData} : Dq b K H v d → DqAll b K H vs ds → DqAll b K H (v :: vs) (d :: ds)
end
mutual
theorem dq_flat {K : PySem.W.Frag} {H : Hp} : ∀ (d : PyData) (v : V), Dq false K H v d → d.hasDict = false
  | .none, _, _ => by simp only [PyData.hasDict]
  | .bool _, _, _ => by simp only [PyData.hasDict]
  | .int _, _, _ => by simp only [PyData.hasDict]
  | .str _, _, _ => by simp only [PyData.hasDict]
  | .list ds, _, h => by
    cases h with
    | lst _ _ ha => simpa only [PyData.hasDict] using dq_flatAll ds _ ha
  | .tuple ds, _, h => by
    cases h with
    | tup _ ha => simpa only [PyData.hasDict] using dq_flatAll ds _ ha
  | .dict _, _, h => by
    cases h with
    | dK e _ _ _ => exact nomatch e
theorem dq_flatAll {K : PySem.W.Frag} {H : Hp} : ∀ (ds : List PyData) (vs : List V), DqAll false K H vs ds → PyData.hasDictAll ds = false
  | [], _, _ => by simp only [PyData.hasDictAll]
  | d :: ds, _, h => by
    cases h with
    | cons h1 h2 => simp only [PyData.hasDictAll, dq_flat d _ h1, dq_flatAll ds _ h2, Bool.or_false]
end
theorem kv_of : ∀ {P : Program} {w : World} {kvs : List (Key × V)} {vs : List (Key × Value)} {es : List DictEntry}, KV kvs vs → Pairs (mixKind P w) es vs → Vals (kvs.map fun q => kV q.1) (es.map (·.key)) ∧ Vals (kvs.map (·.2)) (es.map (·.val))
  | _, _, _, _, _, .nil, .nil => ⟨.nil, .nil⟩
  | P, w, (k, v) :: kvs, (k2, u) :: vs, e :: es, .cons r t, .cons h1 h2 h3 => by
    obtain ⟨a, b⟩ := kv_of (P := P) (w := w) t h3
    obtain ⟨rk, rv⟩ := r
    refine ⟨.cons ?_ a, .cons ?_ b⟩
    · have rk : k = k2 := rk
      subst rk
      rcases keyIs_shape (show keyIs k e.key = true from h1) with ⟨i, t, rfl, z⟩ | ⟨x, t, rfl, z⟩
      · exact ⟨t, z⟩
      · exact ⟨t, z⟩
    · show RelV v e.val
      rw [h2]
      exact rv
section
variable {X : Cx} {pins : List (Addr × Obj)} {σ : L2.St} {H : Hp} {s : Shared} {b : Bool}
mutual
theorem Dq.reads (I : Inv X pins σ H s) : ∀ {d : PyData} {v : V} {u : Value}, Dq b X.K H v d → RelV v u → ∃ as, Reads s.heap u d as ∧ (b = true → sysModules ∉ as)
  | _, _, _, .non, r => by
    cases r
    exact ⟨_, Reads.none, fun _ => by simp⟩
  | _, _, _, .bl b, r => by
    cases r
    exact ⟨_, Reads.bool b, fun _ => by simp⟩
  | _, _, _, .int i, r => by
    obtain ⟨t, rfl⟩ := r
    exact ⟨_, Reads.int i t, fun _ => by simp⟩
  | _, _, _, .str x, r => by
    obtain ⟨t, rfl⟩ := r
    exact ⟨_, Reads.str x t, fun _ => by simp⟩
  | _, _, _, .lst ne hs ha, r => by
    cases r
    obtain ⟨its, rv, ⟨o, n, ho, hc, _, hd⟩, _⟩ := I.list hs
    obtain ⟨as, hr, hn⟩ := Dq.readsAll I ha rv
    exact ⟨_, Reads.list ho hc hd hr, fun z m => by
      rcases List.mem_cons.mp m with m | m
      · exact ne z m.symm
      · exact hn z m⟩
  | _, _, _, .tup hs ha, r => by
    cases r
    obtain ⟨its, rv, ⟨o, ho, hc, n, hd⟩, _⟩ := I.tuple hs
    obtain ⟨as, hr, hn⟩ := Dq.readsAll I ha rv
    exact ⟨_, Reads.tuple ho hc hd hr, hn⟩
  | _, _, _, .dK (a := a) (kvs := kvs) (ps := ps) eb ha h1 h2, r => by
    cases r
    obtain ⟨_, hm, vs, kv, o, es, ep, ho, hx, hde, _, pr, _⟩ := I.hok a _ ha
    obtain ⟨r1, r2⟩ := kv_of kv pr
    obtain ⟨as, q1, n1⟩ := Dq.readsAll I h1 r1
    obtain ⟨bs, q2, n2⟩ := Dq.readsAll I h2 r2
    have rd : Reads s.heap (.ref a) (.dict ps) (a :: as ++ bs) := .dict ho hx.1 hde q1 q2
    exact ⟨_, rd, fun z m => by
      rcases List.mem_append.mp m with m | m
      · rcases List.mem_cons.mp m with m | m
        · rw [← m] at hm
          exact absurd hm (by decide)
        · exact n1 z m
      · exact n2 z m⟩
theorem Dq.readsAll (I : Inv X pins σ H s) : ∀ {ds : List PyData} {vs : List V} {us : List Value}, DqAll b X.K H vs ds → Vals vs us → ∃ as, ReadsAll s.heap us ds as ∧ (b = true → sysModules ∉ as)
  | _, _, _, .nil, r => by
    cases r
    exact ⟨_, ReadsAll.nil, fun _ => by simp⟩
  | _, _, _, .cons h1 h2, r => by
    cases r with
    | cons r1 r2 =>
      obtain ⟨as, q1, n1⟩ := Dq.reads I h1 r1
      obtain ⟨bs, q2, n2⟩ := Dq.readsAll I h2 r2
      exact ⟨_, ReadsAll.cons q1 q2, fun z m => by
        rcases List.mem_append.mp m with m | m
        · exact n1 z m
        · exact n2 z m⟩
end
end
/-- z is how repr tells v -/
def Shq (K : PySem.W.Frag) (H : Hp) (v : V) (z : Str) : Prop := ∃ b d, Dq b K H v d ∧ d.showable = true ∧ d.shown.length ≤ sizeLine ∧ d.depth ≤ 60 ∧ z = d.shown
section
variable {X : Cx} {j : Nat}
theorem call_repr_shq (ga : X.A.guards = some []) (hr : Room j X.A) : CallR X (.builtin "repr") (fun xs H Q => ∃ v z, xs = [v] ∧ Shq X.K H v z ∧ Q (.str z) H) := by
  intro pins s σ H xs us Q I r h
  obtain ⟨v, z, rfl, ⟨b, d, hd, h1, h2, h3, rfl⟩, q⟩ := h
  obtain ⟨u, rfl, rv⟩ := vals1 r
  have hu := hr.units
  have fin : ∀ {x : Str} {t : Nat}, x = d.shown → EP X pins σ Q (.str x s.toks) { s with toks := t } := fun {x t} e => ⟨.str _, H, I.tok _, ⟨_, rfl⟩, by rw [e]; exact q⟩
  have ref : ∀ {a : Addr}, v = .ref a → wpAny (model X.prog X.w) X.A (call (.builtin "repr") [u]) (EP X pins σ Q) X.xe s := fun {a} e => by
    subst e
    obtain rfl : u = Value.ref a := rv
    obtain ⟨as, rd, hn⟩ := Dq.reads I (u := .ref a) hd rfl
    refine repr_of_reads' rd h1 (fun hh => ?_) ga (by omega) (fun _ _ e => e) (fun h' u tk hk => ⟨.str _, H, I.kept hk, ⟨_, rfl⟩, q⟩) h2
    cases b with
    | true => exact hn rfl
    | false =>
      rw [dq_flat d _ hd] at hh
      exact nomatch hh
  cases hd with
  | non =>
    cases rv
    exact PySem.P.repr_of_none (fin (by simp only [PyData.shown]))
  | bl b =>
    cases rv
    exact PySem.P.repr_of_bool (fin (by simp only [PyData.shown]))
  | int i =>
    obtain ⟨t, rfl⟩ := rv
    exact PySem.P.repr_of_int (by simpa only [PyData.showable, decide_eq_true_eq] using h1) (fin (by simp only [PyData.shown]))
  | str x =>
    obtain ⟨t, rfl⟩ := rv
    exact PySem.P.repr_of_str (fin (by simp only [PyData.shown])) (by simpa only [PyData.shown] using h2)
  | lst _ _ _ => exact ref rfl
  | tup _ _ => exact ref rfl
  | dK _ _ _ _ => exact ref rfl
end
mutual
def smQ : PyData → Bool
  | .none | .bool _ => true
  | .int i => decide (i.natAbs < 10 ^ 38)
  | .str x => x.cps.toList.all fun c => decide (c < 16 ^ 8)
  | .list xs | .tuple xs => smQL xs
  | .dict ps => smQK ps
def smQL : List PyData → Bool
  | [] => true
  | x :: xs => smQ x && smQL xs
def smQK : List (PyData × PyData) → Bool
  | [] => true
  | (x, y) :: xs => smQ x && smQ y && smQK xs
end
mutual
theorem smQ_ok : ∀ d : PyData, smQ d = true → d.showable = true ∧ d.leavesShort 40 = true
  | .none, _ => ⟨rfl, rfl⟩
  | .bool _, _ => ⟨rfl, rfl⟩
  | .int i, h => by
    have h' : smallD (.int i) = true := by simpa only [smallD, smQ] using h
    exact small_ok _ h'
  | .str x, h => ⟨by simp only [PyData.showable], by simpa only [smQ, PyData.leavesShort] using h⟩
  | .list xs, h => by simpa only [PyData.showable, PyData.leavesShort] using smQ_okL xs (by simpa only [smQ] using h)
  | .tuple xs, h => by simpa only [PyData.showable, PyData.leavesShort] using smQ_okL xs (by simpa only [smQ] using h)
  | .dict ps, h => by simpa only [PyData.showable, PyData.leavesShort] using smQ_okK ps (by simpa only [smQ] using h)
theorem smQ_okL : ∀ xs : List PyData, smQL xs = true → PyData.showableAll xs = true ∧ PyData.leavesShortAll 40 xs = true
  | [], _ => ⟨rfl, rfl⟩
  | x :: xs, h => by
    have h' : smQ x = true ∧ smQL xs = true := by simpa only [smQL, Bool.and_eq_true] using h
    obtain ⟨a, b⟩ := smQ_ok x h'.1
    obtain ⟨c, d⟩ := smQ_okL xs h'.2
    exact ⟨by simp only [PyData.showableAll, a, c, Bool.and_true], by simp only [PyData.leavesShortAll, b, d, Bool.and_true]⟩
theorem smQ_okK : ∀ xs : List (PyData × PyData), smQK xs = true → PyData.showableKv xs = true ∧ PyData.leavesShortKv 40 xs = true
  | [], _ => ⟨rfl, rfl⟩
  | (x, y) :: xs, h => by
    have h' : (smQ x = true ∧ smQ y = true) ∧ smQK xs = true := by simpa only [smQK, Bool.and_eq_true] using h
    obtain ⟨a, b⟩ := smQ_ok x h'.1.1
    obtain ⟨a2, b2⟩ := smQ_ok y h'.1.2
    obtain ⟨c, d⟩ := smQ_okK xs h'.2
    exact ⟨by simp only [PyData.showableKv, a, a2, c, Bool.and_true], by simp only [PyData.leavesShortKv, b, b2, d, Bool.and_true]⟩
end
section
variable {b : Bool} {K : PySem.W.Frag} {H H' : Hp} {v : V} {a : Addr} {xs : List V}
theorem shq_of {d : PyData} (h : Dq b K H v d) (s : smQ d = true) (l : d.bulk ≤ 390000) (e : d.depth ≤ 60) : Shq K H v d.shown := by
  obtain ⟨h1, h2⟩ := smQ_ok d s
  have h3 := PyData.shown_le_bulk 40 (by decide) d h2
  exact ⟨b, d, h, h1, by rw [sizeLine_eq]; omega, e, rfl⟩
/-- a thing that may stand in a list whose text is asked: m its size -/
def ItQ (b : Bool) (K : PySem.W.Frag) (H : Hp) (m : Nat) (v : V) : Prop := ∃ d, Dq b K H v d ∧ smQ d = true ∧ d.bulk ≤ m ∧ d.depth ≤ 20
theorem ItQ.shq {m : Nat} (h : ItQ b K H m v) (l : m ≤ 390000) : ∃ z, Shq K H v z := let ⟨_, h1, h2, h3, h4⟩ := h; ⟨_, shq_of h1 h2 (by omega) (by omega)⟩
theorem itqs {m : Nat} : ∀ {xs : List V}, (∀ y ∈ xs, ItQ b K H m y) → ∃ ds, DqAll b K H xs ds ∧ smQL ds = true ∧ PyData.bulkAll ds ≤ (m + 1) * xs.length ∧ PyData.depthAll ds ≤ 20
  | [], _ => ⟨[], .nil, rfl, Nat.le_refl _, Nat.zero_le _⟩
  | y :: ys, h => by
    obtain ⟨d, h1, h2, h3, h4⟩ := h y List.mem_cons_self
    obtain ⟨ds, g1, g2, g3, g4⟩ := itqs fun z hz => h z (List.mem_cons_of_mem _ hz)
    refine ⟨d :: ds, .cons h1 g1, by simp only [smQL, h2, g2, Bool.and_true], ?_, ?_⟩
    · simp only [PyData.bulkAll, List.length_cons, Nat.mul_succ]
      omega
    · simp only [PyData.depthAll]
      omega
/-- two lists of the same things are told alike -/
theorem shq_lst2 {m : Nat} {c : Addr} (h : SqL K H a xs) (h2 : SqL K H c xs) (n1 : b = true → a ≠ sysModules) (n2 : b = true → c ≠ sysModules) (i : ∀ y ∈ xs, ItQ b K H m y) (l : (m + 1) * xs.length ≤ 390000) : ∃ z, Shq K H (.ref a) z ∧ Shq K H (.ref c) z := by
  obtain ⟨ds, g1, g2, g3, g4⟩ := itqs i
  exact ⟨_, shq_of (.lst n1 h g1) (by simpa only [smQ] using g2) (by simp only [PyData.bulk]; omega) (by simp only [PyData.depth]; omega),
    shq_of (.lst n2 h2 g1) (by simpa only [smQ] using g2) (by simp only [PyData.bulk]; omega) (by simp only [PyData.depth]; omega)⟩
theorem shq_tup2 {m : Nat} {c : Addr} (h : SqT K H a xs) (h2 : SqT K H c xs) (i : ∀ y ∈ xs, ItQ b K H m y) (l : (m + 1) * xs.length ≤ 390000) : ∃ z, Shq K H (.ref a) z ∧ Shq K H (.ref c) z := by
  obtain ⟨ds, g1, g2, g3, g4⟩ := itqs i
  exact ⟨_, shq_of (.tup h g1) (by simpa only [smQ] using g2) (by simp only [PyData.bulk]; omega) (by simp only [PyData.depth]; omega),
    shq_of (.tup h2 g1) (by simpa only [smQ] using g2) (by simp only [PyData.bulk]; omega) (by simp only [PyData.depth]; omega)⟩
/-- a list of things within a list -/
theorem itq_lst {m M : Nat} (h : SqL K H a xs) (n1 : b = true → a ≠ sysModules) (i : ∀ y ∈ xs, ∃ d, Dq b K H y d ∧ smQ d = true ∧ d.bulk ≤ m ∧ d.depth = 0) (l : (m + 1) * xs.length ≤ M) : ItQ b K H M (.ref a) := by
  have go : ∀ {xs : List V}, (∀ y ∈ xs, ∃ d, Dq b K H y d ∧ smQ d = true ∧ d.bulk ≤ m ∧ d.depth = 0) → ∃ ds, DqAll b K H xs ds ∧ smQL ds = true ∧ PyData.bulkAll ds ≤ (m + 1) * xs.length ∧ PyData.depthAll ds = 0 := by
    intro xs
    induction xs with
    | nil => exact fun _ => ⟨[], .nil, rfl, Nat.le_refl _, rfl⟩
    | cons y ys ih =>
      intro h
      obtain ⟨d, h1, h2, h3, h4⟩ := h y List.mem_cons_self
      obtain ⟨ds, g1, g2, g3, g4⟩ := ih fun z hz => h z (List.mem_cons_of_mem _ hz)
      refine ⟨d :: ds, .cons h1 g1, by simp only [smQL, h2, g2, Bool.and_true], ?_, ?_⟩
      · simp only [PyData.bulkAll, List.length_cons, Nat.mul_succ]
        omega
      · simp only [PyData.depthAll, h4, g4]
        rfl
  obtain ⟨ds, g1, g2, g3, g4⟩ := go i
  exact ⟨_, .lst n1 h g1, by simpa only [smQ] using g2, by simp only [PyData.bulk]; omega, by simp only [PyData.depth, g4]; omega⟩
theorem dqS (h : smS v = true) : Dq b K H v (datS v) ∧ smQ (datS v) = true ∧ (datS v).bulk ≤ 100 ∧ (datS v).depth = 0 := by
  obtain ⟨h1, h2, h3, h4⟩ := datS_ok (K := K) (H := H) h
  refine ⟨?_, ?_, h3, h4⟩
  · cases v with
    | non => exact .non
    | bl b => exact .bl b
    | int i => exact .int i
    | str z => exact .str z
    | _ => exact nomatch h
  · cases v with
    | non => exact rfl
    | bl b => exact rfl
    | int i => simpa only [smallD, smQ, datS] using h2
    | str z => simpa only [smallD, smQ, datS] using h2
    | _ => exact nomatch h
theorem itq_sc (h : smS v = true) : ItQ b K H 100 v := let ⟨h1, h2, h3, h4⟩ := dqS h; ⟨_, h1, h2, h3, by omega⟩
theorem itq_int {i : Int} (h : i.natAbs < 10 ^ 38) : ItQ b K H 0 (.int i) := ⟨.int i, .int i, by simpa only [smQ, decide_eq_true_eq] using h, Nat.le_refl _, by simp only [PyData.depth]; decide⟩
theorem ItQ.mono {m M : Nat} (h : ItQ b K H m v) (l : m ≤ M) : ItQ b K H M v := let ⟨d, h1, h2, h3, h4⟩ := h; ⟨d, h1, h2, by omega, h4⟩
theorem shq_sc (h : smS v = true) : Shq K H v (datS v).shown := let ⟨h1, h2, h3, h4⟩ := dqS (b := false) h; shq_of h1 h2 (by omega) (by omega)
end
/-! new lists and dicts stand where no dict of modules does -/
def NewLB (xs : List V) (H : Hp) (Q : VK) : Prop := xs.length ≤ sizeLine ∧ ∀ p, H p = none → p ≠ sysModules → Q (.ref p) (upd H p (.lst xs))
def tLstB (t : TA) : TE := fun σ H Q => t σ H fun xs H1 => NewLB xs H1 Q
section
variable {X : Cx} {es : List Expr} {t : TA} {pos : Pos}
theorem pe_lstB (h : PA X es t) : PE X (.List es pos) (tLstB t) := by
  refine ⟨fun pins s σ H Q I hq => ?_⟩
  refine wpAny_List_spliced (thn (h.run pos pins s σ H _ I hq) fun us s1 ⟨xs, H1, I1, r, z, q⟩ => ⟨by rw [← r.length]; exact z, ?_⟩)
  have hf : H1 s1.heap.objs.size = none := I1.hok.fresh (Nat.le_refl _)
  refine ⟨.ref s1.heap.objs.size, upd H1 s1.heap.objs.size (.lst xs), I1.laid (t' := s1.toks) (fun b u e => Heap.get?_push_of_some _ e) (Nat.le_refl _) ?_, rfl, q _ hf (Nat.ne_of_gt I1.big)⟩
  exact ⟨z, us, 0, r, Heap.get?_push_size _ rfl⟩
theorem r_lstB {σ : L2.St} {H : Hp} {Q : VK} (q : t σ H fun xs H1 => NewLB xs H1 Q) : tLstB t σ H Q := q
theorem newLB {xs : List V} {H : Hp} {Q : VK} (q : ∀ p H', H p = none → p ≠ sysModules → Same H H' → H' p = some (.lst xs) → Q (.ref p) H') (hl : xs.length ≤ 10000 := by exact Nat.le_of_ble_eq_true rfl) : NewLB xs H Q :=
  ⟨Nat.le_trans hl (by decide), fun p hp ns => q p _ hp ns (same_upd hp) upd_same⟩
end
end Bk

namespace Bk
open PySem PySem.Spec PyProof.Rows L2
/-! ## 26. isinstance of what an except suite holds -/
def rIsH (K : PySem.W.Frag) (a : Addr) (cls : Value) (d : Option Addr) (C : Addr) : List V → Hp → VK → Prop := fun xs H Q => ∃ (c : V) (u : Value) (b : Bool) (dd : Addr) (fs : List (Str × V)), xs = [.ref a, c] ∧ cls = .ref C ∧ d = some dd ∧ H dd = some (.xd fs) ∧ ClsV c u ∧ PySem.W.kitOne K (.ref C) u = some b ∧ Q (.bl b) H
def rIsH2 (K : PySem.W.Frag) (a : Addr) (cls : Value) (d : Option Addr) (C : Addr) : List V → Hp → VK → Prop := fun xs H Q => ∃ (tp : Addr) (cs : List V) (us : List Value) (b : Bool) (dd : Addr) (fs : List (Str × V)), xs = [.ref a, .ref tp] ∧ cls = .ref C ∧ d = some dd ∧ H dd = some (.xd fs) ∧ H tp = some (.tup cs) ∧ Paired ClsV cs us ∧ PySem.W.kitAny K (.ref C) us = some b ∧ Q (.bl b) H
section
variable {X : Cx} {a C : Addr} {oe : Obj} {cls : Value} {d : Option Addr} {pn : List (Addr × Obj)}
theorem held_inst {pins : List (Addr × Obj)} {σ : L2.St} {H : Hp} {s : Shared} {dd : Addr} {fs : List (Str × V)} (I : Inv (X.suite a ((a, oe) :: pn)) pins σ H s) (hz : Zc (.ref C) (some dd) oe) (hf : ∃ vs, oe.data = .fields vs) (ea : H dd = some (.xd fs)) :
    ∃ od, PySem.W.InstAt s.heap a oe C (some od) := by
  obtain ⟨ha, _⟩ := I.pin (a, oe) (List.mem_append_left _ List.mem_cons_self)
  obtain ⟨vs, hd⟩ := hf
  have hx : ObjOk X.prog X.w H s.heap dd (.xd fs) := I.hok dd _ ea
  obtain ⟨mA, hns, hr⟩ := hx
  obtain ⟨od, ho, hl⟩ := lookIn_ns hns
  exact ⟨od, ha, hz.1, by unfold PySem.W.notCls; rw [hd] <;> rfl, by rw [hz.2]; exact ho⟩
theorem call_isH (T : ExcC X.K C) (hz : Zc cls d oe) (hf : ∃ vs, oe.data = .fields vs) : CallR (X.suite a ((a, oe) :: pn)) (.builtin "isinstance") (rIsH X.K a cls d C) := by
  intro pins s σ H xs us Q I r h
  obtain ⟨c, u, b, dd, fs, rfl, ec, ed, ea, k, e, q⟩ := h
  subst ec
  subst ed
  obtain ⟨u1, u2, rfl, r1, r2⟩ := vals2 r
  have e2 := k.eq r2
  subst e2
  obtain rfl : u1 = Value.ref a := r1
  obtain ⟨od, J⟩ := held_inst I hz hf ea
  exact PySem.W.kia_one (PySem.W.bk_kitx (ox := oe) (od := some od) T.hg T.hk T.hs T.hd T.ha T.hn T.ht T.hm) I.kIn J e (fun z => nomatch z) fun tk => ⟨.bl b, H, I.tok tk, rfl, q⟩
theorem call_isH2 (T : ExcC X.K C) (hz : Zc cls d oe) (hf : ∃ vs, oe.data = .fields vs) : CallR (X.suite a ((a, oe) :: pn)) (.builtin "isinstance") (rIsH2 X.K a cls d C) := by
  intro pins s σ H xs us Q I r h
  obtain ⟨tp, cs, ws, b, dd, fs, rfl, ec, ed, ea, hT, k, e, q⟩ := h
  subst ec
  subst ed
  obtain ⟨u1, u2, rfl, r1, r2⟩ := vals2 r
  cases (show u2 = Value.ref tp from r2)
  obtain rfl : u1 = Value.ref a := r1
  obtain ⟨od, J⟩ := held_inst I hz hf ea
  obtain ⟨_, its, rv, o, h1, h2, n, h3⟩ := (show ObjOk X.prog X.w H s.heap tp (.tup cs) from I.hok tp _ hT)
  have e3 := ClsV.all k rv
  subst e3
  obtain ⟨oc, od2, dt, sl⟩ := o
  simp only at h2 h3
  subst h2 h3
  exact PySem.W.kia_tup (PySem.W.bk_kitx (ox := oe) (od := some od) T.hg T.hk T.hs T.hd T.ha T.hn T.ht T.hm) I.kIn J h1 e (fun z => nomatch z) fun tk => ⟨.bl b, H, I.tok tk, rfl, q⟩
end
section
variable {K : PySem.W.Frag} {a C : Addr} {cls : Value} {d : Option Addr} {H : Hp} {Q : VK}
theorem r_isH {dd : Addr} {fs : List (Str × V)} {D : Addr} {b : Bool} (ec : cls = .ref C) (ed : d = some dd) (ea : H dd = some (.xd fs)) (e : PySem.W.kitOne K (.ref C) (.ref D) = some b) (q : Q (.bl b) H) : rIsH K a cls d C [.ref a, .ref D] H Q :=
  ⟨_, _, b, dd, fs, rfl, ec, ed, ea, .own D, e, q⟩
theorem r_isHB {dd : Addr} {fs : List (Str × V)} {T : String} {b : Bool} (ec : cls = .ref C) (ed : d = some dd) (ea : H dd = some (.xd fs)) (e : PySem.W.kitOne K (.ref C) (.type T) = some b) (q : Q (.bl b) H) : rIsH K a cls d C [.ref a, .ty T] H Q :=
  ⟨_, _, b, dd, fs, rfl, ec, ed, ea, .ty T, e, q⟩
theorem r_isH2 {dd tp : Addr} {fs : List (Str × V)} {D1 D2 : Addr} {b c : Bool} (ec : cls = .ref C) (ed : d = some dd) (ea : H dd = some (.xd fs)) (et : H tp = some (.tup [.ref D1, .ref D2])) (e : PySem.W.kitOne K (.ref C) (.ref D1) = some b) (e2 : PySem.W.kitOne K (.ref C) (.ref D2) = some c) (q : Q (.bl (b || c)) H) : rIsH2 K a cls d C [.ref a, .ref tp] H Q := by
  refine ⟨tp, _, [.ref D1, .ref D2], _, dd, fs, rfl, ec, ed, ea, et, .cons (.own D1) (.cons (.own D2) .nil), ?_, q⟩
  cases b with
  | true => exact kitAny_cons e (fun z => nomatch z) (fun _ => rfl)
  | false => exact kitAny_cons e (fun _ => by cases c with
      | true => exact kitAny_cons e2 (fun z => nomatch z) (fun _ => rfl)
      | false => exact kitAny_cons e2 (fun _ => kitAny_nil) (fun z => nomatch z)) (fun z => nomatch z)
theorem kit_own {D : Addr} {b : Bool} (self : PySem.W.subIn K (.ref C) (.ref C) = some true) (hdct : PySem.W.hasDictIn K D = true) (ht : PySem.W.typeIn K (.ref D) = some (.type "type")) (h : PySem.W.subIn K (.ref C) (.ref D) = some b) : PySem.W.kitOne K (.ref C) (.ref D) = some b := by
  obtain ⟨cd, hc, _⟩ := PySem.W.any_some hdct
  unfold PySem.W.kitOne
  by_cases e : C = D
  · subst e
    rw [self] at h
    obtain rfl := Option.some.inj h
    rw [if_pos (beq_self_eq_true _)]
  · rw [if_neg (fun z => e (by injection (beq_iff_eq.mp z)))]
    show (if ((PySem.W.clsIn K D).isSome && PySem.W.typeIn K (.ref D) == some (.type "type")) = true then PySem.W.subIn K (.ref C) (.ref D) else none) = some b
    rw [if_pos (by rw [hc, ht]; rfl)]
    exact h
end
theorem call_list_ofK {X : Cx} {K : PySem.W.Frag} (h : X.K = K) : CallR X (.type "list") (fun xs H Q => ∃ p ys, xs = [.ref p] ∧ (SqL K H p ys ∨ SqT K H p ys) ∧ ∀ l, H l = none → Q (.ref l) (upd H l (.lst ys))) := by
  subst h
  exact call_list_of
theorem call_len_seqK {X : Cx} {K : PySem.W.Frag} (h : X.K = K) : CallR X (.builtin "len") (fun xs H Q => ∃ p ys, xs = [.ref p] ∧ (SqL K H p ys ∨ SqT K H p ys) ∧ Q (.int ys.length) H) := by
  subst h
  exact call_len_seq
/-- all that is asked of an own exception class -/
structure ExcA (K : PySem.W.Frag) (b : Bs) (nm : Str) (C f : Addr) : Prop where
  ox : OexT K b C
  i : PySem.W.findIn K (.ref C) "__init__" = some (some (.ref f))
  t : PySem.W.typeIn K (.ref f) = some (.type "function")
  nf : PySem.W.findIn K (.ref C) nm = some none
  xf : XfC K C
  xc : ExcC K C
/-! ## 26a. comprehensions that lay new things -/
section
variable {K : PySem.W.Frag} {σ : L2.St} {H : Hp} {Q : VK} {j : Nat} {vs : List Nat} {te tl : TE} {a : Addr} {xs : List V}
theorem lcNewR (n : Nat) (c : Nat → HO) (hl : n ≤ 1000) (hw : ∀ x, wipe ((wipe σ vs).set j (some x)) vs = wipe σ vs)
    (ht : ∀ (i : Nat) (H1 : Hp) (Q' : VK), i < n → Same H H1 → (∀ t H3, H1 t = none → Same H1 H3 → H3 t = some (c i) → Q' (.ref t) H3) → te ((wipe σ vs).set j (some (.int (0 + (i : Int))))) H1 Q')
    (q : ∀ D H' (ts : List Addr), H D = none → Same H H' → H' D = some (.lst (ts.map V.ref)) → ts.length = n → (∀ k t, ts[k]? = some t → H' t = some (c k)) → (D :: ts).Nodup → (∀ t ∈ ts, H t = none) → Q (.ref D) H') :
    tLc (iRng1 (tCons (tC (.int n)) tNil)) (gName j) tYes te vs σ H Q := by
  refine ⟨_, rfl, by omega, by omega, fun D hD => ?_⟩
  rw [Int.toNat_natCast]
  refine lc_new (g := gName j) (te := te) (vs := vs) (σ := σ) (Q := Q) walk_range c hD (by omega) (fun _ _ => trivial) (fun i x H1 H2 Q' R' hi sm y k => ?_) fun H' ts s e l all nd fr => q D H' ts hD s e l all nd fr
  obtain ⟨rfl, rfl⟩ := y
  refine ⟨hw _, r_yes ?_⟩
  exact ht i H2 Q' hi sm k
theorem lcNewL (c : Nat → HO) (hv : ∀ QQ : VK, QQ (.ref a) H → tl σ H QQ) (hs : SqL K H a xs) (hl : xs.length ≤ 10000) (hw : ∀ x, wipe ((wipe σ vs).set j (some x)) vs = wipe σ vs)
    (ht : ∀ (i : Nat) (y : V) (H1 : Hp) (Q' : VK), xs[i]? = some y → Same H H1 → (∀ t H3, H1 t = none → Same H1 H3 → H3 t = some (c i) → Q' (.ref t) H3) → te ((wipe σ vs).set j (some y)) H1 Q')
    (q : ∀ D H' (ts : List Addr), H D = none → Same H H' → H' D = some (.lst (ts.map V.ref)) → ts.length = xs.length → (∀ k t, ts[k]? = some t → H' t = some (c k)) → (D :: ts).Nodup → (∀ t ∈ ts, H t = none) → Q (.ref D) H') :
    tLc (iList K tl) (gName j) tYes te vs σ H Q := by
  refine hv _ ⟨a, rfl, ⟨xs, hs⟩, fun D hD => ?_⟩
  refine lc_new (g := gName j) (te := te) (vs := vs) (σ := σ) (Q := Q) walk_list c hD hl (fun _ s => s.seq hs) (fun i x H1 H2 Q' R' hi sm y k => ?_) fun H' ts s e l all nd fr => q D H' ts hD s e l all nd fr
  obtain ⟨rfl, hx⟩ := y
  exact ⟨hw _, r_yes (ht i x H2 Q' hx sm k)⟩
end
/-! ## 27. a count -/
def countV (x : V) : Bool := match x with
  | .int i => decide (0 ≤ i)
  | _ => false
/-- a thing of which isinstance(.., int) is known -/
def WC (K : PySem.W.Frag) (H : Hp) (x : V) : Prop := (∃ i, x = .int i) ∨ (∃ b, x = .bl b) ∨ (IsA K H x "int" false ∧ (∀ l h, wholeV x l h = false) ∧ countV x = false)
theorem WC.wd {K : PySem.W.Frag} {H : Hp} {x : V} (h : WC K H x) : WD K H x := by
  rcases h with h | h | ⟨h1, h2, _⟩
  · exact .inl h
  · exact .inr (.inl h)
  · exact .inr (.inr ⟨h1, h2⟩)
def spCount (K : PySem.W.Frag) : Sp := fun vs H Q _ => ∃ x : V, vs = [x] ∧ WC K H x ∧ Q (.bl (countV x)) H
def spCheckN (K : PySem.W.Frag) (C : Addr) : Sp := fun vs H Q E => ∃ (x : V) (lo hi : Int), vs = [x, .int lo, .int hi] ∧ WD K H x ∧ ((wholeV x lo hi = true ∧ Q .non H) ∨ (wholeV x lo hi = false ∧ Refuse C x H E))
def spCheckC (K : PySem.W.Frag) (C : Addr) : Sp := fun vs H Q E => ∃ x : V, vs = [x] ∧ WC K H x ∧ ((countV x = true ∧ Q .non H) ∨ (countV x = false ∧ Refuse C x H E))
theorem whole_int {i lo hi : Int} (h0 : lo ≤ i) (h1 : i ≤ hi) : wholeV (.int i) lo hi = true := by
  show (decide (lo ≤ i) && decide (i ≤ hi)) = true
  rw [decide_eq_true h0, decide_eq_true h1]
  rfl
theorem count_int {i : Int} (h0 : 0 ≤ i) : countV (.int i) = true := decide_eq_true h0
end Bk

namespace Bk
open PySem PySem.Spec PyProof.Rows L2
/-! ## 28. return [tag, e.f, isinstance(e, G) and not isinstance(e, (B1, B2))] -/
def tHit (K : PySem.W.Frag) (i : Nat) (C G B1 B2 : Addr) (tag nm : Str) (a : Addr) (cls : Value) (d : Option Addr) : TS :=
  tRet (tLstB (tCons (tC (.str tag)) (tCons (tXf a cls d C nm (tVar i)) (tCons (tAndV (tCB (rIsH K a cls d C) (tCons (tVar i) (tCons (tC (.ref G)) tNil)))
    (tNotV (tCB (rIsH2 K a cls d C) (tCons (tVar i) (tCons (tTup (tCons (tC (.ref B1)) (tCons (tC (.ref B2)) tNil))) tNil))))) tNil))))
theorem caught_lst {K : PySem.W.Frag} {C d G B1 B2 : Addr} {i : Nat} {σ : L2.St} {H' : Hp} {D : Ends} {l : List ClA} {v : V} {tag nm : Str} (e : PySem.W.exmOne K (.ref C) (.ref C) = some true) (hi : i < σ.length) (ed : H' d = some (.xd [(nm, v)]))
    (kG : PySem.W.kitOne K (.ref C) (.ref G) = some true) (k1 : PySem.W.kitOne K (.ref C) (.ref B1) = some false) (k2 : PySem.W.kitOne K (.ref C) (.ref B2) = some false)
    (q : ∀ p H2, H' p = none → p ≠ sysModules → Same H' H2 → H2 p = some (.lst [.str tag, v, .bl true]) → D.rt (.ref p) H2) :
    wAM K D ((.ref C, i, fun a cls d => tHit K i C G B1 B2 tag nm a cls d) :: l) (.ref C) (some d) σ H' := by
  refine w_hit e fun a na => ?_
  show tHit K i C G B1 B2 tag nm a (.ref C) (some d) (offI i D) (σ.set i (some (.ref a))) H'
  have hv : (σ.set i (some (V.ref a)))[i]? = some (some (.ref a)) := List.getElem?_set_self hi
  refine r_ret (r_lstB (r_cons (r_c (r_cons ?_))))
  refine ⟨.ref a, hv, rfl, rfl, d, _, v, rfl, ed, by rw [List.lookup_cons, beq_self_eq_true], ?_⟩
  refine r_cons (r_andV (r_cb (r_cons (r_var hv (r_cons (r_c (r_nil (r_isH rfl rfl ed kG ⟨true, rfl, iteT ?_⟩))))))))
  refine r_notV (r_cb (r_cons (r_var hv (r_cons (r_tup (r_cons (r_c (r_cons (r_c (r_nil (newT fun tp H2 nt st et => ?_)))))))))))
  refine r_nil (r_isH2 rfl rfl (st _ _ ed) et k1 k2 ⟨_, rfl, r_nil (newLB fun p H3 np ns s3 e3 => q p H3 (st.free np) ns (st.trans s3) e3)⟩)
theorem r_disp1 {σ : L2.St} {H : Hp} {Q : VK} {k : Key} {v : V} (q : ∀ p H', H p = none → Same H H' → H' p = some (.dK [(k, v)]) → Q (.ref p) H') : tDisp [(tC (kV k), tC v)] σ H Q := by
  intro p np
  refine ⟨upd_same, [(k, v)], rfl, (by show 1 ≤ 15; decide), ?_⟩
  refine q p _ np (fun b o e => ?_) upd_same
  rw [upd_ne (ne_of_none e np), upd_ne (ne_of_none e np)]
  exact e
/-! ## 29. things of a known depth -/
section
variable {b : Bool} {K : PySem.W.Frag} {H H' : Hp} {v : V} {a : Addr} {xs : List V}
def ItD (b : Bool) (K : PySem.W.Frag) (H : Hp) (m k : Nat) (v : V) : Prop := ∃ d, Dq b K H v d ∧ smQ d = true ∧ d.bulk ≤ m ∧ d.depth ≤ k
theorem ItD.q {m k : Nat} (h : ItD b K H m k v) (l : k ≤ 20) : ItQ b K H m v := let ⟨d, h1, h2, h3, h4⟩ := h; ⟨d, h1, h2, h3, by omega⟩
theorem ItD.mono {m k M L : Nat} (h : ItD b K H m k v) (l : m ≤ M) (l2 : k ≤ L) : ItD b K H M L v := let ⟨d, h1, h2, h3, h4⟩ := h; ⟨d, h1, h2, by omega, by omega⟩
theorem itds {m k : Nat} : ∀ {xs : List V}, (∀ y ∈ xs, ItD b K H m k y) → ∃ ds, DqAll b K H xs ds ∧ smQL ds = true ∧ PyData.bulkAll ds ≤ (m + 1) * xs.length ∧ PyData.depthAll ds ≤ k
  | [], _ => ⟨[], .nil, rfl, Nat.le_refl _, Nat.zero_le _⟩
  | y :: ys, h => by
    obtain ⟨d, h1, h2, h3, h4⟩ := h y List.mem_cons_self
    obtain ⟨ds, g1, g2, g3, g4⟩ := itds fun z hz => h z (List.mem_cons_of_mem _ hz)
    refine ⟨d :: ds, .cons h1 g1, by simp only [smQL, h2, g2, Bool.and_true], ?_, ?_⟩
    · simp only [PyData.bulkAll, List.length_cons, Nat.mul_succ]
      omega
    · simp only [PyData.depthAll]
      omega
theorem itd_lst {m k M : Nat} (h : SqL K H a xs) (n1 : b = true → a ≠ sysModules) (i : ∀ y ∈ xs, ItD b K H m k y) (l : (m + 1) * xs.length ≤ M) : ItD b K H M (k + 1) (.ref a) := by
  obtain ⟨ds, g1, g2, g3, g4⟩ := itds i
  exact ⟨_, .lst n1 h g1, by simpa only [smQ] using g2, by simp only [PyData.bulk]; omega, by simp only [PyData.depth]; omega⟩
theorem itd_tup {m k M : Nat} (h : SqT K H a xs) (i : ∀ y ∈ xs, ItD b K H m k y) (l : (m + 1) * xs.length ≤ M) : ItD b K H M (k + 1) (.ref a) := by
  obtain ⟨ds, g1, g2, g3, g4⟩ := itds i
  exact ⟨_, .tup h g1, by simpa only [smQ] using g2, by simp only [PyData.bulk]; omega, by simp only [PyData.depth]; omega⟩
theorem itd_sc (h : smS v = true) : ItD b K H 100 0 v := let ⟨h1, h2, h3, h4⟩ := dqS h; ⟨_, h1, h2, h3, by omega⟩
/-- a dict of scalars, by keys that are scalars -/
theorem itd_dK {kvs : List (Key × V)} (e : H a = some (.dK kvs)) (h : ∀ q ∈ kvs, smS (kV q.1) = true ∧ smS q.2 = true) (l : kvs.length ≤ 5) : ItD true K H 2000 1 (.ref a) := by
  have go : ∀ {l : List (Key × V)}, (∀ q ∈ l, smS (kV q.1) = true ∧ smS q.2 = true) → ∃ ps : List (PyData × PyData), DqAll true K H (l.map fun q => kV q.1) (ps.map (·.1)) ∧ DqAll true K H (l.map (·.2)) (ps.map (·.2)) ∧ smQK ps = true ∧ PyData.bulkKv ps ≤ 202 * l.length ∧ PyData.depthKv ps = 0 := by
    intro l
    induction l with
    | nil => exact fun _ => ⟨[], .nil, .nil, rfl, Nat.le_refl _, rfl⟩
    | cons q r ih =>
      intro h
      obtain ⟨h1, h2⟩ := h q List.mem_cons_self
      obtain ⟨a1, a2, a3, a4⟩ := dqS (b := true) (K := K) (H := H) h1
      obtain ⟨b1, b2, b3, b4⟩ := dqS (b := true) (K := K) (H := H) h2
      obtain ⟨ps, g1, g2, g3, g4, g5⟩ := ih fun z hz => h z (List.mem_cons_of_mem _ hz)
      refine ⟨(datS (kV q.1), datS q.2) :: ps, .cons a1 g1, .cons b1 g2, by simp only [smQK, a2, b2, g3, Bool.and_true], ?_, ?_⟩
      · simp only [PyData.bulkKv, List.length_cons]
        omega
      · simp only [PyData.depthKv, a4, b4, g5]
        rfl
  obtain ⟨ps, g1, g2, g3, g4, g5⟩ := go h
  exact ⟨.dict ps, .dK rfl e g1 g2, by simpa only [smQ] using g3, by simp only [PyData.bulk]; omega, by simp only [PyData.depth, g5]; omega⟩
end
section
variable {b : Bool} {K : PySem.W.Frag} {H H' : Hp} {v : V} {a : Addr} {xs : List V}
theorem dqSs : ∀ {xs : List V}, xs.all smS = true → DqAll b K H xs (xs.map datS) ∧ smQL (xs.map datS) = true ∧ PyData.bulkAll (xs.map datS) ≤ 101 * xs.length ∧ PyData.depthAll (xs.map datS) = 0
  | [], _ => ⟨.nil, rfl, Nat.le_refl _, rfl⟩
  | y :: ys, h => by
    rw [List.all_cons, Bool.and_eq_true] at h
    obtain ⟨h1, h2, h3, h4⟩ := dqS (b := b) (K := K) (H := H) h.1
    obtain ⟨g1, g2, g3, g4⟩ := dqSs h.2
    rw [List.map_cons]
    refine ⟨.cons h1 g1, by simp only [smQL, h2, g2, Bool.and_true], ?_, ?_⟩
    · simp only [PyData.bulkAll, List.length_cons]
      omega
    · simp only [PyData.depthAll, h4, g4]
      rfl
/-- a list of scalars: its text hangs on them alone -/
theorem shq_lsc (h : SqL K H a xs) (i : xs.all smS = true) (l : xs.length ≤ 3000) : Shq K H (.ref a) (PyData.list (xs.map datS)).shown := by
  obtain ⟨g1, g2, g3, g4⟩ := dqSs (b := false) (K := K) (H := H) i
  exact shq_of (b := false) (.lst (fun z => Bool.noConfusion z) h g1) (by simpa only [smQ] using g2) (by simp only [PyData.bulk]; omega) (by simp only [PyData.depth]; omega)
theorem shq_tsc (h : SqT K H a xs) (i : xs.all smS = true) (l : xs.length ≤ 3000) : Shq K H (.ref a) (PyData.tuple (xs.map datS)).shown := by
  obtain ⟨g1, g2, g3, g4⟩ := dqSs (b := false) (K := K) (H := H) i
  exact shq_of (b := false) (.tup h g1) (by simpa only [smQ] using g2) (by simp only [PyData.bulk]; omega) (by simp only [PyData.depth]; omega)
end
/-! ## 30. odd things -/
/-- a thing that is no number of any use; fp: its lists; m: how many things a list of it has at most -/
inductive OddV (H : Hp) (m : Nat) : List Addr → V → Prop
  | sc {v : V} (h : smS v = true) (hw : ∀ lo hi, 0 ≤ lo → wholeV v lo hi = false) (hc : countV v = false) : OddV H m [] v
  | tup {a : Addr} {xs : List V} (e : H a = some (.tup xs)) (h : ∀ y ∈ xs, smS y = true) (l : xs.length ≤ 5) : OddV H m [] (.ref a)
  | dK {a : Addr} {kvs : List (Key × V)} (e : H a = some (.dK kvs)) (h : ∀ q ∈ kvs, smS (kV q.1) = true ∧ smS q.2 = true) (l : kvs.length ≤ 5) : OddV H m [] (.ref a)
  | lst {a : Addr} {xs : List V} {fp : List Addr} (e : H a = some (.lst xs)) (ns : a ≠ sysModules) (l : xs.length ≤ m) (h : ∀ y ∈ xs, smS y = true ∨ ∃ c ∈ fp, y = .ref c) (na : a ∉ fp) (hf : ∀ c ∈ fp, c ≠ sysModules ∧ ∃ ys, H c = some (.lst ys) ∧ (∀ y ∈ ys, smS y = true) ∧ ys.length ≤ 5) : OddV H m (a :: fp) (.ref a)
section
variable {K : PySem.W.Frag} {H H' : Hp} {m n : Nat} {fp : List Addr} {v : V} {bx : Addr}
/-- what may change -/
theorem OddV.keep (o : OddV H m fp v) (k : ∀ b ∈ fp, H' b = H b) (t : ∀ b xs, H b = some (.tup xs) → H' b = some (.tup xs)) (d : ∀ b kvs, H b = some (.dK kvs) → H' b = some (.dK kvs)) (l : m ≤ n) : OddV H' n fp v := by
  cases o with
  | sc h hw hc => exact .sc h hw hc
  | tup e h l => exact .tup (t _ _ e) h l
  | dK e h l => exact .dK (d _ _ e) h l
  | lst e ns l1 h na hf =>
    exact .lst (by rw [k _ List.mem_cons_self]; exact e) ns (by omega) h na fun c hc => by
      obtain ⟨h1, ys, h2, h3⟩ := hf c hc
      exact ⟨h1, ys, by rw [k _ (List.mem_cons_of_mem _ hc)]; exact h2, h3⟩
/-- the lists among them stand -/
theorem OddV.there (o : OddV H m fp v) : ∀ b ∈ fp, ∃ xs, H b = some (.lst xs) := by
  cases o with
  | sc h hw hc => exact fun b z => nomatch z
  | tup e h l => exact fun b z => nomatch z
  | dK e h l => exact fun b z => nomatch z
  | lst e ns l1 h na hf =>
    intro b hb
    rcases List.mem_cons.mp hb with z | z
    · exact ⟨_, by rw [z]; exact e⟩
    · obtain ⟨_, ys, h2, _⟩ := hf b z
      exact ⟨ys, h2⟩
theorem OddV.same (o : OddV H m fp v) (s : Same H H') : OddV H' m fp v := o.keep (fun b hb => by
    obtain ⟨xs, e⟩ := o.there b hb
    rw [e]; exact s _ _ e) (fun b xs e => s _ _ e) (fun b kvs e => s _ _ e) (Nat.le_refl _)
/-- what stands at bx, a list that is none of these, may change -/
theorem OddV.but {xs : List V} (o : OddV H m fp v) (eb : H bx = some (.lst xs)) (n : bx ∉ fp) (s : But bx H H') : OddV H' m fp v := o.keep (fun b hb => by
    obtain ⟨xs, e⟩ := o.there b hb
    rw [e]; exact s _ _ (fun z => n (z ▸ hb)) e) (fun b xs e => s _ _ (fun z => by rw [z, eb] at e; exact nomatch e) e) (fun b kvs e => s _ _ (fun z => by rw [z, eb] at e; exact nomatch e) e) (Nat.le_refl _)
theorem OddV.wc (o : OddV H m fp v) : WC K H v ∧ countV v = false ∧ ∀ lo hi, 0 ≤ lo → wholeV v lo hi = false := by
  cases o with
  | @sc v h hw hc =>
    refine ⟨?_, hc, hw⟩
    cases v with
    | int i => exact .inl ⟨i, rfl⟩
    | bl b => exact .inr (.inl ⟨b, rfl⟩)
    | non => exact .inr (.inr ⟨isa_non, fun _ _ => rfl, rfl⟩)
    | str z => exact .inr (.inr ⟨isa_str, fun _ _ => rfl, rfl⟩)
    | _ => exact nomatch h
  | tup e h l => exact ⟨.inr (.inr ⟨isa_tup e, fun _ _ => rfl, rfl⟩), rfl, fun _ _ _ => rfl⟩
  | dK e h l => exact ⟨.inr (.inr ⟨isa_dK e, fun _ _ => rfl, rfl⟩), rfl, fun _ _ _ => rfl⟩
  | lst e ns l1 h na hf => exact ⟨.inr (.inr ⟨isa_lst e, fun _ _ => rfl, rfl⟩), rfl, fun _ _ _ => rfl⟩
theorem OddV.it (o : OddV H m fp v) : ItQ true K H (2000 + 700 * m) v := by
  cases o with
  | sc h hw hc => exact ((itd_sc h).q (by decide)).mono (by omega)
  | tup e h l => exact ((itd_tup (m := 100) (k := 0) (M := 2000) (sqT e) (fun y hy => itd_sc (h y hy)) (by omega)).q (by decide)).mono (by omega)
  | dK e h l => exact ((itd_dK e h l).q (by decide)).mono (by omega)
  | lst e ns l1 h na hf =>
    refine ((itd_lst (m := 600) (k := 1) (M := 2000 + 700 * m) (sqL e) (fun _ => ns) (fun y hy => ?_) (by
      have := Nat.mul_le_mul_left 601 l1
      omega)).q (by decide)).mono (by omega)
    rcases h y hy with z | ⟨c, hc, rfl⟩
    · exact (itd_sc z).mono (by omega) (by omega)
    · obtain ⟨n1, ys, h2, h3, h4⟩ := hf c hc
      exact (itd_lst (m := 100) (k := 0) (M := 600) (sqL h2) (fun _ => n1) (fun y hy => itd_sc (h3 y hy)) (by omega)).mono (by omega) (by omega)
/-- a list among them grows by a scalar -/
theorem OddV.grow {a : Addr} {xs : List V} {y : V} (o : OddV H m fp v) (ea : H a = some (.lst xs)) (hy : smS y = true) (h : v = .ref a ∨ a ∉ fp) : OddV (upd H a (.lst (xs ++ [y]))) (m + 1) fp v := by
  rcases h with rfl | h
  · cases o with
    | sc h hw hc => exact nomatch h
    | tup e h l => rw [ea] at e; exact nomatch e
    | dK e h l => rw [ea] at e; exact nomatch e
    | @lst _ xs2 fp2 e ns l1 h na hf =>
      rw [ea] at e
      obtain rfl : xs = xs2 := by injection (Option.some.inj e)
      refine .lst upd_same ns (by rw [List.length_append]; exact Nat.succ_le_succ l1) (fun z hz => ?_) na fun c hc => ?_
      · rcases List.mem_append.mp hz with z1 | z1
        · exact h z z1
        · rw [List.mem_singleton.mp z1]; exact .inl hy
      · obtain ⟨n1, ys, h2, h3⟩ := hf c hc
        exact ⟨n1, ys, by rw [upd_ne (fun q => na (by rw [← q]; exact hc))]; exact h2, h3⟩
  · refine o.keep (fun b hb => upd_ne fun z => h (z ▸ hb)) (fun b ys e => ?_) (fun b kvs e => ?_) (Nat.le_succ _)
    · rw [upd_ne (fun z => by rw [z, ea] at e; exact nomatch e)]; exact e
    · rw [upd_ne (fun z => by rw [z, ea] at e; exact nomatch e)]; exact e
/-- isinstance(v, list) -/
theorem OddV.isl (o : OddV H m fp v) : (IsA K H v "list" false ∧ fp = []) ∨ ∃ a xs, v = .ref a ∧ H a = some (.lst xs) ∧ a ∈ fp ∧ xs.length ≤ m := by
  cases o with
  | @sc v h hw hc =>
    refine .inl ⟨?_, rfl⟩
    cases v with
    | int i => exact isa_int
    | bl b => exact isa_bl
    | non => exact isa_non
    | str z => exact isa_str
    | _ => exact nomatch h
  | tup e h l => exact .inl ⟨isa_tup e, rfl⟩
  | dK e h l => exact .inl ⟨isa_dK e, rfl⟩
  | lst e ns l1 h na hf => exact .inr ⟨_, _, rfl, e, List.mem_cons_self, l1⟩
end
end Bk

namespace Bk
open PySem PySem.Spec PySem.Calls PyProof.Rows L2
/-! ## 31. own exceptions made with keywords, as values -/
section
variable {M : Model} {prog : Program} {w : World} {A : Around} {E : Value → Shared → Prop} {R : Result → Shared → Prop} {h : Heap} {g : Array GenState} {d : Drawn} {t : Nat} {os : OsState}
variable {nm q : Str} {C N : Addr} {bs bm bmB : List Value} {hdct : Bool} {sn : List Str} {sub : List Value} {ab : Bool} {col : Option Bool} {dd : Option Addr} {k0 k1 k2 k3 k5 : Option Value} {B newId i0 IB initId : String} {rest : List Value}
variable {kw : List (Str × Value)}
theorem checkTypeK {Q : Unit → Shared → Prop} (hC : h.get? C = some (excClassObj nm q C N bs bm hdct sn sub ab col dd k0 k1 k2 k3 k5 newId)) (hq : Q () ⟨h, g, d, t, os⟩) : wpAny M A (checkBuiltinCall "type.__call__" ⟨.ref C :: rest, kw⟩) Q E ⟨h, g, d, t, os⟩ := by
  have f3 := tc_sub
  have hT : (⟨h, g, d, t, os⟩ : Shared).TypeIs (.ref C) "type" := ⟨_, hC, rfl⟩
  simp only [checkBuiltinCall, tc_kind, tc_split]
  repeat (any_goals (first | assumption | with_reducible refine wpAny_loadPart_at hC ?_ | with_reducible refine wpAny_onRaise ?_ | with_reducible refine wpAny_map ?_ | wp_step))
theorem checkNewK (F : ExcBaseFacts B newId i0 bmB) (hB : bm.contains (.type B) = true) {Q : Unit → Shared → Prop} (hC : h.get? C = some (excClassObj nm q C N bs bm hdct sn sub ab col dd k0 k1 k2 k3 k5 newId)) (hq : Q () ⟨h, g, d, t, os⟩) :
    wpAny M A (checkBuiltinCall newId ⟨.ref C :: rest, kw⟩) Q E ⟨h, g, d, t, os⟩ := by
  have cB : (Value.ref C :: bm).contains (.type B) = true := by rw [List.contains_cons, hB, Bool.or_true]
  have star := F.noStar
  simp only [checkBuiltinCall, F.newKind, F.newSplit, F.newRow]
  repeat (first | refine wpAny_loadPart_at hC ?_ | (refine wpAny_isSubtype_exc hC ?_; rw [cB]) | refine wpAny_staticBase_exc hC ?_ | refine wpAny_madeBy_exc hC ?_ | simp only [bne_self_eq_false, Bool.false_eq_true, if_false] | wp_step)
  exact hq
theorem newK (F : ExcBaseFacts B newId i0 bmB) (hB : bm.contains (.type B) = true) (hA : bm.contains (.type "AttributeError") = false) (hN : bm.contains (.type "NameError") = false) (hC : h.get? C = some (excClassObj nm q C N bs bm hdct sn sub ab col dd k0 k1 k2 k3 k5 newId)) (hrest : rest.length ≤ sizeLine)
    (hq : R (.ok (.ret (.ref (h.objs.size + 1)))) ⟨(h.push (PySem.W.kdv_tup rest)).push (PySem.HandSPX.excO C h.objs.size), g, d, t, os⟩) : codeAny (model prog w) A (.builtin newId ⟨.ref C :: rest, kw⟩) R ⟨h, g, d, t, os⟩ := by
  have hends := F.ends
  have cB : (Value.ref C :: bm).contains (.type B) = true := by rw [List.contains_cons, hB, Bool.or_true]
  have cA : (Value.ref C :: bm).contains (.type "AttributeError") = false := by rw [List.contains_cons, hA]; rfl
  have cN : (Value.ref C :: bm).contains (.type "NameError") = false := by rw [List.contains_cons, hN]; rfl
  refine codeAny_builtinAt F.entry ?_
  unfold Builtin.«BaseException.__new__»
  refine PySem.wpAt_bind ?_
  show PySem.wpAt _ _ _ (stack >>= _) _ _ _
  refine PySem.wpAt_bind (PySem.wpAt_stack fun p below => PySem.wpAt_of_wpAny ?_)
  wp_walk
  refine PySem.wpAt_of_wpAny ?_
  rw [F.owner]
  repeat (first | with_reducible refine wpAny_madeHere_exc F.canon hC ?_ | with_reducible refine wpAny_loadPart_at hC ?_ | (with_reducible refine wpAny_isSubtype_exc hC ?_; first | rw [cB] | rw [cA] | rw [cN]) | wp_step)
  show R _ _
  rw [Heap.size_push]
  exact hq
theorem typeCallK (F : ExcBaseFacts B newId i0 bmB) (hB : bm.contains (.type B) = true) (hA : bm.contains (.type "AttributeError") = false) (hN : bm.contains (.type "NameError") = false) {fI : Addr} {Q : Fin → Shared → Prop} (hC : h.get? C = some (excClassObj nm q C N bs bm hdct sn sub ab col dd k0 k1 k2 k3 k5 newId))
    (hi : PySem.W.Looks (model prog w) h (typeLookup (.ref C) "__init__") (some (.ref fI))) (hb : ∀ self, PySem.W.Looks (model prog w) h (bindSpecial (.ref fI) self) (.ref fI, [self])) (hrest : rest.length ≤ sizeLine)
    (hq : codeAny (model prog w) A (.call (.ref fI) ⟨.ref (h.objs.size + 1) :: rest, kw⟩) (fun r s' => match r with | .ok (.ret v) => v = .none ∧ Q (.done (.ret (.ref (h.objs.size + 1)))) s' | .ok _ => False | .error e => E e s') ⟨(h.push (PySem.W.kdv_tup rest)).push (PySem.HandSPX.excO C h.objs.size), g, d, t, os⟩) :
    wpAny (model prog w) A (Builtin.«type.__call__» ⟨.ref C :: rest, kw⟩) Q E ⟨h, g, d, t, os⟩ := by
  repeat (first | with_reducible refine wpAny_loadPart_at hC ?_ | with_reducible refine wpAny_madeBy_exc hC ?_ | wp_step)
  refine codeAny_call_builtin_code (Code.quiet_builtin _ F.quiet) (checkNewK F hB hC ?_)
  refine newK F hB hA hN hC hrest ?_
  show wpAny _ _ _ _ _ _
  have k : ∀ c o, h.get? c = some o → ((h.push (PySem.W.kdv_tup rest)).push (PySem.HandSPX.excO C h.objs.size)).get? c = some o := fun c o e => Heap.get?_push_of_some _ (Heap.get?_push_of_some _ e)
  have hC1 := k _ _ hC
  have hget : ((h.push (PySem.W.kdv_tup rest)).push (PySem.HandSPX.excO C h.objs.size)).get? (h.objs.size + 1) = some (PySem.HandSPX.excO C h.objs.size) := by heap_get
  have cC : (Value.ref C :: bm).contains (.ref C) = true := by simp
  have i1 := hi.keeps k
  have b1 := (hb (.ref (h.objs.size + 1))).keeps k
  unfold isInstance
  repeat (first | with_reducible refine wpAny_loadPart_at hget ?_ | (with_reducible refine wpAny_isSubtype_exc hC1 ?_; rw [cC]) | wp_step)
  show wpAny _ _ (typeLookup (.ref C) _) _ _ _
  refine i1.at (wpAny_holding (wpAny_bind (b1.at (wpAny_bind (wpAny_call (codeAny_mono hq fun r s' z => ?_))))))
  rcases r with e | (v | _ | _ | _) <;> first | exact z | exact z.elim | skip
  obtain ⟨rfl, z⟩ := z
  first
    | exact wpAny_pure (wpAny_pure z)
    | (wp_walk; exact z)
theorem callK (F : ExcBaseFacts B newId i0 bmB) (hB : bm.contains (.type B) = true) (hA : bm.contains (.type "AttributeError") = false) (hN : bm.contains (.type "NameError") = false) {fI : Addr} (hC : h.get? C = some (excClassObj nm q C N bs bm hdct sn sub ab col dd k0 k1 k2 k3 k5 newId))
    (hi : PySem.W.Looks (model prog w) h (typeLookup (.ref C) "__init__") (some (.ref fI))) (hb : ∀ self, PySem.W.Looks (model prog w) h (bindSpecial (.ref fI) self) (.ref fI, [self])) (hrest : rest.length ≤ sizeLine)
    (hq : codeAny (model prog w) (A.under (.builtin "type.__call__" ⟨.ref C :: rest, kw⟩)) (.call (.ref fI) ⟨.ref (h.objs.size + 1) :: rest, kw⟩) (PySem.W.InitBack (h.objs.size + 1) R) ⟨(h.push (PySem.W.kdv_tup rest)).push (PySem.HandSPX.excO C h.objs.size), g, d, t, os⟩) :
    codeAny (model prog w) A (.call (.ref C) ⟨rest, kw⟩) R ⟨h, g, d, t, os⟩ := by
  have f1 := PySem.tc_lookup
  have f2 := PySem.tc_bind (.ref C)
  have hTy : (⟨h, g, d, t, os⟩ : Shared).TypeIs (.ref C) "type" := ⟨_, hC, rfl⟩
  refine codeAny_of_tree ?_
  show wpAny _ _ (callAny (.ref C) _) _ _ _
  repeat (any_goals (first | assumption | with_reducible refine wpAny_loadPart_at hC ?_ | wp_step))
  refine ⟨rfl, codeAny_call_builtin_at (Code.quiet_builtin _ (by decide +kernel)) entry_typeCall (checkTypeK hC (typeCallK F hB hA hN hC hi hb hrest ?_))⟩
  refine codeAny_mono hq fun r s' z => ?_
  rcases r with e | (v | _ | _ | _) <;> exact z
end
end Bk

namespace Bk
open PySem PySem.Spec PySem.Calls PyProof.Rows L2
/-! ## 32. own exceptions as values -/
section
open Builtin Builtin.ObjectAttr
variable {prog : Program} {w : World} {A : Around} {E : Value → Shared → Prop} {R : Result → Shared → Prop} {hp : Heap} {g : Array GenState} {d : Drawn} {t : Nat} {os : OsState}
/-- a further field -/
theorem osaT2 {K : PySem.W.Frag} {b : Bs} {name : Str} {tk : Tok} {v : Value} {x C dx : Addr} {fv : Array Value} {cd : ClassData} {m0 : Str → Option Value} {nl : List Str} (X : K.In hp) (hx : hp.get? x = some { cls := .ref C, dict := some dx, data := .fields fv }) (hns : hp.Ns1 dx m0) (hw : Within m0 nl) (hz : nl.length ≤ 1000) (hcd : PySem.W.clsIn K C = some cd)
    (hm : Tail b cd.mro) (hh : cd.hasDict = true) (ha : PySem.W.findIn K (.ref C) name = some none) (hq : ∀ h' tk', (∀ c o, c ≠ dx → hp.get? c = some o → h'.get? c = some o) → h'.Ns1 dx (fun y => if y = name then some v else m0 y) → R (.ok (.ret .none)) ⟨h', g, d, tk', os⟩) :
    codeAny (model prog w) A (.call (.builtin "object.__setattr__") ⟨[.ref x, .str name tk, v], []⟩) R ⟨hp, g, d, t, os⟩ := by
  obtain ⟨oD, _, _, hoD, _, _⟩ := hns.count hw
  have I : PySem.W.InstAt hp x { cls := .ref C, dict := some dx, data := .fields fv } C (some oD) := ⟨hx, rfl, rfl, hoD⟩
  have SF := F.store_object
  have hob : cd.mro.contains (.type "object") = true := (hm.has "object").trans b.obj
  have isO : PySem.W.Looks (model prog w) hp (isInstance (.ref x) (.type "object")) true :=
    I.type.andThen (PySem.W.looks_mroIn X (by unfold PySem.W.mroIn; rw [hcd, Option.bind_some, if_neg (by rw [hm.ne]; decide), hob]))
  have lineL : PySem.W.Looks (model prog w) hp (mroOf (.ref C)) cd.mro := (PySem.W.looks_clsIn X hcd).andThen .now
  have noTaker : PySem.W.Looks (model prog w) hp (storeTaker? none) none := .now
  have clsL : PySem.W.Looks (model prog w) hp (classData C) cd := PySem.W.looks_clsIn X hcd
  refine codeAny_call_builtin SF.slot.plain SF.entry (@PySem.W.check_slot (model prog w) _ _ ⟨hp, g, d, t, os⟩ "object.__setattr__" "object" "__setattr__" (.ref x) [.str name tk, v] [] _ SF.kind SF.split isO (SF.args (.ref x) (.str name tk) v) ?_)
  rw [PySem.W.osa_eq, refuse_eq]
  refine wpAny_bind (wpAny_bind (I.type.at (wpAny_bind (lineL.at ?_))))
  rw [hm.pass]
  refine wpAny_pure (wpAny_bind (I.type.at (wpAny_bind ((PySem.W.looks_findIn X ha).at (wpAny_bind (noTaker.at ?_))))))
  show wpAny _ _ (storeInOwnDict (.ref x) (.ref C) (.str name tk) name v false) _ _ _
  obtain ⟨nm, bs, mro, ns, qn, hd, sn, sb, ab, col, del⟩ := cd
  dsimp only at hh
  subst hh
  unfold storeInOwnDict ownDictForStores
  repeat (first | with_reducible refine PySem.OEX.store_in_old hns hw hz ?_ | with_reducible refine wpAny_loadPart_at hx ?_ | with_reducible refine clsL.at ?_ | wp_step)
  exact fun h' tk' hn' hs => hq h' tk' (fun c o hc ho => (hs.2 c hc).trans ho) hn'
end
section
variable {X : Cx} {pins : List (Addr × Obj)} {σ : L2.St} {H : Hp} {s : Shared} {a C dx : Addr} {f : Str} {y : V} {u : Value} {b : Bs} {fs : List (Str × V)} {Q : Unit → Shared → Prop} {E : Value → Shared → Prop} {A : Around}
theorem ost_oldT (T : OexT X.K b C) (I : Inv X pins σ H s) (e : H a = some (exo a C (some dx))) (ed : H dx = some (exd dx fs)) (hl : fs.length ≤ 900) (hno : PySem.W.findIn X.K (.ref C) f = some none) (ry : RelV y u)
    (h : ∀ s', Inv X pins σ (upd H dx (exd dx ((f, y) :: fs))) s' → Q () s') : wpAny (model X.prog X.w) A (setAttr (.ref a) f u) Q E s := by
  obtain ⟨nm, q, N, bs, bm, sn, sub, ab, col, dd, k0, k1, k2, k3, k5, hC, hbm⟩ := T.cls
  obtain ⟨t1, ho⟩ := exo_at I.hok e
  obtain ⟨mA, hns, rel⟩ := exd_at I.hok ed
  have hw := within_of rel
  obtain ⟨hp, g, d, t, os⟩ := s
  obtain ⟨oD, _, _, hoD, _, _⟩ := hns.count hw
  have hcl : PySem.W.clsIn X.K C = some { name := nm, bases := bs, mro := .ref C :: bm, ns := N, qualname := q, hasDict := true, slotNames := sn, subclasses := sub, abstract := ab, collection := col, hasDel := false } := by
    unfold PySem.W.clsIn
    rw [hC] <;> rfl
  refine PySem.W.set_plain I.kIn (ox := { cls := .ref C, dict := some dx, data := .fields #[.ref t1, .none, .none, .none, .bool false, .none] }) (od := some oD) ⟨ho, rfl, rfl, hoD⟩ T.sa ?_
  refine osaT2 I.kIn ho hns hw (by rw [List.length_map]; omega) hcl (.own C hbm) rfl hno fun h' tk' k hn => ?_
  have hd : ∃ o, h'.get? dx = some o := by
    obtain ⟨o, _, _, e', _⟩ := hn
    exact ⟨o, e'⟩
  exact h _ (I.write (t' := tk') (x := dx) (e := dx) (o := exd dx ((f, y) :: fs)) (by rw [ed]; exact True.intro) (.inl rfl) k hd (exd_ok hn (relO_put ry rel)))
end
/-- self.f = e, a further one -/
def tOsO (K : PySem.W.Frag) (f : Str) (to te : TE) : TS := fun D σ H => te σ H fun y H1 => to σ H1 fun x H2 => ∃ (b : Bs) (a C dx : Addr) (fs : List (Str × V)), x = .ref a ∧ OexT K b C ∧ PySem.W.findIn K (.ref C) f = some none ∧
  H2 a = some (exo a C (some dx)) ∧ H2 dx = some (exd dx fs) ∧ fs.length ≤ 900 ∧ D.nx σ (upd H2 dx (exd dx ((f, y) :: fs)))
theorem ps_osO {X : Cx} {o e : Expr} {to te : TE} {f : Str} {p' pos : Pos} (ho : PE X o to) (he : PE X e te) (hs : swapsWith e (some (.Attribute o f p')) pos.line X.env = pure false := by rfl) : PS X (.Assign [.Attribute o f p'] e pos) (tOsO X.K f to te) := by
  refine ⟨fun pins s σ H D I h => plainObj_wpAny_Assign_Attribute (thn (he.run pins s σ H _ I h) fun v s1 ⟨y, H1, I1, r1, q1⟩ => thn (ho.run pins s1 σ H1 _ I1 q1) fun u s2 ⟨x, H2, I2, r2, b, a, C, dx, fs, ex, T, hno, ea, ed, hl, q⟩ => ?_) hs⟩
  subst ex
  obtain rfl : u = Value.ref a := r2
  exact ost_oldT T I2 ea ed hl hno r1 fun s' J => ⟨σ, _, J, q⟩
/-- C(..), C an own exception class: a value -/
structure CalO (P : Program) (w : World) (K : PySem.W.Frag) (mg : Str → Option Value) (base : Heap) (k n : Nat) (ks : List Str) (C : Addr) (x : Str) (sp : Sp) (gV : List V → List V → List V) : Prop where
  ex : ∃ (b : Bs) (fI : Addr) (fd : FuncData) (ps : List Str) (g : List Value → List Value → List Value), OexT K b C ∧ PySem.W.findIn K (.ref C) "__init__" = some (some (.ref fI)) ∧ PySem.W.typeIn K (.ref fI) = some (.type "function") ∧ FnOk P w K mg base CX0 k fI fd ps sp ∧ KBn K fd ps (n + 1) ks g gV ∧ mg x = some (.ref C)
theorem kbn_of {K : PySem.W.Frag} {fd : FuncData} {ps : List Str} {m : Nat} (b : Binds K fd ps []) (h : ps.length = m) : KBn K fd ps m [] (fun us _ => us) (fun vs _ => vs) :=
  ⟨fun s us ws X l1 l2 => by
    have z := b s us X (by rw [List.append_nil, l1, h])
    rw [List.append_nil] at z
    exact z, fun r1 _ => r1⟩
def tMkO1 (C : Addr) (n m : Nat) (sp : Sp) (gV : List V → List V → List V) (t tk : TA) : TE := fun σ H Q => t σ H fun vs H1 => tk σ H1 fun zs H2 => vs.length = n ∧ zs.length = m ∧ n ≤ 1000 ∧ ∀ a, H2 a = none →
  sp (gV (.ref a :: vs) zs) (upd H2 a (exo a C none)) (fun v H3 => v = .non ∧ Q (.ref a) H3) (fun _ _ _ => False)
section
variable {X : Cx} {k j n : Nat} {ks : List Str} {C : Addr} {x : Str} {sp : Sp} {gV : List V → List V → List V} {t tk : TA} {e : Expr} {es : List Expr} {kws : List Keyword} {p pos : Pos}
theorem run_oeK {b : Bs} {fI : Addr} {fd : FuncData} {ps : List Str} {g : List Value → List Value → List Value} {pins : List (Addr × Obj)} {σ : L2.St} {H : Hp} {s : Shared} {Q : VK} {us ws : List Value} {vs zs : List V} (T : OexT X.K b C) (iC : PySem.W.findIn X.K (.ref C) "__init__" = some (some (.ref fI))) (tI : PySem.W.typeIn X.K (.ref fI) = some (.type "function"))
    (F1 : FnOk X.prog X.w X.K X.mg X.base CX0 k fI fd ps sp) (hr : Room (k + 1) X.A) (hb : KBn X.K fd ps (n + 1) ks g gV) (I1 : Inv X pins σ H s) (r1 : Vals vs us) (rz : Vals zs ws) (l1 : vs.length = n) (l2 : zs.length = ks.length) (hn : n ≤ 1000)
    (q1 : ∀ a, H a = none → sp (gV (.ref a :: vs) zs) (upd H a (exo a C none)) (fun v H3 => v = .non ∧ Q (.ref a) H3) (fun _ _ _ => False)) : wpAny (model X.prog X.w) X.A (call (.ref C) us (ks.zip ws)) (EP X pins σ Q) X.xe s := by
  obtain ⟨nm, q, N, bs, bm, sn, sub, ab, col, dd, k0, k1, k2, k3, k5, hC, hbm⟩ := T.cls
  obtain ⟨hp, g1, dr, tk, os⟩ := s
  have hsz : hp.objs.size ≤ hp.objs.size + 1 := Nat.le_succ _
  have hq := q1 (hp.objs.size + 1) (I1.hok.fresh hsz)
  have hget : ((hp.push (PySem.W.kdv_tup us)).push (PySem.HandSPX.excO C hp.objs.size)).get? (hp.objs.size + 1) = some (PySem.HandSPX.excO C hp.objs.size) := by heap_get
  have kk : ∀ c o, hp.get? c = some o → ((hp.push (PySem.W.kdv_tup us)).push (PySem.HandSPX.excO C hp.objs.size)).get? c = some o := fun c o z => Heap.get?_push_of_some _ (Heap.get?_push_of_some _ z)
  have I2 : Inv X pins σ (upd H (hp.objs.size + 1) (exo (hp.objs.size + 1) C none)) ⟨(hp.push (PySem.W.kdv_tup us)).push (PySem.HandSPX.excO C hp.objs.size), g1, dr, tk, os⟩ :=
    I1.laid (t' := tk) (a := hp.objs.size + 1) (o := exo (hp.objs.size + 1) C none) (h' := (hp.push (PySem.W.kdv_tup us)).push (PySem.HandSPX.excO C hp.objs.size)) kk hsz (exo_ok hget)
  have rr1 : Vals (V.ref (hp.objs.size + 1) :: vs) (Value.ref (hp.objs.size + 1) :: us) := .cons rfl r1
  have e1 : (Value.ref (hp.objs.size + 1) :: us).length = n + 1 := rr1.length.symm.trans (congrArg Nat.succ l1)
  have e2 : ws.length = ks.length := rz.length.symm.trans l2
  have hus : us.length ≤ sizeLine := by rw [← Paired.length r1, l1, sizeLine_eq]; omega
  obtain ⟨i0, bmB, bf⟩ := b.f
  refine wpAny_call (callK bf ((hbm.has _).trans b.hB) ((hbm.has _).trans b.hA) ((hbm.has _).trans b.hN) (I1.kIn _ _ hC) (PySem.W.looks_findIn I1.kIn iC) (fun self => PySem.W.bind_fn I1.kIn self tI) hus
    (codeAny_mono (F1.run _ X.stack _ _ ⟨Value.ref (hp.objs.size + 1) :: us, ks.zip ws⟩ (g (Value.ref (hp.objs.size + 1) :: us) ws) _ _ (fun _ _ _ => False) (hr.make C us (ks.zip ws)) (I2.env0.make C us (ks.zip ws)) (hb.to _ (Value.ref (hp.objs.size + 1) :: us) ws I2.kIn e1 e2) (hb.rel rr1 rz) hq) fun r s' hq' => ?_))
  match r, hq' with
  | .error er, hq' => exact (hq' : False).elim
  | .ok (.ret u), hq' =>
    obtain ⟨v, H2, I3, rv, ev, q2⟩ := I2.after hq'
    subst ev
    exact ⟨rv, .ref (hp.objs.size + 1), H2, I3, rfl, q2⟩
theorem pe_oeP (c : CalO X.prog X.w X.K X.mg X.base k n [] C x sp gV) (hr : Room j X.A) (hk : k + 1 ≤ j) (hg : Gl X x) (ha : PA X (e :: es) t)
    (hdb : (x == ("__debug__" : Str)) = false := by decide) (he : starEach (e :: es) X.env = (false, eval e X.env) :: starEach es X.env := by rfl) (hpl : (backTo pos (starEach es X.env)).any (·.1) = false := by rfl) :
    PE X (.Call (.Name x p) (e :: es) [] pos) (tMkO1 C n 0 sp gV t tNil) := by
  obtain ⟨b, fI, fd, ps, g, T, iC, tI, F1, hb, hm⟩ := c.ex
  refine ⟨fun pins s σ H Q I h => ?_⟩
  refine wpAny_Call_Name_kw (ld_glob I hg hm ?_ hdb)
  refine PySem.W.callWith_K (h₀ := X.base) I.ok.mod.kin T.kC (thn (ha.run pos pins s σ H _ I h) fun us s1 ⟨vs, H1, I1, r1, l1, l2, hn, q1⟩ => ⟨I1.kIn, ?_⟩) he hpl
  exact run_oeK (ws := []) (zs := []) T iC tI F1 (hr.mono hk) hb I1 r1 .nil l1 rfl hn q1
theorem pe_oe0 (c : CalO X.prog X.w X.K X.mg X.base k 0 [] C x sp gV) (hr : Room j X.A) (hk : k + 1 ≤ j) (hg : Gl X x) (hdb : (x == ("__debug__" : Str)) = false := by decide) :
    PE X (.Call (.Name x p) [] [] pos) (tMkO1 C 0 0 sp gV tNil tNil) := by
  obtain ⟨b, fI, fd, ps, g, T, iC, tI, F1, hb, hm⟩ := c.ex
  refine ⟨fun pins s σ H Q I h => ?_⟩
  obtain ⟨_, _, hn, q1⟩ := h
  refine wpAny_Call_Name_kw (ld_glob I hg hm ?_ hdb)
  exact PySem.W.callWith_K0 I.kIn T.kC (run_oeK (us := []) (vs := []) (ws := []) (zs := []) T iC tI F1 (hr.mono hk) hb I .nil .nil rfl rfl hn q1)
theorem pe_oeK (c : CalO X.prog X.w X.K X.mg X.base k 0 ks C x sp gV) (hr : Room j X.A) (hk : k + 1 ≤ j) (hg : Gl X x) (hkw : PK X kws tk)
    (hall : (backToKw pos (keywordEach kws X.env)).all (·.1.isSome) = true := by rfl) (hks : (backToKw pos (keywordEach kws X.env)).filterMap (·.1) = ks := by rfl)
    (hdb : (x == ("__debug__" : Str)) = false := by decide) (hpl : ((backTo pos (starEach [] X.env)).any (·.1) || (backToKw pos (keywordEach kws X.env)).any (·.1.isNone)) = false := by rfl) :
    PE X (.Call (.Name x p) [] kws pos) (tMkO1 C 0 ks.length sp gV tNil tk) := by
  obtain ⟨b, fI, fd, ps, g, T, iC, tI, F1, hb, hm⟩ := c.ex
  refine ⟨fun pins s σ H Q I h => ?_⟩
  refine wpAny_Call_Name_kw (ld_glob I hg hm ?_ hdb)
  refine PySem.W.callWith_KW0 (h₀ := X.base) I.ok.mod.kin T.kC hall ?_ hpl
  refine thn (hkw.run pos pins s σ H _ I h) fun ws s2 ⟨zs, H2, I2, rz, _, l2, hn, q2⟩ => ⟨I2.kIn, ?_⟩
  rw [hks]
  exact run_oeK (us := []) (vs := []) T iC tI F1 (hr.mono hk) hb I2 .nil rz rfl l2 hn q2
end
section
variable {σ : L2.St} {H : Hp} {Q : VK} {C : Addr} {n m : Nat} {sp : Sp} {gV : List V → List V → List V} {t tk : TA}
theorem r_mkO1 (q : t σ H fun vs H1 => tk σ H1 fun zs H2 => vs.length = n ∧ zs.length = m ∧ n ≤ 1000 ∧ ∀ a, H2 a = none → sp (gV (.ref a :: vs) zs) (upd H2 a (exo a C none)) (fun v H3 => v = .non ∧ Q (.ref a) H3) (fun _ _ _ => False)) : tMkO1 C n m sp gV t tk σ H Q := q
end
/-- at a: an exception of the class at D; its own dict, if it has one, holds fs -/
def XVo (H : Hp) (a D : Addr) (d : Option Addr) (fs : List (Str × V)) : Prop := H a = some (exo a D d) ∧ match d with
  | none => fs = []
  | some dx => H dx = some (exd dx fs)
def rIsV (K : PySem.W.Frag) : List V → Hp → VK → Prop := fun xs H Q => ∃ (a D : Addr) (d : Option Addr) (fs : List (Str × V)) (c : V) (u : Value) (b : Bool), xs = [.ref a, c] ∧ XVo H a D d fs ∧ ExcC K D ∧ ClsV c u ∧ PySem.W.kitOne K (.ref D) u = some b ∧ Q (.bl b) H
theorem call_isV {X : Cx} : CallR X (.builtin "isinstance") (rIsV X.K) := by
  intro pins s σ H xs us Q I r h
  obtain ⟨a, D, d, fs, c, u, b, rfl, xv, C, k, e, q⟩ := h
  obtain ⟨u1, u2, rfl, r1, r2⟩ := vals2 r
  have e2 := k.eq r2
  subst e2
  obtain rfl : u1 = Value.ref a := r1
  obtain ⟨ho, hd⟩ := xv
  match d, ho, hd with
  | none, ho, _ =>
    obtain ⟨t1, g⟩ := exo_at I.hok ho
    exact PySem.W.kia_one (PySem.W.bk_kitx (od := none) C.hg C.hk C.hs C.hd C.ha C.hn C.ht C.hm) I.kIn ⟨g, rfl, rfl, trivial⟩ e (fun z => nomatch z) fun tk => ⟨.bl b, H, I.tok tk, rfl, q⟩
  | some dx, ho, hd =>
    obtain ⟨ox, od, mA, J, _, _⟩ := xv_inst I (show XV H a D dx fs from ⟨ho, hd⟩)
    exact PySem.W.kia_one (PySem.W.bk_kitx (ox := ox) (od := some od) C.hg C.hk C.hs C.hd C.ha C.hn C.ht C.hm) I.kIn J e (fun z => nomatch z) fun tk => ⟨.bl b, H, I.tok tk, rfl, q⟩
def tXv (K : PySem.W.Frag) (f : Str) (te : TE) : TE := fun σ H Q => te σ H fun x H1 => ∃ (a D dx : Addr) (fs : List (Str × V)) (v : V), x = .ref a ∧ XV H1 a D dx fs ∧ XfC K D ∧ PySem.W.findIn K (.ref D) f = some none ∧ fs.lookup f = some v ∧ Q v H1
theorem pe_xv {X : Cx} {e : Expr} {te : TE} {pos : Pos} {n : Str} (he : PE X e te) (hb : attributeBase e n X.env (eval e X.env) = eval e X.env := by rfl) : PE X (.Attribute e n pos) (tXv X.K n te) := by
  refine ⟨fun pins s σ H Q I h => attr_of hb (thn (he.run pins s σ H _ I h) fun u s1 ⟨x, H1, I1, rx, a, D, dx, fs, v, ex, xv, T, hno, l, q⟩ => ?_)⟩
  subst ex
  obtain rfl : u = Value.ref a := rx
  obtain ⟨ox, od, mA, J, hl, hr⟩ := xv_inst I1 xv
  obtain ⟨u, hu, ru⟩ := RelO.some_of (v := v) (o := mA n) (by rw [← l]; exact hr n)
  exact HandSPX.exc_get I1.kIn J T.ga T.gg T.exC (PySem.W.findObj_own T.hdC hno rfl (by rw [hl, hu])) (handed_of ru) ⟨v, H1, I1.tok _, ru, q⟩
theorem r_dispV {σ : L2.St} {H : Hp} {Q : VK} {k : Key} {v : V} {i : Nat} (hv : σ[i]? = some (some v)) (q : ∀ p H', H p = none → Same H H' → H' p = some (.dK [(k, v)]) → Q (.ref p) H') : tDisp [(tC (kV k), tVar i)] σ H Q := by
  intro p np
  refine ⟨v, hv, upd_same, [(k, v)], rfl, (by show 1 ≤ 15; decide), ?_⟩
  refine q p _ np (fun b o e => ?_) upd_same
  rw [upd_ne (ne_of_none e np), upd_ne (ne_of_none e np)]
  exact e
end Bk

namespace Bk
open PySem PySem.Spec PyProof.Rows L2
/-! ## 33. l.remove(x) of data -/
def rRemD (K : PySem.W.Frag) : V → List V → Hp → VK → Prop := fun x vs H Q => ∃ (l : Addr) (xs : List V) (ds : List PyData) (y : V) (d : PyData) (j : Nat), x = .ref l ∧ vs = [y] ∧ H l = some (.lst xs) ∧ DpAll K H xs ds ∧ Dp K H y d ∧
  PyData.plainAll ds = true ∧ d.plain = true ∧ d.depth ≤ 60 ∧ SeqAt.dataPlace ds d = some j ∧ Q .non (upd H l (.lst (xs.eraseIdx j)))
theorem mt_removeD {X : Cx} (hu : X.A.units + 64 < cLine) : MtM X "list.remove" (rRemD X.K) := by
  intro pins s σ H x vs v us Q I rx rv h
  obtain ⟨l, xs, ds, y, d, j, rfl, rfl, hH, hxs, hy, pa, pd, hd, hp, q⟩ := h
  cases rx
  obtain ⟨u, rfl, ru⟩ := rv.one
  obtain ⟨z, its, n, r, hl, e⟩ := I.lstM hH
  obtain ⟨as, h4⟩ := Dp.readsAll I ds _ its hxs r
  obtain ⟨bs, r1⟩ := Dp.reads I d y u hy ru
  have hpl : s.heap.IsList l its.toArray := ⟨_, e, rfl, n, rfl⟩
  refine SeqAt.remove_list_data hpl (show ReadsAll s.heap its.toArray.toList ds as from h4) r1 pa pd ?_ hp (by rw [List.size_toArray, ← hl]; exact z) ?_
  · have h2 : min (PyData.depthAll ds) d.depth ≤ d.depth := Nat.min_le_right _ _
    omega
  · refine ⟨.non, _, I.lset (t' := s.toks) (its' := its.eraseIdx j) hH e ?_ (r.eraseIdx j) ?_, rfl, q⟩
    · show its.toArray.eraseIdxIfInBounds j = (its.eraseIdx j).toArray
      rw [List.eraseIdxIfInBounds_toArray]
    · have := List.length_eraseIdx_le xs j
      omega
end Bk

namespace Bk
open PySem PySem.Spec PyProof.Rows L2
/-! ## 34. a list of asks, tuples of a name and a number -/
def askD (p : Str × Nat) : PyData := .tuple [.str p.1, .int p.2]
structure AL (H : Hp) (l : Addr) (ts : List Addr) (as : List (Str × Nat)) : Prop where
  at_ : H l = some (.lst (ts.map V.ref))
  len : ts.length = as.length
  row : ∀ (k : Nat) (t : Addr) (p : Str × Nat), ts[k]? = some t → as[k]? = some p → H t = some (.tup [.str p.1, .int p.2])
theorem eqv_ask (q p : Str × Nat) : PyData.eqv (askD q) (askD p) = decide (q = p) := by
  obtain ⟨a, i⟩ := q
  obtain ⟨b, j⟩ := p
  simp only [askD, PyData.eqv, PyData.eqvAll, Bool.and_true]
  by_cases h : a = b
  · subst h
    by_cases h2 : i = j
    · subst h2
      rw [beq_self_eq_true, beq_self_eq_true, decide_eq_true rfl]
      rfl
    · rw [beq_self_eq_true, decide_eq_false (fun z => h2 (Prod.mk.inj z).2), Bool.true_and]
      exact beq_eq_false_iff_ne.mpr fun z => h2 (by omega)
  · rw [decide_eq_false (fun z => h (Prod.mk.inj z).1), beq_eq_false_iff_ne.mpr h, Bool.false_and]
theorem in_ask (as : List (Str × Nat)) (p : Str × Nat) : ((as.map askD).any fun z => PyData.eqv z (askD p)) = decide (p ∈ as) := by
  rw [List.any_map]
  induction as with
  | nil => exact (decide_eq_false (fun z => nomatch z)).symm
  | cons q r ih =>
    rw [List.any_cons, ih]
    show (PyData.eqv (askD q) (askD p) || _) = _
    rw [eqv_ask]
    by_cases h : q = p
    · subst h
      rw [decide_eq_true rfl, decide_eq_true List.mem_cons_self, Bool.true_or]
    · rw [decide_eq_false h, Bool.false_or]
      exact decide_eq_decide.mpr ⟨List.mem_cons_of_mem _, fun z => (List.mem_cons.mp z).elim (fun w => absurd w.symm h) id⟩
theorem place_ask (as : List (Str × Nat)) (p : Str × Nat) : SeqAt.dataPlace (as.map askD) (askD p) = as.findIdx? (fun q => decide (q = p)) := by
  unfold SeqAt.dataPlace
  rw [List.findIdx?_map]
  congr 1
  funext q
  exact eqv_ask q p
theorem plain_ask (as : List (Str × Nat)) : PyData.plainAll (as.map askD) = true := by
  induction as with
  | nil => rfl
  | cons q r ih => rw [List.map_cons]; simp only [PyData.plainAll, askD, PyData.plain, ih, Bool.and_true]
def asOk (as : List (Str × Nat)) : Prop := ∀ p ∈ as, PyData.strOk p.1 = true
theorem lay_ask {as : List (Str × Nat)} (h : asOk as) : PyData.canLayAll0 (as.map askD) = true ∧ PyData.depthAll (as.map askD) ≤ 1 := by
  induction as with
  | nil => exact ⟨rfl, Nat.zero_le _⟩
  | cons q r ih =>
    have ih := ih fun p hp => h p (List.mem_cons_of_mem _ hp)
    rw [List.map_cons]
    refine ⟨by simp only [PyData.canLayAll0, askD, PyData.canLay0, ih.1, h q List.mem_cons_self, Bool.and_true], ?_⟩
    have h2 := ih.2
    simp only [PyData.depthAll, askD, PyData.depth]
    omega
theorem sh_ask {as : List (Str × Nat)} (ok : asOk as) : SeqAt.shaped (.list (as.map askD)) = true := by
  have h := (lay_ask ok).2
  unfold SeqAt.shaped
  simp only [PyData.canLay0, (lay_ask ok).1, PyData.depth, Bool.true_and, decide_eq_true_eq]
  exact decide_eq_true (Nat.le_trans (Nat.succ_le_succ h) (show 2 ≤ 64 by decide))
theorem sh_ask1 {p : Str × Nat} (h : PyData.strOk p.1 = true) : SeqAt.shaped (askD p) = true := by
  unfold SeqAt.shaped
  simp only [askD, PyData.canLay0, PyData.canLayAll0, PyData.depth, PyData.depthAll, h, Bool.true_and]
  decide
section
variable {K : PySem.W.Frag} {H H' : Hp} {l : Addr} {ts : List Addr} {as : List (Str × Nat)}
theorem dp_ask {t : Addr} {p : Str × Nat} (e : H t = some (.tup [.str p.1, .int p.2])) : Dp K H (.ref t) (askD p) := .tup (sqT e) (.cons (.str _) (.cons (.int _) .nil))
theorem dps_of {ts : List Addr} {as : List (Str × Nat)} (hl : ts.length = as.length) (hr : ∀ (k : Nat) (t : Addr) (p : Str × Nat), ts[k]? = some t → as[k]? = some p → H t = some (.tup [.str p.1, .int p.2])) : DpAll K H (ts.map V.ref) (as.map askD) := by
  induction ts generalizing as with
  | nil =>
    cases as with
    | nil => exact .nil
    | cons _ _ => exact nomatch hl
  | cons t r ih =>
    cases as with
    | nil => exact nomatch hl
    | cons p q =>
      refine .cons (dp_ask (hr 0 t p rfl rfl)) (ih (Nat.succ.inj hl) fun k u v h1 h2 => hr (k + 1) u v h1 h2)
theorem AL.dps (a : AL H l ts as) : DpAll K H (ts.map V.ref) (as.map askD) := dps_of a.len a.row
theorem AL.dp (a : AL H l ts as) : Dp K H (.ref l) (.list (as.map askD)) := .lst (sqL a.at_) a.dps
theorem AL.keep (a : AL H l ts as) (kl : H' l = H l) (kt : ∀ t ∈ ts, H' t = H t) : AL H' l ts as :=
  ⟨by rw [kl]; exact a.at_, a.len, fun k t p h1 h2 => by rw [kt t (List.mem_of_getElem? h1)]; exact a.row k t p h1 h2⟩
theorem AL.same (a : AL H l ts as) (s : Same H H') : AL H' l ts as := ⟨s _ _ a.at_, a.len, fun k t p h1 h2 => s _ _ (a.row k t p h1 h2)⟩
theorem AL.tup (a : AL H l ts as) : ∀ t ∈ ts, ∃ xs, H t = some (.tup xs) := fun t ht => by
  obtain ⟨k, hk⟩ := List.getElem?_of_mem ht
  have h : k < as.length := by rw [← a.len]; exact (List.getElem?_eq_some_iff.mp hk).1
  exact ⟨_, a.row k t _ hk (List.getElem?_eq_getElem h)⟩
/-- x in l -/
theorem AL.mem (a : AL H l ts as) {x : V} {p : Str × Nat} {Q : VK} (ok : asOk as) (hp : PyData.strOk p.1 = true) (h : Dp K H x (askD p)) (q : Q (.bl (decide (p ∈ as))) H) : rInD K x (.ref l) H Q :=
  ⟨_, _, h, a.dp, sh_ask1 hp, sh_ask ok, by rw [in_ask]; exact q⟩
/-- l.append(t) -/
theorem AL.push (a : AL H l ts as) {t : Addr} {p : Str × Nat} (e : H t = some (.tup [.str p.1, .int p.2])) : AL (upd H l (.lst (ts.map V.ref ++ [.ref t]))) l (ts ++ [t]) (as ++ [p]) := by
  have ne : ∀ {u xs}, H u = some (.tup xs) → u ≠ l := fun e z => by rw [z, a.at_] at e; exact nomatch e
  refine ⟨by rw [upd_same, List.map_append]; rfl, by rw [List.length_append, List.length_append, a.len]; rfl, fun k u v h1 h2 => ?_⟩
  by_cases hk : k < ts.length
  · rw [List.getElem?_append_left hk] at h1
    rw [List.getElem?_append_left (by rw [← a.len]; exact hk)] at h2
    have z := a.row k u v h1 h2
    rw [upd_ne (ne z)]
    exact z
  · rw [List.getElem?_append_right (by omega)] at h1
    rw [List.getElem?_append_right (by rw [← a.len]; omega), ← a.len] at h2
    have k0 : k - ts.length = 0 := by
      have := (List.getElem?_eq_some_iff.mp h1).1
      simp at this
      omega
    rw [k0] at h1 h2
    obtain rfl : t = u := Option.some.inj h1
    obtain rfl : p = v := Option.some.inj h2
    rw [upd_ne (ne e)]
    exact e
theorem map_erase {α β : Type} (f : α → β) : ∀ (l : List α) (j : Nat), (l.map f).eraseIdx j = (l.eraseIdx j).map f
  | [], _ => rfl
  | _ :: _, 0 => rfl
  | x :: r, j + 1 => by
    show f x :: (r.map f).eraseIdx j = f x :: (r.eraseIdx j).map f
    rw [map_erase f r j]
/-- l.remove(x) -/
theorem AL.cut (a : AL H l ts as) (j : Nat) : AL (upd H l (.lst ((ts.map V.ref).eraseIdx j))) l (ts.eraseIdx j) (as.eraseIdx j) := by
  have ne : ∀ {u xs}, H u = some (.tup xs) → u ≠ l := fun e z => by rw [z, a.at_] at e; exact nomatch e
  refine ⟨by rw [upd_same, map_erase], by rw [List.length_eraseIdx, List.length_eraseIdx, a.len], fun k u v h1 h2 => ?_⟩
  rw [List.getElem?_eraseIdx] at h1 h2
  split at h1
  · rename_i hk
    rw [if_pos hk] at h2
    have z := a.row k u v h1 h2
    rw [upd_ne (ne z)]
    exact z
  · rename_i hk
    rw [if_neg hk] at h2
    have z := a.row (k + 1) u v h1 h2
    rw [upd_ne (ne z)]
    exact z
end
end Bk

namespace Bk
open PySem PySem.Spec PyProof.Rows L2
/-! ## 34. l.count(x) of data, a text times a number -/
def rCntD (K : PySem.W.Frag) : V → List V → Hp → VK → Prop := fun x vs H Q => ∃ (l : Addr) (xs : List V) (ds : List PyData) (y : V) (d : PyData), x = .ref l ∧ vs = [y] ∧ H l = some (.lst xs) ∧ DpAll K H xs ds ∧ Dp K H y d ∧
  PyData.plainAll ds = true ∧ d.plain = true ∧ d.depth ≤ 60 ∧ Q (.int (ds.countP (fun z => PyData.eqv z d) : Nat)) H
theorem mt_countD {X : Cx} (hu : X.A.units + 64 < cLine) : MtR X "list.count" (rCntD X.K) := by
  intro pins s σ H x vs v us Q I rx rv h
  obtain ⟨l, xs, ds, y, d, rfl, rfl, hH, hxs, hy, pa, pd, hd, q⟩ := h
  cases rx
  obtain ⟨u, rfl, ru⟩ := rv.one
  obtain ⟨z, its, n, r, hl, e⟩ := I.lstM hH
  obtain ⟨as, h4⟩ := Dp.readsAll I ds _ its hxs r
  obtain ⟨bs, r1⟩ := Dp.reads I d y u hy ru
  have hpl : s.heap.IsList l its.toArray := ⟨_, e, rfl, n, rfl⟩
  refine SeqAt.count_list_data hpl (show ReadsAll s.heap its.toArray.toList ds as from h4) r1 pa pd ?_ ?_
  · have h2 : min (PyData.depthAll ds) d.depth ≤ d.depth := Nat.min_le_right _ _
    omega
  · exact ⟨.int (ds.countP (fun z => PyData.eqv z d) : Nat), H, I.tok _, ⟨_, rfl⟩, q⟩
theorem op_mul01 {X : Cx} : OpR X (binaryOp .Mult) (fun x y H Q => ∃ (z : Str) (k : Int), x = .str z ∧ y = .int k ∧ (k = 0 ∨ k = 1) ∧ Q (.str (if k = 0 then Str.empty else z)) H) := by
  intro pins s σ H x y v u Q I rx ry h
  obtain ⟨z, k, rfl, rfl, hk, q⟩ := h
  obtain ⟨t, rfl⟩ := rx
  obtain ⟨t2, rfl⟩ := ry
  rcases hk with rfl | rfl
  · refine P.mul_str (by decide) (fun h => absurd (by decide) h) (fun h => absurd (by decide) h) ?_
    rw [if_pos (by decide)]
    exact ⟨by decide, V.str Str.empty, H, I.tok _, ⟨_, rfl⟩, q⟩
  · refine P.mul_str (by decide) (fun _ h => ?_) (fun _ h => ?_) ?_
    · simp at h
    · simp at h
    · rw [if_neg (by decide), if_pos (by rfl)]
      exact ⟨.str z, H, I, ⟨_, rfl⟩, q⟩
theorem op_eqDK {X : Cx} {K : PySem.W.Frag} (h : X.K = K) (hu : X.A.units + 64 < cLine) : OpR X (compareOp .Eq) (rEqD K) := by
  subst h
  exact op_eqD hu
theorem op_neDK {X : Cx} {K : PySem.W.Frag} (h : X.K = K) (hu : X.A.units + 64 < cLine) : OpR X (compareOp .NotEq) (rNeD K) := by
  subst h
  exact op_neD hu
/-- len of an own object -/
def rLenO (C : Addr) (sp : Sp) : List V → Hp → VK → Prop := fun xs H Q => ∃ (a dx : Addr) (fs : List (Str × V)), xs = [.ref a] ∧ H a = some (.ins C dx fs) ∧ sp [.ref a] H (fun v H' => ∃ n : Nat, v = .int n ∧ (n : Int) < 2 ^ 63 ∧ Q v H') E0
theorem call_lenO {X : Cx} {k j : Nat} {C : Addr} {sp : Sp} (c : CalM X.prog X.w X.K X.mg X.base CX0 k C "__len__" sp) (hr : Room j X.A) (hk : k + 1 ≤ j) : CallR X (.builtin "len") (rLenO C sp) := by
  obtain ⟨f, fd, ps, hm, F, hb⟩ := c.ex
  intro pins s σ H xs us Q I r h
  obtain ⟨a, dx, fs, rfl, e, h⟩ := h
  obtain ⟨u, rfl, ru⟩ := r.one
  obtain rfl : u = Value.ref a := ru
  have w := I.hok a _ e
  unfold L2.ObjOk at w
  obtain ⟨w1, w2, w3, w4, mA, w5, w6, w7⟩ := w
  obtain ⟨m, fr⟩ := I.fr
  obtain ⟨od, hod⟩ : ∃ od, s.heap.get? dx = some od := by
    obtain ⟨es, ep, h1, h2⟩ := w5
    exact ⟨_, h2.1⟩
  refine PySem.W.len_K (C := C) (f := f) (ox := PySem.W.instObj C dx) (od := some od) fr I.ok.mod.kin ⟨w4, rfl, rfl, hod⟩ hm.at_ hm.fn ?_
  have hrr : Room k X.A.in1 := ⟨hr.hd, by have := hr.dp; show X.A.depth + 3 * k + 5 < _; omega, by have := hr.un; show X.A.units + 1 + 16 * k + 200 < _; omega⟩
  have hl : [Value.ref a].length = ps.length := by
    have e1 := F.len _ _ _ _ h
    exact e1
  have bb := hb s [Value.ref a] I.kIn (by rw [List.append_nil]; exact hl)
  rw [List.append_nil] at bb
  refine wpAny_call (codeAny_mono (F.run X.A.in1 X.stack s H ⟨[.ref a], []⟩ [.ref a] [.ref a] _ E0 hrr I.env0.in1 bb (.cons rfl .nil) h) fun rr s3 z => ?_)
  match rr, z with
  | .ok (.ret u), z =>
    obtain ⟨v, H', I3, rv, n, rfl, hn, q⟩ := I.after z
    obtain ⟨t, rfl⟩ := rv
    exact ⟨⟨by omega, hn⟩, V.int n, H', I3.tok _, ⟨_, rfl⟩, q⟩
  | .error u, z => exact z.elim
end Bk

namespace Bk
open PySem PySem.Spec PyProof.Rows L2
/-! ## 35. names, dicts by names -/
def allW (f l : Nat) (z : Str) : Bool := z.cps.toList.all fun c => decide (f ≤ c) && decide (c ≤ l)
def spAllW : Sp := fun vs H Q _ => ∃ (z F L : Str) (f l : Nat), vs = [.str z, .str F, .str L] ∧ F.cps.toList = [f] ∧ L.cps.toList = [l] ∧ z.length ≤ 1000 ∧ ∀ H', Same H H' → Q (.bl (allW f l z)) H'
def nameOk (z : Str) : Bool := decide (1 ≤ z.length ∧ z.length ≤ 8) && allW 97 122 z
def spName (K : PySem.W.Frag) : Sp := fun vs H Q _ => ∃ x : V, vs = [x] ∧ ((∃ z : Str, x = .str z ∧ z.length ≤ 1000 ∧ ∀ H', Same H H' → Q (.bl (nameOk z)) H') ∨ (IsA K H x "str" false ∧ Q (.bl false) H))
theorem str_of_name {x : Str} (h : nameOk x = true) : PyData.strOk x = true := by
  have h2 := (Bool.and_eq_true_iff.mp h).2
  unfold PyData.strOk
  rw [← Array.all_toList]
  refine List.all_eq_true.mpr fun c hc => decide_eq_true ?_
  have := List.all_eq_true.mp h2 c hc
  rw [Bool.and_eq_true] at this
  have := of_decide_eq_true this.2
  omega
theorem len_of_name {x : Str} (h : nameOk x = true) : 1 ≤ x.length ∧ x.length ≤ 8 := of_decide_eq_true (Bool.and_eq_true_iff.mp h).1
theorem nd_le {α : Type} [DecidableEq α] : ∀ {l m : List α}, l.Nodup → (∀ x ∈ l, x ∈ m) → l.length ≤ m.length
  | [], _, _, _ => Nat.zero_le _
  | a :: r, m, h, s => by
    have h2 := List.nodup_cons.mp h
    have z := nd_le (l := r) (m := m.erase a) h2.2 fun x hx => (List.mem_erase_of_ne (fun e => h2.1 (by rw [← e]; exact hx))).mpr (s x (List.mem_cons_of_mem _ hx))
    have ha := s a List.mem_cons_self
    rw [List.length_erase_of_mem ha] at z
    have : 0 < m.length := List.length_pos_of_mem ha
    rw [List.length_cons]
    omega
theorem inV_str {x : Str} {row : List Str} : inV (.str x) (row.map V.str) = decide (x ∈ row) := by
  unfold inV
  rw [List.any_map]
  induction row with
  | nil => exact (decide_eq_false (fun z => nomatch z)).symm
  | cons y r ih =>
    rw [List.any_cons, ih]
    show (decide (_ = _) || _) = _
    by_cases h : x = y
    · subst h
      rw [decide_eq_true rfl, Bool.true_or, decide_eq_true List.mem_cons_self]
    · rw [decide_eq_false (fun z => h (by first | exact z.symm | (injection z with z; first | exact z | exact z.symm))), Bool.false_or]
      exact decide_eq_decide.mpr ⟨List.mem_cons_of_mem _, fun z => (List.mem_cons.mp z).elim (fun w => absurd w h) id⟩
theorem rng_get {α : Type} (d : α) (l : List α) : (List.range l.length).map (fun i => l.getD i d) = l := by
  refine List.ext_getElem (by rw [List.length_map, List.length_range]) fun i h1 h2 => ?_
  rw [List.getElem_map, List.getElem_range, List.getD_eq_getElem?_getD, List.getElem?_eq_getElem h2]
  rfl
theorem rng_fm {α β : Type} (d : α) (l : List α) (f : α → Option β) : (List.range l.length).filterMap (fun i => f (l.getD i d)) = l.filterMap f := by
  conv => rhs; rw [← rng_get d l]
  rw [List.filterMap_map]
  rfl
section
variable {K : PySem.W.Frag} {σ : L2.St} {H : Hp} {Q : VK} {j : Nat} {vs : List Nat} {tt : TT} {te tl : TE} {a : Addr} {xs : List V}
theorem lcLF (p : Nat → Option V) (hv : ∀ QQ : VK, QQ (.ref a) H → tl σ H QQ) (hs : SqL K H a xs) (hl : xs.length ≤ 10000) (hw : ∀ x, wipe ((wipe σ vs).set j (some x)) vs = wipe σ vs)
    (ht : ∀ (i : Nat) (y : V) (H1 : Hp) (Q' : VK) (R' : Hp → Prop), xs[i]? = some y → Same H H1 → (∀ v, p i = some v → ∀ H3, Same H1 H3 → Q' v H3) → (p i = none → ∀ H3, Same H1 H3 → R' H3) →
      tt ((wipe σ vs).set j (some y)) H1 fun b H4 => if b = true then te ((wipe σ vs).set j (some y)) H4 Q' else R' H4)
    (q : ∀ D H', H D = none → Same H H' → H' D = some (.lst ((List.range xs.length).filterMap p)) → Q (.ref D) H') : tLc (iList K tl) (gName j) tt te vs σ H Q := by
  refine hv _ ⟨a, rfl, ⟨xs, hs⟩, fun D hD => ?_⟩
  refine lc_by (g := gName j) (tt := tt) (te := te) (vs := vs) (σ := σ) (Q := Q) walk_list p hD hl (fun _ s => s.seq hs) (fun i x H1 H2 Q' R' hi sm y h1 h2 => ?_) fun H' s e => q D H' hD s e
  obtain ⟨rfl, hx⟩ := y
  exact ⟨hw _, ht i x _ Q' R' hx sm h1 h2⟩
end
theorem units65 {k : Nat} {A : Around} (r : Room k A) : A.units + 65 < cLine := by
  have := r.un
  omega
theorem putF_old {f : Str} {v u : V} : ∀ {fs : List (Str × V)}, fs.lookup f = some u → (putF f v fs).length = fs.length
  | [], h => nomatch h
  | (g, w) :: r, h => by
    unfold putF
    split
    · rfl
    · rename_i hg
      rw [List.lookup_cons] at h
      have hb : (f == g) = false := beq_eq_false_iff_ne.mpr fun z => hg (by first | exact z | exact z.symm)
      rw [hb] at h
      rw [List.length_cons, List.length_cons, putF_old h]
theorem fm_flt {α β : Type} (c : α → Prop) [DecidablePred c] (g : α → β) : ∀ l : List α, l.filterMap (fun z => if c z then none else some (g z)) = (l.filter fun z => decide (¬ c z)).map g
  | [] => rfl
  | a :: r => by
    rw [List.filterMap_cons, List.filter_cons]
    by_cases h : c a
    · rw [if_pos h, decide_eq_false (fun z => z h), fm_flt c g r]
      simp
    · rw [if_neg h, decide_eq_true h, if_pos rfl, List.map_cons, fm_flt c g r]
theorem r_while {c : TT} {tb : TS} {D : Ends} {σ : L2.St} {H : Hp} (W : Nat → L2.St → Hp → Prop) (h0 : ∃ m, W m σ H) (hs : ∀ m σ H, W m σ H → c σ H fun b H1 => if b = true then ∃ N : L2.St → Hp → Prop, (∀ σ' H', N σ' H' → ∃ m', m' < m ∧ W m' σ' H') ∧ tb { D with nx := N, ct := N, bk := D.nx } σ H1 else D.nx σ H1) : tWhile c tb D σ H := ⟨W, h0, hs⟩
theorem units1 {k : Nat} {A : Around} (r : Room k A) : A.units + 1 < cLine := by
  have := r.un
  omega
theorem r_dget {te ti : TE} {σ : L2.St} {H : Hp} {Q : VK} (h : te σ H fun x H1 => ti σ H1 fun y H2 => ∃ (a : Addr) (v : V), x = .ref a ∧ DGet H2 a y (some v) ∧ Q v H2) : tDGet te ti σ H Q := h
section
variable {K : PySem.W.Frag} {σ : L2.St} {H : Hp} {Q : VK} {j : Nat} {vs : List Nat} {tt : TT} {te tl : TE} {d : Addr} {kvs : List (Key × V)}
theorem lcKeys (p : Nat → Option V) (hd : H d = some (.dK kvs)) (hl : kvs.length ≤ 10000) (hw : ∀ x, wipe ((wipe σ vs).set j (some x)) vs = wipe σ vs)
    (hv : ∀ (od : Obj) (QQ : VK), QQ (.ref d) (upd H d (.frz od (.dK kvs))) → tl σ (upd H d (.frz od (.dK kvs))) QQ)
    (ht : ∀ (i : Nat) (k : Key) (y : V) (od : Obj) (H1 : Hp) (Q' : VK) (R' : Hp → Prop), kvs[i]? = some (k, y) → H1 d = some (.frz od (.dK kvs)) → (∀ b u, b ≠ d → H b = some u → H1 b = some u) → (∀ v, p i = some v → ∀ H3, Same H1 H3 → Q' v H3) → (p i = none → ∀ H3, Same H1 H3 → R' H3) →
      tt ((wipe σ vs).set j (some (kV k))) H1 fun b H4 => if b = true then te ((wipe σ vs).set j (some (kV k))) H4 Q' else R' H4)
    (q : ∀ D H', H D = none → Same H H' → H' D = some (.lst ((List.range kvs.length).filterMap p)) → Q (.ref D) H') : tLockE (tLc (iKeys tl) (gName j) tt te vs) σ H Q := by
  refine ⟨d, .dK kvs, hd, trivial, fun od => ?_⟩
  have f0 : ∀ b u, b ≠ d → H b = some u → upd H d (.frz od (.dK kvs)) b = some u := fun b u nb eb => by rw [upd_ne nb]; exact eb
  have e0 : upd H d (.frz od (.dK kvs)) d = some (.frz od (.dK kvs)) := upd_same
  have z0 : ∀ {D : Addr}, upd H d (.frz od (.dK kvs)) D = none → H D = none ∧ D ≠ d := fun {D} z => by
    by_cases h : D = d
    · rw [h, upd_same] at z; exact nomatch z
    · rw [upd_ne h] at z; exact ⟨z, h⟩
  refine hv od _ ⟨d, od, rfl, .inl ⟨kvs, e0, fun D hD => ?_⟩⟩
  refine lc_by (g := gName j) (tt := tt) (te := te) (vs := vs) (σ := σ) (Q := fun v H' => H' d = some (.frz od (.dK kvs)) ∧ Q v (upd H' d (.dK kvs))) walk_keys p hD hl (fun H' s => s _ _ e0) (fun i x H1 H2 Q' R' hi sm y h1 h2 => ?_) fun H' s e => ?_
  · obtain ⟨rfl, k, v, hk, rfl⟩ := y
    exact ⟨hw _, ht i k v od H2 Q' R' hk (sm _ _ e0) (fun b u nb eb => sm _ _ (f0 b u nb eb)) h1 h2⟩
  · obtain ⟨hD1, hD2⟩ := z0 hD
    refine ⟨s _ _ e0, q D _ hD1 (fun b u eb => ?_) (by rw [upd_ne hD2]; exact e)⟩
    by_cases h : b = d
    · rw [h, upd_same, ← hd, ← h]
      exact eb
    · rw [upd_ne h]
      exact s _ _ (f0 b u h eb)
end
theorem eqv_nil {ds : List PyData} : PyData.eqv (.list ds) (.list []) = decide (ds = []) := by
  cases ds with
  | nil => rfl
  | cons a r => rfl
section
variable {σ : L2.St} {H : Hp} {Q : VK} {i j : Nat} {a b : Addr} {z x : Str} {kvs lvs : List (Key × V)} {y : V}
theorem r_dgT (hv : σ[i]? = some (some (.ref a))) (e : Rd H a (.dK kvs)) (hx : valV kvs (.inr z : Key) = some y) (q : Q y H) : tDGet (tVar i) (tC (.str z)) σ H Q := ⟨_, hv, a, y, rfl, .inl ⟨kvs, .inr z, e, rfl, hx.symm⟩, q⟩
theorem r_dg2 (hv : σ[i]? = some (some (.ref a))) (e : Rd H a (.dK kvs)) (hx : valV kvs (.inr z : Key) = some (.ref b)) (e2 : Rd H b (.dK lvs)) (hj : σ[j]? = some (some (.str x))) (h2 : valV lvs (.inr x : Key) = some y) (q : Q y H) :
    tDGet (tDGet (tVar i) (tC (.str z))) (tVar j) σ H Q := r_dgT hv e hx ⟨_, hj, b, y, rfl, .inl ⟨lvs, .inr x, e2, rfl, h2.symm⟩, q⟩
end
theorem ne_ct {H : Hp} {a b : Addr} {u w : HO} (h : H a = some u) (h2 : H b = some w) (n : u ≠ w) : a ≠ b := fun z => n (by rw [z, h2] at h; exact (Option.some.inj h).symm)
theorem r_dget2 {td ty tx : TE} {σ : L2.St} {H : Hp} {Q : VK} (h : td σ H fun x H1 => ∃ a, x = .ref a ∧ IsD H1 a ∧ ty σ H1 fun y H2 => tx σ H2 fun z H3 => ∃ o, DGet H3 a y o ∧ Q (o.getD z) H3) : tDGet2 td ty tx σ H Q := h
theorem r_dgV {σ : L2.St} {H : Hp} {Q : VK} {i j : Nat} {a : Addr} {x : Str} {kvs : List (Key × V)} {y : V} (hv : σ[i]? = some (some (.ref a))) (hj : σ[j]? = some (some (.str x))) (e : Rd H a (.dK kvs)) (hx : valV kvs (.inr x : Key) = some y) (q : Q y H) : tDGet (tVar i) (tVar j) σ H Q := ⟨_, hv, _, hj, a, y, rfl, .inl ⟨kvs, .inr x, e, rfl, hx.symm⟩, q⟩
def lowS (z : Str) : Prop := ∀ c ∈ z.cps.toList, 97 ≤ c ∧ c ≤ 122
theorem nameOk_of {z : Str} (h : lowS z) (l1 : 1 ≤ z.length) (l2 : z.length ≤ 8) : nameOk z = true := by
  unfold nameOk
  rw [decide_eq_true ⟨l1, l2⟩, Bool.true_and]
  unfold allW
  refine List.all_eq_true.mpr fun c hc => ?_
  obtain ⟨a, b⟩ := h c hc
  rw [decide_eq_true a, decide_eq_true b]
  rfl
theorem low_app {x y : Str} (hx : lowS x) (hy : lowS y) : lowS (x ++ y) := fun c hc => by
  have w : (x ++ y).cps.toList = x.cps.toList ++ y.cps.toList := Array.toList_append
  rw [w] at hc
  exact (List.mem_append.mp hc).elim (hx c) (hy c)
theorem low_cut {z : Str} {lo hi : Option Int} (h : lowS z) : lowS (cutS z lo hi) := fun c hc => by
  unfold cutS at hc
  exact h c (List.mem_of_mem_drop (List.mem_of_mem_take hc))
theorem cut_pre {z : Str} {m : Int} (h : 0 ≤ m) : (cutS z none (some m)).length = min m.toNat z.length := by
  unfold cutS HT.sIx
  show (List.toArray _).size = _
  rw [List.size_toArray, List.length_take]
  simp only [if_neg (show ¬ m < 0 by omega), Nat.sub_zero, List.drop_zero]
  rw [Array.length_toList]
  show min (min m.toNat z.length) z.length = _
  omega
theorem cut_suf {z : Str} {m : Int} (h : 0 ≤ m) : (cutS z (some m) none).length = z.length - min m.toNat z.length := by
  unfold cutS HT.sIx
  show (List.toArray _).size = _
  rw [List.size_toArray, List.length_take, List.length_drop]
  simp only [if_neg (show ¬ m < 0 by omega)]
  rw [Array.length_toList]
  show min (z.length - min m.toNat z.length) (z.length - min m.toNat z.length) = _
  omega
def one1 (z : Str) : Prop := lowS z ∧ z.length = 1
theorem glue_low : ∀ (ys : List Str) (acc : Array Nat), (∀ y ∈ ys, one1 y) → (∀ c ∈ acc.toList, 97 ≤ c ∧ c ≤ 122) →
    (∀ c ∈ (ys.foldl (fun (acc : Array Nat) (p : Str) => acc ++ (Str.ofString "").cps ++ p.cps) acc).toList, 97 ≤ c ∧ c ≤ 122) ∧ (ys.foldl (fun (acc : Array Nat) (p : Str) => acc ++ (Str.ofString "").cps ++ p.cps) acc).size = acc.size + ys.length
  | [], acc, _, h => ⟨h, rfl⟩
  | y :: r, acc, hy, h => by
    obtain ⟨y1, y2⟩ := hy y List.mem_cons_self
    have e : (Str.ofString "").cps = #[] := by decide +kernel
    have y2 : y.cps.size = 1 := y2
    have z := glue_low r (acc ++ (Str.ofString "").cps ++ y.cps) (fun b hb => hy b (List.mem_cons_of_mem _ hb)) fun c hc => by
      rw [e, Array.append_empty, Array.toList_append] at hc
      exact (List.mem_append.mp hc).elim (h c) (y1 c)
    refine ⟨z.1, z.2.trans ?_⟩
    rw [e, Array.append_empty, Array.size_append, y2, List.length_cons]
    omega
theorem join_low {ys : List Str} (h : ∀ y ∈ ys, one1 y) (h0 : 0 < ys.length) : lowS (Txt.join (Str.ofString "") ys) ∧ (Txt.join (Str.ofString "") ys).length = ys.length := by
  cases ys with
  | nil => exact absurd h0 (by decide)
  | cons y r =>
    obtain ⟨y1, y2⟩ := h y List.mem_cons_self
    have z := glue_low r y.cps (fun b hb => h b (List.mem_cons_of_mem _ hb)) y1
    refine ⟨z.1, z.2.trans ?_⟩
    have y2 : y.cps.size = 1 := y2
    rw [y2, List.length_cons]
    omega
theorem strs_of {R : Str → Prop} : ∀ {xs : List V}, (∀ v ∈ xs, ∃ y, v = .str y ∧ R y) → ∃ ys : List Str, xs = ys.map V.str ∧ ys.length = xs.length ∧ ∀ y ∈ ys, R y
  | [], _ => ⟨[], rfl, rfl, fun _ z => nomatch z⟩
  | v :: r, h => by
    obtain ⟨y, rfl, hy⟩ := h v List.mem_cons_self
    obtain ⟨ys, rfl, l, hs⟩ := strs_of (xs := r) fun u hu => h u (List.mem_cons_of_mem _ hu)
    exact ⟨y :: ys, rfl, by rw [List.length_cons, l, List.length_cons], fun z hz => (List.mem_cons.mp hz).elim (fun w => by rw [w]; exact hy) (hs z)⟩
theorem sum1 : ∀ {ys : List Str}, (∀ y ∈ ys, one1 y) → (ys.map fun x => x.length).sum = ys.length
  | [], _ => rfl
  | y :: r, h => by
    rw [List.map_cons, List.sum_cons, (h y List.mem_cons_self).2, sum1 fun z hz => h z (List.mem_cons_of_mem _ hz), List.length_cons]
    omega
theorem signs_low : ∀ c ∈ (Str.ofString "abcdefghijklmnopqrstuvwxyz").cps.toList, 97 ≤ c ∧ c ≤ 122 := by decide +kernel
theorem z_low : lowS (Str.ofString "z") ∧ (Str.ofString "z").length = 1 := by
  constructor
  · unfold lowS
    decide +kernel
  · decide +kernel
theorem e_low : lowS Str.empty := fun c hc => nomatch hc
theorem sign_ok {c : Nat} (h : 97 ≤ c ∧ c ≤ 122) : one1 ⟨#[c]⟩ := ⟨fun d hd => by
  have w : d = c := List.mem_singleton.mp hd
  rw [w]
  exact h, rfl⟩
theorem low_of {z : Str} (h : nameOk z = true) : lowS z := fun c hc => by
  have h2 := (Bool.and_eq_true_iff.mp h).2
  have := List.all_eq_true.mp h2 c hc
  rw [Bool.and_eq_true] at this
  exact ⟨of_decide_eq_true this.1, of_decide_eq_true this.2⟩
theorem a_low : lowS (Str.ofString "a") ∧ (Str.ofString "a").length = 1 := by
  constructor
  · unfold lowS
    decide +kernel
  · decide +kernel
/-! ## 36. a dict by an order of names -/
def dicF (G : List Str) (f : Str → V) : List (Key × V) := G.map fun x => (.inr x, f x)
theorem dicF_get {f : Str → V} {x : Str} : ∀ {G : List Str}, valV (dicF G f) (.inr x : Key) = if x ∈ G then some (f x) else none
  | [] => rfl
  | a :: r => by
    have ih := dicF_get (f := f) (x := x) (G := r)
    by_cases c : a = x
    · rw [if_pos (by rw [c]; exact List.mem_cons_self)]
      refine (valV_pos (p := ((.inr a : Key), f a)) (by rw [c])).trans ?_
      rw [c]
    · refine (valV_neg (p := ((.inr a : Key), f a)) (fun z => c (by injection z))).trans ?_
      show valV (dicF r f) (.inr x) = _
      rw [ih]
      by_cases d : x ∈ r
      · rw [if_pos d, if_pos (List.mem_cons_of_mem _ d)]
      · rw [if_neg d, if_neg (fun z => (List.mem_cons.mp z).elim (fun w => c w.symm) d)]
theorem dicF_len {G : List Str} {f : Str → V} : (dicF G f).length = G.length := List.length_map _
theorem dicF_any {G : List Str} {f : Str → V} {x : Str} : ((dicF G f).any fun kv => decide (kv.1 = (.inr x : Key))) = decide (x ∈ G) := by
  rw [valV_any, dicF_get]
  by_cases c : x ∈ G
  · rw [if_pos c, decide_eq_true c]; rfl
  · rw [if_neg c, decide_eq_false c]; rfl
theorem dicF_put {G : List Str} {f : Str → V} {x : Str} {v : V} : putK (dicF G f) (.inr x : Key) v = dicF (if x ∈ G then G else G ++ [x]) (fun y => if y = x then v else f y) := by
  unfold putK
  rw [dicF_any]
  by_cases c : x ∈ G
  · rw [if_pos (decide_eq_true c), if_pos c]
    unfold dicF
    rw [List.map_map]
    refine List.map_congr_left fun y _ => ?_
    show (if (.inr y : Key) = .inr x then ((.inr y : Key), v) else (.inr y, f y)) = (.inr y, if y = x then v else f y)
    by_cases d : y = x
    · rw [if_pos (by rw [d]), if_pos d]
    · rw [if_neg (fun z => d (by injection z)), if_neg d]
  · rw [if_neg (by rw [decide_eq_false c]; exact Bool.false_ne_true), if_neg c]
    unfold dicF
    rw [List.map_append]
    congr 1
    · refine List.map_congr_left fun y hy => ?_
      show ((.inr y : Key), f y) = (.inr y, if y = x then v else f y)
      rw [if_neg (fun z => c (by rw [← z]; exact hy))]
    · show [((.inr x : Key), v)] = [(.inr x, if x = x then v else f x)]
      rw [if_pos rfl]
theorem dicF_drop {f : Str → V} {x : Str} : ∀ {G : List Str}, dropK (dicF G f) (.inr x : Key) = dicF (G.filter fun y => decide (y ≠ x)) f
  | [] => rfl
  | a :: r => by
    have ih := dicF_drop (f := f) (x := x) (G := r)
    by_cases c : a = x
    · rw [List.filter_cons_of_neg (by simpa using c)]
      exact (dropK_pos (p := ((.inr a : Key), f a)) (by rw [c])).trans ih
    · rw [List.filter_cons_of_pos (by simpa using c)]
      refine (dropK_neg (p := ((.inr a : Key), f a)) (fun z => c (by injection z))).trans ?_
      show (_ :: dropK (dicF r f) (.inr x)) = _
      rw [ih]
      rfl
theorem dicF_congr {G : List Str} {f g : Str → V} (h : ∀ x ∈ G, f x = g x) : dicF G f = dicF G g := List.map_congr_left fun x hx => by rw [h x hx]
end Bk

namespace Bk
open PySem PySem.Spec PyProof.Rows L2
theorem op_in_seqK {X : Cx} {K : PySem.W.Frag} (h : X.K = K) : OpR X (compareOp .In) (rIn K false) := by
  subst h
  exact op_in_seq
/-! ## 36. dicts walked by their values; dict comprehensions -/
section
variable {K : PySem.W.Frag} {σ : L2.St} {H : Hp} {Q : VK} {vs : List Nat} {g : TG} {tt : TT} {te tl : TE} {d : Addr} {kvs : List (Key × V)}
theorem lcVals (p : Nat → Option V) (hd : H d = some (.dK kvs)) (hl : kvs.length ≤ 10000)
    (hv : ∀ (od : Obj) (QQ : VK), QQ (.ref d) (upd H d (.frz od (.dK kvs))) → tl σ (upd H d (.frz od (.dK kvs))) QQ)
    (ht : ∀ (i : Nat) (k : Key) (y : V) (od : Obj) (H1 : Hp) (Q' : VK) (R' : Hp → Prop), kvs[i]? = some (k, y) → H1 d = some (.frz od (.dK kvs)) → (∀ b u, b ≠ d → H b = some u → H1 b = some u) → (∀ v, p i = some v → ∀ H3, Same H1 H3 → Q' v H3) → (p i = none → ∀ H3, Same H1 H3 → R' H3) →
      g y (wipe σ vs) H1 fun σ2 H2 => wipe σ2 vs = wipe σ vs ∧ tt σ2 H2 fun b H4 => if b = true then te σ2 H4 Q' else R' H4)
    (q : ∀ D H', H D = none → Same H H' → H' D = some (.lst ((List.range kvs.length).filterMap p)) → Q (.ref D) H') : tLockE (tLc (iVals tl) g tt te vs) σ H Q := by
  refine ⟨d, .dK kvs, hd, trivial, fun od => ?_⟩
  have f0 : ∀ b u, b ≠ d → H b = some u → upd H d (.frz od (.dK kvs)) b = some u := fun b u nb eb => by rw [upd_ne nb]; exact eb
  have e0 : upd H d (.frz od (.dK kvs)) d = some (.frz od (.dK kvs)) := upd_same
  have z0 : ∀ {D : Addr}, upd H d (.frz od (.dK kvs)) D = none → H D = none ∧ D ≠ d := fun {D} z => by
    by_cases h : D = d
    · rw [h, upd_same] at z; exact nomatch z
    · rw [upd_ne h] at z; exact ⟨z, h⟩
  refine hv od _ ⟨d, od, kvs, rfl, e0, fun D hD => ?_⟩
  refine lc_by (g := g) (tt := tt) (te := te) (vs := vs) (σ := σ) (Q := fun v H' => H' d = some (.frz od (.dK kvs)) ∧ Q v (upd H' d (.dK kvs))) walk_values p hD hl (fun H' s => s _ _ e0) (fun i x H1 H2 Q' R' hi sm y h1 h2 => ?_) fun H' s e => ?_
  · obtain ⟨rfl, k, hk⟩ := y
    exact ht i k x od H2 Q' R' hk (sm _ _ e0) (fun b u nb eb => sm _ _ (f0 b u nb eb)) h1 h2
  · obtain ⟨hD1, hD2⟩ := z0 hD
    refine ⟨s _ _ e0, q D _ hD1 (fun b u eb => ?_) (by rw [upd_ne hD2]; exact e)⟩
    by_cases h : b = d
    · rw [h, upd_same, ← hd, ← h]
      exact eb
    · rw [upd_ne h]
      exact s _ _ (f0 b u h eb)
theorem lcKeysS {tt : TT} {te tl : TE} {D : Ends} {i j : Nat} (p : Nat → Option V) (hd : H d = some (.dK kvs)) (hl : kvs.length ≤ 10000) (hw : ∀ x, wipe ((wipe σ vs).set j (some x)) vs = wipe σ vs)
    (hv : ∀ (od : Obj) (QQ : VK), QQ (.ref d) (upd H d (.frz od (.dK kvs))) → tl σ (upd H d (.frz od (.dK kvs))) QQ)
    (ht : ∀ (i : Nat) (k : Key) (y : V) (od : Obj) (H1 : Hp) (Q' : VK) (R' : Hp → Prop), kvs[i]? = some (k, y) → H1 d = some (.frz od (.dK kvs)) → (∀ b u, b ≠ d → H b = some u → H1 b = some u) → (∀ v, p i = some v → ∀ H3, Same H1 H3 → Q' v H3) → (p i = none → ∀ H3, Same H1 H3 → R' H3) →
      tt ((wipe σ vs).set j (some (kV k))) H1 fun b H4 => if b = true then te ((wipe σ vs).set j (some (kV k))) H4 Q' else R' H4)
    (q : ∀ L H', H L = none → Same H H' → H' L = some (.lst ((List.range kvs.length).filterMap p)) → D.nx (σ.set i (some (.ref L))) H') : tLock (tAsg (tLc (iKeys tl) (gName j) tt te vs) (gName i)) D σ H := by
  have z : tLockE (tLc (iKeys tl) (gName j) tt te vs) σ H fun v H' => D.nx (σ.set i (some v)) H' := lcKeys p hd hl hw hv ht q
  obtain ⟨d2, u, h1, h2, h3⟩ := z
  refine ⟨d2, u, h1, h2, fun od => ?_⟩
  exact h3 od
/-- a dict comprehension over a dict's keys: each name gets v -/
theorem dcKeys {j : Nat} {G : List Str} {f : Str → V} {v : V} (nd : G.Nodup) (hl : G.length ≤ 10000) (hw : ∀ x, wipe ((wipe σ vs).set j (some x)) vs = wipe σ vs)
    (hd : H d = some (.dK (dicF G f)))
    (hv : ∀ (od : Obj) (QQ : VK), QQ (.ref d) (upd H d (.frz od (.dK (dicF G f)))) → tl σ (upd H d (.frz od (.dK (dicF G f)))) QQ)
    (hk : ∀ (x : Str) (H1 : Hp) (QQ : VK), QQ (.str x) H1 → te ((wipe σ vs).set j (some (.str x))) H1 QQ)
    (hz : ∀ (x : Str) (H1 : Hp) (QQ : VK), QQ v H1 → tv ((wipe σ vs).set j (some (.str x))) H1 QQ)
    (q : ∀ D H', H D = none → Same H H' → H' D = some (.dK (dicF G fun _ => v)) → Q (.ref D) H') : tLockE (tDc (iKeys tl) (gName j) tYes te tv vs) σ H Q := by
  refine ⟨d, .dK (dicF G f), hd, trivial, fun od => ?_⟩
  have f0 : ∀ b u, b ≠ d → H b = some u → upd H d (.frz od (.dK (dicF G f))) b = some u := fun b u nb eb => by rw [upd_ne nb]; exact eb
  have e0 : upd H d (.frz od (.dK (dicF G f))) d = some (.frz od (.dK (dicF G f))) := upd_same
  have z0 : ∀ {D : Addr}, upd H d (.frz od (.dK (dicF G f))) D = none → H D = none ∧ D ≠ d := fun {D} z => by
    by_cases h : D = d
    · rw [h, upd_same] at z; exact nomatch z
    · rw [upd_ne h] at z; exact ⟨z, h⟩
  refine hv od _ ⟨d, od, rfl, .inl ⟨_, e0, fun D hD => ?_⟩⟩
  obtain ⟨hD1, hD2⟩ := z0 hD
  refine ⟨fun i m H' => m = G.length - i ∧ i ≤ G.length ∧ H' d = some (.frz od (.dK (dicF G f))) ∧ (∀ b u, b ≠ d → b ≠ D → H b = some u → H' b = some u) ∧ H' D = some (.dK (dicF (G.take i) fun _ => v)), ⟨_, rfl, Nat.zero_le _, by rw [upd_ne hD2.symm]; exact e0, fun b u n1 n2 eb => by rw [upd_ne n2]; exact f0 _ _ n1 eb, upd_same⟩, fun i m H' hW => ?_⟩
  obtain ⟨rfl, hi, ed, fr, eD⟩ := hW
  by_cases hc : i < G.length
  · refine .inr ⟨(walk_keys (d := d) (o := od) (kvs := dicF G f)).goes i H' (by rw [dicF_len]; exact hc) ed, fun H2 => ∃ m', m' < G.length - i ∧ m' = G.length - (i + 1) ∧ i + 1 ≤ G.length ∧ H2 d = some (.frz od (.dK (dicF G f))) ∧ (∀ b u, b ≠ d → b ≠ D → H b = some u → H2 b = some u) ∧ H2 D = some (.dK (dicF (G.take (i + 1)) fun _ => v)), fun H2 h => ?_, fun x H2 y => ?_⟩
    · obtain ⟨m', a, b⟩ := h
      exact ⟨m', a, b⟩
    · obtain ⟨rfl, k, w, hk2, rfl⟩ := (walk_keys (d := d) (o := od) (kvs := dicF G f)).yields i _ x H2 (by rw [dicF_len]; exact hc) ed y
      have hg : k = .inr G[i] := by
        unfold dicF at hk2
        rw [List.getElem?_map, List.getElem?_eq_getElem hc] at hk2
        exact (Prod.mk.inj (Option.some.inj hk2)).1.symm
      subst hg
      refine ⟨hw _, ?_⟩
      refine hk _ _ _ (hz _ _ _ ⟨_, .inr G[i], rfl, eD, ?_, _, Nat.sub_lt_sub_left hc (Nat.lt_succ_self i), rfl, hc, ?_, fun b u n1 n2 eb => ?_, ?_⟩)
      · rw [dicF_len, List.length_take, sizeLine_eq]; omega
      · rw [upd_ne hD2.symm]; exact ed
      · rw [upd_ne n2]; exact fr _ _ n1 n2 eb
      · have hn : G[i] ∉ G.take i := fun z => by
          obtain ⟨k, hk3, e3⟩ := List.getElem_of_mem z
          rw [List.getElem_take] at e3
          have hk4 : k < i := by rw [List.length_take] at hk3; omega
          exact absurd ((List.getElem_inj nd).mp e3) (Nat.ne_of_lt hk4)
        rw [upd_same, dicF_put, if_neg hn, List.take_succ_eq_append_getElem hc]
        refine congrArg (fun l => some (HO.dK l)) (dicF_congr fun x _ => ?_)
        by_cases hx : x = G[i]
        · rw [if_pos hx]
        · rw [if_neg hx]
  · have hi2 : i = (dicF G f).length := by rw [dicF_len]; omega
    refine .inl ⟨by rw [hi2]; exact (walk_keys (d := d) (o := od) (kvs := dicF G f)).stops H' ed, ed, q D _ hD1 (fun b u eb => ?_) ?_⟩
    · by_cases h : b = d
      · rw [h, upd_same, ← hd, ← h]
        exact eb
      · rw [upd_ne h]
        exact fr _ _ h (fun z => by rw [z, hD1] at eb; exact nomatch eb) eb
    · rw [upd_ne hD2, eD, List.take_of_length_le (by omega)]
end
end Bk

namespace Bk
open PySem PySem.Spec PyProof.Rows L2
/-! ## 37. a comprehension over a list of names, some left out as drawn -/
section
variable {K : PySem.W.Frag} {σ : L2.St} {H H0 : Hp} {Q : VK} {j : Nat} {vs : List Nat} {tt : TT} {te tl : TE} {a bx : Addr} {M : List Str} {m : Nat} {q : Str}
theorem lcFltD (hb : Box bx m H) (ea : H a = some (.lst (M.map V.str))) (na : a ≠ bx) (hl : M.length ≤ 1000) (hw : ∀ x, wipe ((wipe σ vs).set j (some x)) vs = wipe σ vs)
    (hv : ∀ QQ : VK, QQ (.ref a) H → tl σ H0 QQ)
    (hte : ∀ (x : Str) (H1 : Hp) (QQ : VK), QQ (.str x) H1 → te ((wipe σ vs).set j (some (.str x))) H1 QQ)
    (ht : ∀ (x : Str) (k : Nat) (H1 : Hp) (Q' : Bool → Hp → Prop), x ∈ M → k < m + M.length → Box bx k H1 → (∀ b H2, (x = q → b = true) → Box bx (k + 1) H2 → But bx H1 H2 → Q' b H2) → tt ((wipe σ vs).set j (some (.str x))) H1 Q')
    (hq : ∀ (D : Addr) (H' : Hp) (ys : List Str), H D = none → But bx H H' → Box bx (m + M.length) H' → H' D = some (.lst (ys.map V.str)) → ys.length ≤ M.length → (∀ y ∈ ys, y ∈ M) → (q ∈ M → q ∈ ys) → Q (.ref D) H') : tLc (iList K tl) (gName j) tt te vs σ H0 Q := by
  refine hv _ ⟨a, rfl, ⟨_, sqL ea⟩, fun D hD => ?_⟩
  have nD : D ≠ bx := hb.ne hD
  have nDa : D ≠ a := (ne_of_none ea hD).symm
  refine lc_it (g := gName j) (tt := tt) (te := te) (vs := vs) (σ := σ) (walk_list (K := K) (a := a) (xs := M.map V.str)) (fun i G => But bx H G ∧ Box bx (m + i) G ∧ ∃ ys : List Str, G D = some (.lst (ys.map V.str)) ∧ ys.length ≤ i ∧ (∀ y ∈ ys, y ∈ M) ∧ ∀ k, k < i → M[k]? = some q → q ∈ ys)
    ⟨.of (same_upd hD), hb.same (same_upd hD), [], upd_same, Nat.le_refl _, (fun _ z => (nomatch z)), fun k hk => absurd hk (Nat.not_lt_zero _)⟩ (fun i G hi ⟨bt, _⟩ => sqL (bt _ _ na ea)) (fun i x H1 H2 hi ⟨bt, hB, ys, e, l, hp, hk⟩ y => ?_) fun G ⟨bt, hB, ys, e, l, hp, hk⟩ => ?_
  · obtain ⟨rfl, hx⟩ := y
    rw [List.getElem?_map] at hx
    cases hm : M[i]? with
    | none => rw [hm] at hx; exact nomatch hx
    | some z =>
      rw [hm] at hx
      obtain rfl := Option.some.inj hx
      rw [List.length_map] at hi
      refine ⟨hw _, ht z (m + i) _ _ (List.mem_of_getElem? hm) (by omega) hB fun b H3 hbq hB3 b3 => ?_⟩
      have e3 := b3 _ _ nD e
      have bt3 := bt.trans b3
      cases b with
      | false =>
        refine ⟨bt3, hB3, ys, e3, by omega, hp, fun k hk2 hkq => ?_⟩
        by_cases c : k = i
        · rw [c, hm] at hkq
          exact absurd (hbq (Option.some.inj hkq)) Bool.false_ne_true
        · exact hk k (by omega) hkq
      | true =>
        rw [if_pos rfl]
        refine hte z H3 _ ⟨_, e3, by rw [List.length_map, sizeLine_eq]; omega, ?_⟩
        refine ⟨fun b o nb eb => by rw [upd_ne (ne_of_none eb hD)]; exact bt3 _ _ nb eb, ?_, ys ++ [z], by rw [upd_same, List.map_append]; rfl, by rw [List.length_append]; exact Nat.succ_le_succ l, fun y hy => ?_, fun k hk2 hkq => ?_⟩
        · obtain ⟨x1, y1, z1, eB, r⟩ := hB3
          exact ⟨x1, y1, z1, by rw [upd_ne nD.symm]; exact eB, r⟩
        · rcases List.mem_append.mp hy with w | w
          · exact hp y w
          · rw [List.mem_singleton.mp w]; exact List.mem_of_getElem? hm
        · by_cases c : k = i
          · rw [c, hm] at hkq
            rw [Option.some.inj hkq]
            exact List.mem_append_right _ (List.mem_singleton.mpr rfl)
          · exact List.mem_append_left _ (hk k (by omega) hkq)
  · rw [List.length_map] at hB l hk
    refine hq D G ys hD bt hB e l hp fun h => ?_
    obtain ⟨k, hk1, hk2⟩ := List.getElem_of_mem h
    exact hk k hk1 (by rw [List.getElem?_eq_getElem hk1, hk2])
theorem lcFltN (hb : Box bx m H0) (hl : M.length ≤ 1000) (hw : ∀ x, wipe ((wipe σ vs).set j (some x)) vs = wipe σ vs)
    (hv : ∀ QQ : VK, (∀ a H, H0 a = none → Same H0 H → H a = some (.lst (M.map V.str)) → QQ (.ref a) H) → tl σ H0 QQ)
    (hte : ∀ (x : Str) (H1 : Hp) (QQ : VK), QQ (.str x) H1 → te ((wipe σ vs).set j (some (.str x))) H1 QQ)
    (ht : ∀ (x : Str) (k : Nat) (H1 : Hp) (Q' : Bool → Hp → Prop), x ∈ M → k < m + M.length → Box bx k H1 → (∀ b H2, (x = q → b = true) → Box bx (k + 1) H2 → But bx H1 H2 → Q' b H2) → tt ((wipe σ vs).set j (some (.str x))) H1 Q')
    (hq : ∀ (D : Addr) (H' : Hp) (ys : List Str), H0 D = none → But bx H0 H' → Box bx (m + M.length) H' → H' D = some (.lst (ys.map V.str)) → ys.length ≤ M.length → (∀ y ∈ ys, y ∈ M) → (q ∈ M → q ∈ ys) → Q (.ref D) H') : tLc (iList K tl) (gName j) tt te vs σ H0 Q := by
  refine hv _ fun a H na s ea => ?_
  have z : tLc (iList K (fun _ H' QQ => QQ (.ref a) H')) (gName j) tt te vs σ H Q := lcFltD (q := q) (hb.same s) ea (hb.ne na) hl hw (fun QQ z => z) hte ht fun D H' ys nD b hB e l h1 h2 => hq D H' ys (s.free nD) (fun c o nb eb => b c o nb (s _ _ eb)) hB e l h1 h2
  exact z
end
/-! ## 38. a list of names as data -/
def strD (l : List Str) : PyData := .list (l.map PyData.str)
theorem lay_strs : ∀ {l : List Str}, (∀ x ∈ l, PyData.strOk x = true) → PyData.canLayAll0 (l.map PyData.str) = true ∧ PyData.depthAll (l.map PyData.str) = 0
  | [], _ => ⟨rfl, rfl⟩
  | a :: r, h => by
    obtain ⟨h1, h2⟩ := lay_strs (l := r) fun x hx => h x (List.mem_cons_of_mem _ hx)
    constructor
    · show (PyData.canLay0 (.str a) && PyData.canLayAll0 _) = true
      rw [h1]
      simp only [PyData.canLay0, h a List.mem_cons_self, Bool.true_and]
    · show max (PyData.depth (.str a)) (PyData.depthAll _) = 0
      rw [h2]
      rfl
theorem sh_strs {l : List Str} (h : ∀ x ∈ l, PyData.strOk x = true) : SeqAt.shaped (strD l) = true := by
  unfold SeqAt.shaped strD
  simp only [PyData.canLay0, (lay_strs h).1, PyData.depth, (lay_strs h).2, Bool.true_and]
  decide
theorem dps_strs {K : PySem.W.Frag} {H : Hp} : ∀ l : List Str, DpAll K H (l.map V.str) (l.map PyData.str)
  | [] => .nil
  | a :: r => .cons (.str _) (dps_strs r)
theorem dp_strs {K : PySem.W.Frag} {H : Hp} {a : Addr} {l : List Str} (h : SqL K H a (l.map V.str)) : Dp K H (.ref a) (strD l) := .lst h (dps_strs l)
theorem sh_nil : SeqAt.shaped (.list []) = true := by decide +kernel
end Bk

namespace Bk
open PySem PySem.Spec PyProof.Rows L2
/-! ## 39. dicts made of pairs -/
theorem dicF_merge {f : Str → V} : ∀ {M G : List Str}, (G ++ M).Nodup → mergeK (dicF G f) (dicF M f) = dicF (G ++ M) f
  | [], G, _ => by rw [List.append_nil]; rfl
  | a :: r, G, h => by
    have ha : a ∉ G := fun z => (List.nodup_append.mp h).2.2 a z a List.mem_cons_self rfl
    have e : putK (dicF G f) (.inr a : Key) (f a) = dicF (G ++ [a]) f := by
      rw [dicF_put, if_neg ha]
      refine dicF_congr fun y _ => ?_
      by_cases c : y = a
      · rw [if_pos c, c]
      · rw [if_neg c]
    show mergeK (putK (dicF G f) (.inr a : Key) (f a)) (dicF r f) = _
    rw [e]
    have h2 : ((G ++ [a]) ++ r).Nodup := by rw [List.append_assoc]; exact h
    rw [dicF_merge h2, List.append_assoc]
    rfl
theorem dicF_new {f : Str → V} {M : List Str} (h : M.Nodup) : mergeK [] (dicF M f) = dicF M f := dicF_merge (G := []) h
theorem paired_dic {R : Addr → Key × V → Prop} {f : Str → V} : ∀ {M : List Str} {ts : List Addr}, ts.length = M.length → (∀ (k : Nat) t x, ts[k]? = some t → M[k]? = some x → R t (.inr x, f x)) → Paired R ts (dicF M f)
  | [], [], _, _ => .nil
  | x :: M, t :: ts, l, h => .cons (h 0 t x rfl rfl) (paired_dic (Nat.succ.inj l) fun k t x a b => h (k + 1) t x a b)
theorem by_name {α : Type} (d : α) {M : List Str} (nd : M.Nodup) {cs : List α} : ∃ f : Str → α, ∀ (k : Nat) x c, M[k]? = some x → cs[k]? = some c → f x = c :=
  ⟨fun x => cs.getD (M.idxOf x) d, fun k x c hx hc => by
    obtain ⟨hk, e⟩ := List.getElem?_eq_some_iff.mp hx
    have : M.idxOf x = k := by rw [← e]; exact List.Nodup.idxOf_getElem nd k hk
    show cs.getD (M.idxOf x) d = c
    rw [this, List.getD_eq_getElem?_getD, hc]
    rfl⟩
section
variable {J : It} {G : Hp → Prop} {Y : Nat → Hp → V → Hp → Prop} {te : TE} {vs : List Nat} {σ : L2.St} {H : Hp} {D : Addr} {Q : VK} {M : List Str} {j : Nat}
/-- each turn lays a pair of a name and a new thing -/
theorem lc_prs (w : Walk J M.length G Y) (o : Str → HO) (hD : H D = none) (hn : M.length ≤ 10000) (hG : ∀ H', Same H H' → G H') (hw : ∀ x, wipe ((wipe σ vs).set j (some x)) vs = wipe σ vs)
    (hY : ∀ i H1 x H2, i < M.length → Y i H1 x H2 → H2 = H1 ∧ ∃ z, M[i]? = some z ∧ x = .str z)
    (hs : ∀ (z : Str) (H1 : Hp) (Q' : VK), z ∈ M → Same H H1 → (∀ t c H3, H1 t = none → H1 c = none → t ≠ c → Same H1 H3 → H3 t = some (.tup [.str z, .ref c]) → H3 c = some (o z) → Q' (.ref t) H3) → te ((wipe σ vs).set j (some (.str z))) H1 Q')
    (q : ∀ H' (ts cs : List Addr), Same H H' → H' D = some (.lst (ts.map V.ref)) → ts.length = M.length → cs.length = M.length → (∀ (k : Nat) t c x, ts[k]? = some t → cs[k]? = some c → M[k]? = some x → H' t = some (.tup [.str x, .ref c]) ∧ H' c = some (o x)) → cs.Nodup → (∀ c ∈ cs, H c = none) → D ∉ cs → Q (.ref D) H') :
    ∃ W : Nat → Nat → Hp → Prop, (∃ m, W 0 m (upd H D (.lst []))) ∧ ∀ i m H, W i m H →
      (J.stop i H ∧ Q (.ref D) H) ∨ (J.go i H ∧ ∃ Nx : Hp → Prop, (∀ H', Nx H' → ∃ m', m' < m ∧ W (i + 1) m' H') ∧ ∀ x H', J.yld i H x H' → gName j x (wipe σ vs) H' fun σ2 H2 => wipe σ2 vs = wipe σ vs ∧ tYes σ2 H2 fun b H3 =>
        if b = true then te σ2 H3 fun y H4 => ∃ acc, H4 D = some (.lst acc) ∧ acc.length < sizeLine ∧ Nx (upd H4 D (.lst (acc ++ [y]))) else Nx H3) := by
  refine lc_it w (fun i G => Same H G ∧ ∃ ts cs : List Addr, G D = some (.lst (ts.map V.ref)) ∧ ts.length = i ∧ cs.length = i ∧ (∀ (k : Nat) t c x, ts[k]? = some t → cs[k]? = some c → M[k]? = some x → G t = some (.tup [.str x, .ref c]) ∧ G c = some (o x)) ∧ cs.Nodup ∧ (∀ c ∈ cs, H c = none ∧ G c ≠ none) ∧ D ∉ cs)
    ⟨same_upd hD, [], [], upd_same, rfl, rfl, (fun _ _ _ _ z => nomatch z), List.nodup_nil, (fun _ z => nomatch z), fun z => nomatch z⟩ (fun i G _ z => hG G z.1) (fun i x H1 H2 hi ⟨sm, ts, cs, e, l1, l2, all, nd, fr, nD⟩ y => ?_) fun G ⟨sm, ts, cs, e, l1, l2, all, nd, fr, nD⟩ => q G ts cs sm e l1 l2 all nd (fun c hc => (fr c hc).1) nD
  obtain ⟨rfl, z, hz, rfl⟩ := hY i H1 x H2 hi y
  refine ⟨hw _, ?_⟩
  refine hs z H2 _ (List.mem_of_getElem? hz) sm fun t c H3 nt nc tc s3 et ec => ?_
  have tD : t ≠ D := fun w => by rw [w, e] at nt; exact nomatch nt
  have cD : c ≠ D := fun w => by rw [w, e] at nc; exact nomatch nc
  have ccs : c ∉ cs := fun w => (fr c w).2 nc
  refine ⟨_, s3 _ _ e, by rw [List.length_map, l1]; exact Nat.lt_of_lt_of_le hi (Nat.le_trans hn (by decide)), sameBut (sm.trans s3) hD, ts ++ [t], cs ++ [c], ?_, by rw [List.length_append, l1]; rfl, by rw [List.length_append, l2]; rfl, fun k u v x hk hv hx => ?_, ?_, fun u hu => ?_, fun w => ?_⟩
  · rw [upd_same, List.map_append]
    rfl
  · have hlt : k < ts.length + 1 := by
      have := (List.getElem?_eq_some_iff.mp hk).1
      rw [List.length_append] at this
      exact this
    by_cases hk2 : k < ts.length
    · rw [List.getElem?_append_left hk2] at hk
      rw [List.getElem?_append_left (by omega)] at hv
      obtain ⟨a1, a2⟩ := all k u v x hk hv hx
      have nu : u ≠ D := fun w => by rw [w, e] at a1; exact nomatch a1
      have nv : v ≠ D := fun w => nD (by rw [← w]; exact List.mem_of_getElem? hv)
      exact ⟨by rw [upd_ne nu]; exact s3 _ _ a1, by rw [upd_ne nv]; exact s3 _ _ a2⟩
    · have e3 : k = i := by omega
      subst e3
      rw [List.getElem?_append_right (by omega), l1, Nat.sub_self] at hk
      rw [List.getElem?_append_right (by omega), l2, Nat.sub_self] at hv
      obtain rfl := Option.some.inj hk
      obtain rfl := Option.some.inj hv
      rw [hz] at hx
      obtain rfl := Option.some.inj hx
      exact ⟨by rw [upd_ne tD]; exact et, by rw [upd_ne cD]; exact ec⟩
  · refine List.nodup_append.mpr ⟨nd, (by simp), fun a ha b hb w => ?_⟩
    rw [List.mem_singleton.mp hb] at w
    exact ccs (by rw [← w]; exact ha)
  · rcases List.mem_append.mp hu with w | w
    · obtain ⟨a1, a2⟩ := fr u w
      refine ⟨a1, ?_⟩
      rw [upd_ne (fun z => nD (by rw [← z]; exact w))]
      cases h : H2 u with
      | none => exact absurd h a2
      | some r => rw [s3 _ _ h]; exact fun z => nomatch z
    · rw [List.mem_singleton.mp w]
      refine ⟨sm.free nc, ?_⟩
      rw [upd_ne cD, ec]
      exact fun z => nomatch z
  · rcases List.mem_append.mp w with w | w
    · exact nD w
    · exact cD (List.mem_singleton.mp w).symm
end
/-- dict(..) of such a list -/
theorem r_dictP {K : PySem.W.Frag} {H : Hp} {Q : VK} {M : List Str} {D : Addr} {ts cs : List Addr} {o : Str → HO} (nd : M.Nodup) (eD : H D = some (.lst (ts.map V.ref))) (lt : ts.length = M.length) (lc : cs.length = M.length)
    (hp : ∀ (k : Nat) t c x, ts[k]? = some t → cs[k]? = some c → M[k]? = some x → H t = some (.tup [.str x, .ref c]) ∧ H c = some (o x)) (cn : cs.Nodup)
    (q : ∀ p (f : Str → Addr) H', H p = none → Same H H' → H' p = some (.dK (dicF M fun x => .ref (f x))) → (∀ x ∈ M, H' (f x) = some (o x) ∧ f x ∈ cs) → (∀ x ∈ M, ∀ y ∈ M, f x = f y → x = y) → Q (.ref p) H') :
    ∃ (a : Addr) (ps : List Addr) (kvs : List (Key × V)), [V.ref D] = [.ref a] ∧ SqL K H a (ps.map V.ref) ∧ Paired (fun p kv => SqT K H p [kV kv.1, kv.2]) ps kvs ∧ ∀ p, H p = none → Q (.ref p) (upd H p (.dK (mergeK [] kvs))) := by
  obtain ⟨f, hf⟩ := by_name (D : Addr) nd (cs := cs)
  have at2 : ∀ {k : Nat} {x : Str}, M[k]? = some x → cs[k]? = some (f x) := fun {k x} hx => by
    obtain ⟨hk, _⟩ := List.getElem?_eq_some_iff.mp hx
    have h2 : cs[k]? = some cs[k] := List.getElem?_eq_getElem (by omega)
    rw [h2, hf k x _ hx h2]
  refine ⟨D, ts, dicF M fun x => .ref (f x), rfl, sqL eD, paired_dic lt fun k t x ht hx => ?_, fun p np => ?_⟩
  · exact sqT (hp k t (f x) x ht (at2 hx) hx).1
  · rw [dicF_new nd]
    refine q p f _ np (same_upd np) upd_same (fun x hx => ?_) fun x hx y hy e => ?_
    · obtain ⟨k, hk⟩ := List.getElem?_of_mem hx
      have h2 := at2 hk
      obtain ⟨hk2, _⟩ := List.getElem?_eq_some_iff.mp hk
      have e := (hp k _ _ x (List.getElem?_eq_getElem (by omega : k < ts.length)) h2 hk).2
      exact ⟨by rw [upd_ne (ne_of_none e np)]; exact e, List.mem_of_getElem? h2⟩
    · obtain ⟨k, hk⟩ := List.getElem?_of_mem hx
      obtain ⟨l, hl⟩ := List.getElem?_of_mem hy
      have h1 := at2 hk
      have h2 := at2 hl
      rw [e] at h1
      obtain ⟨k1, k2⟩ := List.getElem?_eq_some_iff.mp h1
      obtain ⟨l1, l2⟩ := List.getElem?_eq_some_iff.mp h2
      have := (List.getElem_inj cn).mp (k2.trans l2.symm)
      subst this
      rw [hk] at hl
      exact Option.some.inj hl
/-! ## 40. a dict of pairs of a name and a drawn number -/
section
variable {K : PySem.W.Frag} {σ : L2.St} {H : Hp} {Q : VK} {j : Nat} {vs : List Nat} {te tl : TE} {a bx : Addr} {M : List Str} {m : Nat}
theorem lcMood (hb : Box bx m H) (ea : H a = some (.lst (M.map V.str))) (na : a ≠ bx) (hl : M.length ≤ 1000) (hw : ∀ x, wipe ((wipe σ vs).set j (some x)) vs = wipe σ vs)
    (hv : ∀ QQ : VK, QQ (.ref a) H → tl σ H QQ)
    (ht : ∀ (x : Str) (k : Nat) (H1 : Hp) (Q' : VK), x ∈ M → k < m + M.length → Box bx k H1 → (∀ t (v : Int) H2, H1 t = none → Box bx (k + 1) H2 → But bx H1 H2 → H2 t = some (.tup [.str x, .int v]) → Q' (.ref t) H2) → te ((wipe σ vs).set j (some (.str x))) H1 Q')
    (hq : ∀ (D : Addr) (H' : Hp) (ts : List Addr) (ns : List Int), H D = none → But bx H H' → Box bx (m + M.length) H' → H' D = some (.lst (ts.map V.ref)) → ts.length = M.length → ns.length = M.length → (∀ (k : Nat) t x v, ts[k]? = some t → M[k]? = some x → ns[k]? = some v → H' t = some (.tup [.str x, .int v])) → Q (.ref D) H') : tLc (iList K tl) (gName j) tYes te vs σ H Q := by
  refine hv _ ⟨a, rfl, ⟨_, sqL ea⟩, fun D hD => ?_⟩
  have nD : D ≠ bx := hb.ne hD
  refine lc_it (g := gName j) (tt := tYes) (te := te) (vs := vs) (σ := σ) (walk_list (K := K) (a := a) (xs := M.map V.str)) (fun i G => But bx H G ∧ Box bx (m + i) G ∧ ∃ (ts : List Addr) (ns : List Int), G D = some (.lst (ts.map V.ref)) ∧ ts.length = i ∧ ns.length = i ∧ ∀ (k : Nat) t x v, ts[k]? = some t → M[k]? = some x → ns[k]? = some v → G t = some (.tup [.str x, .int v]))
    ⟨.of (same_upd hD), hb.same (same_upd hD), [], [], upd_same, rfl, rfl, (fun _ _ _ _ z => nomatch z)⟩ (fun i G hi ⟨bt, _⟩ => sqL (bt _ _ na ea)) (fun i x H1 H2 hi ⟨bt, hB, ts, ns, e, l1, l2, all⟩ y => ?_) fun G ⟨bt, hB, ts, ns, e, l1, l2, all⟩ => ?_
  · obtain ⟨rfl, hx⟩ := y
    rw [List.getElem?_map] at hx
    cases hm : M[i]? with
    | none => rw [hm] at hx; exact nomatch hx
    | some z =>
      rw [hm] at hx
      obtain rfl := Option.some.inj hx
      rw [List.length_map] at hi
      refine ⟨hw _, ?_⟩
      refine ht z (m + i) _ _ (List.mem_of_getElem? hm) (by omega) hB fun t v H3 nt hB3 b3 et => ?_
      have tD : t ≠ D := fun w => by rw [w, e] at nt; exact nomatch nt
      refine ⟨_, b3 _ _ nD e, by rw [List.length_map, sizeLine_eq]; omega, fun b o nb eb => ?_, ?_, ts ++ [t], ns ++ [v], by rw [upd_same, List.map_append]; rfl, by rw [List.length_append, l1]; rfl, by rw [List.length_append, l2]; rfl, fun k u x v2 hk hx hv2 => ?_⟩
      · rw [upd_ne (ne_of_none eb hD)]
        exact (bt.trans b3) _ _ nb eb
      · obtain ⟨x1, y1, z1, eB, r⟩ := hB3
        exact ⟨x1, y1, z1, by rw [upd_ne nD.symm]; exact eB, r⟩
      · have hlt : k < ts.length + 1 := by
          have := (List.getElem?_eq_some_iff.mp hk).1
          rw [List.length_append] at this
          exact this
        by_cases hk2 : k < ts.length
        · rw [List.getElem?_append_left hk2] at hk
          rw [List.getElem?_append_left (by omega)] at hv2
          have a1 := all k u x v2 hk hx hv2
          have nu : u ≠ D := fun w => by rw [w, e] at a1; exact nomatch a1
          have nub : u ≠ bx := fun w => by
            obtain ⟨x1, y1, z1, eB, r⟩ := hB
            rw [w, eB] at a1
            exact nomatch a1
          rw [upd_ne nu]
          exact b3 _ _ nub a1
        · have e3 : k = i := by omega
          subst e3
          rw [List.getElem?_append_right (by omega), l1, Nat.sub_self] at hk
          rw [List.getElem?_append_right (by omega), l2, Nat.sub_self] at hv2
          obtain rfl := Option.some.inj hk
          obtain rfl := Option.some.inj hv2
          rw [hm] at hx
          obtain rfl := Option.some.inj hx
          rw [upd_ne tD]
          exact et
  · rw [List.length_map] at hB l1 l2
    exact hq D G ts ns hD bt hB e l1 l2 all
end
theorem r_dictN {K : PySem.W.Frag} {H : Hp} {Q : VK} {M : List Str} {D : Addr} {ts : List Addr} {ns : List Int} (nd : M.Nodup) (eD : H D = some (.lst (ts.map V.ref))) (lt : ts.length = M.length) (ln : ns.length = M.length)
    (hp : ∀ (k : Nat) t x v, ts[k]? = some t → M[k]? = some x → ns[k]? = some v → H t = some (.tup [.str x, .int v]))
    (q : ∀ p (f : Str → Int) H', H p = none → Same H H' → H' p = some (.dK (dicF M fun x => .int (f x))) → Q (.ref p) H') :
    ∃ (a : Addr) (ps : List Addr) (kvs : List (Key × V)), [V.ref D] = [.ref a] ∧ SqL K H a (ps.map V.ref) ∧ Paired (fun p kv => SqT K H p [kV kv.1, kv.2]) ps kvs ∧ ∀ p, H p = none → Q (.ref p) (upd H p (.dK (mergeK [] kvs))) := by
  obtain ⟨f, hf⟩ := by_name (0 : Int) nd (cs := ns)
  refine ⟨D, ts, dicF M fun x => .int (f x), rfl, sqL eD, paired_dic lt fun k t x ht hx => ?_, fun p np => ?_⟩
  · obtain ⟨hk, _⟩ := List.getElem?_eq_some_iff.mp hx
    have h2 : ns[k]? = some ns[k] := List.getElem?_eq_getElem (by omega)
    have e := hp k t x _ ht hx h2
    rw [← hf k x _ hx h2] at e
    exact sqT e
  · rw [dicF_new nd]
    exact q p f _ np (same_upd np) upd_same
end Bk

namespace Bk
open PySem PySem.Spec PyProof.Rows L2
/-! ## 41. C(k = e, ..) -/
structure CalCK (P : Program) (w : World) (K : PySem.W.Frag) (mg : Str → Option Value) (base : Heap) (CX : CXT) (k : Nat) (ks : List Str) (C : Addr) (x : Str) (sp : Sp) (gV : List V → List V → List V) : Prop where
  ex : ∃ (f : Addr) (fd : FuncData) (ps : List Str) (g : List Value → List Value → List Value), Mk K C f ∧ FnOk P w K mg base CX k f fd ps sp ∧ KBn K fd ps 1 ks g gV ∧ mg x = some (.ref C)
def tMkK (C : Addr) (j : Nat) (sp : Sp) (gV : List V → List V → List V) (E : L2.St → XK) (tk : TA) : TE := fun σ H Q => tk σ H fun zs H1 => zs.length = j ∧ ∀ x dx, H1 x = none → H1 dx = none → dx ≠ x →
  sp (gV [.ref x] zs) (upd (upd H1 dx (.own x)) x (.ins C dx [])) (fun v H2 => v = .non ∧ Q (.ref x) H2) (E σ)
section
variable {X : Cx} {CX : CXT} {k j n : Nat} {ks : List Str} {f C : Addr} {fd : FuncData} {ps : List Str} {sp : Sp} {E : L2.St → XK} {x m : Str} {p pos apos : Pos} {e o : Expr} {es : List Expr} {kws : List Keyword} {ta : TE} {t tk : TA} {gV : List V → List V → List V} {g : List Value → List Value → List Value}
theorem run_mkNS {pins : List (Addr × Obj)} {σ : L2.St} {H : Hp} {s : Shared} {Q : VK} {ws : List Value} {zs : List V} (M : Mk X.K C f) (F : FnOk X.prog X.w X.K X.mg X.base CX k f fd ps sp) (hr : Room (k + 1) X.A) (hb : KBn X.K fd ps 1 ks g gV)
    (hx : PassesAt CX X σ (E σ)) (I : Inv X pins σ H s) (rz : Vals zs ws) (l2 : zs.length = ks.length)
    (h : ∀ x dx, H x = none → H dx = none → dx ≠ x → sp (gV [.ref x] zs) (upd (upd H dx (.own x)) x (.ins C dx [])) (fun v H2 => v = .non ∧ Q (.ref x) H2) (E σ)) :
    wpAny (model X.prog X.w) X.A (call (.ref C) [] (ks.zip ws)) (EP X pins σ Q) X.xe s := by
  have hq := h (s.heap.objs.size + 1) s.heap.objs.size (I.hok.fresh (Nat.le_succ _)) (I.hok.fresh (Nat.le_refl _)) (Nat.ne_of_lt (Nat.lt_succ_self _))
  have I2 := Inv.made (C := C) I
  have r2 : Vals [V.ref (s.heap.objs.size + 1)] [Value.ref (s.heap.objs.size + 1)] := .cons rfl .nil
  refine wpAny_call (make_map (f := f) I.kIn M.makes M.init (beq_iff_eq.mp M.fn) (codeAny_mono (F.run _ X.stack _ _ ⟨[Value.ref (s.heap.objs.size + 1)], ks.zip ws⟩ (g [Value.ref (s.heap.objs.size + 1)] ws) _ _ (E σ) (hr.make C [] (ks.zip ws))
    (I2.env0.make C [] (ks.zip ws)) (hb.to { s with heap := _ } [Value.ref (s.heap.objs.size + 1)] ws I2.kIn rfl (rz.length.symm.trans l2)) (hb.rel r2 rz) hq) fun r s' hq' => ?_))
  cases r with
  | error e => exact hx pins _ _ e s' I2 hq'
  | ok fl =>
    cases fl with
    | ret u =>
      obtain ⟨v, H', I3, rv, ev, q3⟩ := I2.after hq'
      subst ev
      exact ⟨rv, ⟨V.ref (s.heap.objs.size + 1), H', I3, rfl, q3⟩⟩
    | next => exact False.elim hq'
    | brk => exact False.elim hq'
    | cont => exact False.elim hq'
theorem pe_mkK (c : CalCK X.prog X.w X.K X.mg X.base CX k ks C x sp gV) (hr : Room j X.A) (hk : k + 1 ≤ j) (hg : Gl X x) (hx : ∀ σ, PassesAt CX X σ (E σ)) (hkw : PK X kws tk)
    (hall : (backToKw pos (keywordEach kws X.env)).all (·.1.isSome) = true := by rfl) (hks : (backToKw pos (keywordEach kws X.env)).filterMap (·.1) = ks := by rfl)
    (hpl : ((backTo pos (starEach [] X.env)).any (·.1) || (backToKw pos (keywordEach kws X.env)).any (·.1.isNone)) = false := by rfl)
    (hdb : (x == ("__debug__" : Str)) = false := by decide) : PE X (.Call (.Name x p) [] kws pos) (tMkK C ks.length sp gV E tk) := by
  obtain ⟨f, fd, ps, g, M, F, hb, hm⟩ := c.ex
  refine ⟨fun pins s σ H Q I h => ?_⟩
  refine wpAny_Call_Name_kw (ld_glob I hg hm ?_ hdb)
  refine PySem.W.callWith_KW0 (first := []) (h₀ := X.base) I.ok.mod.kin M.kp hall ?_ hpl
  refine thn (hkw.run pos pins s σ H _ I h) fun ws s2 ⟨zs, H2, I2, rz, l2, q2⟩ => ⟨I2.kIn, ?_⟩
  rw [hks]
  exact run_mkNS M F (hr.mono hk) hb (hx σ) I2 rz l2 q2
end
theorem sl_listK {X : Cx} {K : PySem.W.Frag} (h : X.K = K) : SlR X (rSlL K) := by
  subst h
  exact sl_list
/-- for over a list or a tuple, whichever it is -/
theorem r_forA {K : PySem.W.Frag} {a : Addr} {xs : List V} {g : TG} {tb : TS} {D : Ends} {σ : L2.St} {H : Hp} (hq : SqL K H a xs ∨ SqT K H a xs) (Pv : Nat → L2.St → Hp → Prop) (h0 : Pv 0 σ H) (hG : ∀ i σ G, i ≤ xs.length → Pv i σ G → Same H G)
    (hs : ∀ i x σ G, xs[i]? = some x → Pv i σ G → g x σ G fun σ2 H2 => tb { D with nx := Pv (i + 1), ct := Pv (i + 1), bk := D.nx } σ2 H2) (hd : ∀ σ G, Pv xs.length σ G → D.nx σ G) :
    ∃ a' xs', V.ref a = .ref a' ∧ ((SqL K H a' xs' ∧ (∃ W : Nat → Nat → L2.St → Hp → Prop, (∃ m, W 0 m σ H) ∧ ∀ i m σ H, W i m σ H →
      ((Itl K a').stop i H ∧ D.nx σ H) ∨ ((Itl K a').go i H ∧ ∃ N : L2.St → Hp → Prop, (∀ σ' H', N σ' H' → ∃ m', m' < m ∧ W (i + 1) m' σ' H') ∧ ∀ x H', (Itl K a').yld i H x H' → g x σ H' fun σ2 H2 => tb { D with nx := N, ct := N, bk := D.nx } σ2 H2))) ∨
      (SqT K H a' xs' ∧ (∃ W : Nat → Nat → L2.St → Hp → Prop, (∃ m, W 0 m σ H) ∧ ∀ i m σ H, W i m σ H →
      ((Itt K a').stop i H ∧ D.nx σ H) ∨ ((Itt K a').go i H ∧ ∃ N : L2.St → Hp → Prop, (∀ σ' H', N σ' H' → ∃ m', m' < m ∧ W (i + 1) m' σ' H') ∧ ∀ x H', (Itt K a').yld i H x H' → g x σ H' fun σ2 H2 => tb { D with nx := N, ct := N, bk := D.nx } σ2 H2)))) := by
  rcases hq with hq | hq
  · exact ⟨a, xs, rfl, .inl ⟨hq, for_it walk_list Pv h0 (fun i σ G hi h => (hG i σ G hi h).seq hq) (fun i x σ G G' hi h y => by obtain ⟨rfl, y⟩ := y; exact hs i x σ _ y h) hd⟩⟩
  · exact ⟨a, xs, rfl, .inr ⟨hq, for_it walk_tup Pv h0 (fun i σ G hi h => seqT (hG i σ G hi h) hq) (fun i x σ G G' hi h y => by obtain ⟨rfl, y⟩ := y; exact hs i x σ _ y h) hd⟩⟩
end Bk

namespace Bk
open PySem PySem.Spec PyProof.Rows L2
/-! ## 42. what a locked dict leaves behind -/
section
variable {H H' : Hp} {d bx : Addr} {kvs : List (Key × V)} {od : Obj}
theorem unlock_same (hd : H d = some (.dK kvs)) (s : Same (upd H d (.frz od (.dK kvs))) H') : Same H (upd H' d (.dK kvs)) := fun b u eb => by
  by_cases h : b = d
  · rw [h, upd_same, ← hd, ← h]
    exact eb
  · rw [upd_ne h]
    exact s _ _ (by rw [upd_ne h]; exact eb)
theorem unlock_but (hd : H d = some (.dK kvs)) (s : But bx (upd H d (.frz od (.dK kvs))) H') : But bx H (upd H' d (.dK kvs)) := fun b u nb eb => by
  by_cases h : b = d
  · rw [h, upd_same, ← hd, ← h]
    exact eb
  · rw [upd_ne h]
    exact s _ _ nb (by rw [upd_ne h]; exact eb)
theorem lock_but : But d H (upd H d (.frz od (.dK kvs))) := fun b u nb eb => by rw [upd_ne nb]; exact eb
theorem lock_none {D : Addr} (z : upd H d (.frz od (.dK kvs)) D = none) : H D = none ∧ D ≠ d := by
  by_cases h : D = d
  · rw [h, upd_same] at z; exact nomatch z
  · rw [upd_ne h] at z; exact ⟨z, h⟩
theorem lockS {t : TE} {D : Ends} {i : Nat} {σ : L2.St} (h : tLockE t σ H fun v H' => D.nx (σ.set i (some v)) H') : tLock (tAsg t (gName i)) D σ H := by
  obtain ⟨d2, u, h1, h2, h3⟩ := h
  exact ⟨d2, u, h1, h2, fun od => h3 od⟩
end
/-! ## 43. comprehensions over a locked dict that lay new things -/
section
variable {K : PySem.W.Frag} {σ : L2.St} {H : Hp} {Q : VK} {j : Nat} {vs : List Nat} {g : TG} {tt : TT} {te tl : TE} {d bx : Addr} {kvs : List (Key × V)}
theorem lcNewV (c : Nat → HO) (hd : H d = some (.dK kvs)) (hl : kvs.length ≤ 10000) (hw : ∀ x, wipe ((wipe σ vs).set j (some x)) vs = wipe σ vs)
    (hv : ∀ (od : Obj) (QQ : VK), QQ (.ref d) (upd H d (.frz od (.dK kvs))) → tl σ (upd H d (.frz od (.dK kvs))) QQ)
    (ht : ∀ (i : Nat) (k : Key) (y : V) (od : Obj) (H1 : Hp) (Q' : VK), kvs[i]? = some (k, y) → H1 d = some (.frz od (.dK kvs)) → (∀ b u, b ≠ d → H b = some u → H1 b = some u) → (∀ t H3, H1 t = none → Same H1 H3 → H3 t = some (c i) → Q' (.ref t) H3) → te ((wipe σ vs).set j (some y)) H1 Q')
    (q : ∀ D H' (ts : List Addr), H D = none → Same H H' → H' D = some (.lst (ts.map V.ref)) → ts.length = kvs.length → (∀ k t, ts[k]? = some t → H' t = some (c k)) → Q (.ref D) H') : tLockE (tLc (iVals tl) (gName j) tYes te vs) σ H Q := by
  refine ⟨d, .dK kvs, hd, trivial, fun od => ?_⟩
  have e0 : upd H d (.frz od (.dK kvs)) d = some (.frz od (.dK kvs)) := upd_same
  refine hv od _ ⟨d, od, kvs, rfl, e0, fun D hD => ?_⟩
  obtain ⟨hD1, hD2⟩ := lock_none hD
  refine lc_new (g := gName j) (te := te) (vs := vs) (σ := σ) (Q := fun v H' => H' d = some (.frz od (.dK kvs)) ∧ Q v (upd H' d (.dK kvs))) walk_values c hD hl (fun H' s => s _ _ e0) (fun i x H1 H2 Q' R' hi sm y h => ?_) fun H' ts s e l all nd fr => ?_
  · obtain ⟨rfl, k, hk⟩ := y
    exact ⟨hw _, r_yes (ht i k x od H2 Q' hk (sm _ _ e0) (fun b u nb eb => sm _ _ (lock_but _ _ nb eb)) h)⟩
  · refine ⟨s _ _ e0, q D _ ts hD1 (unlock_same hd s) (by rw [upd_ne hD2]; exact e) l fun k t hk => ?_⟩
    rw [upd_ne (lock_none (fr t (List.mem_of_getElem? hk))).2]
    exact all k t hk
theorem lcNewK (c : Nat → HO) (hd : H d = some (.dK kvs)) (hl : kvs.length ≤ 10000) (hw : ∀ x, wipe ((wipe σ vs).set j (some x)) vs = wipe σ vs)
    (hv : ∀ (od : Obj) (QQ : VK), QQ (.ref d) (upd H d (.frz od (.dK kvs))) → tl σ (upd H d (.frz od (.dK kvs))) QQ)
    (ht : ∀ (i : Nat) (k : Key) (y : V) (od : Obj) (H1 : Hp) (Q' : VK), kvs[i]? = some (k, y) → H1 d = some (.frz od (.dK kvs)) → (∀ b u, b ≠ d → H b = some u → H1 b = some u) → (∀ t H3, H1 t = none → Same H1 H3 → H3 t = some (c i) → Q' (.ref t) H3) → te ((wipe σ vs).set j (some (kV k))) H1 Q')
    (q : ∀ D H' (ts : List Addr), H D = none → Same H H' → H' D = some (.lst (ts.map V.ref)) → ts.length = kvs.length → (∀ k t, ts[k]? = some t → H' t = some (c k)) → Q (.ref D) H') : tLockE (tLc (iKeys tl) (gName j) tYes te vs) σ H Q := by
  refine ⟨d, .dK kvs, hd, trivial, fun od => ?_⟩
  have e0 : upd H d (.frz od (.dK kvs)) d = some (.frz od (.dK kvs)) := upd_same
  refine hv od _ ⟨d, od, rfl, .inl ⟨kvs, e0, fun D hD => ?_⟩⟩
  obtain ⟨hD1, hD2⟩ := lock_none hD
  refine lc_new (g := gName j) (te := te) (vs := vs) (σ := σ) (Q := fun v H' => H' d = some (.frz od (.dK kvs)) ∧ Q v (upd H' d (.dK kvs))) walk_keys c hD hl (fun H' s => s _ _ e0) (fun i x H1 H2 Q' R' hi sm y h => ?_) fun H' ts s e l all nd fr => ?_
  · obtain ⟨rfl, k, v, hk, rfl⟩ := y
    exact ⟨hw _, r_yes (ht i k v od H2 Q' hk (sm _ _ e0) (fun b u nb eb => sm _ _ (lock_but _ _ nb eb)) h)⟩
  · refine ⟨s _ _ e0, q D _ ts hD1 (unlock_same hd s) (by rw [upd_ne hD2]; exact e) l fun k t hk => ?_⟩
    rw [upd_ne (lock_none (fr t (List.mem_of_getElem? hk))).2]
    exact all k t hk
/-- tuples stay -/
def TS (H H' : Hp) : Prop := ∀ a xs, H a = some (.tup xs) → H' a = some (.tup xs)
theorem Same.ts {H H' : Hp} (s : Same H H') : TS H H' := fun _ _ e => s _ _ e
theorem TS.trans {A B C : Hp} (a : TS A B) (b : TS B C) : TS A C := fun x xs e => b x xs (a x xs e)
section
variable {J : It} {n : Nat} {G : Hp → Prop} {Y : Nat → Hp → V → Hp → Prop} {D : Addr}
/-- each turn gives a thing of which Pr tells, by tuples -/
theorem lc_any (w : Walk J n G Y) (Pr : Nat → V → Hp → Prop) (st : ∀ i v H1 H2, TS H1 H2 → Pr i v H1 → Pr i v H2) (hD : H D = none) (hn : n ≤ 10000) (hG : ∀ H', Same H H' → G H')
    (hY : ∀ i H1 x H2, i < n → Y i H1 x H2 → Same H1 H2)
    (hs : ∀ i x H1 H2 (Q' : VK) (R' : Hp → Prop), i < n → Same H H1 → Y i H1 x H2 → (∀ v H3, Same H2 H3 → Pr i v H3 → Q' v H3) → g x (wipe σ vs) H2 fun τ H3 => wipe τ vs = wipe σ vs ∧ tYes τ H3 fun b H4 => if b = true then te τ H4 Q' else R' H4)
    (q : ∀ H' (xs : List V), Same H H' → H' D = some (.lst xs) → xs.length = n → (∀ k v, xs[k]? = some v → Pr k v H') → Q (.ref D) H') :
    ∃ W : Nat → Nat → Hp → Prop, (∃ m, W 0 m (upd H D (.lst []))) ∧ ∀ i m H, W i m H →
      (J.stop i H ∧ Q (.ref D) H) ∨ (J.go i H ∧ ∃ Nx : Hp → Prop, (∀ H', Nx H' → ∃ m', m' < m ∧ W (i + 1) m' H') ∧ ∀ x H', J.yld i H x H' → g x (wipe σ vs) H' fun σ2 H2 => wipe σ2 vs = wipe σ vs ∧ tYes σ2 H2 fun b H3 =>
        if b = true then te σ2 H3 fun y H4 => ∃ acc, H4 D = some (.lst acc) ∧ acc.length < sizeLine ∧ Nx (upd H4 D (.lst (acc ++ [y]))) else Nx H3) := by
  refine lc_it w (fun i G => Same H G ∧ ∃ xs : List V, G D = some (.lst xs) ∧ xs.length = i ∧ (∀ k v, xs[k]? = some v → Pr k v G))
    ⟨same_upd hD, [], upd_same, rfl, fun _ _ z => nomatch z⟩ (fun i G _ z => hG G z.1) (fun i x H1 H2 hi ⟨sm, xs, e, l, all⟩ y => ?_) fun G ⟨sm, xs, e, l, all⟩ => q G xs sm e l all
  have s12 := hY i H1 x H2 hi y
  refine hs i x H1 H2 _ _ hi sm y fun v H3 s3 pv => ?_
  have e3 := s3 _ _ (s12 _ _ e)
  have tD : TS H3 (upd H3 D (.lst (xs ++ [v]))) := fun a ys ea => by
    rw [upd_ne (fun z => by rw [z, e3] at ea; exact nomatch ea)]
    exact ea
  refine ⟨_, e3, by rw [l]; exact Nat.lt_of_lt_of_le hi (Nat.le_trans hn (by decide)), sameBut (sm.trans (s12.trans s3)) hD, xs ++ [v], upd_same, by rw [List.length_append, l]; rfl, fun k u hk => ?_⟩
  by_cases hk2 : k < xs.length
  · rw [List.getElem?_append_left hk2] at hk
    exact st _ _ _ _ (((Same.ts s12).trans (Same.ts s3)).trans tD) (all k u hk)
  · have e4 : k = i := by
      have := (List.getElem?_eq_some_iff.mp hk).1
      rw [List.length_append, List.length_singleton] at this
      omega
    subst e4
    rw [List.getElem?_append_right (by omega), l, Nat.sub_self] at hk
    obtain rfl := Option.some.inj hk
    exact st _ _ _ _ tD pv
end
theorem lcAnyK (Pr : Nat → V → Hp → Prop) (st : ∀ i v H1 H2, TS H1 H2 → Pr i v H1 → Pr i v H2) (hd : H d = some (.dK kvs)) (hl : kvs.length ≤ 10000) (hw : ∀ x, wipe ((wipe σ vs).set j (some x)) vs = wipe σ vs)
    (hv : ∀ (od : Obj) (QQ : VK), QQ (.ref d) (upd H d (.frz od (.dK kvs))) → tl σ (upd H d (.frz od (.dK kvs))) QQ)
    (ht : ∀ (i : Nat) (k : Key) (y : V) (od : Obj) (H1 : Hp) (Q' : VK), kvs[i]? = some (k, y) → H1 d = some (.frz od (.dK kvs)) → (∀ b u, b ≠ d → H b = some u → H1 b = some u) → (∀ v H3, Same H1 H3 → Pr i v H3 → Q' v H3) → te ((wipe σ vs).set j (some (kV k))) H1 Q')
    (q : ∀ D H' (xs : List V), H D = none → Same H H' → H' D = some (.lst xs) → xs.length = kvs.length → (∀ k v, xs[k]? = some v → Pr k v H') → Q (.ref D) H') : tLockE (tLc (iKeys tl) (gName j) tYes te vs) σ H Q := by
  refine ⟨d, .dK kvs, hd, trivial, fun od => ?_⟩
  have e0 : upd H d (.frz od (.dK kvs)) d = some (.frz od (.dK kvs)) := upd_same
  refine hv od _ ⟨d, od, rfl, .inl ⟨kvs, e0, fun D hD => ?_⟩⟩
  obtain ⟨hD1, hD2⟩ := lock_none hD
  refine lc_any (g := gName j) (te := te) (vs := vs) (σ := σ) (Q := fun v H' => H' d = some (.frz od (.dK kvs)) ∧ Q v (upd H' d (.dK kvs))) walk_keys Pr st hD hl (fun H' s => s _ _ e0) (fun i H1 x H2 _ y => by rw [y.1]; exact Same.refl _) (fun i x H1 H2 Q' R' hi sm y h => ?_) fun H' xs s e l all => ?_
  · obtain ⟨rfl, k, v, hk, rfl⟩ := y
    exact ⟨hw _, r_yes (ht i k v od H2 Q' hk (sm _ _ e0) (fun b u nb eb => sm _ _ (lock_but _ _ nb eb)) h)⟩
  · refine ⟨s _ _ e0, q D _ xs hD1 (unlock_same hd s) (by rw [upd_ne hD2]; exact e) l fun k t hk => st _ _ _ _ (fun a ys ea => ?_) (all k t hk)⟩
    rw [upd_ne (fun z => by rw [z, s _ _ e0] at ea; exact nomatch ea)]
    exact ea
theorem lcAnyV (Pr : Nat → V → Hp → Prop) (st : ∀ i v H1 H2, TS H1 H2 → Pr i v H1 → Pr i v H2) (hd : H d = some (.dK kvs)) (hl : kvs.length ≤ 10000) (hw : ∀ x, wipe ((wipe σ vs).set j (some x)) vs = wipe σ vs)
    (hv : ∀ (od : Obj) (QQ : VK), QQ (.ref d) (upd H d (.frz od (.dK kvs))) → tl σ (upd H d (.frz od (.dK kvs))) QQ)
    (ht : ∀ (i : Nat) (k : Key) (y : V) (od : Obj) (H1 : Hp) (Q' : VK), kvs[i]? = some (k, y) → H1 d = some (.frz od (.dK kvs)) → (∀ b u, b ≠ d → H b = some u → H1 b = some u) → (∀ v H3, Same H1 H3 → Pr i v H3 → Q' v H3) → te ((wipe σ vs).set j (some y)) H1 Q')
    (q : ∀ D H' (xs : List V), H D = none → Same H H' → H' D = some (.lst xs) → xs.length = kvs.length → (∀ k v, xs[k]? = some v → Pr k v H') → Q (.ref D) H') : tLockE (tLc (iVals tl) (gName j) tYes te vs) σ H Q := by
  refine ⟨d, .dK kvs, hd, trivial, fun od => ?_⟩
  have e0 : upd H d (.frz od (.dK kvs)) d = some (.frz od (.dK kvs)) := upd_same
  refine hv od _ ⟨d, od, kvs, rfl, e0, fun D hD => ?_⟩
  obtain ⟨hD1, hD2⟩ := lock_none hD
  refine lc_any (g := gName j) (te := te) (vs := vs) (σ := σ) (Q := fun v H' => H' d = some (.frz od (.dK kvs)) ∧ Q v (upd H' d (.dK kvs))) walk_values Pr st hD hl (fun H' s => s _ _ e0) (fun i H1 x H2 _ y => by rw [y.1]; exact Same.refl _) (fun i x H1 H2 Q' R' hi sm y h => ?_) fun H' xs s e l all => ?_
  · obtain ⟨rfl, k, hk⟩ := y
    exact ⟨hw _, r_yes (ht i k x od H2 Q' hk (sm _ _ e0) (fun b u nb eb => sm _ _ (lock_but _ _ nb eb)) h)⟩
  · refine ⟨s _ _ e0, q D _ xs hD1 (unlock_same hd s) (by rw [upd_ne hD2]; exact e) l fun k t hk => st _ _ _ _ (fun a ys ea => ?_) (all k t hk)⟩
    rw [upd_ne (fun z => by rw [z, s _ _ e0] at ea; exact nomatch ea)]
    exact ea
/-- over items; what stands in the list is known ahead -/
theorem lcItems (p : Nat → Option V) (hd : H d = some (.dK kvs)) (hl : kvs.length ≤ 10000)
    (hv : ∀ (od : Obj) (QQ : VK), QQ (.ref d) (upd H d (.frz od (.dK kvs))) → tl σ (upd H d (.frz od (.dK kvs))) QQ)
    (ht : ∀ (i : Nat) (k : Key) (y : V) (T : Addr) (od : Obj) (H1 : Hp) (Q' : VK) (R' : Hp → Prop), kvs[i]? = some (k, y) → H1 T = some (.tup [kV k, y]) → H1 d = some (.frz od (.dK kvs)) → (∀ b u, b ≠ d → H b = some u → H1 b = some u) → (∀ v, p i = some v → ∀ H3, Same H1 H3 → Q' v H3) → (p i = none → ∀ H3, Same H1 H3 → R' H3) →
      g (.ref T) (wipe σ vs) H1 fun σ2 H2 => wipe σ2 vs = wipe σ vs ∧ tt σ2 H2 fun b H4 => if b = true then te σ2 H4 Q' else R' H4)
    (q : ∀ D H', H D = none → Same H H' → H' D = some (.lst ((List.range kvs.length).filterMap p)) → Q (.ref D) H') : tLockE (tLc (iItems tl) g tt te vs) σ H Q := by
  refine ⟨d, .dK kvs, hd, trivial, fun od => ?_⟩
  have e0 : upd H d (.frz od (.dK kvs)) d = some (.frz od (.dK kvs)) := upd_same
  refine hv od _ ⟨d, od, kvs, rfl, e0, fun D hD => ?_⟩
  obtain ⟨hD1, hD2⟩ := lock_none hD
  refine lc_by (g := g) (tt := tt) (te := te) (vs := vs) (σ := σ) (Q := fun v H' => H' d = some (.frz od (.dK kvs)) ∧ Q v (upd H' d (.dK kvs))) walk_items p hD hl (fun H' s => s _ _ e0) (fun i x H1 H2 Q' R' hi sm y h1 h2 => ?_) fun H' s e => ?_
  · obtain ⟨T, a, b, rfl, nT, rfl, ha, hb⟩ := y
    have ha : kvs[i]?.map (fun kv => kV kv.1) = some a := ha
    have hb : kvs[i]?.map Prod.snd = some b := hb
    cases hk : kvs[i]? with
    | none => rw [hk] at ha; exact nomatch ha
    | some kv =>
      rw [hk] at ha hb
      obtain rfl := Option.some.inj ha
      obtain rfl := Option.some.inj hb
      have sT : Same H1 (upd H1 T (.tup [kV kv.1, kv.2])) := same_upd nT
      exact ht i kv.1 kv.2 T od _ Q' R' hk upd_same (sT _ _ (sm _ _ e0)) (fun b u nb eb => sT _ _ (sm _ _ (lock_but _ _ nb eb))) (fun v hv H3 s3 => h1 v hv H3 (sT.trans s3)) fun hn H3 s3 => h2 hn H3 (sT.trans s3)
  · exact ⟨s _ _ e0, q D _ hD1 (unlock_same hd s) (by rw [upd_ne hD2]; exact e)⟩
end
section
variable {J : It} {G : Hp → Prop} {Y : Nat → Hp → V → Hp → Prop} {g : TG} {te tl : TE} {vs : List Nat} {σ : L2.St} {H : Hp} {D d : Addr} {Q : VK} {M : List Str}
/-- each turn lays a pair of a name and a new thing -/
theorem lc_prsG (w : Walk J M.length G Y) (o : Str → HO) (hD : H D = none) (hn : M.length ≤ 10000) (hG : ∀ H', Same H H' → G H')
    (hY : ∀ i H1 x H2, i < M.length → Y i H1 x H2 → Same H1 H2)
    (hs : ∀ i x (H1 H2 : Hp) (Q' : VK) (R' : Hp → Prop), i < M.length → Same H H1 → Y i H1 x H2 → (∀ z t c H3, M[i]? = some z → H2 t = none → H2 c = none → t ≠ c → Same H2 H3 → H3 t = some (.tup [.str z, .ref c]) → H3 c = some (o z) → Q' (.ref t) H3) →
      g x (wipe σ vs) H2 fun τ H3 => wipe τ vs = wipe σ vs ∧ tYes τ H3 fun b H4 => if b = true then te τ H4 Q' else R' H4)
    (q : ∀ H' (ts cs : List Addr), Same H H' → H' D = some (.lst (ts.map V.ref)) → ts.length = M.length → cs.length = M.length → (∀ (k : Nat) t c x, ts[k]? = some t → cs[k]? = some c → M[k]? = some x → H' t = some (.tup [.str x, .ref c]) ∧ H' c = some (o x)) → cs.Nodup → (∀ c ∈ cs, H c = none) → D ∉ cs → Q (.ref D) H') :
    ∃ W : Nat → Nat → Hp → Prop, (∃ m, W 0 m (upd H D (.lst []))) ∧ ∀ i m H, W i m H →
      (J.stop i H ∧ Q (.ref D) H) ∨ (J.go i H ∧ ∃ Nx : Hp → Prop, (∀ H', Nx H' → ∃ m', m' < m ∧ W (i + 1) m' H') ∧ ∀ x H', J.yld i H x H' → g x (wipe σ vs) H' fun σ2 H2 => wipe σ2 vs = wipe σ vs ∧ tYes σ2 H2 fun b H3 =>
        if b = true then te σ2 H3 fun y H4 => ∃ acc, H4 D = some (.lst acc) ∧ acc.length < sizeLine ∧ Nx (upd H4 D (.lst (acc ++ [y]))) else Nx H3) := by
  refine lc_it w (fun i G => Same H G ∧ ∃ ts cs : List Addr, G D = some (.lst (ts.map V.ref)) ∧ ts.length = i ∧ cs.length = i ∧ (∀ (k : Nat) t c x, ts[k]? = some t → cs[k]? = some c → M[k]? = some x → G t = some (.tup [.str x, .ref c]) ∧ G c = some (o x)) ∧ cs.Nodup ∧ (∀ c ∈ cs, H c = none ∧ G c ≠ none) ∧ D ∉ cs)
    ⟨same_upd hD, [], [], upd_same, rfl, rfl, (fun _ _ _ _ z => nomatch z), List.nodup_nil, (fun _ z => nomatch z), fun z => nomatch z⟩ (fun i G _ z => hG G z.1) (fun i x H1 H2 hi ⟨sm, ts, cs, e, l1, l2, all, nd, fr, nD⟩ y => ?_) fun G ⟨sm, ts, cs, e, l1, l2, all, nd, fr, nD⟩ => q G ts cs sm e l1 l2 all nd (fun c hc => (fr c hc).1) nD
  have s12 := hY i H1 x H2 hi y
  refine hs i x H1 H2 _ _ hi sm y fun z t c H3 hz nt nc tc s3 et ec => ?_
  have sm2 := sm.trans s12
  replace e := s12 _ _ e
  replace all : ∀ (k : Nat) t c x, ts[k]? = some t → cs[k]? = some c → M[k]? = some x → H2 t = some (.tup [.str x, .ref c]) ∧ H2 c = some (o x) := fun k t c x h1 h2 h3 => ⟨s12 _ _ (all k t c x h1 h2 h3).1, s12 _ _ (all k t c x h1 h2 h3).2⟩
  replace fr : ∀ c ∈ cs, H c = none ∧ H2 c ≠ none := fun c hc => ⟨(fr c hc).1, fun w => by
    cases h : H1 c with
    | none => exact (fr c hc).2 h
    | some r => rw [s12 _ _ h] at w; exact nomatch w⟩
  have tD : t ≠ D := fun w => by rw [w, e] at nt; exact nomatch nt
  have cD : c ≠ D := fun w => by rw [w, e] at nc; exact nomatch nc
  have ccs : c ∉ cs := fun w => (fr c w).2 nc
  refine ⟨_, s3 _ _ e, by rw [List.length_map, l1]; exact Nat.lt_of_lt_of_le hi (Nat.le_trans hn (by decide)), sameBut (sm2.trans s3) hD, ts ++ [t], cs ++ [c], ?_, by rw [List.length_append, l1]; rfl, by rw [List.length_append, l2]; rfl, fun k u v x hk hv hx => ?_, ?_, fun u hu => ?_, fun w => ?_⟩
  · rw [upd_same, List.map_append]
    rfl
  · have hlt : k < ts.length + 1 := by
      have := (List.getElem?_eq_some_iff.mp hk).1
      rw [List.length_append] at this
      exact this
    by_cases hk2 : k < ts.length
    · rw [List.getElem?_append_left hk2] at hk
      rw [List.getElem?_append_left (by omega)] at hv
      obtain ⟨a1, a2⟩ := all k u v x hk hv hx
      have nu : u ≠ D := fun w => by rw [w, e] at a1; exact nomatch a1
      have nv : v ≠ D := fun w => nD (by rw [← w]; exact List.mem_of_getElem? hv)
      exact ⟨by rw [upd_ne nu]; exact s3 _ _ a1, by rw [upd_ne nv]; exact s3 _ _ a2⟩
    · have e3 : k = i := by omega
      subst e3
      rw [List.getElem?_append_right (by omega), l1, Nat.sub_self] at hk
      rw [List.getElem?_append_right (by omega), l2, Nat.sub_self] at hv
      obtain rfl := Option.some.inj hk
      obtain rfl := Option.some.inj hv
      rw [hz] at hx
      obtain rfl := Option.some.inj hx
      exact ⟨by rw [upd_ne tD]; exact et, by rw [upd_ne cD]; exact ec⟩
  · refine List.nodup_append.mpr ⟨nd, (by simp), fun a ha b hb w => ?_⟩
    rw [List.mem_singleton.mp hb] at w
    exact ccs (by rw [← w]; exact ha)
  · rcases List.mem_append.mp hu with w | w
    · obtain ⟨a1, a2⟩ := fr u w
      refine ⟨a1, ?_⟩
      rw [upd_ne (fun z => nD (by rw [← z]; exact w))]
      cases h : H2 u with
      | none => exact absurd h a2
      | some r => rw [s3 _ _ h]; exact fun z => nomatch z
    · rw [List.mem_singleton.mp w]
      refine ⟨sm2.free nc, ?_⟩
      rw [upd_ne cD, ec]
      exact fun z => nomatch z
  · rcases List.mem_append.mp w with w | w
    · exact nD w
    · exact cD (List.mem_singleton.mp w).symm
/-- over the items of a locked dict by names -/
theorem lcPrsI {f : Str → V} (o : Str → HO) (hl : M.length ≤ 10000) (hd : H d = some (.dK (dicF M f)))
    (hv : ∀ (od : Obj) (QQ : VK), QQ (.ref d) (upd H d (.frz od (.dK (dicF M f)))) → tl σ (upd H d (.frz od (.dK (dicF M f)))) QQ)
    (ht : ∀ (z : Str) (T : Addr) (od : Obj) (H1 : Hp) (Q' : VK) (R' : Hp → Prop), z ∈ M → H1 T = some (.tup [.str z, f z]) → H1 d = some (.frz od (.dK (dicF M f))) → (∀ b u, b ≠ d → H b = some u → H1 b = some u) → (∀ t c H3, H1 t = none → H1 c = none → t ≠ c → Same H1 H3 → H3 t = some (.tup [.str z, .ref c]) → H3 c = some (o z) → Q' (.ref t) H3) →
      g (.ref T) (wipe σ vs) H1 fun τ H3 => wipe τ vs = wipe σ vs ∧ tYes τ H3 fun b H4 => if b = true then te τ H4 Q' else R' H4)
    (q : ∀ D H' (ts cs : List Addr), H D = none → Same H H' → H' D = some (.lst (ts.map V.ref)) → ts.length = M.length → cs.length = M.length → (∀ (k : Nat) t c x, ts[k]? = some t → cs[k]? = some c → M[k]? = some x → H' t = some (.tup [.str x, .ref c]) ∧ H' c = some (o x)) → cs.Nodup → (∀ c ∈ cs, H c = none) → Q (.ref D) H') : tLockE (tLc (iItems tl) g tYes te vs) σ H Q := by
  refine ⟨d, .dK (dicF M f), hd, trivial, fun od => ?_⟩
  have e0 : upd H d (.frz od (.dK (dicF M f))) d = some (.frz od (.dK (dicF M f))) := upd_same
  refine hv od _ ⟨d, od, _, rfl, e0, fun D hD => ?_⟩
  obtain ⟨hD1, hD2⟩ := lock_none hD
  have wl : Walk (Iti d od (dicF M f)) M.length (fun H => H d = some (.frz od (.dK (dicF M f)))) (YPair (fun i => (dicF M f)[i]?.map fun kv => kV kv.1) (fun i => (dicF M f)[i]?.map Prod.snd)) := by
    have w := walk_items (d := d) (o := od) (kvs := dicF M f)
    rwa [dicF_len] at w
  refine lc_prsG (g := g) (te := te) (vs := vs) (σ := σ) (Q := fun v H' => H' d = some (.frz od (.dK (dicF M f))) ∧ Q v (upd H' d (.dK (dicF M f)))) wl o hD hl (fun H' s => s _ _ e0) (fun i H1 x H2 _ y => ?_) (fun i x H1 H2 Q' R' hi sm y h => ?_) fun H' ts cs s e l1 l2 all nd fr nD => ?_
  · obtain ⟨T, a, b, rfl, nT, rfl, ha, hb⟩ := y
    exact same_upd nT
  · obtain ⟨T, a, b, rfl, nT, rfl, ha, hb⟩ := y
    have ha : (M.map fun x => ((Sum.inr x : Key), f x))[i]?.map (fun kv => kV kv.1) = some a := ha
    have hb : (M.map fun x => ((Sum.inr x : Key), f x))[i]?.map Prod.snd = some b := hb
    rw [List.getElem?_map, List.getElem?_eq_getElem hi] at ha hb
    obtain rfl := Option.some.inj ha
    obtain rfl := Option.some.inj hb
    have sT : Same H1 (upd H1 T (.tup [.str M[i], f M[i]])) := same_upd nT
    exact ht M[i] T od _ Q' R' (List.getElem_mem hi) upd_same (sT _ _ (sm _ _ e0)) (fun b u nb eb => sT _ _ (sm _ _ (lock_but _ _ nb eb))) fun t c H3 n1 n2 tc s3 et ec => h _ t c H3 (List.getElem?_eq_getElem hi) n1 n2 tc s3 et ec
  · refine ⟨s _ _ e0, q D _ ts cs hD1 (unlock_same hd s) (by rw [upd_ne hD2]; exact e) l1 l2 (fun k t c x h1 h2 h3 => ?_) nd fun c hc => (lock_none (fr c hc)).1⟩
    obtain ⟨a1, a2⟩ := all k t c x h1 h2 h3
    have nt : t ≠ d := fun z => by rw [z, s _ _ e0] at a1; exact nomatch a1
    exact ⟨by rw [upd_ne nt]; exact a1, by rw [upd_ne (lock_none (fr c (List.mem_of_getElem? h2))).2]; exact a2⟩
end
/-! ## 44. a comprehension over a locked dict by names, some left out as drawn -/
section
variable {K : PySem.W.Frag} {σ : L2.St} {H : Hp} {Q : VK} {j m : Nat} {vs : List Nat} {tt : TT} {te tl : TE} {d bx : Addr} {M : List Str} {f : Str → V}
theorem lcFltK (hb : Box bx m H) (hl : M.length ≤ 1000) (hw : ∀ x, wipe ((wipe σ vs).set j (some x)) vs = wipe σ vs) (hd : H d = some (.dK (dicF M f)))
    (hv : ∀ (od : Obj) (QQ : VK), QQ (.ref d) (upd H d (.frz od (.dK (dicF M f)))) → tl σ (upd H d (.frz od (.dK (dicF M f)))) QQ)
    (hte : ∀ (x : Str) (H1 : Hp) (QQ : VK), QQ (.str x) H1 → te ((wipe σ vs).set j (some (.str x))) H1 QQ)
    (ht : ∀ (x : Str) (k : Nat) (H1 : Hp) (Q' : Bool → Hp → Prop), x ∈ M → k < m + M.length → Box bx k H1 → (∀ b H2, Box bx (k + 1) H2 → But bx H1 H2 → Q' b H2) → tt ((wipe σ vs).set j (some (.str x))) H1 Q')
    (hq : ∀ (D : Addr) (H' : Hp) (ys : List Str), H D = none → But bx H H' → Box bx (m + M.length) H' → H' D = some (.lst (ys.map V.str)) → ys.length ≤ M.length → (∀ y ∈ ys, y ∈ M) → Q (.ref D) H') : tLockE (tLc (iKeys tl) (gName j) tt te vs) σ H Q := by
  refine ⟨d, .dK (dicF M f), hd, trivial, fun od => ?_⟩
  have e0 : upd H d (.frz od (.dK (dicF M f))) d = some (.frz od (.dK (dicF M f))) := upd_same
  have nbd : bx ≠ d := by
    rintro rfl
    obtain ⟨x, y, z, e, _⟩ := hb
    rw [hd] at e
    exact nomatch e
  refine hv od _ ⟨d, od, rfl, .inl ⟨_, e0, fun D hD => ?_⟩⟩
  obtain ⟨hD1, hD2⟩ := lock_none hD
  have hbL : Box bx m (upd H d (.frz od (.dK (dicF M f)))) := by
    obtain ⟨x, y, z, e, r⟩ := hb
    exact ⟨x, y, z, by rw [upd_ne nbd]; exact e, r⟩
  have nD : D ≠ bx := hbL.ne hD
  generalize hHL : upd H d (.frz od (.dK (dicF M f))) = HL at e0 hD hbL ⊢
  refine lc_it (g := gName j) (tt := tt) (te := te) (vs := vs) (σ := σ) (walk_keys (d := d) (o := od) (kvs := dicF M f)) (fun i G => But bx HL G ∧ Box bx (m + i) G ∧ ∃ ys : List Str, G D = some (.lst (ys.map V.str)) ∧ ys.length ≤ i ∧ ∀ y ∈ ys, y ∈ M)
    ⟨.of (same_upd hD), hbL.same (same_upd hD), [], upd_same, Nat.le_refl _, fun _ z => nomatch z⟩ (fun i G hi ⟨bt, _⟩ => bt _ _ nbd.symm e0) (fun i x H1 H2 hi ⟨bt, hB, ys, e, l, hp⟩ y => ?_) fun G ⟨bt, hB, ys, e, l, hp⟩ => ?_
  · obtain ⟨rfl, k, v, hk, rfl⟩ := y
    rw [dicF_len] at hi
    unfold dicF at hk
    rw [List.getElem?_map, List.getElem?_eq_getElem hi] at hk
    obtain ⟨rfl, _⟩ := Prod.mk.inj (Option.some.inj hk)
    refine ⟨hw _, ht M[i] (m + i) _ _ (List.getElem_mem hi) (by omega) hB fun b H3 hB3 b3 => ?_⟩
    have e3 := b3 _ _ nD e
    have bt3 := bt.trans b3
    cases b with
    | false => exact ⟨bt3, hB3, ys, e3, by omega, hp⟩
    | true =>
      rw [if_pos rfl]
      refine hte M[i] H3 _ ⟨_, e3, by rw [List.length_map, sizeLine_eq]; omega, ?_⟩
      refine ⟨fun b o nb eb => by rw [upd_ne (ne_of_none eb hD)]; exact bt3 _ _ nb eb, ?_, ys ++ [M[i]], by rw [upd_same, List.map_append]; rfl, by rw [List.length_append]; exact Nat.succ_le_succ l, fun y hy => ?_⟩
      · obtain ⟨x1, y1, z1, eB, r⟩ := hB3
        exact ⟨x1, y1, z1, by rw [upd_ne nD.symm]; exact eB, r⟩
      · rcases List.mem_append.mp hy with w | w
        · exact hp y w
        · rw [List.mem_singleton.mp w]; exact List.getElem_mem hi
  · rw [dicF_len] at hB l
    refine ⟨bt _ _ nbd.symm e0, hq D _ ys hD1 (unlock_but hd (by rw [hHL]; exact bt)) ?_ (by rw [upd_ne hD2]; exact e) l hp⟩
    obtain ⟨x1, y1, z1, eB, r⟩ := hB
    exact ⟨x1, y1, z1, by rw [upd_ne nbd]; exact eB, r⟩
end
end Bk

namespace Bk
open PySem PySem.Spec PyProof.Rows L2
/-! ## 45. no thing of ours stands where the modules' dict does -/
theorem nsm {X : Cx} {pins : List (Addr × Obj)} {σ : L2.St} {H : Hp} {s : Shared} {o : Obj} (k : X.K.lookup sysModules = some o) (I : Inv X pins σ H s) {a : Addr} {u : HO} (e : H a = some u) : a ≠ sysModules := by
  rintro rfl
  have h := I.mod.kin _ _ k
  rw [(I.bs _ _ h).2] at e
  exact nomatch e
/-- repr of a thing with dicts among lists, wherever these stand -/
theorem call_repr_shz {X : Cx} {j : Nat} (k : ∃ o : Obj, X.K.lookup sysModules = some o) (ga : X.A.guards = some []) (hr : Room j X.A) : CallR X (.builtin "repr") (fun xs H Q => ∃ v z, xs = [v] ∧ ((∀ a u, H a = some u → a ≠ sysModules) → Shq X.K H v z) ∧ Q (.str z) H) := by
  intro pins s σ H xs us Q I r h
  obtain ⟨o, k⟩ := k
  obtain ⟨v, z, e, hz, q⟩ := h
  exact call_repr_shq ga hr pins s σ H xs us Q I r ⟨v, z, e, hz fun a u e => nsm k I e, q⟩
/-! ## 46. != of what is data or plain -/
def rNeS (K : PySem.W.Frag) : R2 := fun x y H Q => rNe x y H Q ∨ rNeD K x y H Q
theorem op_neS {X : Cx} (hu : X.A.units + 64 < cLine) : OpR X (compareOp .NotEq) (rNeS X.K) := OpR.or op_ne (op_neD hu)
/-! ## 47. slices of a list or a tuple -/
def rSlQ (K : PySem.W.Frag) : V → Option Int → Option Int → Hp → VK → Prop := fun x lo hi H Q => rSlL K x lo hi H Q ∨ rSlA K x lo hi H Q
theorem sl_seqA {X : Cx} : SlR X (rSlQ X.K) := SlR.or sl_list sl_tupA
/-! ## 48. a comprehension over a list or a tuple -/
def SqA (K : PySem.W.Frag) (H : Hp) (a : Addr) (xs : List V) : Prop := SqL K H a xs ∨ SqT K H a xs
theorem SqA.same {K : PySem.W.Frag} {H H' : Hp} {a : Addr} {xs : List V} (h : SqA K H a xs) (s : Same H H') : SqA K H' a xs := h.elim (fun z => .inl (Same.seq s z)) fun z => .inr (seqT s z)
section
variable {K : PySem.W.Frag} {σ : L2.St} {H : Hp} {Q : VK} {g : TG} {tt : TT} {te tl : TE} {vs : List Nat} {a : Addr} {xs : List V}
theorem lcQ (p : Nat → Option V) (hs : SqA K H a xs) (hl : xs.length ≤ 10000) (hv : ∀ QQ : VK, QQ (.ref a) H → tl σ H QQ)
    (ht : ∀ i x (H1 : Hp) (Q' : VK) (R' : Hp → Prop), xs[i]? = some x → Same H H1 → (∀ v, p i = some v → ∀ H3, Same H1 H3 → Q' v H3) → (p i = none → ∀ H3, Same H1 H3 → R' H3) →
      g x (wipe σ vs) H1 fun τ H3 => wipe τ vs = wipe σ vs ∧ tt τ H3 fun b H4 => if b = true then te τ H4 Q' else R' H4)
    (q : ∀ D H', H D = none → Same H H' → H' D = some (.lst ((List.range xs.length).filterMap p)) → Q (.ref D) H') : tLc (iSeqA K tl) g tt te vs σ H Q := by
  refine hv _ ⟨a, xs, rfl, ?_⟩
  rcases hs with hs | hs
  · refine .inl ⟨hs, fun D hD => ?_⟩
    exact lc_by (walk_list (xs := xs)) p hD hl (fun H' s => Same.seq s hs) (fun i x H1 H2 Q' R' hi sm y h1 h2 => by
      obtain ⟨rfl, hx⟩ := y
      exact ht i x _ Q' R' hx sm h1 h2) fun H' s e => q D H' hD s e
  · refine .inr ⟨hs, fun D hD => ?_⟩
    exact lc_by (walk_tup (xs := xs)) p hD hl (fun H' s => seqT s hs) (fun i x H1 H2 Q' R' hi sm y h1 h2 => by
      obtain ⟨rfl, hx⟩ := y
      exact ht i x _ Q' R' hx sm h1 h2) fun H' s e => q D H' hD s e
/-- over enumerate of a list or a tuple -/
theorem lcEnumA {ta : TA} (p : Nat → Option V) (hs : SqA K H a xs) (hl : xs.length ≤ 10000) (hv : ∀ QQ : List V → Hp → Prop, QQ [.ref a] H → ta σ H QQ)
    (ht : ∀ i x T (H1 : Hp) (Q' : VK) (R' : Hp → Prop), xs[i]? = some x → Same H H1 → H1 T = some (.tup [.int (i : Nat), x]) → (∀ v, p i = some v → ∀ H3, Same H1 H3 → Q' v H3) → (p i = none → ∀ H3, Same H1 H3 → R' H3) →
      g (.ref T) (wipe σ vs) H1 fun τ H3 => wipe τ vs = wipe σ vs ∧ tt τ H3 fun b H4 => if b = true then te τ H4 Q' else R' H4)
    (q : ∀ D H', H D = none → Same H H' → H' D = some (.lst ((List.range xs.length).filterMap p)) → Q (.ref D) H') : tLc (iEnumA K ta) g tt te vs σ H Q := by
  refine hv _ ⟨a, xs, rfl, ?_⟩
  rcases hs with hs | hs
  · refine .inl ⟨hs, fun D hD => ?_⟩
    refine lc_by (walk_enum (xs := xs)) p hD hl (fun H' s => Same.seq s hs) (fun i x H1 H2 Q' R' hi sm y h1 h2 => ?_) fun H' s e => q D H' hD s e
    obtain ⟨T, b, c, rfl, nT, rfl, hb, hc⟩ := y
    obtain rfl := Option.some.inj hb
    have sT : Same H1 (upd H1 T (.tup [.int (i : Nat), c])) := same_upd nT
    exact ht i c T _ Q' R' hc (sm.trans sT) upd_same (fun v hv H3 s3 => h1 v hv H3 (sT.trans s3)) fun hn H3 s3 => h2 hn H3 (sT.trans s3)
  · refine .inr ⟨hs, fun D hD => ?_⟩
    refine lc_by (walk_enumT (xs := xs)) p hD hl (fun H' s => seqT s hs) (fun i x H1 H2 Q' R' hi sm y h1 h2 => ?_) fun H' s e => q D H' hD s e
    obtain ⟨T, b, c, rfl, nT, rfl, hb, hc⟩ := y
    obtain rfl := Option.some.inj hb
    have sT : Same H1 (upd H1 T (.tup [.int (i : Nat), c])) := same_upd nT
    exact ht i c T _ Q' R' hc (sm.trans sT) upd_same (fun v hv H3 s3 => h1 v hv H3 (sT.trans s3)) fun hn H3 s3 => h2 hn H3 (sT.trans s3)
end
end Bk

namespace Bk
open PySem PySem.Spec PyProof.Rows L2 HT
/-! ## 49. xs[i:j] = ys, j beyond the end too -/
section
variable {prog : Program} {w : World} {A : Around} {E : Value → Shared → Prop} {s : Shared}
theorem cut_bounds {i j m : Nat} (h : i ≤ j) (l : i ≤ m) : sliceBounds (some (i : Int)) (some (j : Int)) none m = ((i : Int), ((min j m : Nat) : Int), 1) := by
  have a : ¬ (i : Int) < 0 := by omega
  have b : ¬ (j : Int) < 0 := by omega
  have c : max 0 (min (i : Int) m) = i := by omega
  have d : max 0 (min (j : Int) m) = ((min j m : Nat) : Int) := by omega
  show (_, _, _) = (_, _, _)
  simp [a, b]
  exact ⟨c, d⟩
theorem store_cut {p q z : Addr} {xs ys : Array Value} {m m2 : Nat} {u v : Value} {i j : Nat} {Q : Unit → Shared → Prop}
    (ep : s.heap.get? p = some { cls := .type "list", data := .seq xs m }) (eq : s.heap.get? q = some { cls := .type "list", data := .seq ys m2 }) (npq : p ≠ q) (hz : s.heap.IsSliceOf z u v .none)
    (pi : IsPart u (some (i : Int))) (pj : IsPart v (some (j : Int))) (ij : i ≤ j) (im : i ≤ xs.size) (sz : xs.size + ys.size ≤ sizeLine)
    (k : Q () { s with heap := s.heap.update p (Obj.mapSeq fun zs => zs.extract 0 i ++ ys ++ zs.extract (min j xs.size) zs.size) }) : wpAny (model prog w) A (setItem (.ref p) (.ref z) (.ref q)) Q E s := by
  have lp : s.heap.IsList p xs := PySem.IsL.isList ep
  have lq : s.heap.IsList q ys := PySem.IsL.isList eq
  obtain ⟨oz, h1, h2, h3⟩ := id hz
  have tz : s.TypeIs (.ref z) "slice" := ⟨oz, h1, h2⟩
  have ns : Builtin.List.listSameRef (.ref p) (.ref q) = false := beq_eq_false_iff_ne.mpr npq
  have n0 : ¬ ((rawPart none == rawInt 0) = true) := fun h => Bool.false_ne_true h
  have mx : (max (i : Int) ((min j xs.size : Nat) : Int)).toNat = min j xs.size := by omega
  have zz : ((fun zs : Array Value => zs.extract 0 i ++ ys ++ zs.extract (min j xs.size) zs.size) xs).size ≤ sizeLine + 1 := by
    simp only [Array.size_append, Array.size_extract]; omega
  unfold setItem
  (try with_reducible refine wpAny_holding ?_); (first | refine wpAny_bind (wpAny_pure ?_) | skip)
  refine wpAny_bind (wpAny_sequenceKey lp.typeIs (by decide) ?_); refine wpAny_bind (wpAny_callSpecial?_slot (name := Str.ofString "__setitem__") lp.typeIs slot_list_setitem (wpAny_call_entry slot_list_setitem lp.typeIs entry_list_setitem ?_ (args_list_setitem _ _ _)))
  show wpAny _ _ (Builtin.List.listSubscript? (.ref z) >>= _) _ _ s; refine wpAny_bind ?_; unfold Builtin.List.listSubscript?
  refine wpAny_bind (wpAny_specialOf tz slice_no_index ?_); simp only [Option.isNone_none, if_true]; refine wpAny_pure ?_
  show wpAny _ _ (typeOf (.ref z) >>= _) _ _ s; refine wpAny_bind (wpAny_typeOf tz ?_)
  (first | rw [if_neg (by decide)] | refine PySem.W.KFB.if_not (by decide) ?_); rw [listSliceParts_eq]
  refine wpAny_bind (wpAny_bind (wpAny_field h1 h3 (x := .none) rfl (wpAny_bind (wpAny_listPart .none ?_)))); rw [if_neg n0]
  refine wpAny_bind (wpAny_field h1 h3 (x := u) rfl (wpAny_bind (wpAny_listPart pi ?_))); refine wpAny_bind (wpAny_field h1 h3 (x := v) rfl (wpAny_bind (wpAny_listPart pj (wpAny_pure ?_))))
  (first | simp only [ns, Bool.false_eq_true, if_false] | refine PySem.W.KFB.if_not ns ?_ | (dsimp only; rw [if_neg (by rw [ns]; exact Bool.false_ne_true)]))
  refine wpAny_bind (m := Builtin.List.listAllItems (.ref q) "must assign iterable to extended slice") ?_; unfold Builtin.List.listAllItems; refine wpAny_bind (wpAny_typeOf lq.typeIs ?_)
  (first | refine PySem.W.KFB.if_so (by decide) ?_ | rw [if_pos (by decide)] | simp only [beq_self_eq_true, Bool.true_or, if_true]); unfold Builtin.List.listItems
  refine wpAny_bind (wpAny_seqItems eq rfl (wpAny_pure ?_)); refine wpAny_bind (wpAny_bind (wpAny_seqItems ep rfl (wpAny_pure ?_)))
  refine wpAny_bind (wpAny_of_eq ((sliceIndices_raw (some (i : Int)) (some (j : Int)) none xs.size (by simp)).trans (congrArg (pure : Int × Int × Int → Sem (Int × Int × Int)) (cut_bounds ij im))) ?_)
  show wpAny _ _ (if ((1 : Int) == 1) = true then _ else _) _ _ s; rw [if_pos (by decide)]; refine wpAny_bind (wpAny_rule ?_)
  (first | simp only [notLongL sz, Bool.false_eq_true, if_false] | refine PySem.W.KFB.if_not (notLongL sz) ?_); (first | refine wpAny_bind (wpAny_pure ?_) | skip)
  show wpAny _ _ (updateSeq p (fun zs => zs.extract 0 ((i : Int)).toNat ++ ys ++ zs.extract (max (i : Int) ((min j xs.size : Nat) : Int)).toNat zs.size) >>= _) _ _ s; rw [mx, Int.toNat_natCast]
  refine wpAny_bind (wpAny_updateSeq (hz := Nat.le_trans (Nat.le_add_right _ _) sz) (_hz' := zz) ep rfl ?_); refine wpAny_bind (wpAny_letGo ?_)
  (first | exact wpAny_bind (wpAny_pure (wpAny_pure ⟨.none, rfl, wpAny_pure k⟩)) | exact wpAny_pure ⟨.none, rfl, wpAny_pure k⟩)
end
section
variable {X : Cx}
theorem put_cut {pins : List (Addr × Obj)} {s : Shared} {σ : L2.St} {H : Hp} {p q z : Addr} {xs ys : List V} {i j : Nat} {u v : Value} {Q : Unit → Shared → Prop} (I : Inv X pins σ H s)
    (ep : H p = some (.lst xs)) (eq : H q = some (.lst ys)) (npq : p ≠ q) (hz : s.heap.IsSliceOf z u v .none) (pu : IsPart u (some (i : Int))) (pv : IsPart v (some (j : Int))) (ij : i ≤ j) (im : i ≤ xs.length) (sz : xs.length + ys.length ≤ sizeLine)
    (k : ∀ s', Inv X pins σ (upd H p (.lst (xs.take i ++ ys ++ xs.drop j))) s' → Q () s') : wpAny (model X.prog X.w) X.A (setItem (.ref p) (.ref z) (.ref q)) Q X.xe s := by
  obtain ⟨_, us, n, r, l1, e1⟩ := I.lstM ep
  obtain ⟨_, vs, n2, r2, l2, e2⟩ := I.lstM eq
  have len := r.length
  have len2 := r2.length
  refine store_cut (i := i) (j := j) e1 e2 npq hz pu pv ij (by rw [List.size_toArray, ← len]; exact im) (by rw [List.size_toArray, List.size_toArray, ← len, ← len2]; exact sz) (k _ ?_)
  refine I.lset (its' := us.take i ++ vs ++ us.drop (min j us.length)) (t' := s.toks) ep e1 (by rw [List.size_toArray]; exact splice_eq us vs i (min j us.length)) ?_ ?_
  · have d : xs.drop j = xs.drop (min j us.length) := by
      rw [← len]
      by_cases h : j ≤ xs.length
      · rw [Nat.min_eq_left h]
      · rw [Nat.min_eq_right (by omega), List.drop_of_length_le (by omega), List.drop_of_length_le (Nat.le_refl _)]
    rw [d]
    exact Vals.append (Vals.append (r.take _) r2) (r.drop _)
  · rw [List.length_append, List.length_append, List.length_take, List.length_drop]
    omega
/-- xs[i:j] = .. as a target -/
def gCut (to : TE) (tl th : TO) : TG := fun v σ H Q => to σ H fun o H1 => tl σ H1 fun a H2 => th σ H2 fun c H3 => ∃ (p q : Addr) (xs ys : List V) (i j : Nat), o = .ref p ∧ v = .ref q ∧ a = some (i : Int) ∧ c = some (j : Int) ∧ H3 p = some (.lst xs) ∧ H3 q = some (.lst ys) ∧ p ≠ q ∧ i ≤ j ∧ i ≤ xs.length ∧ xs.length + ys.length ≤ sizeLine ∧ Q σ (upd H3 p (.lst (xs.take i ++ ys ++ xs.drop j)))
theorem pg_cut {o : Expr} {lo hi : Option Expr} {to : TE} {tl th : TO} {pos p2 : Pos} (ho : PE X o to) (hl : PO X lo tl) (hh : PO X hi th)
    (ha : ∀ v, assign (.Subscript o (.Slice lo hi none p2) pos) X.env v = (do
      let ov ← holding [v] (eval o X.env)
      let iv ← holding [v, ov] (eval (.Slice lo hi none p2) X.env)
      standAt pos
      holding [v, ov, iv] (setItem ov iv v)
      release [iv, v, ov] []) := by intro _; rfl) : PG X (.Subscript o (.Slice lo hi none p2) pos) (gCut to tl th) := by
  refine ⟨fun pins s σ H v u Q I r h => ?_⟩
  rw [ha]
  refine wpAny_bind (wpAny_holding (thn (ho.run pins s σ H _ I h) fun ov s1 ⟨x, H1, I1, r1, q1⟩ => ?_))
  refine wpAny_bind (wpAny_holding ?_)
  refine wpAny_Slice (thn (hl.run pins s1 σ H1 _ I1 q1) fun vl s2 ⟨l, H2, I2, pl, q2⟩ => thn (hh.run pins s2 σ H2 _ I2 q2) fun vu s3 ⟨c, H3, I3, pu, q3⟩ => ?_)
  rw [evalPart_none]
  refine wpAny_pure ?_
  have I4 : Inv X pins σ H3 { s3 with heap := s3.heap.push { cls := .type "slice", data := .fields #[vl, vu, .none] } } := I3.kept (t' := s3.toks) fun b ob q => Heap.get?_push_of_some _ q
  obtain ⟨p, q, xs, ys, i, j, rfl, rfl, rfl, rfl, ep, eq, npq, ij, im, sz, fin⟩ := q3
  cases (show ov = Value.ref p from r1)
  cases (show u = Value.ref q from r)
  refine wpAny_bind (wpAny_standAt (wpAny_bind (wpAny_holding (put_cut I4 ep eq npq (Heap.IsSliceOf.new ..) pl pu ij im sz fun s' I5 => ?_))))
  exact wpAny_release ⟨σ, _, I5, fin⟩
end
end Bk

namespace Bk
open PySem PySem.Spec PyProof.Rows L2
/-! ## 50. the text of a list whose things have dicts among them, wherever lists stand -/
inductive EachQ (K : PySem.W.Frag) (H : Hp) : List V → List PyData → Prop
  | nil : EachQ K H [] []
  | cons {b : Bool} {v : V} {vs : List V} {d : PyData} {ds : List PyData} : Dq b K H v d → EachQ K H vs ds → EachQ K H (v :: vs) (d :: ds)
def ShL (K : PySem.W.Frag) (H : Hp) (v : V) (z : Str) : Prop := ∃ p vs ds, v = .ref p ∧ vs ≠ [] ∧ SqL K H p vs ∧ EachQ K H vs ds ∧ (PyData.list ds).showable = true ∧ (PyData.list ds).shown.length ≤ sizeLine ∧ (PyData.list ds).depth ≤ 60 ∧ z = (PyData.list ds).shown
theorem shl_of {K : PySem.W.Frag} {H : Hp} {p : Addr} {vs : List V} {ds : List PyData} (hl : SqL K H p vs) (nv : vs ≠ []) (he : EachQ K H vs ds) (s : smQ (PyData.list ds) = true) (l : (PyData.list ds).bulk ≤ 390000) (e : (PyData.list ds).depth ≤ 60) : ShL K H (.ref p) (PyData.list ds).shown := by
  obtain ⟨h1, h2⟩ := smQ_ok _ s
  have h3 := PyData.shown_le_bulk 40 (by decide) _ h2
  exact ⟨p, vs, ds, rfl, nv, hl, he, h1, by rw [sizeLine_eq]; omega, e, rfl⟩
section
variable {X : Cx} {pins : List (Addr × Obj)} {σ : L2.St} {H : Hp} {s : Shared}
theorem each_reads (I : Inv X pins σ H s) : ∀ {ds : List PyData} {vs : List V} {us : List Value}, EachQ X.K H vs ds → Vals vs us → PyData.showableAll ds = true → (∀ t ∈ PyData.shownAll ds, t.length ≤ sizeLine) →
    ∃ as bs, ReadsAll s.heap us ds as ∧ ReadAtMost s.heap (PyData.depthAll ds) bs ∧ ReprAllK X.prog X.w bs s.heap (PyData.depthAll ds) us (PyData.shownAll ds)
  | _, _, _, .nil, r, _, _ => by
    cases r
    exact ⟨_, [], ReadsAll.nil, (fun _ h => nomatch h), by simp only [PyData.shownAll]; exact .nil⟩
  | d :: ds, _, _, .cons (b := b) h1 h2, r, hs, hz => by
    cases r with
    | cons r1 r2 =>
      obtain ⟨as, q1, n1⟩ := Dq.reads I h1 r1
      obtain ⟨g1, g2⟩ := Bool.and_eq_true_iff.mp (show (d.showable && PyData.showableAll ds) = true by simpa only [PyData.showableAll] using hs)
      have z1 : d.shown.length ≤ sizeLine := hz _ (by simp only [PyData.shownAll]; exact List.mem_cons_self ..)
      have hsm : d.hasDict = true → sysModules ∉ as := fun hh => by
        cases b with
        | true => exact n1 rfl
        | false => rw [dq_flat d _ h1] at hh; exact nomatch hh
      obtain ⟨b1, m1, k1⟩ := ReprK.of_reads (prog := X.prog) (w := X.w) q1 g1 hsm z1
      obtain ⟨as2, b2, q2, m2, k2⟩ := each_reads I h2 r2 g2 fun t ht => hz t (by simp only [PyData.shownAll]; exact List.mem_cons_of_mem _ ht)
      have l1 : d.depth ≤ PyData.depthAll (d :: ds) := by simp only [PyData.depthAll]; omega
      have l2 : PyData.depthAll ds ≤ PyData.depthAll (d :: ds) := by simp only [PyData.depthAll]; omega
      refine ⟨_, b1 ++ b2, ReadsAll.cons q1 q2, (m1.mono l1).append (m2.mono l2), ?_⟩
      simp only [PyData.shownAll]
      exact .cons ((k1.more fun c hc => List.mem_append_left _ hc).level_le l1) (k2.more_le (fun c hc => List.mem_append_right _ hc) l2)
theorem call_repr_shl {j : Nat} (ga : X.A.guards = some []) (hr : Room j X.A) : CallR X (.builtin "repr") (fun xs H Q => ∃ v z, xs = [v] ∧ ShL X.K H v z ∧ Q (.str z) H) := by
  intro pins s σ H xs us Q I r h
  obtain ⟨v, z, rfl, ⟨p, vs, ds, rfl, nv, hl, he, h1, h2, h3, rfl⟩, q⟩ := h
  obtain ⟨u, rfl, rv⟩ := vals1 r
  obtain rfl : u = Value.ref p := rv
  have hu := hr.units
  have hz : (listText (PyData.shownAll ds)).length ≤ sizeLine := by simpa only [PyData.shown] using h2
  have fin : ∀ h' u tk, (∀ b o, s.heap.get? b = some o → h'.get? b = some o) → EP X pins σ Q (.str (PyData.list ds).shown u) { s with heap := h', toks := tk } := fun h' u tk hk => ⟨.str _, H, I.kept hk, ⟨_, rfl⟩, q⟩
  simp only [PyData.depth] at h3
  obtain ⟨its, rv, ⟨o, n, ho, hc, _, hd⟩, _⟩ := I.list hl
  obtain ⟨as, bs, qr, qm, qk⟩ := each_reads I he rv (by simpa only [PyData.showable] using h1) fun t ht => Nat.le_trans (listText_mem_le ht) hz
  have na : p ∉ bs := not_mem_of_deeper (.list ho hc hd qr) (by simp only [PyData.depth]; omega) qm
  cases its with
  | nil =>
    cases rv
    exact absurd rfl nv
  | cons y its =>
    refine call_repr_slot (T := "list") (by omega) ⟨o, ho, hc⟩ PySem.F.slot_list_repr.toG ?_
    refine call_list_reprK ho hc hd na (by simpa using qk.length_eq) (fun i y e => qk.item i y (by simpa using e)) (g := []) ga (fun b _ => Clear.nil b) (by show X.A.units + 1 + _ < cLine; omega) (fun _ _ e => e) (fun h' u tk hk => ⟨_, _, rfl, ?_⟩) hz
    have f := fin h' u tk hk
    simp only [PyData.shown] at f
    exact f
theorem call_repr_any {j : Nat} (ga : X.A.guards = some []) (hr : Room j X.A) : CallR X (.builtin "repr") (fun xs H Q => ∃ v z, xs = [v] ∧ (Shq X.K H v z ∨ ShL X.K H v z) ∧ Q (.str z) H) := by
  intro pins s σ H xs us Q I r h
  obtain ⟨v, z, e, hz | hz, q⟩ := h
  · exact call_repr_shq ga hr pins s σ H xs us Q I r ⟨v, z, e, hz, q⟩
  · exact call_repr_shl ga hr pins s σ H xs us Q I r ⟨v, z, e, hz, q⟩
end
end Bk

namespace Bk
open PySem PySem.Spec PyProof.Rows L2
/-! ## 51. a, b = a list, in a comprehension; a def that keeps two words -/
theorem pg_lstK {X : Cx} {K : PySem.W.Frag} {es : List Expr} {k : Nat} {t : TGs} {n : Nat} {pos : Pos} (e : X.K = K) (hc : X.calm = true) (h : PGs X es t) (hn : (assignEach es X.env).length = n := by rfl) (hst : (assignEach es X.env).findIdx? (·.1) = none := by rfl) :
    PG X (.Tuple es k pos) (gLst K n t) := by
  subst e
  exact pg_lst hc h hn hst
theorem _root_.L2.FnOk.or {P : Program} {w : World} {K : PySem.W.Frag} {mg : Str → Option Value} {base : Heap} {CX : CXT} {k : Nat} {f : Addr} {fd : FuncData} {ps : List Str} {sp sq : Sp} (F : FnOk P w K mg base CX k f fd ps sp) (G : FnOk P w K mg base CX k f fd ps sq) :
    FnOk P w K mg base CX k f fd ps (fun vs H Q E => sp vs H Q E ∨ sq vs H Q E) :=
  ⟨fun vs H Q E h => h.elim (F.len vs H Q E) (G.len vs H Q E), fun A outer s H args us vs Q E hr he hb hv hs => hs.elim (F.run A outer s H args us vs Q E hr he hb hv) (G.run A outer s H args us vs Q E hr he hb hv)⟩
end Bk

open PySem PySem.Spec PyProof.Rows L2 Bk
local macro_rules | `(tactic| walk_at "go1") => `(tactic| with_reducible first
  | refine r_seq ?_ | refine r_asg ?_ | refine r_name ?_ | refine r_if ?_ | refine r_ret ?_ | refine r_next ?_ | refine r_drop ?_
  | refine r_op ?_ | refine r_un ?_ | refine r_c ?_ | refine r_I0 ?_ | refine r_lstB ?_ | refine r_mth ?_ | refine r_mthK ?_ | refine r_mkS ?_ | refine r_fld ?_ | refine r_par ?_ | refine r_U ?_ | refine r_nil ?_ | refine r_cons ?_ | refine r_call ?_ | refine r_callN ?_ | refine r_for ?_ | refine r_iList ?_ | refine r_iTup ?_ | refine r_iRng1 ?_ | refine r_iRng2 ?_ | refine r_mkV ?_ | refine r_dnewK ?_ | refine r_cb ?_
  | refine r_test ?_ | refine r_tB ?_ | refine r_isb ?_ | refine r_isv ?_ | refine r_not ?_ | refine r_and ?_ | refine r_or ?_ | refine r_andV ?_ | refine r_orV ?_ | refine r_notV ?_ | refine r_chain ?_ | refine r_ifE ?_
  | refine r_lst ?_ | refine r_tup ?_ | refine r_gSub ?_ | refine r_bm ?_
  | (apply r_var; focus (with_unfolding_all rfl))
  | refine iteT ?_ | refine iteF ?_ | refine iteNF ?_ | refine iteNT ?_ | refine r_m1 ?_ | refine r_sl ?_ | refine r_noPart ?_ | refine r_part ?_ | refine r_isi ?_
  | (refine r_eq ?_ ?_; focus (with_unfolding_all (first | rfl | decide))) | (refine r_ne ?_ ?_; focus (with_unfolding_all (first | rfl | decide))))
local macro_rules | `(tactic| walk_at "go") => `(tactic| repeat (walk_at "go1"))
namespace K22
open PySem PySem.Spec PyProof.Rows L2 Bk


def topS (i : Nat) : Stmt := PySem.Challenge.pw_guestsalone_k22_asks_put_and_served.main.body.getD i (.Pass ⟨0, 0, 0, 0⟩)
abbrev s_GuestError_init : Stmt := inClass (topS 1) 0
abbrev s_Missing_init : Stmt := inClass (topS 2) 0
abbrev s_Barred_init : Stmt := inClass (topS 3) 0
abbrev s_NoNumber_init : Stmt := inClass (topS 4) 0
abbrev s_NoName_init : Stmt := inClass (topS 5) 0
abbrev s_Doubled_init : Stmt := inClass (topS 6) 0
abbrev s_NoAsk_init : Stmt := inClass (topS 7) 0
abbrev s_Full_init : Stmt := inClass (topS 8) 0
abbrev s_is_count : Stmt := topS 10
abbrev s_is_name : Stmt := topS 11
abbrev s_all_within : Stmt := topS 12
abbrev s_check_name : Stmt := topS 14
abbrev s_Queue_init : Stmt := inClass (topS 17) 0
abbrev s_Queue_put : Stmt := inClass (topS 17) 1
abbrev s_Queue_serve : Stmt := inClass (topS 17) 2
abbrev s_Queue_leave : Stmt := inClass (topS 17) 3
abbrev s_Queue_of : Stmt := inClass (topS 17) 4
abbrev s_Queue_waiting : Stmt := inClass (topS 17) 5
abbrev s_Queue_comes_at : Stmt := inClass (topS 17) 6
abbrev s_Queue_len : Stmt := inClass (topS 17) 7
abbrev s_Queue_twin : Stmt := inClass (topS 17) 8
abbrev s_check_count : Stmt := topS 18
abbrev s_cell_L : Stmt := topS 20
abbrev s_box_L : Stmt := topS 21
abbrev s_take_L : Stmt := topS 22
abbrev s_names_L : Stmt := topS 23
abbrev s_many_L : Stmt := topS 24
abbrev s_odd_L : Stmt := topS 25
abbrev s_put_L : Stmt := topS 26
abbrev s_served_L : Stmt := topS 27
abbrev s_left_L : Stmt := topS 28
abbrev s_when_L : Stmt := topS 29
abbrev s_caught_L : Stmt := topS 30
abbrev s_right_L : Stmt := topS 31
abbrev s_due_L : Stmt := topS 32
abbrev s_refused_right_L : Stmt := topS 33
abbrev s_law : Stmt := topS 34
theorem sc_GuestError_init : FnScope ["self", "text"] ["self", "text"] (defScope s_GuestError_init) := ⟨rfl, rfl, rfl, by decide +kernel, rfl, by decide +kernel, by decide +kernel⟩
theorem sc_Missing_init : FnScope ["self", "text"] ["self", "text"] (defScope s_Missing_init) := ⟨rfl, rfl, rfl, by decide +kernel, rfl, by decide +kernel, by decide +kernel⟩
theorem sc_Barred_init : FnScope ["self", "text"] ["self", "text"] (defScope s_Barred_init) := ⟨rfl, rfl, rfl, by decide +kernel, rfl, by decide +kernel, by decide +kernel⟩
theorem sc_NoNumber_init : FnScope ["self", "found"] ["self", "found"] (defScope s_NoNumber_init) := ⟨rfl, rfl, rfl, by decide +kernel, rfl, by decide +kernel, by decide +kernel⟩
theorem sc_NoName_init : FnScope ["self", "found"] ["self", "found"] (defScope s_NoName_init) := ⟨rfl, rfl, rfl, by decide +kernel, rfl, by decide +kernel, by decide +kernel⟩
theorem sc_Doubled_init : FnScope ["self", "found"] ["self", "found"] (defScope s_Doubled_init) := ⟨rfl, rfl, rfl, by decide +kernel, rfl, by decide +kernel, by decide +kernel⟩
theorem sc_NoAsk_init : FnScope ["self", "found"] ["self", "found"] (defScope s_NoAsk_init) := ⟨rfl, rfl, rfl, by decide +kernel, rfl, by decide +kernel, by decide +kernel⟩
theorem sc_Full_init : FnScope ["self", "many"] ["self", "many"] (defScope s_Full_init) := ⟨rfl, rfl, rfl, by decide +kernel, rfl, by decide +kernel, by decide +kernel⟩
theorem sc_is_count : FnScope ["thing"] ["thing"] (defScope s_is_count) := ⟨rfl, rfl, rfl, by decide +kernel, rfl, by decide +kernel, by decide +kernel⟩
theorem sc_is_name : FnScope ["thing"] ["thing"] (defScope s_is_name) := ⟨rfl, rfl, rfl, by decide +kernel, rfl, by decide +kernel, by decide +kernel⟩
theorem sc_all_within : FnScope ["text", "first", "last", "sign"] ["text", "first", "last"] (defScope s_all_within) := ⟨rfl, rfl, rfl, by decide +kernel, rfl, by decide +kernel, by decide +kernel⟩
theorem sc_check_name : FnScope ["thing"] ["thing"] (defScope s_check_name) := ⟨rfl, rfl, rfl, by decide +kernel, rfl, by decide +kernel, by decide +kernel⟩
theorem sc_Queue_init : FnScope ["self"] ["self"] (defScope s_Queue_init) := ⟨rfl, rfl, rfl, by decide +kernel, rfl, by decide +kernel, by decide +kernel⟩
theorem sc_Queue_put : FnScope ["self", "name", "number"] ["self", "name", "number"] (defScope s_Queue_put) := ⟨rfl, rfl, rfl, by decide +kernel, rfl, by decide +kernel, by decide +kernel⟩
theorem sc_Queue_serve : FnScope ["self", "name", "numbers"] ["self"] (defScope s_Queue_serve) := ⟨rfl, rfl, rfl, by decide +kernel, rfl, by decide +kernel, by decide +kernel⟩
theorem sc_Queue_leave : FnScope ["self", "name", "numbers", "ask", "other"] ["self", "name"] (defScope s_Queue_leave) := ⟨rfl, rfl, rfl, by decide +kernel, rfl, by decide +kernel, by decide +kernel⟩
theorem sc_Queue_of : FnScope ["self", "name", "ask"] ["self", "name"] (defScope s_Queue_of) := ⟨rfl, rfl, rfl, by decide +kernel, rfl, by decide +kernel, by decide +kernel⟩
theorem sc_Queue_waiting : FnScope ["self"] ["self"] (defScope s_Queue_waiting) := ⟨rfl, rfl, rfl, by decide +kernel, rfl, by decide +kernel, by decide +kernel⟩
theorem sc_Queue_comes_at : FnScope ["self", "name", "number", "ahead", "many"] ["self", "name", "number"] (defScope s_Queue_comes_at) := ⟨rfl, rfl, rfl, by decide +kernel, rfl, by decide +kernel, by decide +kernel⟩
theorem sc_Queue_len : FnScope ["self"] ["self"] (defScope s_Queue_len) := ⟨rfl, rfl, rfl, by decide +kernel, rfl, by decide +kernel, by decide +kernel⟩
theorem sc_Queue_twin : FnScope ["self", "other"] ["self"] (defScope s_Queue_twin) := ⟨rfl, rfl, rfl, by decide +kernel, rfl, by decide +kernel, by decide +kernel⟩
theorem sc_check_count : FnScope ["thing"] ["thing"] (defScope s_check_count) := ⟨rfl, rfl, rfl, by decide +kernel, rfl, by decide +kernel, by decide +kernel⟩
theorem sc_cell_L : FnScope ["_law_script", "_law_k"] ["_law_script", "_law_k"] (defScope s_cell_L) := ⟨rfl, rfl, rfl, by decide +kernel, rfl, by decide +kernel, by decide +kernel⟩
theorem sc_box_L : FnScope ["_law_cell_here"] ["_law_cell_here"] (defScope s_box_L) := ⟨rfl, rfl, rfl, by decide +kernel, rfl, by decide +kernel, by decide +kernel⟩
theorem sc_take_L : FnScope ["_law_box_here", "_law_many_here", "_law_digit", "_law_one", "_law_two"] ["_law_box_here", "_law_many_here"] (defScope s_take_L) := ⟨rfl, rfl, rfl, by decide +kernel, rfl, by decide +kernel, by decide +kernel⟩
theorem sc_names_L : FnScope ["_law_box_here", "_law_signs", "_law_stem", "_law_first", "_law_at", "_law_names_here", "_law_k", "_law_who"] ["_law_box_here"] (defScope s_names_L) := ⟨rfl, rfl, rfl, by decide +kernel, rfl, by decide +kernel, by decide +kernel⟩
theorem sc_many_L : FnScope ["_law_box_here", "_law_signs", "_law_tail", "_law_first", "_law_k"] ["_law_box_here"] (defScope s_many_L) := ⟨rfl, rfl, rfl, by decide +kernel, rfl, by decide +kernel, by decide +kernel⟩
theorem sc_odd_L : FnScope ["_law_box_here", "_law_some"] ["_law_box_here"] (defScope s_odd_L) := ⟨rfl, rfl, rfl, by decide +kernel, rfl, by decide +kernel, by decide +kernel⟩
theorem sc_put_L : FnScope ["_law_state", "_law_who", "_law_which", "_law_row", "_law_order", "_law_there", "_law_some"] ["_law_state", "_law_who", "_law_which"] (defScope s_put_L) := ⟨rfl, rfl, rfl, by decide +kernel, rfl, by decide +kernel, by decide +kernel⟩
theorem sc_served_L : FnScope ["_law_state", "_law_row", "_law_order", "_law_who", "_law_numbers", "_law_ask"] ["_law_state"] (defScope s_served_L) := ⟨rfl, rfl, rfl, by decide +kernel, rfl, by decide +kernel, by decide +kernel⟩
theorem sc_left_L : FnScope ["_law_state", "_law_who", "_law_row", "_law_order", "_law_numbers", "_law_one", "_law_which", "_law_some", "_law_ask"] ["_law_state", "_law_who"] (defScope s_left_L) := ⟨rfl, rfl, rfl, by decide +kernel, rfl, by decide +kernel, by decide +kernel⟩
theorem sc_when_L : FnScope ["_law_state", "_law_ask", "_law_row", "_law_order", "_law_beside", "_law_turn", "_law_who", "_law_numbers"] ["_law_state", "_law_ask"] (defScope s_when_L) := ⟨rfl, rfl, rfl, by decide +kernel, rfl, by decide +kernel, by decide +kernel⟩
theorem sc_caught_L : FnScope ["_law_queue", "_law_deed", "_law_who", "_law_which", "_law_told", "_law_kept", "e"] ["_law_queue", "_law_deed", "_law_who", "_law_which"] (defScope s_caught_L) := ⟨rfl, rfl, rfl, by decide +kernel, rfl, by decide +kernel, by decide +kernel⟩
theorem sc_right_L : FnScope ["_law_queue", "_law_state", "_law_names_here", "_law_ask", "_law_row", "_law_order", "_law_who", "_law_due_here", "_law_told", "_law_one", "_law_which"] ["_law_queue", "_law_state", "_law_names_here", "_law_ask"] (defScope s_right_L) := ⟨rfl, rfl, rfl, by decide +kernel, rfl, by decide +kernel, by decide +kernel⟩
theorem sc_due_L : FnScope ["_law_state", "_law_deed", "_law_who", "_law_which"] ["_law_state", "_law_deed", "_law_who", "_law_which"] (defScope s_due_L) := ⟨rfl, rfl, rfl, by decide +kernel, rfl, by decide +kernel, by decide +kernel⟩
theorem sc_refused_right_L : FnScope ["_law_box_here", "_law_queue", "_law_names_here", "_law_odd_here", "_law_other", "_law_who", "_law_which", "_law_rows", "_law_deed", "_law_one", "_law_two", "_law_due_here", "_law_found", "_law_thing"] ["_law_box_here", "_law_queue", "_law_names_here"] (defScope s_refused_right_L) := ⟨rfl, rfl, rfl, by decide +kernel, rfl, by decide +kernel, by decide +kernel⟩
theorem sc_law : FnScope ["_law_script", "_law_box_here", "_law_names_here", "_law_large", "_law_queue", "_law_state", "_law_beside", "_law_k", "_law_who", "_law_turn", "_law_deed", "_law_which", "_law_by", "_law_ask"] ["_law_script"] (defScope s_law) := ⟨rfl, rfl, rfl, by decide +kernel, rfl, by decide +kernel, by decide +kernel⟩
structure Ad where
  CG : Addr
  fG : Addr
  CK : Addr
  fK : Addr
  CB : Addr
  fB : Addr
  CM : Addr
  fM : Addr
  CN : Addr
  fN : Addr
  CD : Addr
  fD : Addr
  CA : Addr
  fA : Addr
  CF : Addr
  fF : Addr
  CQ : Addr
structure Txt (K : PySem.W.Frag) (mg : Str → Option Value) (A : Ad) : Prop where
  m_isinstance : mg "isinstance" = none
  m_int : mg "int" = none
  m_bool : mg "bool" = none
  m_str : mg "str" = none
  m_list : mg "list" = none
  m_len : mg "len" = none
  m_max : mg "max" = none
  m_min : mg "min" = none
  m_range : mg "range" = none
  m_all : mg "all" = none
  m_enumerate : mg "enumerate" = none
  m_repr : mg "repr" = none
  c_MOST_WAITING : ∃ u, mg "MOST_WAITING" = some u ∧ RelV (.int 60) u
  m_ValueError : mg "ValueError" = none
  m_LookupError : mg "LookupError" = none
  m_KeyError : mg "KeyError" = none
  g_GuestError : mg "GuestError" = some (.ref A.CG)
  rd_GuestError : PySem.W.readsIn K A.CG (.type "type") = true
  ga_GuestError : PySem.W.specialIn K (.ref A.CG) "__getattribute__" = some (some (.builtin "type.__getattribute__"))
  at_GuestError : PySem.W.findCls K (.ref A.CG) (.type "type") "__init__" = some (.val (.ref A.fG))
  g_Missing : mg "Missing" = some (.ref A.CK)
  rd_Missing : PySem.W.readsIn K A.CK (.type "type") = true
  ga_Missing : PySem.W.specialIn K (.ref A.CK) "__getattribute__" = some (some (.builtin "type.__getattribute__"))
  at_Missing : PySem.W.findCls K (.ref A.CK) (.type "type") "__init__" = some (.val (.ref A.fK))
  g_Barred : mg "Barred" = some (.ref A.CB)
  rd_Barred : PySem.W.readsIn K A.CB (.type "type") = true
  ga_Barred : PySem.W.specialIn K (.ref A.CB) "__getattribute__" = some (some (.builtin "type.__getattribute__"))
  at_Barred : PySem.W.findCls K (.ref A.CB) (.type "type") "__init__" = some (.val (.ref A.fB))
  vV : PySem.W.findCls K (.type "ValueError") (.type "type") "__init__" = some (.val (.builtin "ValueError.__init__"))
  vL : PySem.W.findCls K (.type "LookupError") (.type "type") "__init__" = some (.val (.builtin "LookupError.__init__"))
  vK : PySem.W.findCls K (.type "KeyError") (.type "type") "__init__" = some (.val (.builtin "KeyError.__init__"))
  g_NoNumber : mg "NoNumber" = some (.ref A.CM)
  xM : ExcA K .ve "found" A.CM A.fM
  g_NoName : mg "NoName" = some (.ref A.CN)
  xN : ExcA K .ve "found" A.CN A.fN
  g_Doubled : mg "Doubled" = some (.ref A.CD)
  xD : ExcA K .ve "found" A.CD A.fD
  g_NoAsk : mg "NoAsk" = some (.ref A.CA)
  xA : ExcA K .ke "found" A.CA A.fA
  g_Full : mg "Full" = some (.ref A.CF)
  xF : ExcA K .le "many" A.CF A.fF
  eNN : PySem.W.exmOne K (.ref A.CN) (.ref A.CN) = some true
  eMN : PySem.W.exmOne K (.ref A.CM) (.ref A.CN) = some false
  eMM : PySem.W.exmOne K (.ref A.CM) (.ref A.CM) = some true
  eDN : PySem.W.exmOne K (.ref A.CD) (.ref A.CN) = some false
  eDM : PySem.W.exmOne K (.ref A.CD) (.ref A.CM) = some false
  eDD : PySem.W.exmOne K (.ref A.CD) (.ref A.CD) = some true
  eAN : PySem.W.exmOne K (.ref A.CA) (.ref A.CN) = some false
  eAM : PySem.W.exmOne K (.ref A.CA) (.ref A.CM) = some false
  eAD : PySem.W.exmOne K (.ref A.CA) (.ref A.CD) = some false
  eAA : PySem.W.exmOne K (.ref A.CA) (.ref A.CA) = some true
  eFN : PySem.W.exmOne K (.ref A.CF) (.ref A.CN) = some false
  eFM : PySem.W.exmOne K (.ref A.CF) (.ref A.CM) = some false
  eFD : PySem.W.exmOne K (.ref A.CF) (.ref A.CD) = some false
  eFA : PySem.W.exmOne K (.ref A.CF) (.ref A.CA) = some false
  eFF : PySem.W.exmOne K (.ref A.CF) (.ref A.CF) = some true
  kNG : PySem.W.kitOne K (.ref A.CN) (.ref A.CG) = some true
  kNK : PySem.W.kitOne K (.ref A.CN) (.ref A.CK) = some false
  kNB : PySem.W.kitOne K (.ref A.CN) (.ref A.CB) = some false
  kMG : PySem.W.kitOne K (.ref A.CM) (.ref A.CG) = some true
  kMK : PySem.W.kitOne K (.ref A.CM) (.ref A.CK) = some false
  kMB : PySem.W.kitOne K (.ref A.CM) (.ref A.CB) = some false
  kDG : PySem.W.kitOne K (.ref A.CD) (.ref A.CG) = some true
  kDK : PySem.W.kitOne K (.ref A.CD) (.ref A.CK) = some false
  kDB : PySem.W.kitOne K (.ref A.CD) (.ref A.CB) = some false
  kAG : PySem.W.kitOne K (.ref A.CA) (.ref A.CG) = some false
  kAK : PySem.W.kitOne K (.ref A.CA) (.ref A.CK) = some true
  kAB : PySem.W.kitOne K (.ref A.CA) (.ref A.CB) = some false
  kFG : PySem.W.kitOne K (.ref A.CF) (.ref A.CG) = some false
  kFK : PySem.W.kitOne K (.ref A.CF) (.ref A.CK) = some false
  kFB : PySem.W.kitOne K (.ref A.CF) (.ref A.CB) = some true
  cl_Queue : Cls K A.CQ
  na_asks : NoAttr K A.CQ "_asks"
  na_row : NoAttr K A.CQ "_row"
section
variable {K : PySem.W.Frag} {mg : Str → Option Value} {A : Ad}
theorem Txt.nf_NoNumber (T : Txt K mg A) : PySem.W.findIn K (.ref A.CM) "found" = some none := T.xM.nf
theorem Txt.nf_NoName (T : Txt K mg A) : PySem.W.findIn K (.ref A.CN) "found" = some none := T.xN.nf
theorem Txt.nf_Doubled (T : Txt K mg A) : PySem.W.findIn K (.ref A.CD) "found" = some none := T.xD.nf
theorem Txt.nf_NoAsk (T : Txt K mg A) : PySem.W.findIn K (.ref A.CA) "found" = some none := T.xA.nf
theorem Txt.nf_Full (T : Txt K mg A) : PySem.W.findIn K (.ref A.CF) "many" = some none := T.xF.nf
theorem Txt.ox_NoNumber (T : Txt K mg A) : OexT K .ve A.CM := T.xM.ox
theorem Txt.i_NoNumber (T : Txt K mg A) : PySem.W.findIn K (.ref A.CM) "__init__" = some (some (.ref A.fM)) := T.xM.i
theorem Txt.t_NoNumber (T : Txt K mg A) : PySem.W.typeIn K (.ref A.fM) = some (.type "function") := T.xM.t
theorem Txt.ox_NoName (T : Txt K mg A) : OexT K .ve A.CN := T.xN.ox
theorem Txt.i_NoName (T : Txt K mg A) : PySem.W.findIn K (.ref A.CN) "__init__" = some (some (.ref A.fN)) := T.xN.i
theorem Txt.t_NoName (T : Txt K mg A) : PySem.W.typeIn K (.ref A.fN) = some (.type "function") := T.xN.t
theorem Txt.ox_Doubled (T : Txt K mg A) : OexT K .ve A.CD := T.xD.ox
theorem Txt.i_Doubled (T : Txt K mg A) : PySem.W.findIn K (.ref A.CD) "__init__" = some (some (.ref A.fD)) := T.xD.i
theorem Txt.t_Doubled (T : Txt K mg A) : PySem.W.typeIn K (.ref A.fD) = some (.type "function") := T.xD.t
theorem Txt.ox_NoAsk (T : Txt K mg A) : OexT K .ke A.CA := T.xA.ox
theorem Txt.i_NoAsk (T : Txt K mg A) : PySem.W.findIn K (.ref A.CA) "__init__" = some (some (.ref A.fA)) := T.xA.i
theorem Txt.t_NoAsk (T : Txt K mg A) : PySem.W.typeIn K (.ref A.fA) = some (.type "function") := T.xA.t
theorem Txt.ox_Full (T : Txt K mg A) : OexT K .le A.CF := T.xF.ox
theorem Txt.i_Full (T : Txt K mg A) : PySem.W.findIn K (.ref A.CF) "__init__" = some (some (.ref A.fF)) := T.xF.i
theorem Txt.t_Full (T : Txt K mg A) : PySem.W.typeIn K (.ref A.fF) = some (.type "function") := T.xF.t
end
/-- all signs lie within -/
def allW (f l : Nat) (z : Str) : Bool := z.cps.toList.all fun c => decide (f ≤ c) && decide (c ≤ l)
def spAllW : Sp := fun vs H Q _ => ∃ (z F L : Str) (f l : Nat), vs = [.str z, .str F, .str L] ∧ F.cps.toList = [f] ∧ L.cps.toList = [l] ∧ z.length ≤ 1000 ∧ ∀ H', Same H H' → Q (.bl (allW f l z)) H'
def nameOk (z : Str) : Bool := decide (1 ≤ z.length ∧ z.length ≤ 8) && allW 97 122 z
def spName (K : PySem.W.Frag) : Sp := fun vs H Q _ => ∃ x : V, vs = [x] ∧ ((∃ z : Str, x = .str z ∧ z.length ≤ 1000 ∧ ∀ H', Same H H' → Q (.bl (nameOk z)) H') ∨ (IsA K H x "str" false ∧ Q (.bl false) H))
def spCkName : Sp := fun vs H Q _ => ∃ z : Str, vs = [.str z] ∧ nameOk z = true ∧ ∀ H', Same H H' → Q .non H'
theorem str_of_name {x : Str} (h : nameOk x = true) : PyData.strOk x = true := by
  have h2 := (Bool.and_eq_true_iff.mp h).2
  unfold PyData.strOk
  rw [← Array.all_toList]
  refine List.all_eq_true.mpr fun c hc => decide_eq_true ?_
  have := List.all_eq_true.mp h2 c hc
  rw [Bool.and_eq_true] at this
  have := of_decide_eq_true this.2
  omega
theorem len_of_name {x : Str} (h : nameOk x = true) : 1 ≤ x.length ∧ x.length ≤ 8 := of_decide_eq_true (Bool.and_eq_true_iff.mp h).1
/-! ### a Queue -/
/-- at o: a Queue whose asks, at la, are as (their tuples at ts), and whose row, at lr, is row -/
structure Qu (C : Addr) (n : Nat) (H : Hp) (o la lr : Addr) (ts : List Addr) (as : List (Str × Nat)) (row : List Str) : Prop where
  ob : ∃ dx fs, H o = some (.ins C dx fs) ∧ fs.lookup ("_asks" : Str) = some (.ref la) ∧ fs.lookup ("_row" : Str) = some (.ref lr) ∧ fs.length ≤ n ∧ ∀ m : Str, (m == ("_asks" : Str)) = false → (m == ("_row" : Str)) = false → fs.lookup m = none
  al : AL H la ts as
  rw_ : H lr = some (.lst (row.map V.str))
  ne : la ≠ lr
  ok : ∀ p ∈ as, nameOk p.1 = true
  small : as.length ≤ 60
  nd : row.Nodup
  mem : ∀ x, x ∈ row ↔ ∃ i, (x, i) ∈ as
def spQuInit (A : Ad) : Sp := fun vs H Q _ => ∃ (x dx : Addr), vs = [.ref x] ∧ H x = some (.ins A.CQ dx []) ∧ ∀ (la lr : Addr) H', But x H H' → Qu A.CQ 2 H' x la lr [] [] [] → H la = none → H lr = none → Q .non H'
/-- the numbers of a guest's asks -/
def ofN (as : List (Str × Nat)) (x : Str) : List Nat := as.filterMap fun p => if p.1 = x then some p.2 else none
/-- a Queue, but for its row -/
structure Qa (C : Addr) (H : Hp) (o la : Addr) (ts : List Addr) (as : List (Str × Nat)) : Prop where
  ob : ∃ dx fs, H o = some (.ins C dx fs) ∧ fs.lookup ("_asks" : Str) = some (.ref la)
  al : AL H la ts as
  ok : ∀ p ∈ as, nameOk p.1 = true
  small : as.length ≤ 60
theorem Qa.same {C : Addr} {H H' : Hp} {o la : Addr} {ts : List Addr} {as : List (Str × Nat)} (q : Qa C H o la ts as) (s : Same H H') : Qa C H' o la ts as := by
  obtain ⟨dx, fs, e, h1⟩ := q.ob
  exact ⟨⟨dx, fs, s _ _ e, h1⟩, q.al.same s, q.ok, q.small⟩
theorem Qu.qa {C : Addr} {n : Nat} {H : Hp} {o la lr : Addr} {ts : List Addr} {as : List (Str × Nat)} {row : List Str} (q : Qu C n H o la lr ts as row) : Qa C H o la ts as := by
  obtain ⟨dx, fs, e, h1, _⟩ := q.ob
  exact ⟨⟨dx, fs, e, h1⟩, q.al, q.ok, q.small⟩
def spOf (A : Ad) : Sp := fun vs H Q _ => ∃ (o la : Addr) (ts : List Addr) (as : List (Str × Nat)) (x : Str), vs = [.ref o, .str x] ∧ Qa A.CQ H o la ts as ∧ nameOk x = true ∧
  ∀ p H', H p = none → Same H H' → H' p = some (.lst ((ofN as x).map fun (i : Nat) => V.int i)) → Q (.ref p) H'
def spLenQ (A : Ad) : Sp := fun vs H Q _ => ∃ (o la lr : Addr) (n : Nat) (ts : List Addr) (as : List (Str × Nat)) (row : List Str), vs = [.ref o] ∧ Qu A.CQ n H o la lr ts as row ∧ Q (.int as.length) H
def spWaiting (A : Ad) : Sp := fun vs H Q _ => ∃ (o la lr : Addr) (n : Nat) (ts : List Addr) (as : List (Str × Nat)) (row : List Str), vs = [.ref o] ∧ Qu A.CQ n H o la lr ts as row ∧ ∀ p H', H p = none → Same H H' → AL H' p ts as → Q (.ref p) H'
def spPut (A : Ad) : Sp := fun vs H Q _ => ∃ (o la lr : Addr) (n : Nat) (ts : List Addr) (as : List (Str × Nat)) (row : List Str) (x : Str) (i : Nat), vs = [.ref o, .str x, .int i] ∧ Qu A.CQ n H o la lr ts as row ∧ nameOk x = true ∧ (x, i) ∉ as ∧ as.length < 60 ∧
  ∀ t H', H t = none → (∀ b u, b ≠ la → b ≠ lr → H b = some u → H' b = some u) → Qu A.CQ n H' o la lr (ts ++ [t]) (as ++ [(x, i)]) (if x ∈ row then row else row ++ [x]) → Q .non H'
theorem Qu.same {C : Addr} {n : Nat} {H H' : Hp} {o la lr : Addr} {ts : List Addr} {as : List (Str × Nat)} {row : List Str} (q : Qu C n H o la lr ts as row) (s : Same H H') : Qu C n H' o la lr ts as row := by
  obtain ⟨dx, fs, e, h1, h2, h3⟩ := q.ob
  exact ⟨⟨dx, fs, s _ _ e, h1, h2, h3⟩, q.al.same s, s _ _ q.rw_, q.ne, q.ok, q.small, q.nd, q.mem⟩
theorem Qu.ao {C : Addr} {n : Nat} {H : Hp} {o la lr : Addr} {ts : List Addr} {as : List (Str × Nat)} {row : List Str} (q : Qu C n H o la lr ts as row) : asOk as := fun p hp => str_of_name (q.ok p hp)
theorem nd_le {α : Type} [DecidableEq α] : ∀ {l m : List α}, l.Nodup → (∀ x ∈ l, x ∈ m) → l.length ≤ m.length
  | [], _, _, _ => Nat.zero_le _
  | a :: r, m, h, s => by
    have h2 := List.nodup_cons.mp h
    have z := nd_le (l := r) (m := m.erase a) h2.2 fun x hx => (List.mem_erase_of_ne (fun e => h2.1 (by rw [← e]; exact hx))).mpr (s x (List.mem_cons_of_mem _ hx))
    have ha := s a List.mem_cons_self
    rw [List.length_erase_of_mem ha] at z
    have : 0 < m.length := List.length_pos_of_mem ha
    rw [List.length_cons]
    omega
theorem Qu.rlen {C : Addr} {n : Nat} {H : Hp} {o la lr : Addr} {ts : List Addr} {as : List (Str × Nat)} {row : List Str} (q : Qu C n H o la lr ts as row) : row.length ≤ as.length := by
  have z := nd_le (m := as.map (·.1)) q.nd fun x hx => by
    obtain ⟨i, hi⟩ := (q.mem x).mp hx
    exact List.mem_map.mpr ⟨_, hi, rfl⟩
  rwa [List.length_map] at z
theorem inV_str {x : Str} {row : List Str} : inV (.str x) (row.map V.str) = decide (x ∈ row) := by
  unfold inV
  rw [List.any_map]
  induction row with
  | nil => exact (decide_eq_false (fun z => nomatch z)).symm
  | cons y r ih =>
    rw [List.any_cons, ih]
    show (decide (_ = _) || _) = _
    by_cases h : x = y
    · subst h
      rw [decide_eq_true rfl, Bool.true_or, decide_eq_true List.mem_cons_self]
    · rw [decide_eq_false (fun z => h (by first | exact z.symm | (injection z with z; first | exact z | exact z.symm))), Bool.false_or]
      exact decide_eq_decide.mpr ⟨List.mem_cons_of_mem _, fun z => (List.mem_cons.mp z).elim (fun w => absurd w h) id⟩
/-- what is left of the row when the first one's ask is served -/
def srvRow (as : List (Str × Nat)) (x : Str) (rest : List Str) : List Str := if 1 < (ofN as x).length then rest ++ [x] else rest
def spServe (A : Ad) : Sp := fun vs H Q _ => ∃ (o la lr : Addr) (n : Nat) (ts : List Addr) (as : List (Str × Nat)) (row : List Str), vs = [.ref o] ∧ Qu A.CQ n H o la lr ts as row ∧ (row = [] → Q .non H) ∧
  ∀ x rest i j t H', row = x :: rest → (ofN as x).head? = some i → as.findIdx? (fun q => decide (q = (x, i))) = some j → H t = none → (∀ b u, b ≠ la → b ≠ lr → H b = some u → H' b = some u) →
    Qu A.CQ n H' o la lr (ts.eraseIdx j) (as.eraseIdx j) (srvRow as x rest) → H' t = some (.tup [.str x, .int i]) → Q (.ref t) H'
theorem mem_ofN {as : List (Str × Nat)} {x : Str} {i : Nat} : i ∈ ofN as x ↔ (x, i) ∈ as := by
  unfold ofN
  rw [List.mem_filterMap]
  refine ⟨fun ⟨p, hp, e⟩ => ?_, fun h => ⟨_, h, if_pos rfl⟩⟩
  by_cases h : p.1 = x
  · rw [if_pos h] at e
    have := Option.some.inj e
    rw [← this, ← h]
    exact hp
  · rw [if_neg h] at e
    exact nomatch e
theorem erase_mem {α : Type} : ∀ {l : List α} {j : Nat} {a b : α}, l[j]? = some a → b ≠ a → (b ∈ l.eraseIdx j ↔ b ∈ l)
  | [], _, _, _, h, _ => nomatch h
  | c :: r, 0, a, b, h, n => by
    obtain rfl := Option.some.inj h
    show b ∈ r ↔ _
    exact ⟨List.mem_cons_of_mem _, fun z => (List.mem_cons.mp z).elim (fun w => absurd w n) id⟩
  | c :: r, j + 1, a, b, h, n => by
    show b ∈ c :: r.eraseIdx j ↔ _
    rw [List.mem_cons, List.mem_cons, erase_mem (l := r) (j := j) h n]
theorem ofN_erase {x : Str} {i : Nat} : ∀ {as : List (Str × Nat)} {j : Nat}, as[j]? = some (x, i) → (ofN (as.eraseIdx j) x).length + 1 = (ofN as x).length
  | [], _, h => nomatch h
  | c :: r, 0, h => by
    obtain rfl := Option.some.inj h
    show (ofN r x).length + 1 = _
    unfold ofN
    rw [List.filterMap_cons]
    simp
  | c :: r, j + 1, h => by
    have z := ofN_erase (as := r) (j := j) h
    show (ofN (c :: r.eraseIdx j) x).length + 1 = _
    unfold ofN at z ⊢
    rw [List.filterMap_cons, List.filterMap_cons]
    by_cases hc : c.1 = x
    · simp only [if_pos hc, List.length_cons]
      omega
    · simp only [if_neg hc]
      exact z
theorem rng_get {α : Type} (d : α) (l : List α) : (List.range l.length).map (fun i => l.getD i d) = l := by
  refine List.ext_getElem (by rw [List.length_map, List.length_range]) fun i h1 h2 => ?_
  rw [List.getElem_map, List.getElem_range, List.getD_eq_getElem?_getD, List.getElem?_eq_getElem h2]
  rfl
theorem rng_fm {α β : Type} (d : α) (l : List α) (f : α → Option β) : (List.range l.length).filterMap (fun i => f (l.getD i d)) = l.filterMap f := by
  conv => rhs; rw [← rng_get d l]
  rw [List.filterMap_map]
  rfl
section
variable {K : PySem.W.Frag} {σ : L2.St} {H : Hp} {Q : VK} {j : Nat} {vs : List Nat} {tt : TT} {te tl : TE} {a : Addr} {xs : List V}
/-- a comprehension over a list, some left out -/
theorem lcLF (p : Nat → Option V) (hv : ∀ QQ : VK, QQ (.ref a) H → tl σ H QQ) (hs : SqL K H a xs) (hl : xs.length ≤ 10000) (hw : ∀ x, wipe ((wipe σ vs).set j (some x)) vs = wipe σ vs)
    (ht : ∀ (i : Nat) (y : V) (H1 : Hp) (Q' : VK) (R' : Hp → Prop), xs[i]? = some y → Same H H1 → (∀ v, p i = some v → ∀ H3, Same H1 H3 → Q' v H3) → (p i = none → ∀ H3, Same H1 H3 → R' H3) →
      tt ((wipe σ vs).set j (some y)) H1 fun b H4 => if b = true then te ((wipe σ vs).set j (some y)) H4 Q' else R' H4)
    (q : ∀ D H', H D = none → Same H H' → H' D = some (.lst ((List.range xs.length).filterMap p)) → Q (.ref D) H') : tLc (iList K tl) (gName j) tt te vs σ H Q := by
  refine hv _ ⟨a, rfl, ⟨xs, hs⟩, fun D hD => ?_⟩
  refine lc_by (g := gName j) (tt := tt) (te := te) (vs := vs) (σ := σ) (Q := Q) walk_list p hD hl (fun _ s => s.seq hs) (fun i x H1 H2 Q' R' hi sm y h1 h2 => ?_) fun H' s e => q D H' hD s e
  obtain ⟨rfl, hx⟩ := y
  exact ⟨hw _, ht i x _ Q' R' hx sm h1 h2⟩
end
end K22

namespace K22
open PySem PySem.Spec PyProof.Rows L2 Bk


section
variable {P : Program} {w : World} {K : PySem.W.Frag} {mg : Str → Option Value} {base : Heap} {A : Ad}
theorem ok_allW {f : Addr} {fd : FuncData} (F : Fun K "_all_within" "_all_within" s_all_within f fd) (T : Txt K mg A) : FnOk P w K mg base CX0 1 f fd ["text", "first", "last"] spAllW := by
  refine F.ok sc_all_within (fun vs H Q E h => ?_) (fun cdv A' outer s H vs Q E hr h => ⟨_, (pss_one (ps_ret (pe_callB (cr_all rfl) (by rfl) T.m_all (by decide +kernel) (pa_cons (pe_lc (own := [("sign", 3)]) rfl sc_all_within.nd (pi_str (pv 0)) (blkOk_by (N := ["text", "first", "last", "sign"]) (sc := defScope s_all_within) (by decide +kernel)) (fun _ _ _ _ _ => (pg_name (i := 3) sc_all_within.nd rfl (.inl rfl))) (fun _ _ _ _ _ => pts_nil) (fun _ _ _ _ _ => (pe_chain op_le_str op_le_str (pv 1) (pv 3) (pv 2)))) pa_nil)))), ?_⟩)
  · obtain ⟨z, F, L, f, l, rfl, _⟩ := h
    rfl
  · obtain ⟨z, F, L, f, l, rfl, hf, hl, hz, q⟩ := h
    refine r_ret (r_allStr (fun c => decide (f ≤ c) && decide (c ≤ l)) rfl (by omega) (fun _ => rfl) (fun c H' Q' _ _ k => ?_) q)
    walk_at "go"
    refine ⟨_, _, rfl, rfl, ?_⟩
    walk_at "go"
    rw [hf, sign_tl, lt1]
    have k' := k H' (Same.refl _)
    by_cases h1 : c < f
    · rw [decide_eq_true h1]
      rw [decide_eq_false (by omega : ¬ f ≤ c)] at k'
      exact k'
    · rw [decide_eq_false h1]
      rw [decide_eq_true (by omega : f ≤ c), Bool.true_and] at k'
      walk_at "go"
      refine ⟨_, _, rfl, rfl, ?_⟩
      rw [hl, sign_tl, lt1, show (!decide (l < c)) = decide (c ≤ l) by by_cases h2 : l < c <;> simp [h2] <;> omega]
      exact k'
theorem ok_name {f : Addr} {fd : FuncData} (F : Fun K "is_name" "is_name" s_is_name f fd) (T : Txt K mg A) (c_all_within : CalD P w K mg base CX0 1 "_all_within" spAllW []) : FnOk P w K mg base CX0 2 f fd ["thing"] (spName K) := by
  refine F.ok sc_is_name (fun vs H Q E h => ?_) (fun cdv A' outer s H vs Q E hr h => ⟨_, (pss_one (ps_ret (pe_and (pe_callB call_is (by rfl) T.m_isinstance (by decide +kernel) (pa_cons (pv 0) (pa_cons (pe_bltn (v := .ty "str") (by rfl) T.m_str (by decide +kernel) rfl) pa_nil))) (pe_and (pe_chain op_le op_le pe_int (pe_callB call_len_str (by rfl) T.m_len (by decide +kernel) (pa_cons (pv 0) pa_nil)) pe_int) (pe_one (pe_cal c_all_within hr (by decide) (by rfl) (pa_cons (pv 0) (pa_cons pe_str (pa_cons pe_str pa_nil))))))))), ?_⟩)
  · obtain ⟨x, rfl, _⟩ := h
    rfl
  · obtain ⟨x, rfl, hx⟩ := h
    walk_at "go"
    rcases hx with ⟨z, rfl, hz, q⟩ | ⟨hx, q⟩
    · refine r_is (isa_str (b := true)) ?_
      walk_at "go"
      refine ⟨z, rfl, Nat.le_trans hz (by decide), ?_⟩
      walk_at "go"
      unfold nameOk at q
      refine ite2 (fun e => ?_) (fun e => ?_)
      · walk_at "go"
        refine ite2 (fun e2 => ?_) (fun e2 => ?_)
        · walk_at "go"
          have e1 := of_decide_eq_true e
          have e3 := of_decide_eq_true e2
          rw [decide_eq_true (by omega : 1 ≤ z.length ∧ z.length ≤ 8), Bool.true_and] at q
          exact ⟨z, _, _, 97, 122, rfl, rfl, rfl, hz, q⟩
        · have e3 := of_decide_eq_false (Bool.eq_false_iff.mpr e2)
          rw [decide_eq_false (by omega : ¬ (1 ≤ z.length ∧ z.length ≤ 8)), Bool.false_and] at q
          walk_at "go"
          exact q _ (Same.refl _)
      · have e3 := of_decide_eq_false (Bool.eq_false_iff.mpr e)
        rw [decide_eq_false (by omega : ¬ (1 ≤ z.length ∧ z.length ≤ 8)), Bool.false_and] at q
        walk_at "go"
        exact q _ (Same.refl _)
    · refine r_is hx ?_
      walk_at "go"
      exact q
theorem ok_count {f : Addr} {fd : FuncData} (F : Fun K "is_count" "is_count" s_is_count f fd) (T : Txt K mg A) : FnOk P w K mg base CX0 1 f fd ["thing"] (spCount K) := by
  refine F.ok sc_is_count (fun vs H Q E h => ?_) (fun cdv A' outer s H vs Q E hr h => ⟨_, (pss_one (ps_ret (pe_and (pe_callB call_is (by rfl) T.m_isinstance (by decide +kernel) (pa_cons (pv 0) (pa_cons (pe_bltn (v := .ty "int") (by rfl) T.m_int (by decide +kernel) rfl) pa_nil))) (pe_and (pe_not (pe_callB call_is (by rfl) T.m_isinstance (by decide +kernel) (pa_cons (pv 0) (pa_cons (pe_bltn (v := .ty "bool") (by rfl) T.m_bool (by decide +kernel) rfl) pa_nil)))) (pe_one (pe_cmpR op_ge (pv 0) pe_int (nomark _))))))), ?_⟩)
  · obtain ⟨x, rfl, _⟩ := h
    rfl
  · obtain ⟨x, rfl, hx, q⟩ := h
    walk_at "go"
    rcases hx with ⟨i, rfl⟩ | ⟨b, rfl⟩ | ⟨hx, _, hn⟩
    · refine r_is (isa_int (b := true)) ?_
      walk_at "go"
      refine r_is (isa_int (b := false)) ?_
      walk_at "go"
      exact q
    · refine r_is (isa_bl (b := true)) ?_
      walk_at "go"
      refine r_is (isa_bl (b := true)) ?_
      walk_at "go"
      exact q
    · refine r_is hx ?_
      walk_at "go"
      rw [hn] at q
      exact q
theorem ok_ckn {f : Addr} {fd fdN : FuncData} (F : Fun K "check_name" "check_name" s_check_name f fd) (T : Txt K mg A) (c_is_name : CalD P w K mg base CX0 2 "is_name" (spName K) [])
    (c_NoName_init : Own P w K mg base CX0 2 A.fN fdN ["self", "found"] (spInitN "found" A.CN)) : FnOk P w K mg base (L2.CX P w) 4 f fd ["thing"] spCkName := by
  refine F.okX sc_check_name (fun vs H Q E h => ?_) (fun cdv A' outer s H vs Q E hr h => ⟨_, (pss_one (ps_if (pt_not (pt_val (pe_cal c_is_name hr (by decide) (by rfl) (pa_cons (pv 0) pa_nil)))) (pss_one (ps_raise rfl (takes_of rfl rfl rfl rfl) (pmk_oexT T.ox_NoName T.i_NoName T.t_NoName c_NoName_init.ok (hr.mono (by decide)) c_NoName_init.bd .nil pass0 (by rfl) T.g_NoName (pa_cons (pv 0) pa_nil)))) pss_nil)), ?_⟩)
  · obtain ⟨z, rfl, _⟩ := h
    rfl
  · obtain ⟨z, rfl, hz, q⟩ := h
    walk_at "go"
    refine ⟨_, rfl, .inl ⟨z, rfl, by have := (len_of_name hz).2; omega, fun H1 s1 => ?_⟩⟩
    rw [hz]
    walk_at "go"
    exact q _ s1
/-! ### the Queue's methods -/
theorem units65 {k : Nat} {A : Around} (r : Room k A) : A.units + 65 < cLine := by
  have := r.un
  omega
theorem ok_len {f : Addr} {fd : FuncData} (F : Fun K "__len__" "Queue.__len__" s_Queue_len f fd) (T : Txt K mg A) : FnOk P w K mg base CX0 1 f fd ["self"] (spLenQ A) := by
  refine F.ok sc_Queue_len (fun vs H Q E h => ?_) (fun cdv A' outer s H vs Q E hr h => ⟨_, (pss_one (ps_ret (pe_callB call_len_seq (by rfl) T.m_len (by decide +kernel) (pa_cons (pe_fld (pv 0) rfl) pa_nil)))), ?_⟩)
  · obtain ⟨o, la, lr, n, ts, as, row, rfl, _⟩ := h
    rfl
  · obtain ⟨o, la, lr, n, ts, as, row, rfl, hQ, q⟩ := h
    obtain ⟨dx, fs, e, hA, hR, hn⟩ := hQ.ob
    walk_at "go"
    refine ⟨_, rfl, o, A.CQ, dx, fs, _, rfl, e, T.cl_Queue, T.na_asks, hA, ?_⟩
    walk_at "go"
    refine ⟨la, _, rfl, .inl (sqL hQ.al.at_), ?_⟩
    rw [List.length_map, hQ.al.len]
    exact q
theorem ok_put {f fD2 fF2 : Addr} {fd fdD fdF : FuncData} (F : Fun K "put" "Queue.put" s_Queue_put f fd) (T : Txt K mg A) (c_check_name : CalX P w K mg base 4 "check_name" spCkName) (c_check_count : CalX P w K mg base 4 "_check_count" (spCheckC K A.CM)) (c_Doubled_init : Own P w K mg base CX0 2 A.fD fdD ["self", "found"] (spInitN "found" A.CD)) (c_Full_init : Own P w K mg base CX0 2 A.fF fdF ["self", "many"] (spInitN "many" A.CF)) : FnOk P w K mg base (L2.CX P w) 5 f fd ["self", "name", "number"] (spPut A) := by
  refine F.okX sc_Queue_put (fun vs H Q E h => ?_) (fun cdv A' outer s H vs Q E hr h => have hu65 := units65 hr; ⟨_, (pss_cons (ps_expr (pe_calX c_check_name hr (by decide) (by rfl) (takes_of rfl rfl rfl rfl) (pa_cons (pv 1) pa_nil)))
    (pss_cons (ps_expr (pe_calX c_check_count hr (by decide) (by rfl) (takes_of rfl rfl rfl rfl) (pa_cons (pv 2) pa_nil)))
    (pss_cons (ps_if (pt_cmpR (op_inD hu65) (pe_tup (pa_cons (pv 1) (pa_cons (pv 2) pa_nil))) (pe_fld (pv 0) rfl) (by rfl)) (pss_one (ps_raise rfl (takes_of rfl rfl rfl rfl) (pmk_oexT T.ox_Doubled T.i_Doubled T.t_Doubled c_Doubled_init.ok (hr.mono (by decide)) c_Doubled_init.bd .nil pass0 (by rfl) T.g_Doubled (pa_cons (pe_tup (pa_cons (pv 1) (pa_cons (pv 2) pa_nil))) pa_nil)))) pss_nil)
    (pss_cons (ps_if (pt_cmpR op_eq (pe_callB call_len_seq (by rfl) T.m_len (by decide +kernel) (pa_cons (pe_fld (pv 0) rfl) pa_nil)) (C8.pe_gc (by rfl) T.c_MOST_WAITING) (nomark _)) (pss_one (ps_raise rfl (takes_of rfl rfl rfl rfl) (pmk_oexT T.ox_Full T.i_Full T.t_Full c_Full_init.ok (hr.mono (by decide)) c_Full_init.bd .nil pass0 (by rfl) T.g_Full (pa_cons (C8.pe_gc (by rfl) T.c_MOST_WAITING) pa_nil)))) pss_nil)
    (pss_cons (ps_expr (pe_bm PySem.F.plainAttrs_list PySem.F.slot_list_append PySem.F.type_list_append mt_append (pe_fld (pv 0) rfl) (pa_cons (pe_tup (pa_cons (pv 1) (pa_cons (pv 2) pa_nil))) pa_nil)))
    (pss_one (ps_if (pt_cmpR op_notIn_seq (pv 1) (pe_fld (pv 0) rfl) (by rfl)) (pss_one (ps_expr (pe_bm PySem.F.plainAttrs_list PySem.F.slot_list_append PySem.F.type_list_append mt_append (pe_fld (pv 0) rfl) (pa_cons (pv 1) pa_nil)))) pss_nil))))))), ?_⟩)
  · obtain ⟨o, la, lr, n, ts, as, row, x, i, rfl, _⟩ := h
    rfl
  · obtain ⟨o, la, lr, n, ts, as, row, x, i, rfl, hQ, hx, nin, hl, q⟩ := h
    obtain ⟨dx, fs, e, hA, hR, hn⟩ := hQ.ob
    walk_at "go"
    refine ⟨x, rfl, hx, fun H1 s1 => ?_⟩
    have hQ1 := hQ.same s1
    have e1 := s1 _ _ e
    walk_at "go"
    refine ⟨_, rfl, .inl ⟨_, rfl⟩, .inl ⟨count_int (by omega), ?_⟩⟩
    walk_at "go"
    refine newT fun t2 H2 n2 s2 e2 => ?_
    walk_at "go"
    refine ⟨_, rfl, o, A.CQ, dx, fs, _, rfl, s2 _ _ e1, T.cl_Queue, T.na_asks, hA, ?_⟩
    have hQ2 := hQ1.same s2
    refine hQ2.al.mem (p := (x, i)) hQ2.ao (str_of_name hx) (dp_ask e2) ?_
    rw [decide_eq_false nin]
    walk_at "go"
    refine ⟨_, rfl, o, A.CQ, dx, fs, _, rfl, s2 _ _ e1, T.cl_Queue, T.na_asks, hA, ?_⟩
    walk_at "go"
    refine ⟨la, _, rfl, .inl (sqL hQ2.al.at_), ?_⟩
    rw [List.length_map, hQ2.al.len]
    walk_at "go"
    refine iteDn (by intro z; injection z with z; omega) ?_
    walk_at "go"
    refine ⟨_, rfl, o, A.CQ, dx, fs, _, rfl, s2 _ _ e1, T.cl_Queue, T.na_asks, hA, ?_⟩
    refine ⟨.inl ⟨rfl, _, sqL hQ2.al.at_⟩, ?_⟩
    walk_at "go"
    refine newT fun t H3 n3 s3 e3 => ?_
    walk_at "go"
    have hQ3 := hQ2.same s3
    refine ⟨la, _, _, rfl, rfl, hQ3.al.at_, by rw [List.length_map, hQ3.al.len, sizeLine_eq]; omega, ?_⟩
    have hP := hQ3.al.push (p := (x, i)) e3
    have nel : la ≠ o := fun z => by rw [← z, hQ.al.at_] at e; exact nomatch e
    have nlr : lr ≠ la := hQ.ne.symm
    have e4 : upd H3 la (.lst (ts.map V.ref ++ [.ref t])) o = some (.ins A.CQ dx fs) := by
      rw [upd_ne nel.symm]
      exact s3 _ _ (s2 _ _ e1)
    have r4 : upd H3 la (.lst (ts.map V.ref ++ [.ref t])) lr = some (.lst (row.map V.str)) := by
      rw [upd_ne nlr]
      exact hQ3.rw_
    have ok4 : ∀ p ∈ as ++ [(x, i)], nameOk p.1 = true := fun p hp => (List.mem_append.mp hp).elim (hQ.ok p) fun z => by
      rw [List.mem_singleton.mp z]
      exact hx
    have fr4 : ∀ b u, b ≠ la → H b = some u → upd H3 la (.lst (ts.map V.ref ++ [.ref t])) b = some u := fun b u nb eb => by
      rw [upd_ne nb]
      exact s3 _ _ (s2 _ _ (s1 _ _ eb))
    have nt : H t = none := ((s1.trans s2).free n3)
    generalize upd H3 la (.lst (ts.map V.ref ++ [.ref t])) = H4 at hP e4 r4 fr4 ⊢
    walk_at "go"
    refine ⟨_, rfl, o, A.CQ, dx, fs, _, rfl, e4, T.cl_Queue, T.na_row, hR, ?_⟩
    refine ⟨lr, _, rfl, .inl (sqL r4), rfl, by rw [List.all_map]; exact List.all_eq_true.mpr fun _ _ => rfl, ?_⟩
    walk_at "go"
    have hm : ∀ (row2 : List Str), (∀ y, y ∈ row2 ↔ y ∈ row ∨ y = x) → ∀ y, y ∈ row2 ↔ ∃ j, (y, j) ∈ as ++ [(x, i)] := fun row2 h y => by
      rw [h y]
      refine ⟨fun z => ?_, fun ⟨j, z⟩ => ?_⟩
      · rcases z with z | rfl
        · obtain ⟨j, hj⟩ := (hQ.mem y).mp z
          exact ⟨j, List.mem_append_left _ hj⟩
        · exact ⟨i, List.mem_append_right _ List.mem_cons_self⟩
      · rcases List.mem_append.mp z with z | z
        · exact .inl ((hQ.mem y).mpr ⟨j, z⟩)
        · exact .inr (Prod.mk.inj (List.mem_singleton.mp z)).1
    have sm : (as ++ [(x, i)]).length ≤ 60 := by
      rw [List.length_append]
      exact hl
    rw [if_pos rfl, inV_str]
    by_cases hin : x ∈ row
    · rw [decide_eq_true hin]
      walk_at "go"
      have z := q t H4 nt (fun b u n1 n2 eb => fr4 b u n1 eb)
      rw [if_pos hin] at z
      exact z ⟨⟨dx, fs, e4, hA, hR, hn⟩, hP, r4, hQ.ne, ok4, sm, hQ.nd, hm row fun y => ⟨.inl, fun w => w.elim id fun w => by rw [w]; exact hin⟩⟩
    · rw [decide_eq_false hin]
      walk_at "go"
      refine ⟨_, rfl, o, A.CQ, dx, fs, _, rfl, e4, T.cl_Queue, T.na_row, hR, ?_⟩
      refine ⟨.inl ⟨rfl, _, sqL r4⟩, ?_⟩
      walk_at "go"
      have hrl := hQ.rlen
      refine ⟨lr, _, _, rfl, rfl, r4, by rw [List.length_map, sizeLine_eq]; omega, ?_⟩
      have z := q t (upd H4 lr (.lst (row.map V.str ++ [.str x]))) nt (fun b u n1 n2 eb => by rw [upd_ne n2]; exact fr4 b u n1 eb)
      rw [if_neg hin] at z
      have nlo : lr ≠ o := fun z => by rw [z, e4] at r4; exact nomatch r4
      refine z ⟨⟨dx, fs, by rw [upd_ne nlo.symm]; exact e4, hA, hR, hn⟩, ?_, by rw [upd_same, List.map_append]; rfl, hQ.ne, ok4, sm, ?_, hm _ fun y => by rw [List.mem_append, List.mem_singleton]⟩
      · refine hP.keep (upd_ne hQ.ne) fun u hu => upd_ne fun z => ?_
        obtain ⟨xs, w⟩ := hP.tup u hu
        rw [z, r4] at w
        exact nomatch w
      · exact List.nodup_append.mpr ⟨hQ.nd, List.pairwise_singleton _ _, fun a ha b hb => by
          rw [List.mem_singleton.mp hb]
          exact fun z => hin (by rw [← z]; exact ha)⟩
end
end K22

namespace K22
open PySem PySem.Spec PyProof.Rows L2 Bk


section
variable {P : Program} {w : World} {K : PySem.W.Frag} {mg : Str → Option Value} {base : Heap} {A : Ad}
theorem ok_of {f : Addr} {fd : FuncData} (F : Fun K "of" "Queue.of" s_Queue_of f fd) (T : Txt K mg A) (c_check_name : CalX P w K mg base 4 "check_name" spCkName) : FnOk P w K mg base (L2.CX P w) 5 f fd ["self", "name"] (spOf A) := by
  refine F.okX sc_Queue_of (fun vs H Q E h => ?_) (fun cdv A' outer s H vs Q E hr h => ⟨_, (pss_cons (ps_expr (pe_calX c_check_name hr (by decide) (by rfl) (takes_of rfl rfl rfl rfl) (pa_cons (pv 1) pa_nil)))
    (pss_one (ps_ret (pe_lc (own := [("ask", 2)]) rfl sc_Queue_of.nd (pi_list (pe_fld (pv 0) rfl)) (blkOk_by (N := ["self", "name", "ask"]) (sc := defScope s_Queue_of) (by decide +kernel)) (fun _ _ _ _ _ => (pg_name (i := 2) sc_Queue_of.nd rfl (.inl rfl))) (fun _ _ _ _ _ => pts_one (pt_cmpR op_eq (pe_ix (ix_tupK (K := K) rfl) (pv 2) pe_int (fun _ _ => rfl)) (pv 1) (nomark _))) (fun _ _ _ _ _ => (pe_ix (ix_tupK (K := K) rfl) (pv 2) pe_int (fun _ _ => rfl))))))), ?_⟩)
  · obtain ⟨o, la, ts, as, x, rfl, _⟩ := h
    rfl
  · obtain ⟨o, la, ts, as, x, rfl, hQ, hx, q⟩ := h
    obtain ⟨dx, fs, e, hA⟩ := hQ.ob
    walk_at "go"
    refine ⟨x, rfl, hx, fun H1 s1 => ?_⟩
    have hQ1 := hQ.same s1
    walk_at "go"
    refine lcLF (fun i => (fun (p : Str × Nat) => if p.1 = x then some (V.int (p.2 : Nat)) else none) (as.getD i ("", 0))) (fun QQ z => ⟨_, rfl, o, A.CQ, dx, fs, _, rfl, s1 _ _ e, T.cl_Queue, T.na_asks, hA, z⟩) (sqL hQ1.al.at_) (by rw [List.length_map, hQ1.al.len]; have := hQ.small; omega) (fun _ => rfl) (fun i y H2 Q' R' hy sm h1 h2 => ?_) fun D H2 nD s2 e2 => ?_
    · have hi : i < as.length := by
        have z := (List.getElem?_eq_some_iff.mp hy).1
        rw [List.length_map, hQ1.al.len] at z
        exact z
      have hti : i < ts.length := by rw [hQ1.al.len]; exact hi
      rw [List.getElem?_map, List.getElem?_eq_getElem hti] at hy
      obtain rfl := Option.some.inj hy
      have et := sm _ _ (hQ1.al.row i _ _ (List.getElem?_eq_getElem hti) (List.getElem?_eq_getElem hi))
      have hg : as.getD i ("", 0) = as[i] := by
        rw [List.getD_eq_getElem?_getD, List.getElem?_eq_getElem hi]
        rfl
      rw [hg] at h1 h2
      walk_at "go"
      refine r_ixT (sqT et) (v := .str as[i].1) rfl ?_
      walk_at "go"
      by_cases hp : as[i].1 = x
      · rw [decide_eq_true (by rw [hp])]
        walk_at "go"
        exact r_ixT (sqT et) (v := .int as[i].2) rfl (h1 _ (if_pos hp) _ (Same.refl _))
      · rw [decide_eq_false (fun z => hp (by injection z))]
        walk_at "go"
        exact h2 (if_neg hp) _ (Same.refl _)
    · refine q D H2 (s1.free nD) (s1.trans s2) ?_
      have z := rng_fm ((Str.ofString "", 0) : Str × Nat) as (fun p => if p.1 = x then some (V.int (p.2 : Nat)) else none)
      rw [e2, List.length_map, hQ1.al.len]
      refine congrArg (fun l => some (HO.lst l)) (z.trans ?_)
      unfold ofN
      rw [List.map_filterMap]
      refine congrArg (List.filterMap · as) (funext fun p => ?_)
      by_cases h : p.1 = x
      · rw [if_pos h, if_pos h]; rfl
      · rw [if_neg h, if_neg h]; rfl
theorem ok_waiting {f : Addr} {fd : FuncData} (F : Fun K "waiting" "Queue.waiting" s_Queue_waiting f fd) (T : Txt K mg A) : FnOk P w K mg base CX0 1 f fd ["self"] (spWaiting A) := by
  refine F.ok sc_Queue_waiting (fun vs H Q E h => ?_) (fun cdv A' outer s H vs Q E hr h => ⟨_, (pss_one (ps_ret (pe_callTy call_list_of (by rfl) T.m_list (by decide +kernel) (pa_cons (pe_fld (pv 0) rfl) pa_nil)))), ?_⟩)
  · obtain ⟨o, la, lr, n, ts, as, row, rfl, _⟩ := h
    rfl
  · obtain ⟨o, la, lr, n, ts, as, row, rfl, hQ, q⟩ := h
    obtain ⟨dx, fs, e, hA, hR, hn⟩ := hQ.ob
    walk_at "go"
    refine ⟨_, rfl, o, A.CQ, dx, fs, _, rfl, e, T.cl_Queue, T.na_asks, hA, ?_⟩
    walk_at "go"
    refine ⟨la, _, rfl, .inl (sqL hQ.al.at_), fun p np => ?_⟩
    have s := same_upd (o := .lst (ts.map V.ref)) np
    exact q p _ np s ⟨upd_same, hQ.al.len, fun k t u h1 h2 => s _ _ (hQ.al.row k t u h1 h2)⟩
theorem ok_init {f : Addr} {fd : FuncData} (F : Fun K "__init__" "Queue.__init__" s_Queue_init f fd) (T : Txt K mg A) : FnOk P w K mg base CX0 1 f fd ["self"] (spQuInit A) := by
  refine F.ok sc_Queue_init (fun vs H Q E h => ?_) (fun cdv A' outer s H vs Q E hr h => ⟨_, (pss_cons (ps_fld (pv 0) (pe_lstB pa_nil) rfl)
    (pss_one (ps_fld (pv 0) (pe_lstB pa_nil) rfl))), ?_⟩)
  · obtain ⟨x, dx, rfl, _⟩ := h
    rfl
  · obtain ⟨x, dx, rfl, ob, q⟩ := h
    refine r_lstB (r_nil (newLB fun la H1 n1 g1 s1 e1 => ?_))
    walk_at "go"
    refine ⟨x, A.CQ, dx, [], rfl, s1 _ _ ob, T.cl_Queue, T.na_asks, (by decide), ?_⟩
    show sFld K (tVar 0) (tLstB tNil) "_row" _ _ (upd H1 x (.ins A.CQ dx [("_asks", .ref la)]))
    have nx : la ≠ x := (ne_of_none ob n1).symm
    have e2 : upd H1 x (.ins A.CQ dx [("_asks", .ref la)]) la = some (.lst []) := by rw [upd_ne nx]; exact e1
    have b2 : But x H (upd H1 x (.ins A.CQ dx [("_asks", .ref la)])) := fun b o nb eb => by rw [upd_ne nb]; exact s1 _ _ eb
    have o2 : upd H1 x (.ins A.CQ dx [("_asks", .ref la)]) x = some (.ins A.CQ dx [("_asks", .ref la)]) := upd_same
    generalize upd H1 x (.ins A.CQ dx [("_asks", .ref la)]) = H2 at e2 b2 o2 ⊢
    refine r_lstB (r_nil (newLB fun lr H3 n3 g3 s3 e3 => ?_))
    walk_at "go"
    refine ⟨x, A.CQ, dx, _, rfl, s3 _ _ o2, T.cl_Queue, T.na_row, Nat.le_of_ble_eq_true rfl, ?_⟩
    have nx3 : lr ≠ x := (ne_of_none o2 n3).symm
    have nlr : la ≠ lr := ne_of_none e2 n3
    have nr : H lr = none := by
      cases z : H lr with
      | none => rfl
      | some o => rw [b2 _ _ nx3 z] at n3; exact nomatch n3
    refine q la lr _ (fun b o nb eb => by rw [upd_ne nb]; exact s3 _ _ (b2 _ _ nb eb)) ⟨⟨dx, _, upd_same, ?_, ?_, Nat.le_of_ble_eq_true rfl, fun m h1 h2 => ?_⟩, ⟨by rw [upd_ne nx]; exact s3 _ _ e2, rfl, fun k t p h1 h2 => nomatch h1⟩, by rw [upd_ne nx3]; exact e3, nlr, (fun p z => nomatch z), (by decide), List.nodup_nil, fun y => ⟨fun z => (nomatch z), fun ⟨_, z⟩ => (nomatch z)⟩⟩ n1 nr
    · rfl
    · rfl
    · show List.lookup m [(("_asks" : Str), V.ref la), ("_row", .ref lr)] = none
      rw [List.lookup_cons, h1, List.lookup_cons, h2]
      rfl
end
end K22

namespace K22
open PySem PySem.Spec PyProof.Rows L2 Bk


section
variable {P : Program} {w : World} {K : PySem.W.Frag} {mg : Str → Option Value} {base : Heap} {A : Ad}
theorem ok_serve {f : Addr} {fd : FuncData} (F : Fun K "serve" "Queue.serve" s_Queue_serve f fd) (T : Txt K mg A) (c_Queue_of : CalM P w K mg base (L2.CX P w) 5 A.CQ "of" (spOf A)) : FnOk P w K mg base CX0 6 f fd ["self"] (spServe A) := by
  refine F.ok sc_Queue_serve (fun vs H Q E h => ?_) (fun cdv A' outer s H vs Q E hr h => have hu64 := hr.units; ⟨_, (pss_cons (ps_if (pt_not (pt_truth (pe_fld (pv 0) rfl) (fun _ => rfl))) (pss_one (ps_ret pe_non)) pss_nil)
    (pss_cons (ps_set (i := 1) sc_Queue_serve.nd rfl (.inl rfl) (pe_bm PySem.F.plainAttrs_list PySem.F.slot_list_pop PySem.F.type_list_pop mt_popAt (pe_fld (pv 0) rfl) (pa_cons pe_int pa_nil)))
    (pss_cons (ps_set (i := 2) sc_Queue_serve.nd rfl (.inl rfl) (pe_mth (pv 0) T.cl_Queue c_Queue_of hr (by decide) psY (pa_cons (pv 1) pa_nil)))
    (pss_cons (ps_expr (pe_bm PySem.F.plainAttrs_list PySem.F.slot_list_remove PySem.F.type_list_remove (mt_removeD hu64) (pe_fld (pv 0) rfl) (pa_cons (pe_tup (pa_cons (pv 1) (pa_cons (pe_ix ix_list (pv 2) pe_int (fun _ _ => rfl)) pa_nil))) pa_nil)))
    (pss_cons (ps_if (pt_cmpR op_gt (pe_callB call_len_seq (by rfl) T.m_len (by decide +kernel) (pa_cons (pv 2) pa_nil)) pe_int (nomark _)) (pss_one (ps_expr (pe_bm PySem.F.plainAttrs_list PySem.F.slot_list_append PySem.F.type_list_append mt_append (pe_fld (pv 0) rfl) (pa_cons (pv 1) pa_nil)))) pss_nil)
    (pss_one (ps_ret (pe_tup (pa_cons (pv 1) (pa_cons (pe_ix ix_list (pv 2) pe_int (fun _ _ => rfl)) pa_nil)))))))))), ?_⟩)
  · obtain ⟨o, la, lr, n, ts, as, row, rfl, _⟩ := h
    rfl
  · obtain ⟨o, la, lr, n, ts, as, row, rfl, hQ, q0, q⟩ := h
    obtain ⟨dx, fs, e, hA, hR, hn⟩ := hQ.ob
    walk_at "go"
    refine ⟨_, rfl, o, A.CQ, dx, fs, _, rfl, e, T.cl_Queue, T.na_row, hR, ?_⟩
    refine ⟨!(row.map V.str).isEmpty, .inl ⟨_, sqL hQ.rw_, rfl⟩, ?_⟩
    cases row with
    | nil =>
      walk_at "go"
      exact q0 rfl
    | cons x rest =>
      have hx : nameOk x = true := by
        obtain ⟨i, hi⟩ := (hQ.mem x).mp List.mem_cons_self
        exact hQ.ok _ hi
      walk_at "go"
      refine ⟨_, rfl, o, A.CQ, dx, fs, _, rfl, e, T.cl_Queue, T.na_row, hR, ?_⟩
      refine ⟨.inl ⟨rfl, _, sqL hQ.rw_⟩, ?_⟩
      walk_at "go"
      refine ⟨lr, _, 0, 0, .str x, rfl, rfl, hQ.rw_, by decide, by decide, by unfold seqIndex?; rw [List.map_cons, List.length_cons]; simp, rfl, ?_⟩
      have nlo : lr ≠ o := fun z => by rw [← z, hQ.rw_] at e; exact nomatch e
      have e1 : upd H lr (.lst (rest.map V.str)) o = some (.ins A.CQ dx fs) := by rw [upd_ne nlo.symm]; exact e
      have al1 : AL (upd H lr (.lst (rest.map V.str))) la ts as := hQ.al.keep (upd_ne hQ.ne) fun u hu => upd_ne fun z => by
        obtain ⟨xs, w⟩ := hQ.al.tup u hu
        rw [z, hQ.rw_] at w
        exact nomatch w
      have r1 : upd H lr (.lst (rest.map V.str)) lr = some (.lst (rest.map V.str)) := upd_same
      have f1 : ∀ b u, b ≠ lr → H b = some u → upd H lr (.lst (rest.map V.str)) b = some u := fun b u nb eb => by rw [upd_ne nb]; exact eb
      show gName 1 _ _ (upd H lr (.lst (rest.map V.str))) _
      generalize upd H lr (.lst (rest.map V.str)) = H1 at e1 al1 r1 f1 ⊢
      walk_at "go"
      refine ⟨o, dx, fs, rfl, e1, hn.2 _ (by decide +kernel) (by decide +kernel), ?_⟩
      walk_at "go"
      refine ⟨o, la, ts, as, x, rfl, ⟨⟨dx, fs, e1, hA⟩, al1, hQ.ok, hQ.small⟩, hx, fun p H2 np s2 ep => ?_⟩
      walk_at "go"
      obtain ⟨i, hi⟩ := (hQ.mem x).mp List.mem_cons_self
      have hne : ofN as x ≠ [] := fun z => by
        have w := mem_ofN.mpr hi
        rw [z] at w
        exact nomatch w
      clear hi i
      obtain ⟨i, more, hof⟩ : ∃ i more, ofN as x = i :: more := by
        cases z : ofN as x with
        | nil => exact absurd z hne
        | cons i more => exact ⟨i, more, rfl⟩
      have hmem : (x, i) ∈ as := mem_ofN.mp (by rw [hof]; exact List.mem_cons_self)
      obtain ⟨j, hj⟩ : ∃ j, as.findIdx? (fun q => decide (q = (x, i))) = some j := by
        cases z : as.findIdx? (fun q => decide (q = (x, i))) with
        | some j => exact ⟨j, rfl⟩
        | none => exact absurd (decide_eq_true rfl) (by rw [List.findIdx?_eq_none_iff.mp z _ hmem]; exact Bool.false_ne_true)
      rw [hof, List.map_cons] at ep
      have al2 := al1.same s2
      refine ⟨_, rfl, o, A.CQ, dx, fs, _, rfl, s2 _ _ e1, T.cl_Queue, T.na_asks, hA, ?_⟩
      refine ⟨.inl ⟨rfl, _, sqL al2.at_⟩, ?_⟩
      walk_at "go"
      refine r_ixL (sqL ep) (v := .int i) (atI_nat (j := 0) rfl) ?_
      walk_at "go"
      refine newT fun t2 H3 n3 s3 e3 => ?_
      walk_at "go"
      have al3 := al2.same s3
      refine ⟨la, _, _, _, _, j, rfl, rfl, al3.at_, al3.dps, dp_ask (p := (x, i)) e3, plain_ask as, by simp only [askD, PyData.plain, PyData.plainAll]; rfl, by simp only [askD, PyData.depth, PyData.depthAll]; decide, by rw [place_ask]; exact hj, ?_⟩
      have hjx : as[j]? = some (x, i) := by
        obtain ⟨h1, h2, _⟩ := List.findIdx?_eq_some_iff_getElem.mp hj
        rw [List.getElem?_eq_getElem h1, of_decide_eq_true h2]
      have hjl : j < as.length := (List.getElem?_eq_some_iff.mp hjx).1
      have hP := al3.cut j
      have nel : la ≠ o := fun z => by rw [← z, hQ.al.at_] at e; exact nomatch e
      have e4 : upd H3 la (.lst ((ts.map V.ref).eraseIdx j)) o = some (.ins A.CQ dx fs) := by
        rw [upd_ne nel.symm]
        exact s3 _ _ (s2 _ _ e1)
      have r4 : upd H3 la (.lst ((ts.map V.ref).eraseIdx j)) lr = some (.lst (rest.map V.str)) := by
        rw [upd_ne hQ.ne.symm]
        exact s3 _ _ (s2 _ _ r1)
      have f4 : ∀ b u, b ≠ la → b ≠ lr → H b = some u → upd H3 la (.lst ((ts.map V.ref).eraseIdx j)) b = some u := fun b u n1 n2 eb => by
        rw [upd_ne n1]
        exact s3 _ _ (s2 _ _ (f1 _ _ n2 eb))
      have nt0 : ∀ {t : Addr}, upd H3 la (.lst ((ts.map V.ref).eraseIdx j)) t = none → H t = none := fun {t} z => by
        cases w : H t with
        | none => rfl
        | some u =>
          by_cases t1 : t = la
          · rw [t1, upd_same] at z; exact nomatch z
          · by_cases t2 : t = lr
            · rw [t2, r4] at z; exact nomatch z
            · rw [f4 _ _ t1 t2 w] at z; exact nomatch z
      have pl : p ≠ la := ne_of_none al1.at_ np |>.symm
      have p4 : upd H3 la (.lst ((ts.map V.ref).eraseIdx j)) p = some (.lst (V.int i :: more.map fun (k : Nat) => V.int k)) := by
        rw [upd_ne pl]
        exact s3 _ _ ep
      generalize upd H3 la (.lst ((ts.map V.ref).eraseIdx j)) = H4 at hP e4 r4 f4 p4 nt0 ⊢
      walk_at "go"
      refine ⟨p, _, rfl, .inl (sqL p4), ?_⟩
      have hlen : (ofN as x).length = more.length + 1 := by rw [hof]; rfl
      have her := ofN_erase hjx
      have ok5 : ∀ q ∈ as.eraseIdx j, nameOk q.1 = true := fun q hq => hQ.ok q (List.mem_of_mem_eraseIdx hq)
      have sm5 : (as.eraseIdx j).length ≤ 60 := Nat.le_trans (List.length_eraseIdx_le as j) hQ.small
      have ndr := List.nodup_cons.mp hQ.nd
      have hoth : ∀ y, y ≠ x → ((∃ k, (y, k) ∈ as.eraseIdx j) ↔ ∃ k, (y, k) ∈ as) := fun y ny => by
        constructor
        · exact fun ⟨k, h⟩ => ⟨k, List.mem_of_mem_eraseIdx h⟩
        · exact fun ⟨k, h⟩ => ⟨k, (erase_mem hjx (fun z => ny (Prod.mk.inj z).1)).mpr h⟩
      by_cases hmore : more = []
      · have hsr : srvRow as x rest = rest := if_neg (by rw [hlen, hmore]; decide)
        have h0 : ofN (as.eraseIdx j) x = [] := by
          rw [hlen, hmore] at her
          exact List.eq_nil_of_length_eq_zero (by simpa using her)
        subst hmore
        walk_at "go"
        rw [show decide (1 < (((V.int (i : Int)) :: List.map (fun (k : Nat) => V.int k) []).length : Int)) = false from rfl]
        walk_at "go"
        refine r_ixL (sqL p4) (v := .int i) (atI_nat (j := 0) rfl) ?_
        walk_at "go"
        refine newT fun t H5 n5 s5 e5 => ?_
        refine q x rest i j t H5 rfl (by rw [hof]; rfl) hj (nt0 n5) (fun b u n1 n2 eb => s5 _ _ (f4 b u n1 n2 eb)) ?_ e5
        rw [hsr]
        refine Qu.same ⟨⟨dx, fs, e4, hA, hR, hn⟩, hP, r4, hQ.ne, ok5, sm5, ndr.2, fun y => ?_⟩ s5
        by_cases hy : y = x
        · subst hy
          refine ⟨fun z => absurd z ndr.1, fun ⟨k, z⟩ => ?_⟩
          have w := mem_ofN.mpr z
          rw [h0] at w
          exact nomatch w
        · rw [hoth y hy, ← hQ.mem y, List.mem_cons]
          exact ⟨.inr, fun z => z.elim (fun w => absurd w hy) id⟩
      · have hml : 0 < more.length := by
          cases more with
          | nil => exact absurd rfl hmore
          | cons _ _ => exact Nat.succ_pos _
        have hsr : srvRow as x rest = rest ++ [x] := if_pos (by rw [hlen]; omega)
        have h0 : ofN (as.eraseIdx j) x ≠ [] := fun z => by
          rw [hlen, z, List.length_nil] at her
          omega
        walk_at "go"
        rw [decide_eq_true (by rw [List.length_cons, List.length_map]; omega : (1 : Int) < (((V.int (i : Int)) :: List.map (fun (k : Nat) => V.int k) more).length : Int))]
        walk_at "go"
        refine ⟨_, rfl, o, A.CQ, dx, fs, _, rfl, e4, T.cl_Queue, T.na_row, hR, ?_⟩
        refine ⟨.inl ⟨rfl, _, sqL r4⟩, ?_⟩
        walk_at "go"
        have hrl := hQ.rlen
        have hsm := hQ.small
        rw [List.length_cons] at hrl
        refine ⟨lr, _, _, rfl, rfl, r4, by rw [List.length_map, sizeLine_eq]; omega, ?_⟩
        have nlo2 : lr ≠ o := nlo
        have e6 : upd H4 lr (.lst (rest.map V.str ++ [.str x])) o = some (.ins A.CQ dx fs) := by rw [upd_ne nlo2.symm]; exact e4
        have r6 : upd H4 lr (.lst (rest.map V.str ++ [.str x])) lr = some (.lst ((rest ++ [x]).map V.str)) := by rw [upd_same, List.map_append]; rfl
        have al6 : AL (upd H4 lr (.lst (rest.map V.str ++ [.str x]))) la (ts.eraseIdx j) (as.eraseIdx j) := hP.keep (upd_ne hQ.ne) fun u hu => upd_ne fun z => by
          obtain ⟨xs, w⟩ := hP.tup u hu
          rw [z, r4] at w
          exact nomatch w
        have plr : p ≠ lr := fun z => by
          have w := s3 _ _ (s2 _ _ r1)
          rw [z] at np
          rw [r1] at np
          exact nomatch np
        have p6 : upd H4 lr (.lst (rest.map V.str ++ [.str x])) p = some (.lst (V.int i :: more.map fun (k : Nat) => V.int k)) := by rw [upd_ne plr]; exact p4
        have f6 : ∀ b u, b ≠ la → b ≠ lr → H b = some u → upd H4 lr (.lst (rest.map V.str ++ [.str x])) b = some u := fun b u n1 n2 eb => by rw [upd_ne n2]; exact f4 b u n1 n2 eb
        have nt6 : ∀ {t : Addr}, upd H4 lr (.lst (rest.map V.str ++ [.str x])) t = none → H t = none := fun {t} z => by
          by_cases t2 : t = lr
          · rw [t2, upd_same] at z; exact nomatch z
          · rw [upd_ne t2] at z; exact nt0 z
        generalize upd H4 lr (.lst (rest.map V.str ++ [.str x])) = H5 at e6 r6 al6 p6 f6 nt6 ⊢
        walk_at "go"
        refine r_ixL (sqL p6) (v := .int i) (atI_nat (j := 0) rfl) ?_
        walk_at "go"
        refine newT fun t H6 n6 s6 e7 => ?_
        refine q x rest i j t H6 rfl (by rw [hof]; rfl) hj (nt6 n6) (fun b u n1 n2 eb => s6 _ _ (f6 b u n1 n2 eb)) ?_ e7
        rw [hsr]
        refine Qu.same ⟨⟨dx, fs, e6, hA, hR, hn⟩, al6, r6, hQ.ne, ok5, sm5, ?_, fun y => ?_⟩ s6
        · exact List.nodup_append.mpr ⟨ndr.2, List.pairwise_singleton _ _, fun a ha b hb => by
            rw [List.mem_singleton.mp hb]
            exact fun z => ndr.1 (by rw [← z]; exact ha)⟩
        · rw [List.mem_append, List.mem_singleton]
          by_cases hy : y = x
          · subst hy
            refine ⟨fun _ => ?_, fun _ => .inr rfl⟩
            cases z : ofN (as.eraseIdx j) y with
            | nil => exact absurd z h0
            | cons k _ => exact ⟨k, mem_ofN.mp (by rw [z]; exact List.mem_cons_self)⟩
          · rw [hoth y hy, ← hQ.mem y, List.mem_cons]
            exact ⟨fun z => z.elim .inr fun w => absurd w hy, fun z => z.elim (fun w => absurd w hy) .inl⟩
end
end K22

namespace K22
open PySem PySem.Spec PyProof.Rows L2 Bk


def spTwinQ (A : Ad) : Sp := fun vs H Q _ => ∃ (o la lr : Addr) (n : Nat) (ts : List Addr) (as : List (Str × Nat)) (row : List Str), vs = [.ref o] ∧ Qu A.CQ n H o la lr ts as row ∧
  ∀ (y la' lr' : Addr) H', Same H H' → Qu A.CQ 4 H' y la' lr' ts as row → (∀ b ∈ [y, la', lr'], H b = none) → Q (.ref y) H'
section
variable {P : Program} {w : World} {K : PySem.W.Frag} {mg : Str → Option Value} {base : Heap} {A : Ad}
theorem ok_twin {f : Addr} {fd : FuncData} (F : Fun K "twin" "Queue.twin" s_Queue_twin f fd) (T : Txt K mg A) (c_Queue_init : CalC P w K mg base CX0 1 A.CQ "Queue" (spQuInit A)) : FnOk P w K mg base CX0 3 f fd ["self"] (spTwinQ A) := by
  refine F.ok sc_Queue_twin (fun vs H Q E h => ?_) (fun cdv A' outer s H vs Q E hr h => ⟨_, (pss_cons (ps_set (i := 1) sc_Queue_twin.nd rfl (.inl rfl) (pe_mk0 c_Queue_init hr (by decide) (by rfl) ps0))
    (pss_cons (ps_fld (pv 1) (pe_callTy call_list_of (by rfl) T.m_list (by decide +kernel) (pa_cons (pe_fld (pv 0) rfl) pa_nil)) rfl)
    (pss_cons (ps_fld (pv 1) (pe_callTy call_list_of (by rfl) T.m_list (by decide +kernel) (pa_cons (pe_fld (pv 0) rfl) pa_nil)) rfl)
    (pss_one (ps_ret (pv 1)))))), ?_⟩)
  · obtain ⟨o, la, lr, n, ts, as, row, rfl, _⟩ := h
    rfl
  · obtain ⟨o, la, lr, n, ts, as, row, rfl, hQ, q⟩ := h
    obtain ⟨dx, fs, e, hA, hR, hn⟩ := hQ.ob
    walk_at "go"
    intro y dy ny ndy ney
    have s0 : Same H (upd (upd H dy (.own y)) y (.ins A.CQ dy [])) := fun b o e => by
      rw [upd_ne (ne_of_none e ny), upd_ne (ne_of_none e ndy)]
      exact e
    refine ⟨y, dy, rfl, upd_same, fun la0 lr0 H1 b1 hQ1 nla nlr => ⟨rfl, ?_⟩⟩
    have s1 : Same H H1 := fun b o e => b1 _ _ (ne_of_none e ny) (s0 _ _ e)
    obtain ⟨dy1, fy, ey, hyA, hyR, hyn⟩ := hQ1.ob
    walk_at "go"
    refine ⟨_, rfl, o, A.CQ, dx, fs, _, rfl, s1 _ _ e, T.cl_Queue, T.na_asks, hA, ?_⟩
    walk_at "go"
    have q1 := hQ.same s1
    refine ⟨la, _, rfl, .inl (sqL q1.al.at_), fun l1 nl1 => ?_⟩
    have t1 := same_upd (o := .lst (ts.map V.ref)) nl1
    have el1 : upd H1 l1 (.lst (ts.map V.ref)) l1 = some (.lst (ts.map V.ref)) := upd_same
    have q2 := q1.same t1
    have ey2 := t1 _ _ ey
    generalize upd H1 l1 (.lst (ts.map V.ref)) = H2 at t1 el1 q2 ey2 ⊢
    walk_at "go"
    refine ⟨y, A.CQ, dy1, fy, rfl, ey2, T.cl_Queue, T.na_asks, by have := hyn.1; omega, ?_⟩
    have ne1 : l1 ≠ y := fun z => by rw [z, ey2] at el1; exact nomatch el1
    have b3 : But y H2 (upd H2 y (.ins A.CQ dy1 (putF "_asks" (.ref l1) fy))) := fun b o nb eb => by rw [upd_ne nb]; exact eb
    have ey3 : upd H2 y (.ins A.CQ dy1 (putF "_asks" (.ref l1) fy)) y = some (.ins A.CQ dy1 (putF "_asks" (.ref l1) fy)) := upd_same
    have yo : y ≠ o := fun z => by rw [z, e] at ny; exact nomatch ny
    have nyH : ∀ {b : Addr} {u : HO}, H b = some u → b ≠ y := fun eb z => by rw [z, ny] at eb; exact nomatch eb
    have s3 : Same H (upd H2 y (.ins A.CQ dy1 (putF "_asks" (.ref l1) fy))) := fun b u eb => b3 _ _ (nyH eb) (t1 _ _ (s1 _ _ eb))
    have el3 := b3 _ _ ne1 el1
    have nl1' : H l1 = none := s1.free nl1
    generalize upd H2 y (.ins A.CQ dy1 (putF "_asks" (.ref l1) fy)) = H3 at b3 ey3 s3 el3 ⊢
    have q3 := hQ.same s3
    walk_at "go"
    refine ⟨_, rfl, o, A.CQ, dx, fs, _, rfl, s3 _ _ e, T.cl_Queue, T.na_row, hR, ?_⟩
    walk_at "go"
    refine ⟨lr, _, rfl, .inl (sqL q3.rw_), fun l2 nl2 => ?_⟩
    have t4 := same_upd (o := .lst (row.map V.str)) nl2
    have el4 : upd H3 l2 (.lst (row.map V.str)) l2 = some (.lst (row.map V.str)) := upd_same
    have ey4 := t4 _ _ ey3
    have el14 := t4 _ _ el3
    have s4 := s3.trans t4
    have nl2' : H l2 = none := s3.free nl2
    have n12 : l1 ≠ l2 := ne_of_none el3 nl2
    generalize upd H3 l2 (.lst (row.map V.str)) = H4 at t4 el4 ey4 el14 s4 ⊢
    walk_at "go"
    have lp := length_putF "_asks" (.ref l1) fy
    refine ⟨y, A.CQ, dy1, _, rfl, ey4, T.cl_Queue, T.na_row, by have := hyn.1; omega, ?_⟩
    have ne2 : l2 ≠ y := ne_of_none ey3 nl2 |>.symm
    have lp2 := length_putF "_row" (.ref l2) (putF "_asks" (.ref l1) fy)
    walk_at "go"
    refine q y l1 l2 _ (fun b u eb => by rw [upd_ne (nyH eb)]; exact s4 _ _ eb) ⟨⟨dy1, _, upd_same, ?_, ?_, by have := hyn.1; omega, fun m h1 h2 => ?_⟩, ⟨by rw [upd_ne ne1]; exact el14, hQ.al.len, fun k t p h1 h2 => ?_⟩, by rw [upd_ne ne2]; exact el4, n12, hQ.ok, hQ.small, hQ.nd, hQ.mem⟩ fun b hb => ?_
    · rw [lookup_putF, if_neg (by decide), lookup_putF, if_pos rfl]
    · rw [lookup_putF, if_pos rfl]
    · rw [lookup_putF, if_neg (fun z => by rw [z, beq_self_eq_true] at h2; exact nomatch h2), lookup_putF, if_neg (fun z => by rw [z, beq_self_eq_true] at h1; exact nomatch h1)]
      exact hyn.2 m h1 h2
    · have z := hQ.al.row k t p h1 h2
      rw [upd_ne (nyH z)]
      exact s4 _ _ z
    · simp only [List.mem_cons, List.not_mem_nil, or_false] at hb
      rcases hb with rfl | rfl | rfl
      · exact ny
      · exact nl1'
      · exact nl2'
end
end K22

namespace K22
open PySem PySem.Spec PyProof.Rows L2 Bk


theorem putF_old {f : Str} {v u : V} : ∀ {fs : List (Str × V)}, fs.lookup f = some u → (putF f v fs).length = fs.length
  | [], h => nomatch h
  | (g, w) :: r, h => by
    unfold putF
    split
    · rfl
    · rename_i hg
      rw [List.lookup_cons] at h
      have hb : (f == g) = false := beq_eq_false_iff_ne.mpr fun z => hg (by first | exact z | exact z.symm)
      rw [hb] at h
      rw [List.length_cons, List.length_cons, putF_old h]
/-- the asks of others, with their tuples -/
def othQ (as : List (Str × Nat)) (ts : List Addr) (x : Str) : List ((Str × Nat) × Addr) := (as.zip ts).filter fun q => decide (q.1.1 ≠ x)
theorem fm_flt {α β : Type} (c : α → Prop) [DecidablePred c] (g : α → β) : ∀ l : List α, l.filterMap (fun z => if c z then none else some (g z)) = (l.filter fun z => decide (¬ c z)).map g
  | [] => rfl
  | a :: r => by
    rw [List.filterMap_cons, List.filter_cons]
    by_cases h : c a
    · rw [if_pos h, decide_eq_false (fun z => z h), fm_flt c g r]
      simp
    · rw [if_neg h, decide_eq_true h, if_pos rfl, List.map_cons, fm_flt c g r]
theorem oth_fst {x : Str} : ∀ {as : List (Str × Nat)} {ts : List Addr}, ts.length = as.length → (othQ as ts x).map (·.1) = as.filter fun q => decide (q.1 ≠ x)
  | [], _, _ => rfl
  | a :: r, [], h => nomatch h
  | a :: r, t :: u, h => by
    have z := oth_fst (x := x) (as := r) (ts := u) (Nat.succ.inj h)
    unfold othQ at z ⊢
    rw [List.zip_cons_cons, List.filter_cons, List.filter_cons]
    by_cases c : a.1 = x
    · rw [decide_eq_false (fun w => w c)]
      simpa using z
    · rw [decide_eq_true c]
      simpa using z
theorem oth_row {H : Hp} {x : Str} {l : Addr} {as : List (Str × Nat)} {ts : List Addr} (a : AL H l ts as) : ∀ q ∈ othQ as ts x, H q.2 = some (.tup [.str q.1.1, .int q.1.2]) := fun q hq => by
  obtain ⟨k, hk⟩ := List.getElem?_of_mem ((List.mem_filter.mp hq).1)
  have z := List.getElem?_zip_eq_some.mp hk
  exact a.row k _ _ z.2 z.1
def spLeave (A : Ad) : Sp := fun vs H Q _ => ∃ (o la lr : Addr) (n : Nat) (ts : List Addr) (as : List (Str × Nat)) (row : List Str) (x : Str), vs = [.ref o, .str x] ∧ Qu A.CQ n H o la lr ts as row ∧ n < 900 ∧ nameOk x = true ∧
  ∀ (p la' lr' : Addr) (ts' : List Addr) H', (∀ b ∈ [p, la', lr'], H b = none) → p ≠ la' → p ≠ lr' → (∀ b u, b ≠ o → H b = some u → H' b = some u) → Qu A.CQ n H' o la' lr' ts' (as.filter fun q => decide (q.1 ≠ x)) (row.filter fun y => decide (y ≠ x)) → H' p = some (.lst ((ofN as x).map fun (i : Nat) => V.int i)) → Q (.ref p) H'
section
variable {P : Program} {w : World} {K : PySem.W.Frag} {mg : Str → Option Value} {base : Heap} {A : Ad}
theorem ok_leave {f : Addr} {fd : FuncData} (F : Fun K "leave" "Queue.leave" s_Queue_leave f fd) (T : Txt K mg A) (c_Queue_of : CalM P w K mg base (L2.CX P w) 5 A.CQ "of" (spOf A)) : FnOk P w K mg base (L2.CX P w) 6 f fd ["self", "name"] (spLeave A) := by
  refine F.okX sc_Queue_leave (fun vs H Q E h => ?_) (fun cdv A' outer s H vs Q E hr h => ⟨_, (pss_cons (ps_set (i := 2) sc_Queue_leave.nd rfl (.inl rfl) (pe_mth (pv 0) T.cl_Queue c_Queue_of hr (by decide) (psX (takes_of rfl rfl rfl rfl)) (pa_cons (pv 1) pa_nil)))
    (pss_cons (ps_fld (pv 0) (pe_lc (own := [("ask", 3)]) rfl sc_Queue_leave.nd (pi_list (pe_fld (pv 0) rfl)) (blkOk_by (N := ["self", "name", "numbers", "ask", "other"]) (sc := defScope s_Queue_leave) (by decide +kernel)) (fun _ _ _ _ _ => (pg_name (i := 3) sc_Queue_leave.nd rfl (.inl rfl))) (fun _ _ _ _ _ => pts_one (pt_cmpR op_ne (pe_ix (ix_tupK (K := K) rfl) (pv 3) pe_int (fun _ _ => rfl)) (pv 1) (nomark _))) (fun _ _ _ _ _ => (pv 3))) rfl)
    (pss_cons (ps_fld (pv 0) (pe_lc (own := [("other", 4)]) rfl sc_Queue_leave.nd (pi_list (pe_fld (pv 0) rfl)) (blkOk_by (N := ["self", "name", "numbers", "ask", "other"]) (sc := defScope s_Queue_leave) (by decide +kernel)) (fun _ _ _ _ _ => (pg_name (i := 4) sc_Queue_leave.nd rfl (.inl rfl))) (fun _ _ _ _ _ => pts_one (pt_cmpR op_ne (pv 4) (pv 1) (nomark _))) (fun _ _ _ _ _ => (pv 4))) rfl)
    (pss_one (ps_ret (pv 2)))))), ?_⟩)
  · obtain ⟨o, la, lr, n, ts, as, row, x, rfl, _⟩ := h
    rfl
  · obtain ⟨o, la, lr, n, ts, as, row, x, rfl, hQ, hn9, hx, q⟩ := h
    obtain ⟨dx, fs, e, hA, hR, hn⟩ := hQ.ob
    walk_at "go"
    refine ⟨o, dx, fs, rfl, e, hn.2 _ (by decide +kernel) (by decide +kernel), ?_⟩
    walk_at "go"
    refine ⟨o, la, ts, as, x, rfl, hQ.qa, hx, fun p H1 np s1 ep => ?_⟩
    walk_at "go"
    have hQ1 := hQ.same s1
    have zl : (as.zip ts).length = as.length := by rw [List.length_zip, hQ.al.len, Nat.min_self]
    refine lcLF (fun i => (fun (z : (Str × Nat) × Addr) => if z.1.1 = x then none else some (V.ref z.2)) ((as.zip ts).getD i (("", 0), 0))) (fun QQ z => ⟨_, rfl, o, A.CQ, dx, fs, _, rfl, s1 _ _ e, T.cl_Queue, T.na_asks, hA, z⟩) (sqL hQ1.al.at_) (by rw [List.length_map, hQ1.al.len]; have := hQ.small; omega) (fun _ => rfl) (fun i y H2 Q' R' hy sm h1 h2 => ?_) fun D H2 nD s2 e2 => ?_
    · have hi : i < as.length := by
        have z := (List.getElem?_eq_some_iff.mp hy).1
        rw [List.length_map, hQ1.al.len] at z
        exact z
      have hti : i < ts.length := by rw [hQ1.al.len]; exact hi
      rw [List.getElem?_map, List.getElem?_eq_getElem hti] at hy
      obtain rfl := Option.some.inj hy
      have et := sm _ _ (hQ1.al.row i _ _ (List.getElem?_eq_getElem hti) (List.getElem?_eq_getElem hi))
      have hg : (as.zip ts).getD i (("", 0), 0) = (as[i], ts[i]) := by
        rw [List.getD_eq_getElem?_getD, List.getElem?_eq_getElem (by rw [zl]; exact hi), List.getElem_zip]
        rfl
      rw [hg] at h1 h2
      walk_at "go"
      refine r_ixT (sqT et) (v := .str as[i].1) rfl ?_
      walk_at "go"
      by_cases hp : as[i].1 = x
      · rw [decide_eq_true (by rw [hp])]
        walk_at "go"
        exact h2 (if_pos hp) _ (Same.refl _)
      · rw [decide_eq_false (fun z => hp (by injection z))]
        walk_at "go"
        exact h1 _ (if_neg hp) _ (Same.refl _)
    rw [List.length_map, hQ1.al.len, ← zl, rng_fm ((("", 0), 0) : (Str × Nat) × Addr) (as.zip ts) (fun z => if z.1.1 = x then none else some (V.ref z.2))] at e2
    have e2 : H2 D = some (.lst (((othQ as ts x).map (·.2)).map V.ref)) := by
      rw [e2]
      refine congrArg (fun l => some (HO.lst l)) ?_
      rw [fm_flt (fun z : (Str × Nat) × Addr => z.1.1 = x) (fun z => V.ref z.2), List.map_map]
      rfl
    have s12 := s1.trans s2
    have eo := s12 _ _ e
    walk_at "go"
    refine ⟨o, A.CQ, dx, fs, rfl, eo, T.cl_Queue, T.na_asks, by have := hn.1; omega, ?_⟩
    have nDo : D ≠ o := (ne_of_none (s1 _ _ e) nD).symm
    have f3 : ∀ b u, b ≠ o → H b = some u → upd H2 o (.ins A.CQ dx (putF "_asks" (.ref D) fs)) b = some u := fun b u nb eb => by rw [upd_ne nb]; exact s12 _ _ eb
    have o3 : upd H2 o (.ins A.CQ dx (putF "_asks" (.ref D) fs)) o = some (.ins A.CQ dx (putF "_asks" (.ref D) fs)) := upd_same
    have D3 : upd H2 o (.ins A.CQ dx (putF "_asks" (.ref D) fs)) D = some (.lst (((othQ as ts x).map (·.2)).map V.ref)) := by rw [upd_ne nDo]; exact e2
    have npo : p ≠ o := (ne_of_none e np).symm
    have p3 : upd H2 o (.ins A.CQ dx (putF "_asks" (.ref D) fs)) p = some (.lst ((ofN as x).map fun (i : Nat) => V.int i)) := by rw [upd_ne npo]; exact s2 _ _ ep
    have nDH : H D = none := s1.free nD
    generalize upd H2 o (.ins A.CQ dx (putF "_asks" (.ref D) fs)) = H3 at f3 o3 D3 p3 ⊢
    have nlr : lr ≠ o := fun z => by have w := hQ.rw_; rw [z, e] at w; exact nomatch w
    have r3 := f3 _ _ nlr hQ.rw_
    walk_at "go"
    have hrl := hQ.rlen
    have hsm := hQ.small
    refine lcLF (fun i => (fun (z : Str) => if z = x then none else some (V.str z)) (row.getD i "")) (fun QQ z => ⟨_, rfl, o, A.CQ, dx, _, _, rfl, o3, T.cl_Queue, T.na_row, by rw [lookup_putF, if_neg (by decide)]; exact hR, z⟩) (sqL r3) (by rw [List.length_map]; omega) (fun _ => rfl) (fun i y H4 Q' R' hy sm h1 h2 => ?_) fun D2 H4 nD2 s4 e4 => ?_
    · rw [List.getElem?_map] at hy
      cases hi : row[i]? with
      | none => rw [hi] at hy; exact nomatch hy
      | some z =>
        rw [hi] at hy
        obtain rfl := Option.some.inj hy
        have hg : row.getD i "" = z := by rw [List.getD_eq_getElem?_getD, hi]; rfl
        rw [hg] at h1 h2
        walk_at "go"
        by_cases hp : z = x
        · rw [decide_eq_true (by rw [hp])]
          walk_at "go"
          exact h2 (if_pos hp) _ (Same.refl _)
        · rw [decide_eq_false (fun w => hp (by injection w))]
          walk_at "go"
          exact h1 _ (if_neg hp) _ (Same.refl _)
    have o4 := s4 _ _ o3
    have lp := putF_old (v := V.ref D) hA
    have r4 : H4 D2 = some (.lst ((row.filter fun y => decide (y ≠ x)).map V.str)) := by
      have z := rng_fm (Str.ofString "") row (fun z => if z = x then none else some (V.str z))
      rw [e4, List.length_map]
      refine congrArg (fun l => some (HO.lst l)) (z.trans ?_)
      rw [fm_flt (fun z : Str => z = x) V.str]
    walk_at "go"
    have hR2 : (putF "_asks" (.ref D) fs).lookup ("_row" : Str) = some (.ref lr) := by rw [lookup_putF, if_neg (by decide)]; exact hR
    have lp2 := putF_old (v := V.ref D2) hR2
    refine ⟨o, A.CQ, dx, _, rfl, o4, T.cl_Queue, T.na_row, by rw [lp]; have := hn.1; omega, ?_⟩
    have nD2o : D2 ≠ o := (ne_of_none o3 nD2).symm
    have nD2H : H D2 = none := by
      cases w : H D2 with
      | none => rfl
      | some u => rw [f3 _ _ nD2o w] at nD2; exact nomatch nD2
    have nDD : D ≠ D2 := ne_of_none D3 nD2
    walk_at "go"
    have al5 := hQ.al
    refine q p D D2 ((othQ as ts x).map (·.2)) _ (fun b hb => ?_) (ne_of_none ep nD) (ne_of_none p3 nD2) (fun b u nb eb => by rw [upd_ne nb]; exact s4 _ _ (f3 _ _ nb eb)) ⟨⟨dx, _, upd_same, ?_, ?_, by rw [lp2, lp]; exact hn.1, fun m h1 h2 => ?_⟩, ⟨by rw [upd_ne nDo]; exact s4 _ _ D3, by rw [← oth_fst hQ.al.len, List.length_map, List.length_map], fun k t pr h1 h2 => ?_⟩, by rw [upd_ne nD2o]; exact r4, nDD, fun z hz => hQ.ok z ((List.mem_filter.mp hz).1), Nat.le_trans (List.length_filter_le _ _) hQ.small, hQ.nd.filter _, fun y => ?_⟩ (by rw [upd_ne npo]; exact s4 _ _ p3)
    · simp only [List.mem_cons, List.not_mem_nil, or_false] at hb
      rcases hb with rfl | rfl | rfl
      · exact np
      · exact nDH
      · exact nD2H
    · rw [lookup_putF, if_neg (by decide), lookup_putF, if_pos rfl]
    · rw [lookup_putF, if_pos rfl]
    · rw [lookup_putF, if_neg (fun z => by rw [z, beq_self_eq_true] at h2; exact nomatch h2), lookup_putF, if_neg (fun z => by rw [z, beq_self_eq_true] at h1; exact nomatch h1)]
      exact hn.2 m h1 h2
    · rw [List.getElem?_map] at h1
      cases hk : (othQ as ts x)[k]? with
      | none => rw [hk] at h1; exact nomatch h1
      | some z =>
        rw [hk] at h1
        obtain rfl := Option.some.inj h1
        rw [← oth_fst hQ.al.len, List.getElem?_map, hk] at h2
        obtain rfl := Option.some.inj h2
        have w := oth_row hQ.al z (List.mem_of_getElem? hk)
        have no : z.2 ≠ o := fun c => by rw [c, e] at w; exact nomatch w
        rw [upd_ne no]
        exact s4 _ _ (f3 _ _ no w)
    · rw [List.mem_filter, hQ.mem y]
      refine ⟨fun ⟨⟨i, hi⟩, hy⟩ => ⟨i, List.mem_filter.mpr ⟨hi, hy⟩⟩, fun ⟨i, hi⟩ => ?_⟩
      have z := List.mem_filter.mp hi
      exact ⟨⟨i, z.1⟩, z.2⟩
end
end K22

namespace K22
open PySem PySem.Spec PyProof.Rows L2 Bk


/-- what is served next, what waits then, and the row then -/
def nxtA (s : List (Str × Nat) × List Str) : Option (Str × Nat) := match s.2 with
  | [] => none
  | x :: _ => (ofN s.1 x).head?.map fun i => (x, i)
def nxt (s : List (Str × Nat) × List Str) : List (Str × Nat) × List Str := match s.2 with
  | [] => s
  | x :: rest => (match (ofN s.1 x).head? with
    | none => s.1
    | some i => s.1.eraseP fun q => decide (q = (x, i)), srvRow s.1 x rest)
def itr : Nat → List (Str × Nat) × List Str → List (Str × Nat) × List Str
  | 0, s => s
  | n + 1, s => nxt (itr n s)
def spComes (A : Ad) : Sp := fun vs H Q _ => ∃ (o la lr : Addr) (n : Nat) (ts : List Addr) (as : List (Str × Nat)) (row : List Str) (x : Str) (i : Nat), vs = [.ref o, .str x, .int i] ∧ Qu A.CQ n H o la lr ts as row ∧ (x, i) ∈ as ∧
  ∀ (m : Nat) H', Same H H' → m < as.length → nxtA (itr m (as, row)) = some (x, i) → (∀ k, k < m → nxtA (itr k (as, row)) ≠ some (x, i)) → Q (.int ((m : Nat) + 1 : Int)) H'
theorem _root_.Bk.AL.memN {K : PySem.W.Frag} {H : Hp} {l : Addr} {ts : List Addr} {as : List (Str × Nat)} (a : AL H l ts as) {x : V} {p : Str × Nat} {Q : VK} (ok : asOk as) (hp : PyData.strOk p.1 = true) (h : Dp K H x (askD p)) (q : Q (.bl (!decide (p ∈ as))) H) : rNotInD K x (.ref l) H Q :=
  ⟨_, _, h, a.dp, sh_ask1 hp, sh_ask ok, by rw [in_ask]; exact q⟩
theorem nxt_of {as : List (Str × Nat)} {x : Str} {rest : List Str} {i j : Nat} (h : (ofN as x).head? = some i) (hj : as.findIdx? (fun q => decide (q = (x, i))) = some j) : nxt (as, x :: rest) = (as.eraseIdx j, srvRow as x rest) := by
  unfold nxt
  simp only [h]
  rw [List.eraseP_eq_eraseIdx, hj]
theorem r_while {c : TT} {tb : TS} {D : Ends} {σ : L2.St} {H : Hp} (W : Nat → L2.St → Hp → Prop) (h0 : ∃ m, W m σ H) (hs : ∀ m σ H, W m σ H → c σ H fun b H1 => if b = true then ∃ N : L2.St → Hp → Prop, (∀ σ' H', N σ' H' → ∃ m', m' < m ∧ W m' σ' H') ∧ tb { D with nx := N, ct := N, bk := D.nx } σ H1 else D.nx σ H1) : tWhile c tb D σ H := ⟨W, h0, hs⟩
section
variable {P : Program} {w : World} {K : PySem.W.Frag} {mg : Str → Option Value} {base : Heap} {A : Ad}
theorem ok_comes {f : Addr} {fd fdA : FuncData} (F : Fun K "comes_at" "Queue.comes_at" s_Queue_comes_at f fd) (T : Txt K mg A) (c_is_count : CalD P w K mg base CX0 1 "is_count" (spCount K) [])
    (c_NoAsk_init : Own P w K mg base CX0 2 A.fA fdA ["self", "found"] (spInitN "found" A.CA)) (c_Queue_twin : CalM P w K mg base CX0 3 A.CQ "twin" (spTwinQ A)) (c_Queue_serve : CalM P w K mg base CX0 6 A.CQ "serve" (spServe A)) : FnOk P w K mg base (L2.CX P w) 7 f fd ["self", "name", "number"] (spComes A) := by
  refine F.okX sc_Queue_comes_at (fun vs H Q E h => ?_) (fun cdv A' outer s H vs Q E hr h => have hu65 := units65 hr; have hu64 := hr.units; ⟨_, (pss_cons (ps_if (PW.pt (pw_or (pt_not (pt_val (pe_cal c_is_count hr (by decide) (by rfl) (pa_cons (pv 2) pa_nil)))) (pw_or1 (pt_cmpR (op_notInD hu65) (pe_tup (pa_cons (pv 1) (pa_cons (pv 2) pa_nil))) (pe_fld (pv 0) rfl) (by rfl))))) (pss_one (ps_raise rfl (takes_of rfl rfl rfl rfl) (pmk_oexT T.ox_NoAsk T.i_NoAsk T.t_NoAsk c_NoAsk_init.ok (hr.mono (by decide)) c_NoAsk_init.bd .nil pass0 (by rfl) T.g_NoAsk (pa_cons (pe_tup (pa_cons (pv 1) (pa_cons (pv 2) pa_nil))) pa_nil)))) pss_nil)
    (pss_cons (ps_set (i := 3) sc_Queue_comes_at.nd rfl (.inl rfl) (pe_mth0 (pv 0) T.cl_Queue c_Queue_twin hr (by decide) ps0))
    (pss_cons (ps_set (i := 4) sc_Queue_comes_at.nd rfl (.inl rfl) pe_int)
    (pss_cons (ps_while (passes_of rfl) (pt_cmpR (op_neD hu64) (pe_mth0 (pv 3) T.cl_Queue c_Queue_serve hr (by decide) ps0) (pe_tup (pa_cons (pv 1) (pa_cons (pv 2) pa_nil))) (nomark _))
      (pss_one (ps_aug (i := 4) sc_Queue_comes_at.nd rfl (.inl rfl) pe_int ip_add)))
    (pss_one (ps_ret (pv 4))))))), ?_⟩)
  · obtain ⟨o, la, lr, n, ts, as, row, x, i, rfl, _⟩ := h
    rfl
  · obtain ⟨o, la, lr, n, ts, as, row, x, i, rfl, hQ, hm, q⟩ := h
    obtain ⟨dx, fs, e, hA, hR, hn⟩ := hQ.ob
    walk_at "go"
    have hi : 0 ≤ (i : Int) := by omega
    refine ⟨_, rfl, .inl ⟨_, rfl⟩, ?_⟩
    rw [count_int hi]
    walk_at "go"
    refine newT fun t1 H1 n1 s1 e1 => ?_
    walk_at "go"
    refine ⟨_, rfl, o, A.CQ, dx, fs, _, rfl, s1 _ _ e, T.cl_Queue, T.na_asks, hA, ?_⟩
    have hx := hQ.ok _ hm
    refine (hQ.al.same s1).memN hQ.ao (str_of_name hx) (dp_ask (p := (x, i)) e1) ?_
    rw [decide_eq_true hm]
    walk_at "go"
    have hQ1 := hQ.same s1
    obtain ⟨_, _, e', _, _, hn'⟩ := hQ1.ob
    refine ⟨o, dx, fs, rfl, s1 _ _ e, hn.2 _ (by decide +kernel) (by decide +kernel), ?_⟩
    walk_at "go"
    refine ⟨o, la, lr, n, ts, as, row, rfl, hQ1, fun y la' lr' H2 s2 hY fr => ?_⟩
    walk_at "go"
    have s12 := s1.trans s2
    have fr' : ∀ b ∈ [y, la', lr'], H b = none := fun b hb => s1.free (fr b hb)
    refine r_while (fun d σ G => ∃ (m : Nat) (ts' : List Addr), σ = ((start ["self", "name", "number", "ahead", "many"] [V.ref o, V.str x, V.int ↑i]).set 3 (some (.ref y))).set 4 (some (.int ((m : Nat) + 1 : Int))) ∧ Same H G ∧
        Qu A.CQ 4 G y la' lr' ts' (itr m (as, row)).1 (itr m (as, row)).2 ∧ (x, i) ∈ (itr m (as, row)).1 ∧ (itr m (as, row)).1.length + m ≤ as.length ∧ (∀ k, k < m → nxtA (itr k (as, row)) ≠ some (x, i)) ∧ d = (itr m (as, row)).1.length)
      ⟨_, 0, ts, rfl, s12, hY, hm, Nat.le_refl _, fun k hk => absurd hk (Nat.not_lt_zero k), rfl⟩ fun d σ G hW => ?_
    obtain ⟨m, ts', rfl, sG, hG, hmG, hl, hno, rfl⟩ := hW
    walk_at "go"
    generalize hs : itr m (as, row) = st at hG hmG hl
    obtain ⟨as', row'⟩ := st
    have hG : Qu A.CQ 4 G y la' lr' ts' as' row' := hG
    have hmG : (x, i) ∈ as' := hmG
    have hl : as'.length + m ≤ as.length := hl
    obtain ⟨dy, fy, ey, _, _, hny⟩ := hG.ob
    refine ⟨y, dy, fy, rfl, ey, hny.2 _ (by decide +kernel) (by decide +kernel), ?_⟩
    walk_at "go"
    refine ⟨y, la', lr', 4, ts', as', row', rfl, hG, fun z => ?_, fun x' rest i' j t' H3 hr' hi' hj nt' k3 hG3 et' => ?_⟩
    · have w := (hG.mem x).mpr ⟨i, hmG⟩
      rw [z] at w
      exact nomatch w
    subst hr'
    have nA : nxtA (itr m (as, row)) = some (x', i') := by
      rw [hs]
      show (ofN as' x').head?.map _ = _
      rw [hi']
      rfl
    have sG3 : Same H H3 := fun b u eb => k3 b u (fun z => by rw [z, fr' la' (by simp)] at eb; exact nomatch eb) (fun z => by rw [z, fr' lr' (by simp)] at eb; exact nomatch eb) (sG b u eb)
    walk_at "go"
    refine newT fun t2 H4 n4 s4 e4 => ?_
    have hmx' : (x', i') ∈ as' := mem_ofN.mp (List.mem_of_head? hi')
    refine ⟨_, _, dp_ask (p := (x', i')) (s4 _ _ et'), dp_ask (p := (x, i)) e4, sh_ask1 (str_of_name (hG.ok _ hmx')), sh_ask1 (str_of_name hx), ?_⟩
    rw [eqv_ask]
    by_cases heq : (x', i') = (x, i)
    · rw [decide_eq_true (by first | exact heq | exact heq.symm)]
      walk_at "go"
      rw [heq] at nA
      refine q m H4 (sG3.trans s4) ?_ nA hno
      have : 0 < as'.length := List.length_pos_of_mem hmG
      omega
    · rw [decide_eq_false (by first | exact heq | exact fun z => heq z.symm)]
      walk_at "go"
      have hjx : as'[j]? = some (x', i') := by
        obtain ⟨h1, h2, _⟩ := List.findIdx?_eq_some_iff_getElem.mp hj
        rw [List.getElem?_eq_getElem h1, of_decide_eq_true h2]
      have hjl : j < as'.length := (List.getElem?_eq_some_iff.mp hjx).1
      have hlen := List.length_eraseIdx_of_lt hjl
      have hs' : itr (m + 1) (as, row) = (as'.eraseIdx j, srvRow as' x' rest) := by
        show nxt (itr m (as, row)) = _
        rw [hs]
        exact nxt_of hi' hj
      refine ⟨fun σ' G' => ∃ ts'', σ' = ((start ["self", "name", "number", "ahead", "many"] [V.ref o, V.str x, V.int ↑i]).set 3 (some (.ref y))).set 4 (some (.int ((m + 1 : Nat) + 1 : Int))) ∧ Same H G' ∧ Qu A.CQ 4 G' y la' lr' ts'' (as'.eraseIdx j) (srvRow as' x' rest), fun σ' G' ⟨ts'', e1, e2, e3⟩ => ?_, ?_⟩
      · refine ⟨_, ?_, m + 1, ts'', e1, e2, by rw [hs']; exact e3, ?_, ?_, fun k hk => ?_, rfl⟩
        · rw [hs']
          show (as'.eraseIdx j).length < as'.length
          rw [hlen]
          omega
        · rw [hs']
          exact (erase_mem hjx (fun z => heq z.symm)).mpr hmG
        · rw [hs']
          show (as'.eraseIdx j).length + _ ≤ _
          rw [hlen]
          omega
        · by_cases hkm : k = m
          · rw [hkm, nA]
            exact fun z => heq (Option.some.inj z)
          · exact hno k (by omega)
      · walk_at "go"
        refine ⟨_, rfl, ?_⟩
        walk_at "go"
        refine ⟨_, _, rfl, rfl, _, rfl, sG3.trans s4, hG3.same s4⟩
end
end K22

namespace K22
open PySem PySem.Spec PyProof.Rows L2 Bk


/-! ### what the Queue refuses -/
/-- no name -/
def NoN (K : PySem.W.Frag) (H : Hp) (v : V) : Prop := (∃ z : Str, v = .str z ∧ z.length ≤ 1000 ∧ nameOk z = false) ∨ IsA K H v "str" false
def spCkNameX (K : PySem.W.Frag) (A : Ad) : Sp := fun vs H Q E => ∃ v : V, vs = [v] ∧ NoN K H v ∧ RefuseN "found" A.CN v H E
def spOfX (K : PySem.W.Frag) (A : Ad) : Sp := fun vs H Q E => ∃ (o : Addr) (v : V), vs = [.ref o, v] ∧ NoN K H v ∧ RefuseN "found" A.CN v H E
def spLeaveX (K : PySem.W.Frag) (A : Ad) : Sp := fun vs H Q E => ∃ (o la lr : Addr) (n : Nat) (ts : List Addr) (as : List (Str × Nat)) (row : List Str) (v : V), vs = [.ref o, v] ∧ Qu A.CQ n H o la lr ts as row ∧ NoN K H v ∧ RefuseN "found" A.CN v H E
def spPutX (K : PySem.W.Frag) (A : Ad) : Sp := fun vs H Q E => ∃ (o la lr : Addr) (n : Nat) (ts : List Addr) (as : List (Str × Nat)) (row : List Str) (v two : V), vs = [.ref o, v, two] ∧ Qu A.CQ n H o la lr ts as row ∧
  ((NoN K H v ∧ RefuseN "found" A.CN v H E) ∨ ∃ x : Str, v = .str x ∧ nameOk x = true ∧ ((WC K H two ∧ (∀ H', Same H H' → WC K H' two) ∧ countV two = false ∧ RefuseN "found" A.CM two H E) ∨
    ∃ i : Nat, two = .int i ∧ (((x, i) ∈ as ∧ ∀ t H', H t = none → Same H H' → H' t = some (.tup [.str x, .int i]) → RefuseN "found" A.CD (.ref t) H' E) ∨ ((x, i) ∉ as ∧ as.length = 60 ∧ RefuseN "many" A.CF (.int 60) H E))))
def spComesX (K : PySem.W.Frag) (A : Ad) : Sp := fun vs H Q E => ∃ (o la lr : Addr) (n : Nat) (ts : List Addr) (as : List (Str × Nat)) (row : List Str) (v two : V), vs = [.ref o, v, two] ∧ Qu A.CQ n H o la lr ts as row ∧
  ((WC K H two ∧ countV two = false) ∨ ∃ (x : Str) (i : Nat), v = .str x ∧ two = .int i ∧ nameOk x = true ∧ (x, i) ∉ as) ∧ ∀ t H', H t = none → Same H H' → H' t = some (.tup [v, two]) → RefuseN "found" A.CA (.ref t) H' E
section
variable {P : Program} {w : World} {K : PySem.W.Frag} {mg : Str → Option Value} {base : Heap} {A : Ad}
theorem ok_cknX {f : Addr} {fd fdN : FuncData} (F : Fun K "check_name" "check_name" s_check_name f fd) (T : Txt K mg A) (c_is_name : CalD P w K mg base CX0 2 "is_name" (spName K) [])
    (c_NoName_init : Own P w K mg base CX0 2 A.fN fdN ["self", "found"] (spInitN "found" A.CN)) : FnOk P w K mg base (L2.CX P w) 4 f fd ["thing"] (spCkNameX K A) := by
  refine F.okX sc_check_name (fun vs H Q E h => ?_) (fun cdv A' outer s H vs Q E hr h => ⟨_, (pss_one (ps_if (pt_not (pt_val (pe_cal c_is_name hr (by decide) (by rfl) (pa_cons (pv 0) pa_nil)))) (pss_one (ps_raise rfl (takes_of rfl rfl rfl rfl) (pmk_oexT T.ox_NoName T.i_NoName T.t_NoName c_NoName_init.ok (hr.mono (by decide)) c_NoName_init.bd .nil pass0 (by rfl) T.g_NoName (pa_cons (pv 0) pa_nil)))) pss_nil)), ?_⟩)
  · obtain ⟨v, rfl, _⟩ := h
    rfl
  · obtain ⟨v, rfl, hv, q⟩ := h
    walk_at "go"
    rcases hv with ⟨z, rfl, hz, hb⟩ | hv
    · refine ⟨_, rfl, .inl ⟨z, rfl, hz, fun H1 s1 => ?_⟩⟩
      rw [hb]
      walk_at "go"
      exact ⟨_, rfl, r_mkN (q.on s1)⟩
    · refine ⟨_, rfl, .inr ⟨hv, ?_⟩⟩
      walk_at "go"
      exact ⟨_, rfl, r_mkN q⟩
theorem ok_ckc {f : Addr} {fd fdM : FuncData} (F : Fun K "_check_count" "_check_count" s_check_count f fd) (T : Txt K mg A) (c_is_count : CalD P w K mg base CX0 1 "is_count" (spCount K) [])
    (c_NoNumber_init : Own P w K mg base CX0 2 A.fM fdM ["self", "found"] (spInitN "found" A.CM)) : FnOk P w K mg base (L2.CX P w) 4 f fd ["thing"] (spCheckC K A.CM) := by
  refine F.okX sc_check_count (fun vs H Q E h => ?_) (fun cdv A' outer s H vs Q E hr h => ⟨_, (pss_one (ps_if (pt_not (pt_val (pe_cal c_is_count hr (by decide) (by rfl) (pa_cons (pv 0) pa_nil)))) (pss_one (ps_raise rfl (takes_of rfl rfl rfl rfl) (pmk_oexT T.ox_NoNumber T.i_NoNumber T.t_NoNumber c_NoNumber_init.ok (hr.mono (by decide)) c_NoNumber_init.bd .nil pass0 (by rfl) T.g_NoNumber (pa_cons (pv 0) pa_nil)))) pss_nil)), ?_⟩)
  · obtain ⟨x, rfl, _⟩ := h
    rfl
  · obtain ⟨x, rfl, hx, q⟩ := h
    walk_at "go"
    refine ⟨x, rfl, hx, ?_⟩
    walk_at "go"
    rcases q with ⟨e, q⟩ | ⟨e, q⟩
    · rw [e]
      walk_at "go"
      exact q
    · rw [e]
      walk_at "go"
      exact ⟨x, rfl, r_mkN q⟩
theorem ok_ofX {f : Addr} {fd : FuncData} (F : Fun K "of" "Queue.of" s_Queue_of f fd) (T : Txt K mg A) (c_check_name : CalX P w K mg base 4 "check_name" (spCkNameX K A)) : FnOk P w K mg base (L2.CX P w) 5 f fd ["self", "name"] (spOfX K A) := by
  refine F.okX sc_Queue_of (fun vs H Q E h => ?_) (fun cdv A' outer s H vs Q E hr h => ⟨_, (pss_cons (ps_expr (pe_calX c_check_name hr (by decide) (by rfl) (takes_of rfl rfl rfl rfl) (pa_cons (pv 1) pa_nil)))
    (pss_one (ps_ret (pe_lc (own := [("ask", 2)]) rfl sc_Queue_of.nd (pi_list (pe_fld (pv 0) rfl)) (blkOk_by (N := ["self", "name", "ask"]) (sc := defScope s_Queue_of) (by decide +kernel)) (fun _ _ _ _ _ => (pg_name (i := 2) sc_Queue_of.nd rfl (.inl rfl))) (fun _ _ _ _ _ => pts_one (pt_cmpR op_eq (pe_ix (ix_tupK (K := K) rfl) (pv 2) pe_int (fun _ _ => rfl)) (pv 1) (nomark _))) (fun _ _ _ _ _ => (pe_ix (ix_tupK (K := K) rfl) (pv 2) pe_int (fun _ _ => rfl))))))), ?_⟩)
  · obtain ⟨o, v, rfl, _⟩ := h
    rfl
  · obtain ⟨o, v, rfl, hv, q⟩ := h
    walk_at "go"
    exact ⟨v, rfl, hv, q⟩
theorem ok_leaveX {f : Addr} {fd : FuncData} (F : Fun K "leave" "Queue.leave" s_Queue_leave f fd) (T : Txt K mg A) (c_Queue_of : CalM P w K mg base (L2.CX P w) 5 A.CQ "of" (spOfX K A)) : FnOk P w K mg base (L2.CX P w) 6 f fd ["self", "name"] (spLeaveX K A) := by
  refine F.okX sc_Queue_leave (fun vs H Q E h => ?_) (fun cdv A' outer s H vs Q E hr h => ⟨_, (pss_cons (ps_set (i := 2) sc_Queue_leave.nd rfl (.inl rfl) (pe_mth (pv 0) T.cl_Queue c_Queue_of hr (by decide) (psX (takes_of rfl rfl rfl rfl)) (pa_cons (pv 1) pa_nil)))
    (pss_cons (ps_fld (pv 0) (pe_lc (own := [("ask", 3)]) rfl sc_Queue_leave.nd (pi_list (pe_fld (pv 0) rfl)) (blkOk_by (N := ["self", "name", "numbers", "ask", "other"]) (sc := defScope s_Queue_leave) (by decide +kernel)) (fun _ _ _ _ _ => (pg_name (i := 3) sc_Queue_leave.nd rfl (.inl rfl))) (fun _ _ _ _ _ => pts_one (pt_cmpR op_ne (pe_ix (ix_tupK (K := K) rfl) (pv 3) pe_int (fun _ _ => rfl)) (pv 1) (nomark _))) (fun _ _ _ _ _ => (pv 3))) rfl)
    (pss_cons (ps_fld (pv 0) (pe_lc (own := [("other", 4)]) rfl sc_Queue_leave.nd (pi_list (pe_fld (pv 0) rfl)) (blkOk_by (N := ["self", "name", "numbers", "ask", "other"]) (sc := defScope s_Queue_leave) (by decide +kernel)) (fun _ _ _ _ _ => (pg_name (i := 4) sc_Queue_leave.nd rfl (.inl rfl))) (fun _ _ _ _ _ => pts_one (pt_cmpR op_ne (pv 4) (pv 1) (nomark _))) (fun _ _ _ _ _ => (pv 4))) rfl)
    (pss_one (ps_ret (pv 2)))))), ?_⟩)
  · obtain ⟨o, la, lr, n, ts, as, row, v, rfl, _⟩ := h
    rfl
  · obtain ⟨o, la, lr, n, ts, as, row, v, rfl, hQ, hv, q⟩ := h
    obtain ⟨dx, fs, e, hA, hR, hn⟩ := hQ.ob
    walk_at "go"
    refine ⟨o, dx, fs, rfl, e, hn.2 _ (by decide +kernel) (by decide +kernel), ?_⟩
    walk_at "go"
    exact ⟨o, v, rfl, hv, q⟩
theorem ok_putX {f : Addr} {fd fdD fdF : FuncData} (F : Fun K "put" "Queue.put" s_Queue_put f fd) (T : Txt K mg A) (c_check_name : CalX P w K mg base 4 "check_name" (fun vs H Q E => spCkName vs H Q E ∨ spCkNameX K A vs H Q E)) (c_check_count : CalX P w K mg base 4 "_check_count" (spCheckC K A.CM)) (c_Doubled_init : Own P w K mg base CX0 2 A.fD fdD ["self", "found"] (spInitN "found" A.CD)) (c_Full_init : Own P w K mg base CX0 2 A.fF fdF ["self", "many"] (spInitN "many" A.CF)) : FnOk P w K mg base (L2.CX P w) 5 f fd ["self", "name", "number"] (spPutX K A) := by
  refine F.okX sc_Queue_put (fun vs H Q E h => ?_) (fun cdv A' outer s H vs Q E hr h => have hu65 := units65 hr; ⟨_, (pss_cons (ps_expr (pe_calX c_check_name hr (by decide) (by rfl) (takes_of rfl rfl rfl rfl) (pa_cons (pv 1) pa_nil)))
    (pss_cons (ps_expr (pe_calX c_check_count hr (by decide) (by rfl) (takes_of rfl rfl rfl rfl) (pa_cons (pv 2) pa_nil)))
    (pss_cons (ps_if (pt_cmpR (op_inD hu65) (pe_tup (pa_cons (pv 1) (pa_cons (pv 2) pa_nil))) (pe_fld (pv 0) rfl) (by rfl)) (pss_one (ps_raise rfl (takes_of rfl rfl rfl rfl) (pmk_oexT T.ox_Doubled T.i_Doubled T.t_Doubled c_Doubled_init.ok (hr.mono (by decide)) c_Doubled_init.bd .nil pass0 (by rfl) T.g_Doubled (pa_cons (pe_tup (pa_cons (pv 1) (pa_cons (pv 2) pa_nil))) pa_nil)))) pss_nil)
    (pss_cons (ps_if (pt_cmpR op_eq (pe_callB call_len_seq (by rfl) T.m_len (by decide +kernel) (pa_cons (pe_fld (pv 0) rfl) pa_nil)) (C8.pe_gc (by rfl) T.c_MOST_WAITING) (nomark _)) (pss_one (ps_raise rfl (takes_of rfl rfl rfl rfl) (pmk_oexT T.ox_Full T.i_Full T.t_Full c_Full_init.ok (hr.mono (by decide)) c_Full_init.bd .nil pass0 (by rfl) T.g_Full (pa_cons (C8.pe_gc (by rfl) T.c_MOST_WAITING) pa_nil)))) pss_nil)
    (pss_cons (ps_expr (pe_bm PySem.F.plainAttrs_list PySem.F.slot_list_append PySem.F.type_list_append mt_append (pe_fld (pv 0) rfl) (pa_cons (pe_tup (pa_cons (pv 1) (pa_cons (pv 2) pa_nil))) pa_nil)))
    (pss_one (ps_if (pt_cmpR op_notIn_seq (pv 1) (pe_fld (pv 0) rfl) (by rfl)) (pss_one (ps_expr (pe_bm PySem.F.plainAttrs_list PySem.F.slot_list_append PySem.F.type_list_append mt_append (pe_fld (pv 0) rfl) (pa_cons (pv 1) pa_nil)))) pss_nil))))))), ?_⟩)
  · obtain ⟨o, la, lr, n, ts, as, row, v, two, rfl, _⟩ := h
    rfl
  · obtain ⟨o, la, lr, n, ts, as, row, v, two, rfl, hQ, hc⟩ := h
    obtain ⟨dx, fs, e, hA, hR, hn⟩ := hQ.ob
    walk_at "go"
    rcases hc with ⟨hv, q⟩ | ⟨x, rfl, hx, hc⟩
    · exact .inr ⟨v, rfl, hv, q⟩
    · refine .inl ⟨x, rfl, hx, fun H1 s1 => ?_⟩
      have hQ1 := hQ.same s1
      have e1 := s1 _ _ e
      walk_at "go"
      rcases hc with ⟨_, hw, hb, q⟩ | ⟨i, rfl, hc⟩
      · exact ⟨two, rfl, hw _ s1, .inr ⟨hb, q.on s1⟩⟩
      · refine ⟨_, rfl, .inl ⟨_, rfl⟩, .inl ⟨count_int (by omega), ?_⟩⟩
        walk_at "go"
        refine newT fun t2 H2 n2 s2 e2 => ?_
        walk_at "go"
        refine ⟨_, rfl, o, A.CQ, dx, fs, _, rfl, s2 _ _ e1, T.cl_Queue, T.na_asks, hA, ?_⟩
        have hQ2 := hQ1.same s2
        refine hQ2.al.mem (p := (x, i)) hQ2.ao (str_of_name hx) (dp_ask e2) ?_
        rcases hc with ⟨hm, q⟩ | ⟨hm, hl, q⟩
        · rw [decide_eq_true hm]
          walk_at "go"
          unfold tMkO
          walk_at "go"
          refine newT fun t3 H3 n3 s3 e3 => ?_
          walk_at "go"
          exact r_mkN (q t3 H3 ((s1.trans s2).free n3) ((s1.trans s2).trans s3) e3)
        · rw [decide_eq_false hm]
          walk_at "go"
          refine ⟨_, rfl, o, A.CQ, dx, fs, _, rfl, s2 _ _ e1, T.cl_Queue, T.na_asks, hA, ?_⟩
          walk_at "go"
          refine ⟨la, _, rfl, .inl (sqL hQ2.al.at_), ?_⟩
          rw [List.length_map, hQ2.al.len, hl]
          walk_at "go"
          refine iteD rfl ?_
          walk_at "go"
          exact r_mkN (q.on (s1.trans s2))
theorem ok_comesX {f : Addr} {fd fdA : FuncData} (F : Fun K "comes_at" "Queue.comes_at" s_Queue_comes_at f fd) (T : Txt K mg A) (c_is_count : CalD P w K mg base CX0 1 "is_count" (spCount K) [])
    (c_NoAsk_init : Own P w K mg base CX0 2 A.fA fdA ["self", "found"] (spInitN "found" A.CA)) (c_Queue_twin : CalM P w K mg base CX0 3 A.CQ "twin" (spTwinQ A)) (c_Queue_serve : CalM P w K mg base CX0 6 A.CQ "serve" (spServe A)) : FnOk P w K mg base (L2.CX P w) 7 f fd ["self", "name", "number"] (spComesX K A) := by
  refine F.okX sc_Queue_comes_at (fun vs H Q E h => ?_) (fun cdv A' outer s H vs Q E hr h => have hu65 := units65 hr; have hu64 := hr.units; ⟨_, (pss_cons (ps_if (PW.pt (pw_or (pt_not (pt_val (pe_cal c_is_count hr (by decide) (by rfl) (pa_cons (pv 2) pa_nil)))) (pw_or1 (pt_cmpR (op_notInD hu65) (pe_tup (pa_cons (pv 1) (pa_cons (pv 2) pa_nil))) (pe_fld (pv 0) rfl) (by rfl))))) (pss_one (ps_raise rfl (takes_of rfl rfl rfl rfl) (pmk_oexT T.ox_NoAsk T.i_NoAsk T.t_NoAsk c_NoAsk_init.ok (hr.mono (by decide)) c_NoAsk_init.bd .nil pass0 (by rfl) T.g_NoAsk (pa_cons (pe_tup (pa_cons (pv 1) (pa_cons (pv 2) pa_nil))) pa_nil)))) pss_nil)
    (pss_cons (ps_set (i := 3) sc_Queue_comes_at.nd rfl (.inl rfl) (pe_mth0 (pv 0) T.cl_Queue c_Queue_twin hr (by decide) ps0))
    (pss_cons (ps_set (i := 4) sc_Queue_comes_at.nd rfl (.inl rfl) pe_int)
    (pss_cons (ps_while (passes_of rfl) (pt_cmpR (op_neD hu64) (pe_mth0 (pv 3) T.cl_Queue c_Queue_serve hr (by decide) ps0) (pe_tup (pa_cons (pv 1) (pa_cons (pv 2) pa_nil))) (nomark _))
      (pss_one (ps_aug (i := 4) sc_Queue_comes_at.nd rfl (.inl rfl) pe_int ip_add)))
    (pss_one (ps_ret (pv 4))))))), ?_⟩)
  · obtain ⟨o, la, lr, n, ts, as, row, v, two, rfl, _⟩ := h
    rfl
  · obtain ⟨o, la, lr, n, ts, as, row, v, two, rfl, hQ, hc, q⟩ := h
    obtain ⟨dx, fs, e, hA, hR, hn⟩ := hQ.ob
    walk_at "go"
    rcases hc with ⟨hw, hb⟩ | ⟨x, i, rfl, rfl, hx, hm⟩
    · refine ⟨_, rfl, hw, ?_⟩
      rw [hb]
      walk_at "go"
      unfold tMkO
      walk_at "go"
      refine newT fun t3 H3 n3 s3 e3 => ?_
      walk_at "go"
      exact r_mkN (q t3 H3 n3 s3 e3)
    · refine ⟨_, rfl, .inl ⟨_, rfl⟩, ?_⟩
      rw [count_int (show 0 ≤ (i : Int) by omega)]
      walk_at "go"
      refine newT fun t1 H1 n1 s1 e1 => ?_
      walk_at "go"
      refine ⟨_, rfl, o, A.CQ, dx, fs, _, rfl, s1 _ _ e, T.cl_Queue, T.na_asks, hA, ?_⟩
      refine (hQ.al.same s1).memN hQ.ao (str_of_name hx) (dp_ask (p := (x, i)) e1) ?_
      rw [decide_eq_false hm]
      walk_at "go"
      unfold tMkO
      walk_at "go"
      refine newT fun t3 H3 n3 s3 e3 => ?_
      walk_at "go"
      exact r_mkN (q t3 H3 (s1.free n3) (s1.trans s3) e3)
end
end K22

namespace K22
open PySem PySem.Spec PyProof.Rows L2 Bk


/-! ### the law's own rows -/
structure St where
  S : Addr
  rl : Addr
  ol : Addr
  rs : List (Str × Addr × Addr)
  ts : List Addr
def intsV (l : List Nat) : List V := l.map fun (i : Nat) => V.int i
def St.fp (s : St) : List Addr := s.S :: s.rl :: s.ol :: (s.rs.map (·.2.1) ++ s.rs.map (·.2.2))
def St.row (s : St) : List Str := s.rs.map (·.1)
structure StAt (H : Hp) (s : St) (as : List (Str × Nat)) : Prop where
  top : H s.S = some (.lst [.ref s.rl, .ref s.ol])
  rows : H s.rl = some (.lst (s.rs.map fun e => V.ref e.2.1))
  ent : ∀ e ∈ s.rs, H e.2.1 = some (.lst [.str e.1, .ref e.2.2]) ∧ H e.2.2 = some (.lst (intsV (ofN as e.1)))
  ord : AL H s.ol s.ts as
  nd : s.fp.Nodup
  rn : s.row.Nodup
  ok : ∀ p ∈ as, nameOk p.1 = true
  mem : ∀ x, x ∈ s.row ↔ ∃ i, (x, i) ∈ as
  small : as.length ≤ 60
theorem StAt.keep {H H' : Hp} {s : St} {as : List (Str × Nat)} (h : StAt H s as) (k : ∀ b u, b ∈ s.fp → H b = some u → H' b = some u) (t : ∀ b xs, H b = some (.tup xs) → H' b = some (.tup xs)) : StAt H' s as := by
  refine { h with top := k _ _ List.mem_cons_self h.top, rows := k _ _ (List.mem_cons_of_mem _ List.mem_cons_self) h.rows, ent := fun e he => ?_, ord := ⟨k _ _ (List.mem_cons_of_mem _ (List.mem_cons_of_mem _ List.mem_cons_self)) h.ord.at_, h.ord.len, fun a b c d e => t _ _ (h.ord.row a b c d e)⟩ }
  obtain ⟨a, b⟩ := h.ent e he
  refine ⟨k _ _ (List.mem_cons_of_mem _ (List.mem_cons_of_mem _ (List.mem_cons_of_mem _ (List.mem_append_left _ (List.mem_map.mpr ⟨e, he, rfl⟩))))) a, k _ _ (List.mem_cons_of_mem _ (List.mem_cons_of_mem _ (List.mem_cons_of_mem _ (List.mem_append_right _ (List.mem_map.mpr ⟨e, he, rfl⟩))))) b⟩
theorem StAt.same {H H' : Hp} {s : St} {as : List (Str × Nat)} (h : StAt H s as) (c : Same H H') : StAt H' s as := h.keep (fun b u _ => c b u) fun b xs => c b _
theorem StAt.rl60 {H : Hp} {s : St} {as : List (Str × Nat)} (h : StAt H s as) : s.rs.length ≤ 60 := by
  have l : s.row.length ≤ (as.map (·.1)).length := nd_le h.rn fun x hx => by
    obtain ⟨i, hi⟩ := (h.mem x).mp hx
    exact List.mem_map.mpr ⟨_, hi, rfl⟩
  have := h.small
  rw [List.length_map] at l
  unfold St.row at l
  rw [List.length_map] at l
  omega
theorem fil_none {rs : List (Str × Addr × Addr)} {x : Str} (h : x ∉ rs.map (·.1)) : rs.filterMap (fun e => if e.1 = x then some (V.ref e.2.1) else none) = [] := by
  refine List.filterMap_eq_nil_iff.mpr fun e he => if_neg fun z => h ?_
  rw [← z]
  exact List.mem_map.mpr ⟨e, he, rfl⟩
theorem fil_one {x : Str} : ∀ {rs : List (Str × Addr × Addr)} {e : Str × Addr × Addr}, (rs.map (·.1)).Nodup → e ∈ rs → e.1 = x → rs.filterMap (fun z => if z.1 = x then some (V.ref z.2.1) else none) = [V.ref e.2.1]
  | [], _, _, h, _ => nomatch h
  | a :: r, e, nd, h, ex => by
    have nd2 := List.nodup_cons.mp (show (a.1 :: r.map (·.1)).Nodup from nd)
    rw [List.filterMap_cons]
    rcases List.mem_cons.mp h with rfl | h
    · rw [if_pos ex]
      show V.ref e.2.1 :: _ = _
      rw [fil_none (by rw [← ex]; exact nd2.1)]
    · have na : a.1 ≠ x := fun z => nd2.1 (by rw [z, ← ex]; exact List.mem_map.mpr ⟨e, h, rfl⟩)
      rw [if_neg na]
      exact fil_one nd2.2 h ex
theorem ofN_app {as : List (Str × Nat)} {x y : Str} {i : Nat} : ofN (as ++ [(x, i)]) y = ofN as y ++ if x = y then [i] else [] := by
  unfold ofN
  rw [List.filterMap_append]
  congr 1
  by_cases h : x = y
  · rw [if_pos h, List.filterMap_cons, if_pos h]
    rfl
  · rw [if_neg h, List.filterMap_cons, if_neg h]
    rfl
theorem ofN_none {as : List (Str × Nat)} {x : Str} (h : ¬ ∃ i, (x, i) ∈ as) : ofN as x = [] := by
  refine List.filterMap_eq_nil_iff.mpr fun p hp => if_neg fun z => h ⟨p.2, ?_⟩
  rw [← z]
  exact hp
theorem nd_at {α : Type} {a b : List α} {x y : α} (h : (a ++ b).Nodup) (hx : x ∈ a) (hy : y ∈ b) : x ≠ y := (List.nodup_append.mp h).2.2 x hx y hy
/-- [x, [i, ..]] as data -/
def rowD (x : Str) (l : List Nat) : PyData := .list [.str x, .list (l.map fun (i : Nat) => .int i)]
theorem dp_ints {K : PySem.W.Frag} {H : Hp} : ∀ l : List Nat, DpAll K H (intsV l) (l.map fun (i : Nat) => PyData.int i)
  | [] => .nil
  | a :: r => .cons (.int _) (dp_ints r)
theorem StAt.dps {K : PySem.W.Frag} {H : Hp} {as : List (Str × Nat)} : ∀ {rs : List (Str × Addr × Addr)}, (∀ e ∈ rs, H e.2.1 = some (.lst [.str e.1, .ref e.2.2]) ∧ H e.2.2 = some (.lst (intsV (ofN as e.1)))) → DpAll K H (rs.map fun e => V.ref e.2.1) (rs.map fun e => rowD e.1 (ofN as e.1))
  | [], _ => .nil
  | e :: r, h => by
    obtain ⟨a, b⟩ := h e List.mem_cons_self
    exact .cons (.lst (sqL a) (.cons (.str _) (.cons (.lst (sqL b) (dp_ints _)) .nil))) (StAt.dps fun z hz => h z (List.mem_cons_of_mem _ hz))
theorem lay_ints : ∀ l : List Nat, PyData.canLayAll0 (l.map fun (i : Nat) => PyData.int i) = true ∧ PyData.depthAll (l.map fun (i : Nat) => PyData.int i) = 0
  | [] => ⟨rfl, rfl⟩
  | a :: r => by
    obtain ⟨h1, h2⟩ := lay_ints r
    constructor
    · show (PyData.canLay0 (.int a) && PyData.canLayAll0 _) = true
      rw [h1]
      simp only [PyData.canLay0, Bool.true_and]
    · show max (PyData.depth (.int a)) (PyData.depthAll _) = 0
      rw [h2]
      rfl
theorem lay_row {x : Str} (h : PyData.strOk x = true) (l : List Nat) : PyData.canLay0 (rowD x l) = true ∧ PyData.depth (rowD x l) = 2 := by
  obtain ⟨h1, h2⟩ := lay_ints l
  generalize hX : (l.map fun (i : Nat) => PyData.int i) = X at h1 h2
  unfold rowD
  rw [hX]
  constructor
  · show (PyData.canLay0 (.str x) && (PyData.canLay0 (.list X) && true)) = true
    simp only [PyData.canLay0, h, h1, Bool.and_true]
  · simp only [PyData.depth, PyData.depthAll, h2]
    rfl
theorem lay_rws {f : Str → List Nat} : ∀ {rs : List (Str × Addr × Addr)}, (∀ e ∈ rs, PyData.strOk e.1 = true) → PyData.canLayAll0 (rs.map fun e => rowD e.1 (f e.1)) = true ∧ PyData.depthAll (rs.map fun e => rowD e.1 (f e.1)) ≤ 2
  | [], _ => ⟨rfl, Nat.zero_le _⟩
  | e :: r, h => by
    obtain ⟨a, b⟩ := lay_rws (f := f) (rs := r) fun z hz => h z (List.mem_cons_of_mem _ hz)
    obtain ⟨c, d⟩ := lay_row (h e List.mem_cons_self) (f e.1)
    constructor
    · show (PyData.canLay0 (rowD e.1 (f e.1)) && PyData.canLayAll0 _) = true
      rw [c, a]
      rfl
    · show max (PyData.depth (rowD e.1 (f e.1))) (PyData.depthAll _) ≤ 2
      rw [d]
      omega
theorem sh_rws {f : Str → List Nat} {rs : List (Str × Addr × Addr)} (h : ∀ e ∈ rs, PyData.strOk e.1 = true) : SeqAt.shaped (.list (rs.map fun e => rowD e.1 (f e.1))) = true := by
  obtain ⟨a, b⟩ := lay_rws (f := f) h
  generalize (rs.map fun e => rowD e.1 (f e.1)) = X at a b ⊢
  unfold SeqAt.shaped
  simp only [PyData.canLay0, a, PyData.depth, Bool.true_and]
  exact decide_eq_true (by omega)
theorem sh_row {x : Str} (h : PyData.strOk x = true) (l : List Nat) : SeqAt.shaped (.list [rowD x l]) = true := by
  obtain ⟨a, b⟩ := lay_row h l
  generalize rowD x l = X at a b ⊢
  unfold SeqAt.shaped
  have c : PyData.canLayAll0 [X] = true := by
    show (PyData.canLay0 X && true) = true
    rw [a]
    rfl
  have d : PyData.depthAll [X] = 2 := by
    show max (PyData.depth X) 0 = 2
    rw [b]
    rfl
  simp only [PyData.canLay0, c, PyData.depth, d, Bool.true_and]
  decide
theorem sh_ints (l : List Nat) : SeqAt.shaped (.list (l.map fun (i : Nat) => PyData.int i)) = true := by
  obtain ⟨a, b⟩ := lay_ints l
  generalize (l.map fun (i : Nat) => PyData.int i) = X at a b ⊢
  unfold SeqAt.shaped
  simp only [PyData.canLay0, a, PyData.depth, b, Bool.true_and]
  decide
theorem StAt.strs {H : Hp} {s : St} {as : List (Str × Nat)} (h : StAt H s as) : ∀ e ∈ s.rs, PyData.strOk e.1 = true := fun e he => by
  obtain ⟨i, hi⟩ := (h.mem e.1).mp (List.mem_map.mpr ⟨e, he, rfl⟩)
  exact str_of_name (h.ok _ hi)
theorem r_lst2 {K : PySem.W.Frag} {σ : L2.St} {H : Hp} {Q : L2.St → Hp → Prop} {a : Addr} {x y : V} {i j n : Nat} (e : H a = some (.lst [x, y])) (hn : n = 2) (q : Q ((σ.set i (some x)).set j (some y)) H) : gLst K n (gCons (gName i) (gCons (gName j) gNil)) (.ref a) σ H Q :=
  ⟨a, _, rfl, sqL e, hn.symm, x, _, rfl, y, _, rfl, rfl, q⟩
theorem nd_fp {s : St} (h : s.fp.Nodup) : (∀ b ∈ s.fp, b = s.S ∨ b ≠ s.S) ∧ s.rl ≠ s.S ∧ (s.ol ≠ s.S ∧ s.ol ≠ s.rl) ∧ ∀ e ∈ s.rs, e.2.1 ≠ s.S ∧ e.2.1 ≠ s.rl ∧ e.2.1 ≠ s.ol ∧ e.2.2 ≠ s.S ∧ e.2.2 ≠ s.rl ∧ e.2.2 ≠ s.ol := by
  unfold St.fp at h
  have h1 := List.nodup_cons.mp h
  have h2 := List.nodup_cons.mp h1.2
  have h3 := List.nodup_cons.mp h2.2
  refine ⟨fun b _ => Classical.em _, fun z => h1.1 (by rw [← z]; exact List.mem_cons_self), ⟨fun z => h1.1 (by rw [← z]; exact List.mem_cons_of_mem _ List.mem_cons_self), fun z => h2.1 (by rw [← z]; exact List.mem_cons_self)⟩, fun e he => ?_⟩
  have a : e.2.1 ∈ s.rs.map (·.2.1) ++ s.rs.map (·.2.2) := List.mem_append_left _ (List.mem_map.mpr ⟨e, he, rfl⟩)
  have b : e.2.2 ∈ s.rs.map (·.2.1) ++ s.rs.map (·.2.2) := List.mem_append_right _ (List.mem_map.mpr ⟨e, he, rfl⟩)
  exact ⟨fun z => h1.1 (by rw [← z]; exact List.mem_cons_of_mem _ (List.mem_cons_of_mem _ a)), fun z => h2.1 (by rw [← z]; exact List.mem_cons_of_mem _ a), fun z => h3.1 (by rw [← z]; exact a),
    fun z => h1.1 (by rw [← z]; exact List.mem_cons_of_mem _ (List.mem_cons_of_mem _ b)), fun z => h2.1 (by rw [← z]; exact List.mem_cons_of_mem _ b), fun z => h3.1 (by rw [← z]; exact b)⟩
theorem inj_map {α β : Type} {f : α → β} : ∀ {l : List α} {x y : α}, (l.map f).Nodup → x ∈ l → y ∈ l → f x = f y → x = y
  | a :: r, x, y, nd, hx, hy, e => by
    have n := List.nodup_cons.mp (show (f a :: r.map f).Nodup from nd)
    rcases List.mem_cons.mp hx with h1 | h1 <;> rcases List.mem_cons.mp hy with h2 | h2
    · exact h1.trans h2.symm
    · exact absurd (show f a ∈ r.map f from List.mem_map.mpr ⟨y, h2, by rw [← h1]; exact e.symm⟩) n.1
    · exact absurd (show f a ∈ r.map f from List.mem_map.mpr ⟨x, h1, by rw [← h2]; exact e⟩) n.1
    · exact inj_map n.2 h1 h2 e
def putRow (row : List Str) (x : Str) : List Str := if x ∈ row then row else row ++ [x]
def spPutL : Sp := fun vs H Q _ => ∃ (s : St) (as : List (Str × Nat)) (x : Str) (i : Nat), vs = [.ref s.S, .str x, .int i] ∧ StAt H s as ∧ nameOk x = true ∧ as.length < 60 ∧
  ∀ (s' : St) H', s'.S = s.S → (∀ b ∈ s'.fp, b ∈ s.fp ∨ H b = none) → (∀ b u, b ∉ s.fp → H b = some u → H' b = some u) → s'.row = putRow s.row x → StAt H' s' (as ++ [(x, i)]) → Q .non H'
section
variable {P : Program} {w : World} {K : PySem.W.Frag} {mg : Str → Option Value} {base : Heap} {A : Ad}
theorem ok_putL {f : Addr} {fd : FuncData} (F : Fun K "_law_put" "_law_put" s_put_L f fd) (T : Txt K mg A) : FnOk P w K mg base CX0 1 f fd ["_law_state", "_law_who", "_law_which"] spPutL := by
  refine F.ok sc_put_L (fun vs H Q E h => ?_) (fun cdv A' outer s H vs Q E hr h => have hu65 := units65 hr; have hu64 := hr.units; ⟨_, (pss_cons (ps_asg (pv 0) (pg_lst rfl (pgs_cons (pg_name (i := 3) sc_put_L.nd rfl (.inl rfl)) (pgs_cons (pg_name (i := 4) sc_put_L.nd rfl (.inl rfl)) pgs_nil))))
    (pss_cons (ps_setLc (i := 5) (own := [("_law_some", 6)]) rfl sc_put_L.nd rfl rfl (sw_true rfl rfl rfl (by decide +kernel)) (pi_list (pv 3)) (blkOk_by (N := ["_law_state", "_law_who", "_law_which", "_law_row", "_law_order", "_law_there", "_law_some"]) (sc := defScope s_put_L) (by decide +kernel)) (fun _ _ _ _ _ => (pg_name (i := 6) sc_put_L.nd rfl (.inl rfl))) (fun _ _ _ _ _ => pts_one (pt_cmpR op_eq (pe_ix (ix_listK (K := K) rfl) (pv 6) pe_int (fun _ _ => rfl)) (pv 1) (nomark _))) (fun _ _ _ _ _ => (pv 6)))
    (pss_cons (ps_if (pt_cmpR (op_eqD hu64) (pv 5) (pe_lstB pa_nil) (nomark _)) (pss_one (ps_expr (pe_bm PySem.F.plainAttrs_list PySem.F.slot_list_append PySem.F.type_list_append mt_append (pv 3) (pa_cons (pe_lstB (pa_cons (pv 1) (pa_cons (pe_lstB (pa_cons (pv 2) pa_nil)) pa_nil))) pa_nil)))) (pss_one (ps_expr (pe_bm PySem.F.plainAttrs_list PySem.F.slot_list_append PySem.F.type_list_append mt_append (pe_ix ix_list (pe_ix ix_list (pv 5) pe_int (fun _ _ => rfl)) pe_int (fun _ _ => rfl)) (pa_cons (pv 2) pa_nil)))))
    (pss_one (ps_expr (pe_bm PySem.F.plainAttrs_list PySem.F.slot_list_append PySem.F.type_list_append mt_append (pv 4) (pa_cons (pe_tup (pa_cons (pv 1) (pa_cons (pv 2) pa_nil))) pa_nil))))))), ?_⟩)
  · obtain ⟨s, as, x, i, rfl, _⟩ := h
    rfl
  · obtain ⟨s, as, x, i, rfl, hS, hx, h60, q⟩ := h
    walk_at "go"
    refine r_lst2 hS.top rfl ?_
    walk_at "go"
    have rl := hS.rl60
    refine lcLF (fun i => (fun (e : Str × Addr × Addr) => if e.1 = x then some (V.ref e.2.1) else none) (s.rs.getD i ("", 0, 0))) (fun QQ z => ⟨_, rfl, z⟩) (sqL hS.rows) (by rw [List.length_map]; omega) (fun _ => rfl) (fun k y H2 Q' R' hy sm h1 h2 => ?_) fun D H2 nD s2 e2 => ?_
    · rw [List.getElem?_map] at hy
      cases hi : s.rs[k]? with
      | none => rw [hi] at hy; exact nomatch hy
      | some e =>
        rw [hi] at hy
        obtain rfl := Option.some.inj hy
        have hg : s.rs.getD k ("", 0, 0) = e := by rw [List.getD_eq_getElem?_getD, hi]; rfl
        rw [hg] at h1 h2
        obtain ⟨ea, eb⟩ := hS.ent e (List.mem_of_getElem? hi)
        walk_at "go"
        refine r_ixL (sqL (sm _ _ ea)) (v := .str e.1) rfl ?_
        walk_at "go"
        by_cases hp : e.1 = x
        · rw [decide_eq_true (by rw [hp])]
          walk_at "go"
          exact h1 _ (if_pos hp) _ (Same.refl _)
        · rw [decide_eq_false (fun w => hp (by injection w))]
          walk_at "go"
          exact h2 (if_neg hp) _ (Same.refl _)
    rw [List.length_map, rng_fm ((Str.ofString "", 0, 0) : Str × Addr × Addr) s.rs (fun e => if e.1 = x then some (V.ref e.2.1) else none)] at e2
    walk_at "go"
    refine newLB fun e0 H3 n0 g0 s3 ee => ?_
    have s13 := s2.trans s3
    have e3 := s3 _ _ e2
    obtain ⟨ndS, ndr, ndo, ndA⟩ := nd_fp hS.nd
    have ok' : ∀ p ∈ as ++ [(x, i)], nameOk p.1 = true := fun p hp => (List.mem_append.mp hp).elim (hS.ok p) fun z => by
      rw [List.mem_singleton.mp z]
      exact hx
    have mem' : ∀ row2 : List Str, (∀ y, y ∈ row2 ↔ y ∈ s.row ∨ y = x) → ∀ y, y ∈ row2 ↔ ∃ j, (y, j) ∈ as ++ [(x, i)] := fun row2 h y => by
      rw [h y]
      refine ⟨fun z => ?_, fun ⟨j, z⟩ => ?_⟩
      · rcases z with z | rfl
        · obtain ⟨j, hj⟩ := (hS.mem y).mp z
          exact ⟨j, List.mem_append_left _ hj⟩
        · exact ⟨i, List.mem_append_right _ List.mem_cons_self⟩
      · rcases List.mem_append.mp z with z | z
        · exact .inl ((hS.mem y).mpr ⟨j, z⟩)
        · exact .inr (Prod.mk.inj (List.mem_singleton.mp z)).1
    have sm' : (as ++ [(x, i)]).length ≤ 60 := by
      rw [List.length_append]
      exact h60
    by_cases hr' : x ∈ s.row
    · obtain ⟨e, he, ex⟩ := List.mem_map.mp hr'
      rw [fil_one hS.rn he ex] at e3
      obtain ⟨ea, eb⟩ := hS.ent e he
      refine ⟨.list [rowD e.1 (ofN as e.1)], .list [], .lst (sqL e3) (.cons (.lst (sqL (s13 _ _ ea)) (.cons (.str _) (.cons (.lst (sqL (s13 _ _ eb)) (dp_ints _)) .nil))) .nil), .lst (sqL ee) .nil, sh_row (hS.strs e he) _, sh_nil, ?_⟩
      rw [eqv_nil, decide_eq_false (fun z => nomatch z)]
      walk_at "go"
      refine r_ixL (sqL e3) (v := .ref e.2.1) rfl ?_
      walk_at "go"
      refine r_ixL (sqL (s13 _ _ ea)) (v := .ref e.2.2) rfl ?_
      walk_at "go"
      have eb3 := s13 _ _ eb
      refine ⟨.inl ⟨rfl, _, sqL eb3⟩, ?_⟩
      walk_at "go"
      have l60 : (ofN as e.1).length ≤ 60 := Nat.le_trans (List.length_filterMap_le _ _) hS.small
      refine ⟨e.2.2, _, _, rfl, rfl, eb3, by unfold intsV; rw [List.length_map, sizeLine_eq]; omega, ?_⟩
      have o4 : upd H3 e.2.2 (.lst (intsV (ofN as e.1) ++ [.int i])) s.ol = some (.lst (s.ts.map V.ref)) := by
        rw [upd_ne (ndA e he).2.2.2.2.2.symm]
        exact s13 _ _ hS.ord.at_
      have t4 : ∀ b xs, H b = some (.tup xs) → upd H3 e.2.2 (.lst (intsV (ofN as e.1) ++ [.int i])) b = some (.tup xs) := fun b xs z => by
        have z3 := s13 _ _ z
        rw [upd_ne (ne_ct z3 eb3 fun w => nomatch w)]
        exact z3
      have f4 : ∀ b u, b ≠ e.2.2 → H b = some u → upd H3 e.2.2 (.lst (intsV (ofN as e.1) ++ [.int i])) b = some u := fun b u n z => by
        rw [upd_ne n]
        exact s13 _ _ z
      have b4 : upd H3 e.2.2 (.lst (intsV (ofN as e.1) ++ [.int i])) e.2.2 = some (.lst (intsV (ofN as e.1) ++ [.int i])) := upd_same
      generalize upd H3 e.2.2 (.lst (intsV (ofN as e.1) ++ [.int i])) = H4 at o4 t4 f4 b4 ⊢
      walk_at "go"
      refine ⟨.inl ⟨rfl, _, sqL o4⟩, ?_⟩
      walk_at "go"
      refine newT fun t H5 n5 s5 e5 => ?_
      walk_at "go"
      have hO : AL H4 s.ol s.ts as := ⟨o4, hS.ord.len, fun k a b c d => t4 _ _ (hS.ord.row k a b c d)⟩
      have hO5 := hO.same s5
      refine ⟨s.ol, _, _, rfl, rfl, hO5.at_, by rw [List.length_map, hO5.len, sizeLine_eq]; omega, ?_⟩
      have f6 : ∀ b u, b ≠ e.2.2 → b ≠ s.ol → H b = some u → upd H5 s.ol (.lst (s.ts.map V.ref ++ [.ref t])) b = some u := fun b u n m z => by
        rw [upd_ne m]
        exact s5 _ _ (f4 b u n z)
      have hP := hO5.push (p := (x, i)) e5
      have nsub := List.nodup_append.mp (List.nodup_cons.mp (List.nodup_cons.mp (List.nodup_cons.mp hS.nd).2).2).2
      obtain ⟨d1, d2, d3, d4, d5, d6⟩ := ndA e he
      refine q { s with ts := s.ts ++ [t] } _ rfl (fun b hb => .inl hb) (fun b u nb z => f6 b u (fun w => nb (by rw [w]; exact List.mem_cons_of_mem _ (List.mem_cons_of_mem _ (List.mem_cons_of_mem _ (List.mem_append_right _ (List.mem_map.mpr ⟨e, he, rfl⟩)))))) (fun w => nb (by rw [w]; exact List.mem_cons_of_mem _ (List.mem_cons_of_mem _ List.mem_cons_self))) z) (by unfold putRow; rw [if_pos hr']; rfl) ⟨?_, ?_, fun z hz => ?_, hP, hS.nd, hS.rn, ok', mem' _ fun y => ⟨.inl, fun w => w.elim id fun w => by rw [w]; exact hr'⟩, sm'⟩
      · exact f6 _ _ d4.symm ndo.1.symm hS.top
      · exact f6 _ _ d5.symm ndo.2.symm hS.rows
      · obtain ⟨a, b⟩ := hS.ent z hz
        obtain ⟨c1, c2, c3, c4, c5, c6⟩ := ndA z hz
        refine ⟨f6 _ _ (nsub.2.2 _ (List.mem_map.mpr ⟨z, hz, rfl⟩) _ (List.mem_map.mpr ⟨e, he, rfl⟩)) c3 a, ?_⟩
        rw [ofN_app]
        by_cases hz1 : x = z.1
        · have ze : z = e := inj_map hS.rn hz he (by rw [← hz1]; exact ex.symm)
          rw [if_pos hz1, ze]
          show upd H5 s.ol _ e.2.2 = some (HO.lst (intsV (ofN as e.1 ++ [i])))
          rw [upd_ne d6, s5 _ _ b4]
          unfold intsV
          rw [List.map_append]
          rfl
        · rw [if_neg hz1, List.append_nil]
          exact f6 _ _ (fun w => hz1 (by have := inj_map (f := fun e : Str × Addr × Addr => e.2.2) nsub.2.1 hz he w; rw [this]; exact ex.symm)) c6 b
    · rw [fil_none hr'] at e3
      refine ⟨.list [], .list [], .lst (sqL e3) .nil, .lst (sqL ee) .nil, sh_nil, sh_nil, ?_⟩
      rw [eqv_nil, decide_eq_true rfl]
      walk_at "go"
      refine ⟨.inl ⟨rfl, _, sqL (s13 _ _ hS.rows)⟩, ?_⟩
      walk_at "go"
      refine newLB fun q2 H4 n4 g4 s4 e4 => ?_
      walk_at "go"
      refine newLB fun q1 H5 n5 g5 s5 e5 => ?_
      walk_at "go"
      have s15 := (s13.trans s4).trans s5
      refine ⟨s.rl, _, _, rfl, rfl, s15 _ _ hS.rows, by rw [List.length_map, sizeLine_eq]; omega, ?_⟩
      have q1n : H q1 = none := (s13.trans s4).free n5
      have q2n : H q2 = none := s13.free n4
      have q12 : q1 ≠ q2 := (ne_of_none e4 n5).symm
      have q1r : q1 ≠ s.rl := (ne_of_none hS.rows q1n).symm
      have q2r : q2 ≠ s.rl := (ne_of_none hS.rows q2n).symm
      have r6 : upd H5 s.rl (.lst ((s.rs.map fun e => V.ref e.2.1) ++ [.ref q1])) s.rl = some (.lst ((s.rs.map fun e => V.ref e.2.1) ++ [.ref q1])) := upd_same
      have f6 : ∀ b u, b ≠ s.rl → H5 b = some u → upd H5 s.rl (.lst ((s.rs.map fun e => V.ref e.2.1) ++ [.ref q1])) b = some u := fun b u n z => by
        rw [upd_ne n]
        exact z
      generalize upd H5 s.rl (.lst ((s.rs.map fun e => V.ref e.2.1) ++ [.ref q1])) = H6 at r6 f6 ⊢
      have o6 := f6 _ _ ndo.2 (s15 _ _ hS.ord.at_)
      walk_at "go"
      refine ⟨.inl ⟨rfl, _, sqL o6⟩, ?_⟩
      walk_at "go"
      refine newT fun t H7 n7 s7 e7 => ?_
      walk_at "go"
      have hO : AL H6 s.ol s.ts as := ⟨o6, hS.ord.len, fun k a b c d => by
        have z := s15 _ _ (hS.ord.row k a b c d)
        exact f6 _ _ (ne_ct z (s15 _ _ hS.rows) fun w => nomatch w) z⟩
      have hO7 := hO.same s7
      refine ⟨s.ol, _, _, rfl, rfl, hO7.at_, by rw [List.length_map, hO7.len, sizeLine_eq]; omega, ?_⟩
      have hP := hO7.push (p := (x, i)) e7
      have q1o : q1 ≠ s.ol := (ne_of_none hS.ord.at_ q1n).symm
      have q2o : q2 ≠ s.ol := (ne_of_none hS.ord.at_ q2n).symm
      have f8 : ∀ b u, b ≠ s.rl → b ≠ s.ol → H5 b = some u → upd H7 s.ol (.lst (s.ts.map V.ref ++ [.ref t])) b = some u := fun b u n m z => by
        rw [upd_ne m]
        exact s7 _ _ (f6 b u n z)
      refine q { s with rs := s.rs ++ [(x, q1, q2)], ts := s.ts ++ [t] } _ rfl (fun b hb => ?_) (fun b u nb z => f8 b u (fun w => nb (by rw [w]; exact List.mem_cons_of_mem _ List.mem_cons_self)) (fun w => nb (by rw [w]; exact List.mem_cons_of_mem _ (List.mem_cons_of_mem _ List.mem_cons_self))) (s15 _ _ z)) ?_ ⟨?_, ?_, fun z hz => ?_, hP, ?_, ?_, ok', mem' _ fun y => ?_, sm'⟩
      · have w : b = q1 ∨ b = q2 ∨ b ∈ s.fp := by
          unfold St.fp at hb ⊢
          simp only [List.map_append, List.map_cons, List.map_nil, List.mem_cons, List.mem_append, List.not_mem_nil, or_false] at hb ⊢
          rcases hb with h | h | h | (h | h) | (h | h) <;> simp [h]
        rcases w with w | w | w
        · rw [w]; exact .inr q1n
        · rw [w]; exact .inr q2n
        · exact .inl w
      · show (s.rs ++ [(x, q1, q2)]).map (·.1) = putRow s.row x
        unfold putRow
        rw [if_neg hr', List.map_append]
        rfl
      · exact f8 _ _ ndr.symm ndo.1.symm (s15 _ _ hS.top)
      · rw [upd_ne ndo.2.symm, s7 _ _ r6, List.map_append]
        rfl
      · rcases List.mem_append.mp hz with w | w
        · obtain ⟨a, b⟩ := hS.ent z w
          obtain ⟨d1, d2, d3, d4, d5, d6⟩ := ndA z w
          have nx : x ≠ z.1 := fun v => hr' (by rw [v]; exact List.mem_map.mpr ⟨z, w, rfl⟩)
          refine ⟨f8 _ _ d2 d3 (s15 _ _ a), ?_⟩
          rw [ofN_app, if_neg nx, List.append_nil]
          exact f8 _ _ d5 d6 (s15 _ _ b)
        · rw [List.mem_singleton.mp w]
          refine ⟨f8 _ _ q1r q1o e5, ?_⟩
          show _ = some (HO.lst (intsV (ofN (as ++ [(x, i)]) x)))
          rw [ofN_app, if_pos rfl, ofN_none fun v => hr' ((hS.mem x).mpr v)]
          exact f8 _ _ q2r q2o (s5 _ _ e4)
      · have w : (St.fp { s with rs := s.rs ++ [(x, q1, q2)], ts := s.ts ++ [t] }).Perm (q1 :: q2 :: s.fp) := by
          unfold St.fp
          refine List.perm_iff_count.mpr fun z => ?_
          simp only [List.map_append, List.map_cons, List.map_nil, List.count_cons, List.count_append, List.count_nil]
          omega
        have nin : ∀ {b : Addr}, H b = none → b ∉ s.fp := fun {b} nb z => by
          unfold St.fp at z
          rcases List.mem_cons.mp z with z | z
          · rw [z, hS.top] at nb; exact nomatch nb
          rcases List.mem_cons.mp z with z | z
          · rw [z, hS.rows] at nb; exact nomatch nb
          rcases List.mem_cons.mp z with z | z
          · rw [z, hS.ord.at_] at nb; exact nomatch nb
          rcases List.mem_append.mp z with z | z
          · obtain ⟨e, he, rfl⟩ := List.mem_map.mp z
            rw [(hS.ent e he).1] at nb; exact nomatch nb
          · obtain ⟨e, he, rfl⟩ := List.mem_map.mp z
            rw [(hS.ent e he).2] at nb; exact nomatch nb
        refine w.nodup_iff.mpr (List.nodup_cons.mpr ⟨fun z => ?_, List.nodup_cons.mpr ⟨nin q2n, hS.nd⟩⟩)
        rcases List.mem_cons.mp z with z | z
        · exact q12 z
        · exact nin q1n z
      · show ((s.rs ++ [(x, q1, q2)]).map (·.1)).Nodup
        rw [List.map_append]
        exact List.nodup_append.mpr ⟨hS.rn, List.pairwise_singleton _ _, fun a ha b hb => by
          rw [List.mem_singleton.mp hb]
          exact fun z => hr' (by have z : a = x := z; rw [← z]; exact ha)⟩
      · show y ∈ (s.rs ++ [(x, q1, q2)]).map (·.1) ↔ _
        rw [List.map_append, List.mem_append]
        exact or_congr Iff.rfl List.mem_singleton
end
end K22

namespace K22
open PySem PySem.Spec PyProof.Rows L2 Bk


theorem ofN_cut {x : Str} {i : Nat} : ∀ {as : List (Str × Nat)} {j : Nat}, as.findIdx? (fun q => decide (q = (x, i))) = some j → (ofN as x).head? = some i → ofN (as.eraseIdx j) x = (ofN as x).tail ∧ ∀ y, y ≠ x → ofN (as.eraseIdx j) y = ofN as y
  | [], j, h, _ => nomatch h
  | p :: r, j, h, hd => by
    rw [List.findIdx?_cons] at h
    by_cases e : p = (x, i)
    · rw [decide_eq_true e, if_pos rfl] at h
      obtain rfl := Option.some.inj h
      subst e
      refine ⟨?_, fun y ny => ?_⟩
      · show ofN r x = _
        unfold ofN
        rw [List.filterMap_cons, if_pos rfl]
        rfl
      · show ofN r y = _
        unfold ofN
        rw [List.filterMap_cons, if_neg (fun z => ny z.symm)]
    · rw [decide_eq_false e, if_neg Bool.false_ne_true] at h
      have px : p.1 ≠ x := fun z => by
        unfold ofN at hd
        rw [List.filterMap_cons, if_pos z] at hd
        exact e (by rw [← z, ← Option.some.inj hd])
      cases hj : r.findIdx? (fun q => decide (q = (x, i))) with
      | none => rw [hj] at h; exact nomatch h
      | some j' =>
        rw [hj] at h
        obtain rfl := Option.some.inj h
        have hd' : (ofN r x).head? = some i := by
          unfold ofN at hd ⊢
          rw [List.filterMap_cons, if_neg px] at hd
          exact hd
        obtain ⟨a, b⟩ := ofN_cut hj hd'
        refine ⟨?_, fun y ny => ?_⟩
        · show ofN (p :: r.eraseIdx j') x = _
          unfold ofN at a ⊢
          rw [List.filterMap_cons, if_neg px, List.filterMap_cons, if_neg px]
          exact a
        · show ofN (p :: r.eraseIdx j') y = _
          have c := b y ny
          unfold ofN at c ⊢
          rw [List.filterMap_cons, List.filterMap_cons, c]
theorem StAt.nin {H : Hp} {s : St} {as : List (Str × Nat)} (hS : StAt H s as) {b : Addr} (nb : H b = none) : b ∉ s.fp := fun z => by
  unfold St.fp at z
  rcases List.mem_cons.mp z with z | z
  · rw [z, hS.top] at nb; exact nomatch nb
  rcases List.mem_cons.mp z with z | z
  · rw [z, hS.rows] at nb; exact nomatch nb
  rcases List.mem_cons.mp z with z | z
  · rw [z, hS.ord.at_] at nb; exact nomatch nb
  rcases List.mem_append.mp z with z | z
  · obtain ⟨e, he, rfl⟩ := List.mem_map.mp z
    rw [(hS.ent e he).1] at nb; exact nomatch nb
  · obtain ⟨e, he, rfl⟩ := List.mem_map.mp z
    rw [(hS.ent e he).2] at nb; exact nomatch nb
def spServedL : Sp := fun vs H Q _ => ∃ (s : St) (as : List (Str × Nat)), vs = [.ref s.S] ∧ StAt H s as ∧ (s.row = [] → ∀ H', Same H H' → Q .non H') ∧
  ∀ (x : Str) (rest : List Str) (i j : Nat) (t : Addr) (s' : St) H', s.row = x :: rest → (ofN as x).head? = some i → as.findIdx? (fun q => decide (q = (x, i))) = some j → H t = none → s'.S = s.S → (∀ b ∈ s'.fp, b ∈ s.fp ∨ H b = none) → (∀ b u, b ∉ s.fp → H b = some u → H' b = some u) → s'.row = srvRow as x rest → StAt H' s' (as.eraseIdx j) → H' t = some (.tup [.str x, .int i]) → Q (.ref t) H'
section
variable {P : Program} {w : World} {K : PySem.W.Frag} {mg : Str → Option Value} {base : Heap} {A : Ad}
theorem ok_servedL {f : Addr} {fd : FuncData} (F : Fun K "_law_served" "_law_served" s_served_L f fd) (T : Txt K mg A) : FnOk P w K mg base CX0 1 f fd ["_law_state"] spServedL := by
  refine F.ok sc_served_L (fun vs H Q E h => ?_) (fun cdv A' outer s H vs Q E hr h => have hu65 := units65 hr; have hu64 := hr.units; ⟨_, (pss_cons (ps_asg (pv 0) (pg_lst rfl (pgs_cons (pg_name (i := 1) sc_served_L.nd rfl (.inl rfl)) (pgs_cons (pg_name (i := 2) sc_served_L.nd rfl (.inl rfl)) pgs_nil))))
    (pss_cons (ps_if (pt_cmpR (op_eqD hu64) (pv 1) (pe_lstB pa_nil) (nomark _)) (pss_one (ps_ret pe_non)) pss_nil)
    (pss_cons (ps_asg (pe_bm PySem.F.plainAttrs_list PySem.F.slot_list_pop PySem.F.type_list_pop mt_popAt (pv 1) (pa_cons pe_int pa_nil)) (pg_lst rfl (pgs_cons (pg_name (i := 3) sc_served_L.nd rfl (.inl rfl)) (pgs_cons (pg_name (i := 4) sc_served_L.nd rfl (.inl rfl)) pgs_nil))))
    (pss_cons (ps_set (i := 5) sc_served_L.nd rfl (.inl rfl) (pe_tup (pa_cons (pv 3) (pa_cons (pe_bm PySem.F.plainAttrs_list PySem.F.slot_list_pop PySem.F.type_list_pop mt_popAt (pv 4) (pa_cons pe_int pa_nil)) pa_nil))))
    (C8.pss_cut (ps_if (pt_cmpR (op_neD hu64) (pv 4) (pe_lstB pa_nil) (nomark _)) (pss_one (ps_expr (pe_bm PySem.F.plainAttrs_list PySem.F.slot_list_append PySem.F.type_list_append mt_append (pv 1) (pa_cons (pe_lstB (pa_cons (pv 3) (pa_cons (pv 4) pa_nil))) pa_nil)))) pss_nil)
    (pss_cons (ps_expr (pe_bm PySem.F.plainAttrs_list PySem.F.slot_list_remove PySem.F.type_list_remove (mt_removeD hu64) (pv 2) (pa_cons (pv 5) pa_nil)))
    (pss_one (ps_ret (pv 5))))))))), ?_⟩)
  · obtain ⟨s, as, rfl, _⟩ := h
    rfl
  · obtain ⟨s, as, rfl, hS, q0, q⟩ := h
    obtain ⟨ndS, ndr, ndo, ndA⟩ := nd_fp hS.nd
    walk_at "go"
    refine r_lst2 hS.top rfl ?_
    walk_at "go"
    refine newLB fun e0 H1 n0 g0 s1 ee => ?_
    have hS1 := hS.same s1
    refine ⟨_, .list [], .lst (sqL hS1.rows) (StAt.dps (as := as) hS1.ent), .lst (sqL ee) .nil, sh_rws (f := fun x => ofN as x) hS.strs, sh_nil, ?_⟩
    rw [eqv_nil]
    cases hrs : s.rs with
    | nil =>
      rw [decide_eq_true (show List.map _ [] = [] from rfl)]
      walk_at "go"
      exact q0 (by unfold St.row; rw [hrs]; rfl) H1 s1
    | cons e r =>
      rw [decide_eq_false (fun z => nomatch z)]
      walk_at "go"
      obtain ⟨x, a1, a2⟩ := e
      have he : (x, a1, a2) ∈ s.rs := by rw [hrs]; exact List.mem_cons_self
      obtain ⟨ea, eb⟩ := hS1.ent _ he
      obtain ⟨d1, d2, d3, d4, d5, d6⟩ := ndA _ he
      have ea : H1 a1 = some (.lst [.str x, .ref a2]) := ea
      have eb : H1 a2 = some (.lst (intsV (ofN as x))) := eb
      have hrow : s.row = x :: r.map (·.1) := by unfold St.row; rw [hrs]; rfl
      obtain ⟨i, hi⟩ := (hS.mem x).mp (by rw [hrow]; exact List.mem_cons_self)
      obtain ⟨i, more, hof⟩ : ∃ i more, ofN as x = i :: more := by
        have := mem_ofN.mpr hi
        cases z : ofN as x with
        | nil => rw [z] at this; exact nomatch this
        | cons i more => exact ⟨i, more, rfl⟩
      have hmem : (x, i) ∈ as := mem_ofN.mp (by rw [hof]; exact List.mem_cons_self)
      obtain ⟨j, hj⟩ : ∃ j, as.findIdx? (fun q => decide (q = (x, i))) = some j := by
        cases z : as.findIdx? (fun q => decide (q = (x, i))) with
        | some j => exact ⟨j, rfl⟩
        | none => exact absurd (decide_eq_true rfl) (by rw [List.findIdx?_eq_none_iff.mp z _ hmem]; exact Bool.false_ne_true)
      obtain ⟨hcx, hcy⟩ := ofN_cut hj (by rw [hof]; rfl)
      have hx : nameOk x = true := hS.ok _ hmem
      have rows1 := hS1.rows
      rw [hrs] at rows1
      refine ⟨.inl ⟨rfl, _, sqL rows1⟩, ?_⟩
      walk_at "go"
      refine ⟨s.rl, _, 0, 0, .ref a1, rfl, rfl, rows1, by decide, by decide, by unfold seqIndex?; rw [List.map_cons, List.length_cons]; simp, rfl, ?_⟩
      rw [show (List.map (fun e : Str × Addr × Addr => V.ref e.2.1) ((x, a1, a2) :: r)).eraseIdx 0 = r.map fun e => V.ref e.2.1 from rfl]
      have f2 : ∀ b u, b ≠ s.rl → H1 b = some u → upd H1 s.rl (.lst (r.map fun e => V.ref e.2.1)) b = some u := fun b u n z => by rw [upd_ne n]; exact z
      have r2 : upd H1 s.rl (.lst (r.map fun e => V.ref e.2.1)) s.rl = some (.lst (r.map fun e => V.ref e.2.1)) := upd_same
      generalize upd H1 s.rl (.lst (r.map fun e => V.ref e.2.1)) = H2 at f2 r2 ⊢
      refine r_lst2 (f2 _ _ d2 ea) rfl ?_
      walk_at "go"
      have eb2 := f2 _ _ d5 eb
      rw [hof] at eb2
      refine ⟨.inl ⟨rfl, _, sqL eb2⟩, ?_⟩
      walk_at "go"
      refine ⟨a2, _, 0, 0, .int i, rfl, rfl, eb2, by decide, by decide, by unfold seqIndex? intsV; rw [List.map_cons, List.length_cons]; simp, rfl, ?_⟩
      rw [show (intsV (i :: more)).eraseIdx 0 = intsV more from rfl]
      have f3 : ∀ b u, b ≠ a2 → H2 b = some u → upd H2 a2 (.lst (intsV more)) b = some u := fun b u n z => by rw [upd_ne n]; exact z
      have b3 : upd H2 a2 (.lst (intsV more)) a2 = some (.lst (intsV more)) := upd_same
      generalize upd H2 a2 (.lst (intsV more)) = H3 at f3 b3 ⊢
      walk_at "go"
      refine newT fun t H4 n4 s4 e4 => ?_
      walk_at "go"
      have f4 : ∀ b u, b ≠ s.rl → b ≠ a2 → H b = some u → H4 b = some u := fun b u n m z => s4 _ _ (f3 _ _ m (f2 _ _ n (s1 _ _ z)))
      have r4 : H4 s.rl = some (.lst (r.map fun e => V.ref e.2.1)) := s4 _ _ (f3 _ _ d5.symm r2)
      have b4 := s4 _ _ b3
      have tn : H t = none := by
        cases z : H t with
        | none => rfl
        | some u =>
          exfalso
          by_cases w : t = s.rl
          · rw [w, f3 _ _ d5.symm r2] at n4; exact nomatch n4
          · by_cases v : t = a2
            · rw [v, b3] at n4; exact nomatch n4
            · rw [f3 _ _ v (f2 _ _ w (s1 _ _ z))] at n4; exact nomatch n4
      refine r_cut (fun σ G => σ = [some (.ref s.S), some (.ref s.rl), some (.ref s.ol), some (.str x), some (.ref a2), some (.ref t)] ∧ ∃ rr : List (Str × Addr × Addr), ((rr = r ∧ more = []) ∨ ∃ q1, H q1 = none ∧ more ≠ [] ∧ rr = r ++ [(x, q1, a2)] ∧ G q1 = some (.lst [.str x, .ref a2]) ∧ q1 ≠ s.rl) ∧ G s.rl = some (.lst (rr.map fun e => V.ref e.2.1)) ∧ ∀ b u, b ≠ s.rl → H4 b = some u → G b = some u) ?_ ?_
      · walk_at "go"
        refine newLB fun e9 H5 n5 g5 s5 e5 => ?_
        refine ⟨_, .list [], .lst (sqL (s5 _ _ b4)) (dp_ints more), .lst (sqL e5) .nil, sh_ints more, sh_nil, ?_⟩
        rw [eqv_nil]
        cases more with
        | nil =>
          rw [decide_eq_true (show List.map _ [] = [] from rfl)]
          walk_at "go"
          exact ⟨rfl, r, .inl ⟨rfl, rfl⟩, s5 _ _ r4, fun b u _ z => s5 _ _ z⟩
        | cons k ks =>
          rw [decide_eq_false (fun z => nomatch z)]
          walk_at "go"
          refine ⟨.inl ⟨rfl, _, sqL (s5 _ _ r4)⟩, ?_⟩
          walk_at "go"
          refine newLB fun q1 H6 n6 g6 s6 e6 => ?_
          walk_at "go"
          have r6 := s6 _ _ (s5 _ _ r4)
          have rl := hS.rl60
          rw [hrs, List.length_cons] at rl
          refine ⟨s.rl, _, _, rfl, rfl, r6, by rw [List.length_map, sizeLine_eq]; omega, ?_⟩
          have q1r : q1 ≠ s.rl := (ne_of_none (s5 _ _ r4) n6).symm
          refine ⟨rfl, r ++ [(x, q1, a2)], .inr ⟨q1, ?_, fun z => (nomatch z), rfl, by rw [upd_ne q1r]; exact e6, q1r⟩, by rw [upd_same, List.map_append]; rfl, fun b u n z => by rw [upd_ne n]; exact s6 _ _ (s5 _ _ z)⟩
          cases z : H q1 with
          | none => rfl
          | some u =>
            exfalso
            by_cases v : q1 = a2
            · rw [v, s5 _ _ b4] at n6; exact nomatch n6
            · rw [s5 _ _ (f4 _ _ q1r v z)] at n6; exact nomatch n6
      · rintro σ G ⟨rfl, rr, hrr, rG, fG⟩
        have oG := fG _ _ ndo.2 (f4 _ _ ndo.2 d6.symm hS.ord.at_)
        have hO : AL G s.ol s.ts as := ⟨oG, hS.ord.len, fun k a b c d => by
          have z := hS.ord.row k a b c d
          have z1 : a ≠ s.rl := ne_ct z hS.rows fun w => nomatch w
          have z2 : a ≠ a2 := ne_ct (s1 _ _ z) eb fun w => nomatch w
          exact fG _ _ z1 (f4 _ _ z1 z2 z)⟩
        walk_at "go"
        refine ⟨.inl ⟨rfl, _, sqL oG⟩, ?_⟩
        walk_at "go"
        have tr : t ≠ s.rl := (ne_of_none hS.rows tn).symm
        refine ⟨s.ol, _, _, _, _, j, rfl, rfl, hO.at_, hO.dps, dp_ask (p := (x, i)) (fG _ _ tr e4), plain_ask as, by simp only [askD, PyData.plain, PyData.plainAll]; rfl, by simp only [askD, PyData.depth, PyData.depthAll]; decide, by rw [place_ask]; exact hj, ?_⟩
        walk_at "go"
        have hP := hO.cut j
        have to : t ≠ s.ol := (ne_of_none hS.ord.at_ tn).symm
        have f9 : ∀ b u, b ≠ s.ol → G b = some u → upd G s.ol (.lst ((s.ts.map V.ref).eraseIdx j)) b = some u := fun b u n z => by rw [upd_ne n]; exact z
        have ndx : (s.S :: s.rl :: s.ol :: ((a1 :: r.map (·.2.1)) ++ (a2 :: r.map (·.2.2)))).Nodup := by
          have z := hS.nd
          unfold St.fp at z
          rw [hrs] at z
          exact z
        have n3 := List.nodup_append.mp (List.nodup_cons.mp (List.nodup_cons.mp (List.nodup_cons.mp ndx).2).2).2
        have nb2 := List.nodup_cons.mp n3.2.1
        have rnd : (x :: r.map (·.1)).Nodup := by rw [← hrow]; exact hS.rn
        have rn2 := List.nodup_cons.mp rnd
        have hr_ : ∀ z ∈ r, G z.2.1 = some (.lst [.str z.1, .ref z.2.2]) ∧ G z.2.2 = some (.lst (intsV (ofN as z.1))) ∧ z.1 ≠ x ∧ z.2.1 ≠ s.ol ∧ z.2.2 ≠ s.ol := fun z hz => by
          have hz' : z ∈ s.rs := by rw [hrs]; exact List.mem_cons_of_mem _ hz
          obtain ⟨g1, g2⟩ := hS.ent z hz'
          obtain ⟨c1, c2, c3, c4, c5, c6⟩ := ndA z hz'
          have m1 : z.2.1 ≠ a2 := n3.2.2 _ (List.mem_cons_of_mem _ (List.mem_map.mpr ⟨z, hz, rfl⟩)) _ List.mem_cons_self
          have m2 : z.2.2 ≠ a2 := fun w => nb2.1 (by rw [← w]; exact List.mem_map.mpr ⟨z, hz, rfl⟩)
          exact ⟨fG _ _ c2 (f4 _ _ c2 m1 g1), fG _ _ c5 (f4 _ _ c5 m2 g2), fun w => rn2.1 (by rw [← w]; exact List.mem_map.mpr ⟨z, hz, rfl⟩), c3, c6⟩
        have gA2 : G a2 = some (.lst (intsV more)) := fG _ _ d5 b4
        have ofx : ofN (as.eraseIdx j) x = more := by rw [hcx, hof]; rfl
        have subs : (s.S :: s.rl :: s.ol :: (r.map (·.2.1) ++ r.map (·.2.2))).Nodup := by
          refine List.Nodup.sublist ?_ ndx
          exact ((((List.sublist_cons_self _ _).append (List.sublist_cons_self _ _)).cons₂ _).cons₂ _).cons₂ _
        have subs2 : (s.S :: s.rl :: s.ol :: (r.map (·.2.1) ++ a2 :: r.map (·.2.2))).Nodup := by
          refine List.Nodup.sublist ?_ ndx
          exact ((((List.sublist_cons_self _ _).append (List.Sublist.refl _)).cons₂ _).cons₂ _).cons₂ _
        have memE : ∀ y, (∃ k, (y, k) ∈ as.eraseIdx j) ↔ ofN (as.eraseIdx j) y ≠ [] := fun y => by
          refine ⟨fun ⟨k, hk⟩ z => ?_, fun z => ?_⟩
          · have := mem_ofN.mpr hk
            rw [z] at this
            exact nomatch this
          · cases w : ofN (as.eraseIdx j) y with
            | nil => exact absurd w z
            | cons k ks => exact ⟨k, mem_ofN.mp (by rw [w]; exact List.mem_cons_self)⟩
        have memA : ∀ y, y ∈ r.map (·.1) ↔ y ≠ x ∧ ofN as y ≠ [] := fun y => by
          refine ⟨fun h => ?_, fun ⟨n, h⟩ => ?_⟩
          · have ny : y ≠ x := fun w => rn2.1 (by rw [← w]; exact h)
            obtain ⟨k, hk⟩ := (hS.mem y).mp (by rw [hrow]; exact List.mem_cons_of_mem _ h)
            refine ⟨ny, fun w => ?_⟩
            have := mem_ofN.mpr hk
            rw [w] at this
            exact nomatch this
          · cases w : ofN as y with
            | nil => exact absurd w h
            | cons k ks =>
              have := (hS.mem y).mpr ⟨k, mem_ofN.mp (by rw [w]; exact List.mem_cons_self)⟩
              rw [hrow] at this
              exact (List.mem_cons.mp this).elim (fun v => absurd v n) id
        have ok' : ∀ p ∈ as.eraseIdx j, nameOk p.1 = true := fun p hp => hS.ok p (List.mem_of_mem_eraseIdx hp)
        have sm' : (as.eraseIdx j).length ≤ 60 := Nat.le_trans (List.length_eraseIdx_le as j) hS.small
        refine q x (r.map (·.1)) i j t { s with rs := rr, ts := s.ts.eraseIdx j } _ hrow (by rw [hof]; rfl) hj tn rfl (fun b hb => ?_) (fun b u nb z => f9 _ _ (fun w => nb (by rw [w]; exact List.mem_cons_of_mem _ (List.mem_cons_of_mem _ List.mem_cons_self))) (fG _ _ (fun w => nb (by rw [w]; exact List.mem_cons_of_mem _ List.mem_cons_self)) (f4 _ _ (fun w => nb (by rw [w]; exact List.mem_cons_of_mem _ List.mem_cons_self)) (fun w => nb (by rw [w]; exact List.mem_cons_of_mem _ (List.mem_cons_of_mem _ (List.mem_cons_of_mem _ (List.mem_append_right _ (List.mem_map.mpr ⟨_, he, rfl⟩)))))) z))) ?_ ⟨?_, ?_, fun z hz => ?_, hP, ?_, ?_, ok', fun y => ?_, sm'⟩ (f9 _ _ to (fG _ _ tr e4))
        · have old : ∀ {b : Addr}, b ∈ s.S :: s.rl :: s.ol :: (r.map (·.2.1) ++ a2 :: r.map (·.2.2)) → b ∈ s.fp := fun {b} h => by
            unfold St.fp
            rw [hrs]
            exact ((((List.sublist_cons_self _ _).append (List.Sublist.refl _)).cons₂ _).cons₂ _).cons₂ _ |>.subset h
          rcases hrr with ⟨rfl, _⟩ | ⟨q1, q1n, _, rfl, _, _⟩
          · refine .inl (old ?_)
            exact ((((List.Sublist.refl _).append (List.sublist_cons_self _ _)).cons₂ _).cons₂ _).cons₂ _ |>.subset hb
          · by_cases w : b = q1
            · exact .inr (by rw [w]; exact q1n)
            · refine .inl (old ?_)
              unfold St.fp at hb
              simp only [List.map_append, List.map_cons, List.map_nil, List.mem_cons, List.mem_append, List.not_mem_nil, or_false] at hb ⊢
              rcases hb with h | h | h | (h | h) | (h | h) <;> first | exact absurd h w | simp [h]
        · show rr.map (·.1) = srvRow as x (r.map (·.1))
          unfold srvRow
          rw [hof]
          rcases hrr with ⟨rfl, rfl⟩ | ⟨q1, q1n, hm, rfl, _, _⟩
          · rw [if_neg (by simp)]
          · rw [if_pos (by cases more with | nil => exact absurd rfl hm | cons k ks => simp), List.map_append]
            rfl
        · exact f9 _ _ ndo.1.symm (fG _ _ ndr.symm (f4 _ _ ndr.symm d4.symm hS.top))
        · exact f9 _ _ ndo.2.symm rG
        · have go : z ∈ r → upd G s.ol (.lst ((s.ts.map V.ref).eraseIdx j)) z.2.1 = some (.lst [.str z.1, .ref z.2.2]) ∧ upd G s.ol (.lst ((s.ts.map V.ref).eraseIdx j)) z.2.2 = some (.lst (intsV (ofN (as.eraseIdx j) z.1))) := fun hz => by
            obtain ⟨g1, g2, g3, g4, g5⟩ := hr_ z hz
            exact ⟨f9 _ _ g4 g1, by rw [hcy _ g3]; exact f9 _ _ g5 g2⟩
          rcases hrr with ⟨rfl, _⟩ | ⟨q1, q1n, _, rfl, eq1, _⟩
          · exact go hz
          · rcases List.mem_append.mp hz with w | w
            · exact go w
            · rw [List.mem_singleton.mp w]
              refine ⟨f9 _ _ (ne_of_none hS.ord.at_ q1n).symm eq1, ?_⟩
              show _ = some (HO.lst (intsV (ofN (as.eraseIdx j) x)))
              rw [ofx]
              exact f9 _ _ d6 gA2
        · rcases hrr with ⟨rfl, _⟩ | ⟨q1, q1n, _, rfl, _, _⟩
          · exact subs
          · have w : (St.fp { s with rs := r ++ [(x, q1, a2)], ts := s.ts.eraseIdx j }).Perm (q1 :: s.S :: s.rl :: s.ol :: (r.map (·.2.1) ++ a2 :: r.map (·.2.2))) := by
              unfold St.fp
              refine List.perm_iff_count.mpr fun z => ?_
              simp only [List.map_append, List.map_cons, List.map_nil, List.count_cons, List.count_append, List.count_nil]
              omega
            refine w.nodup_iff.mpr (List.nodup_cons.mpr ⟨fun z => hS.nin q1n ?_, subs2⟩)
            unfold St.fp
            rw [hrs]
            exact ((((List.sublist_cons_self _ _).append (List.Sublist.refl _)).cons₂ _).cons₂ _).cons₂ _ |>.subset z
        · show (rr.map (·.1)).Nodup
          rcases hrr with ⟨rfl, _⟩ | ⟨q1, q1n, _, rfl, _, _⟩
          · exact rn2.2
          · rw [List.map_append]
            exact List.nodup_append.mpr ⟨rn2.2, List.pairwise_singleton _ _, fun a ha b hb => by
              rw [List.mem_singleton.mp hb]
              exact fun z => rn2.1 (by have z : a = x := z; rw [← z]; exact ha)⟩
        · show y ∈ rr.map (·.1) ↔ _
          rw [memE]
          by_cases hy : y = x
          · subst hy
            rw [ofx]
            rcases hrr with ⟨rfl, hm⟩ | ⟨q1, q1n, hm, rfl, _, _⟩
            · exact ⟨fun z => absurd z rn2.1, fun z => absurd hm z⟩
            · exact ⟨fun _ => hm, fun _ => by rw [List.map_append]; exact List.mem_append_right _ List.mem_cons_self⟩
          · rw [hcy _ hy]
            rcases hrr with ⟨rfl, hm⟩ | ⟨q1, q1n, hm, rfl, _, _⟩
            · rw [memA]
              exact ⟨fun z => z.2, fun z => ⟨hy, z⟩⟩
            · rw [List.map_append, List.mem_append, memA]
              exact ⟨fun z => z.elim (fun w => w.2) fun w => absurd (List.mem_singleton.mp w) hy, fun z => .inl ⟨hy, z⟩⟩
end
end K22

namespace K22
open PySem PySem.Spec PyProof.Rows L2 Bk


theorem ofN_flt {x y : Str} (h : y ≠ x) : ∀ as : List (Str × Nat), ofN (as.filter fun q => decide (q.1 ≠ x)) y = ofN as y
  | [] => rfl
  | p :: r => by
    have z := ofN_flt h r
    unfold ofN at z ⊢
    rw [List.filter_cons, List.filterMap_cons]
    by_cases c : p.1 = x
    · rw [decide_eq_false (fun w => w c), if_neg Bool.false_ne_true, z, if_neg (fun w => h (w.symm.trans c))]
    · rw [decide_eq_true c, if_pos rfl, List.filterMap_cons, z]
def spLeftL : Sp := fun vs H Q _ => ∃ (s : St) (as : List (Str × Nat)) (x : Str), vs = [.ref s.S, .str x] ∧ StAt H s as ∧
  ∀ (p : Addr) (s' : St) H', H p = none → s'.S = s.S → (∀ b ∈ s'.fp, b ∈ s.fp ∨ H b = none) → (∀ b u, b ≠ s.S → H b = some u → H' b = some u) → s'.row = s.row.filter (fun y => decide (y ≠ x)) → StAt H' s' (as.filter fun q => decide (q.1 ≠ x)) → H' p = some (.lst (intsV (ofN as x))) → p ∉ s'.fp → Q (.ref p) H'
section
variable {P : Program} {w : World} {K : PySem.W.Frag} {mg : Str → Option Value} {base : Heap} {A : Ad}
theorem ok_leftL {f : Addr} {fd : FuncData} (F : Fun K "_law_left" "_law_left" s_left_L f fd) (T : Txt K mg A) : FnOk P w K mg base CX0 1 f fd ["_law_state", "_law_who"] spLeftL := by
  refine F.ok sc_left_L (fun vs H Q E h => ?_) (fun cdv A' outer s H vs Q E hr h => have hu65 := units65 hr; have hu64 := hr.units; ⟨_, (pss_cons (ps_asg (pv 0) (pg_lst rfl (pgs_cons (pg_name (i := 2) sc_left_L.nd rfl (.inl rfl)) (pgs_cons (pg_name (i := 3) sc_left_L.nd rfl (.inl rfl)) pgs_nil))))
    (pss_cons (ps_setLc (i := 4) (own := [("_law_one", 5), ("_law_which", 6)]) rfl sc_left_L.nd rfl rfl (sw_true rfl rfl rfl (by decide +kernel)) (pi_seqA (pv 3)) (blkOk_by (N := ["_law_state", "_law_who", "_law_row", "_law_order", "_law_numbers", "_law_one", "_law_which", "_law_some", "_law_ask"]) (sc := defScope s_left_L) (by decide +kernel)) (fun _ _ _ _ _ => (pg_tupK (K := K) (n := 2) rfl rfl (pgs_cons (pg_name (i := 5) sc_left_L.nd rfl (.inl rfl)) (pgs_cons (pg_name (i := 6) sc_left_L.nd rfl (.inl rfl)) pgs_nil)))) (fun _ _ _ _ _ => pts_one (pt_cmpR op_eq (pv 5) (pv 1) (nomark _))) (fun _ _ _ _ _ => (pv 6)))
    (pss_cons (ps_asg (pe_lc (own := [("_law_some", 7)]) rfl sc_left_L.nd (pi_list (pv 2)) (blkOk_by (N := ["_law_state", "_law_who", "_law_row", "_law_order", "_law_numbers", "_law_one", "_law_which", "_law_some", "_law_ask"]) (sc := defScope s_left_L) (by decide +kernel)) (fun _ _ _ _ _ => (pg_name (i := 7) sc_left_L.nd rfl (.inl rfl))) (fun _ _ _ _ _ => pts_one (pt_cmpR op_ne (pe_ix (ix_listK (K := K) rfl) (pv 7) pe_int (fun _ _ => rfl)) (pv 1) (nomark _))) (fun _ _ _ _ _ => (pv 7))) (pg_sub (pv 0) pe_int set_list))
    (pss_cons (ps_asg (pe_lc (own := [("_law_ask", 8)]) rfl sc_left_L.nd (pi_seqA (pv 3)) (blkOk_by (N := ["_law_state", "_law_who", "_law_row", "_law_order", "_law_numbers", "_law_one", "_law_which", "_law_some", "_law_ask"]) (sc := defScope s_left_L) (by decide +kernel)) (fun _ _ _ _ _ => (pg_name (i := 8) sc_left_L.nd rfl (.inl rfl))) (fun _ _ _ _ _ => pts_one (pt_cmpR op_ne (pe_ix (ix_tupK (K := K) rfl) (pv 8) pe_int (fun _ _ => rfl)) (pv 1) (nomark _))) (fun _ _ _ _ _ => (pv 8))) (pg_sub (pv 0) pe_int set_list))
    (pss_one (ps_ret (pv 4))))))), ?_⟩)
  · obtain ⟨s, as, x, rfl, _⟩ := h
    rfl
  · obtain ⟨s, as, x, rfl, hS, q⟩ := h
    obtain ⟨ndS, ndr, ndo, ndA⟩ := nd_fp hS.nd
    walk_at "go"
    refine r_lst2 hS.top rfl ?_
    walk_at "go"
    have rl60 := hS.rl60
    have a60 := hS.small
    have o60 := hS.ord.len
    refine lcQ (fun i => (fun (p : Str × Nat) => if p.1 = x then some (V.int (p.2 : Nat)) else none) (as.getD i ("", 0))) (.inl (sqL hS.ord.at_)) (by rw [List.length_map]; omega) (fun QQ z => ⟨_, rfl, z⟩) (fun i y H1 Q' R' hy sm h1 h2 => ?_) fun N H1 nN s1 eN => ?_
    · rw [List.getElem?_map] at hy
      cases hi : s.ts[i]? with
      | none => rw [hi] at hy; exact nomatch hy
      | some t =>
        rw [hi] at hy
        obtain rfl := Option.some.inj hy
        have hil : i < as.length := by have := (List.getElem?_eq_some_iff.mp hi).1; omega
        have et := sm _ _ (hS.ord.row i _ _ hi (List.getElem?_eq_getElem hil))
        have hg : as.getD i ("", 0) = as[i] := by rw [List.getD_eq_getElem?_getD, List.getElem?_eq_getElem hil]; rfl
        rw [hg] at h1 h2
        refine ⟨_, _, rfl, sqT et, rfl, _, _, rfl, _, _, rfl, rfl, rfl, ?_⟩
        walk_at "go"
        by_cases hp : as[i].1 = x
        · rw [decide_eq_true (by rw [hp])]
          walk_at "go"
          exact h1 _ (if_pos hp) _ (Same.refl _)
        · rw [decide_eq_false (fun w => hp (by injection w))]
          walk_at "go"
          exact h2 (if_neg hp) _ (Same.refl _)
    have eN : H1 N = some (.lst (intsV (ofN as x))) := by
      have z := rng_fm ((Str.ofString "", 0) : Str × Nat) as (fun p => if p.1 = x then some (V.int (p.2 : Nat)) else none)
      rw [eN, List.length_map, o60]
      refine congrArg (fun l => some (HO.lst l)) (z.trans ?_)
      unfold ofN intsV
      rw [List.map_filterMap]
      refine congrArg (List.filterMap · as) (funext fun p => ?_)
      by_cases h : p.1 = x
      · rw [if_pos h, if_pos h]; rfl
      · rw [if_neg h, if_neg h]; rfl
    have hS1 := hS.same s1
    walk_at "go"
    refine lcLF (fun i => (fun (e : Str × Addr × Addr) => if e.1 = x then none else some (V.ref e.2.1)) (s.rs.getD i ("", 0, 0))) (fun QQ z => ⟨_, rfl, z⟩) (sqL hS1.rows) (by rw [List.length_map]; omega) (fun _ => rfl) (fun k y H2 Q' R' hy sm h1 h2 => ?_) fun D H2 nD s2 e2 => ?_
    · rw [List.getElem?_map] at hy
      cases hi : s.rs[k]? with
      | none => rw [hi] at hy; exact nomatch hy
      | some e =>
        rw [hi] at hy
        obtain rfl := Option.some.inj hy
        have hg : s.rs.getD k ("", 0, 0) = e := by rw [List.getD_eq_getElem?_getD, hi]; rfl
        rw [hg] at h1 h2
        obtain ⟨ea, eb⟩ := hS1.ent e (List.mem_of_getElem? hi)
        walk_at "go"
        refine r_ixL (sqL (sm _ _ ea)) (v := .str e.1) rfl ?_
        walk_at "go"
        by_cases hp : e.1 = x
        · rw [decide_eq_true (by rw [hp])]
          walk_at "go"
          exact h2 (if_pos hp) _ (Same.refl _)
        · rw [decide_eq_false (fun w => hp (by injection w))]
          walk_at "go"
          exact h1 _ (if_neg hp) _ (Same.refl _)
    have e2 : H2 D = some (.lst ((s.rs.filter fun e => decide (e.1 ≠ x)).map fun e => V.ref e.2.1)) := by
      rw [e2, List.length_map, rng_fm ((Str.ofString "", 0, 0) : Str × Addr × Addr) s.rs (fun e => if e.1 = x then none else some (V.ref e.2.1))]
      exact congrArg (fun l => some (HO.lst l)) (fm_flt (fun e : Str × Addr × Addr => e.1 = x) (fun e => V.ref e.2.1) s.rs)
    walk_at "go"
    have hS2 := hS1.same s2
    refine ⟨s.S, _, 0, 0, rfl, rfl, hS2.top, rfl, ?_⟩
    rw [show ([.ref s.rl, .ref s.ol] : List V).set 0 (.ref D) = [.ref D, .ref s.ol] from rfl]
    have nDS : D ≠ s.S := (ne_of_none hS1.top nD).symm
    have nNS : N ≠ s.S := (ne_of_none hS.top nN).symm
    have f3 : ∀ b u, b ≠ s.S → H2 b = some u → upd H2 s.S (.lst [.ref D, .ref s.ol]) b = some u := fun b u n z => by rw [upd_ne n]; exact z
    have t3 : upd H2 s.S (.lst [.ref D, .ref s.ol]) s.S = some (.lst [.ref D, .ref s.ol]) := upd_same
    have nDo : D ≠ s.ol := (ne_of_none hS1.ord.at_ nD).symm
    generalize upd H2 s.S (.lst [.ref D, .ref s.ol]) = H3 at f3 t3 ⊢
    have hO : AL H3 s.ol s.ts as := ⟨f3 _ _ ndo.1 hS2.ord.at_, o60, fun k a b c d => by
      have z := hS2.ord.row k a b c d
      exact f3 _ _ (ne_ct z hS2.top fun w => nomatch w) z⟩
    walk_at "go"
    have zl : (as.zip s.ts).length = as.length := by rw [List.length_zip, o60, Nat.min_self]
    refine lcQ (fun i => (fun (z : (Str × Nat) × Addr) => if z.1.1 = x then none else some (V.ref z.2)) ((as.zip s.ts).getD i (("", 0), 0))) (.inl (sqL hO.at_)) (by rw [List.length_map]; omega) (fun QQ z => ⟨_, rfl, z⟩) (fun i y H4 Q' R' hy sm h1 h2 => ?_) fun D2 H4 nD2 s4 e4 => ?_
    · rw [List.getElem?_map] at hy
      cases hi : s.ts[i]? with
      | none => rw [hi] at hy; exact nomatch hy
      | some t =>
        rw [hi] at hy
        obtain rfl := Option.some.inj hy
        have hit := (List.getElem?_eq_some_iff.mp hi).1
        have hil : i < as.length := by omega
        have et := sm _ _ (hO.row i _ _ hi (List.getElem?_eq_getElem hil))
        have hg : (as.zip s.ts).getD i (("", 0), 0) = (as[i], t) := by
          rw [List.getD_eq_getElem?_getD, List.getElem?_eq_getElem (by rw [zl]; exact hil), List.getElem_zip]
          rw [List.getElem?_eq_getElem hit] at hi
          rw [Option.some.inj hi]
          rfl
        rw [hg] at h1 h2
        refine ⟨rfl, ?_⟩
        walk_at "go"
        refine r_ixT (sqT et) (v := .str as[i].1) rfl ?_
        walk_at "go"
        by_cases hp : as[i].1 = x
        · rw [decide_eq_true (by rw [hp])]
          walk_at "go"
          exact h2 (if_pos hp) _ (Same.refl _)
        · rw [decide_eq_false (fun z => hp (by injection z))]
          walk_at "go"
          exact h1 _ (if_neg hp) _ (Same.refl _)
    rw [List.length_map, o60, ← zl, rng_fm ((("", 0), 0) : (Str × Nat) × Addr) (as.zip s.ts) (fun z => if z.1.1 = x then none else some (V.ref z.2))] at e4
    have e4 : H4 D2 = some (.lst (((othQ as s.ts x).map (·.2)).map V.ref)) := by
      rw [e4]
      refine congrArg (fun l => some (HO.lst l)) ?_
      rw [fm_flt (fun z : (Str × Nat) × Addr => z.1.1 = x) (fun z => V.ref z.2), List.map_map]
      rfl
    walk_at "go"
    have t4 := s4 _ _ t3
    refine ⟨s.S, _, 1, 1, rfl, rfl, t4, rfl, ?_⟩
    rw [show ([.ref D, .ref s.ol] : List V).set 1 (.ref D2) = [.ref D, .ref D2] from rfl]
    have f5 : ∀ b u, b ≠ s.S → H4 b = some u → upd H4 s.S (.lst [.ref D, .ref D2]) b = some u := fun b u n z => by rw [upd_ne n]; exact z
    have t5 : upd H4 s.S (.lst [.ref D, .ref D2]) s.S = some (.lst [.ref D, .ref D2]) := upd_same
    have nD2S : D2 ≠ s.S := (ne_of_none t3 nD2).symm
    have nDD : D ≠ D2 := ne_of_none (f3 _ _ nDS e2) nD2
    generalize upd H4 s.S (.lst [.ref D, .ref D2]) = H5 at f5 t5 ⊢
    walk_at "go"
    have f05 : ∀ b u, b ≠ s.S → H b = some u → H5 b = some u := fun b u n z => f5 _ _ n (s4 _ _ (f3 _ _ n (s2 _ _ (s1 _ _ z))))
    have nDH : H D = none := s1.free nD
    have nD2H : H D2 = none := by
      cases z : H D2 with
      | none => rfl
      | some u => rw [f3 _ _ nD2S (s2 _ _ (s1 _ _ z))] at nD2; exact nomatch nD2
    have nND : N ≠ D := (ne_of_none eN nD)
    have nND2 : N ≠ D2 := ne_of_none (f3 _ _ nNS (s2 _ _ eN)) nD2
    have sub : ((s.rs.filter fun e => decide (e.1 ≠ x)).map (·.2.1) ++ (s.rs.filter fun e => decide (e.1 ≠ x)).map (·.2.2)).Sublist (s.rs.map (·.2.1) ++ s.rs.map (·.2.2)) := (List.filter_sublist.map _).append (List.filter_sublist.map _)
    have inS : ∀ b, b ∈ (s.rs.filter fun e => decide (e.1 ≠ x)).map (·.2.1) ++ (s.rs.filter fun e => decide (e.1 ≠ x)).map (·.2.2) → b ∈ s.fp := fun b h => List.mem_cons_of_mem _ (List.mem_cons_of_mem _ (List.mem_cons_of_mem _ (sub.subset h)))
    have f1 := oth_fst (x := x) o60
    have memF : ∀ y, y ∈ (s.rs.filter fun e => decide (e.1 ≠ x)).map (·.1) ↔ y ∈ s.row ∧ y ≠ x := fun y => by
      unfold St.row
      constructor
      · intro h
        obtain ⟨e, he, rfl⟩ := List.mem_map.mp h
        obtain ⟨g1, g2⟩ := List.mem_filter.mp he
        exact ⟨List.mem_map.mpr ⟨e, g1, rfl⟩, of_decide_eq_true g2⟩
      · rintro ⟨h, n⟩
        obtain ⟨e, he, rfl⟩ := List.mem_map.mp h
        exact List.mem_map.mpr ⟨e, List.mem_filter.mpr ⟨he, decide_eq_true n⟩, rfl⟩
    refine q N ⟨s.S, D, D2, s.rs.filter fun e => decide (e.1 ≠ x), (othQ as s.ts x).map (·.2)⟩ H5 nN rfl (fun b hb => ?_) f05 ?_ ⟨t5, f5 _ _ nDS (s4 _ _ (f3 _ _ nDS e2)), fun e he => ?_, ⟨f5 _ _ nD2S e4, by rw [← f1, List.length_map, List.length_map], fun k t p h1 h2 => ?_⟩, ?_, ?_, fun p hp => hS.ok p (List.mem_filter.mp hp).1, fun y => ?_, Nat.le_trans (List.length_filter_le _ _) hS.small⟩ (f5 _ _ nNS (s4 _ _ (f3 _ _ nNS (s2 _ _ eN)))) (fun z => ?_)
    · rcases List.mem_cons.mp hb with w | hb
      · exact .inl (by rw [w]; exact List.mem_cons_self)
      rcases List.mem_cons.mp hb with w | hb
      · exact .inr (by rw [w]; exact nDH)
      rcases List.mem_cons.mp hb with w | hb
      · exact .inr (by rw [w]; exact nD2H)
      · exact .inl (inS _ hb)
    · show (s.rs.filter fun e => decide (e.1 ≠ x)).map (·.1) = (s.rs.map (·.1)).filter fun y => decide (y ≠ x)
      rw [List.filter_map]
      rfl
    · obtain ⟨g1, g2⟩ := List.mem_filter.mp he
      obtain ⟨a, b⟩ := hS.ent e g1
      obtain ⟨c1, c2, c3, c4, c5, c6⟩ := ndA e g1
      exact ⟨f05 _ _ c1 a, by rw [ofN_flt (of_decide_eq_true g2)]; exact f05 _ _ c4 b⟩
    · rw [List.getElem?_map] at h1
      rw [← f1, List.getElem?_map] at h2
      cases hz : (othQ as s.ts x)[k]? with
      | none => rw [hz] at h1; exact nomatch h1
      | some z =>
        rw [hz] at h1 h2
        obtain rfl := Option.some.inj h1
        obtain rfl := Option.some.inj h2
        have w := oth_row hS.ord z (List.mem_of_getElem? hz)
        exact f05 _ _ (ne_ct w hS.top fun v => nomatch v) w
    · refine List.nodup_cons.mpr ⟨fun z => ?_, List.nodup_cons.mpr ⟨fun z => ?_, List.nodup_cons.mpr ⟨fun z => hS.nin nD2H (inS _ z), List.Nodup.sublist sub (List.nodup_cons.mp (List.nodup_cons.mp (List.nodup_cons.mp hS.nd).2).2).2⟩⟩⟩
      · rcases List.mem_cons.mp z with w | z
        · exact nDS w.symm
        rcases List.mem_cons.mp z with w | z
        · exact nD2S w.symm
        · exact (List.nodup_cons.mp hS.nd).1 (List.mem_cons_of_mem _ (List.mem_cons_of_mem _ (sub.subset z)))
      · rcases List.mem_cons.mp z with w | z
        · exact nDD w
        · exact hS.nin nDH (inS _ z)
    · show ((s.rs.filter fun e => decide (e.1 ≠ x)).map (·.1)).Nodup
      exact List.Nodup.sublist (List.filter_sublist.map _) hS.rn
    · show y ∈ (s.rs.filter fun e => decide (e.1 ≠ x)).map (·.1) ↔ _
      rw [memF, hS.mem y]
      refine ⟨fun ⟨⟨k, hk⟩, n⟩ => ⟨k, List.mem_filter.mpr ⟨hk, decide_eq_true n⟩⟩, fun ⟨k, hk⟩ => ?_⟩
      obtain ⟨g1, g2⟩ := List.mem_filter.mp hk
      exact ⟨⟨k, g1⟩, of_decide_eq_true g2⟩
    · rcases List.mem_cons.mp z with w | z
      · exact nNS w
      rcases List.mem_cons.mp z with w | z
      · exact nND w
      rcases List.mem_cons.mp z with w | z
      · exact nND2 w
      · exact hS.nin nN (inS _ z)
end
end K22

namespace K22
open PySem PySem.Spec PyProof.Rows L2 Bk


def spWhenL : Sp := fun vs H Q _ => ∃ (s : St) (as : List (Str × Nat)) (ta : Addr) (x : Str) (i : Nat), vs = [.ref s.S, .ref ta] ∧ StAt H s as ∧ H ta = some (.tup [.str x, .int i]) ∧ (x, i) ∈ as ∧
  ∀ (m : Nat) H', Same H H' → nxtA (itr m (as, s.row)) = some (x, i) → (∀ k, k < m → nxtA (itr k (as, s.row)) ≠ some (x, i)) → Q (.int ((m : Nat) + 1 : Int)) H'
section
variable {P : Program} {w : World} {K : PySem.W.Frag} {mg : Str → Option Value} {base : Heap} {A : Ad}
theorem ok_whenL {f : Addr} {fd : FuncData} (F : Fun K "_law_when" "_law_when" s_when_L f fd) (T : Txt K mg A) (c_served_L : CalD P w K mg base CX0 1 "_law_served" spServedL []) : FnOk P w K mg base CX0 2 f fd ["_law_state", "_law_ask"] spWhenL := by
  refine F.ok sc_when_L (fun vs H Q E h => ?_) (fun cdv A' outer s H vs Q E hr h => have hu65 := units65 hr; have hu64 := hr.units; ⟨_, (pss_cons (ps_asg (pv 0) (pg_lst rfl (pgs_cons (pg_name (i := 2) sc_when_L.nd rfl (.inl rfl)) (pgs_cons (pg_name (i := 3) sc_when_L.nd rfl (.inl rfl)) pgs_nil))))
    (pss_cons (ps_set (i := 4) sc_when_L.nd rfl (.inl rfl) (pe_lstB (pa_cons (pe_lc (own := [("_law_who", 6), ("_law_numbers", 7)]) rfl sc_when_L.nd (pi_list (pv 2)) (blkOk_by (N := ["_law_state", "_law_ask", "_law_row", "_law_order", "_law_beside", "_law_turn", "_law_who", "_law_numbers"]) (sc := defScope s_when_L) (by decide +kernel)) (fun _ _ _ _ _ => (pg_lstK (K := K) (n := 2) rfl rfl (pgs_cons (pg_name (i := 6) sc_when_L.nd rfl (.inl rfl)) (pgs_cons (pg_name (i := 7) sc_when_L.nd rfl (.inl rfl)) pgs_nil)))) (fun _ _ _ _ _ => pts_nil) (fun _ _ _ _ _ => (pe_lstB (pa_cons (pv 6) (pa_cons (pe_callTy (call_list_ofK (K := K) rfl) (by rfl) T.m_list (by decide +kernel) (pa_cons (pv 7) pa_nil)) pa_nil))))) (pa_cons (pe_callTy call_list_of (by rfl) T.m_list (by decide +kernel) (pa_cons (pv 3) pa_nil)) pa_nil))))
    (pss_cons (ps_set (i := 5) sc_when_L.nd rfl (.inl rfl) pe_int)
    (pss_cons (ps_while PassesOwn.never (pt_cmpR (op_neD hu64) (pe_cal c_served_L hr (by decide) (by rfl) (pa_cons (pv 4) pa_nil)) (pv 1) (nomark _))
      (pss_one (ps_set (i := 5) sc_when_L.nd rfl (.inl rfl) (pe_op op_add (pv 5) pe_int))))
    (pss_one (ps_ret (pv 5))))))), ?_⟩)
  · obtain ⟨s, as, ta, x, i, rfl, _⟩ := h
    rfl
  · obtain ⟨s, as, ta, x, i, rfl, hS, ha, hm, q⟩ := h
    walk_at "go"
    refine r_lst2 hS.top rfl ?_
    walk_at "go"
    have rl60 := hS.rl60
    have o60 := hS.ord.len
    have a60 := hS.small
    refine ⟨_, rfl, s.rl, rfl, ⟨_, sqL hS.rows⟩, fun D hD => ?_⟩
    refine lc_it walk_list (fun i G => Same H G ∧ ∃ rs' : List (Str × Addr × Addr), G D = some (.lst (rs'.map fun e => V.ref e.2.1)) ∧ rs'.length = i ∧ rs'.map (·.1) = (s.rs.take i).map (·.1) ∧ (∀ e ∈ rs', G e.2.1 = some (.lst [.str e.1, .ref e.2.2]) ∧ G e.2.2 = some (.lst (intsV (ofN as e.1)))) ∧ (D :: (rs'.map (·.2.1) ++ rs'.map (·.2.2))).Nodup ∧ ∀ b ∈ rs'.map (·.2.1) ++ rs'.map (·.2.2), H b = none)
      ⟨same_upd hD, [], upd_same, rfl, rfl, fun _ z => (nomatch z), List.pairwise_singleton _ _, fun _ z => (nomatch z)⟩ (fun k G hk ⟨sG, _⟩ => sqL (sG _ _ hS.rows)) (fun k y H1 H2 hk ⟨sG, rs', eD, lr, er, hent, hnd, hfr⟩ hy => ?_) fun G ⟨sG, rs', eD, lr, er, hent, hnd, hfr⟩ => ?_
    · obtain ⟨rfl, hy⟩ := hy
      rw [List.getElem?_map] at hy
      cases hi : s.rs[k]? with
      | none => rw [hi] at hy; exact nomatch hy
      | some e =>
        rw [hi] at hy
        obtain rfl := Option.some.inj hy
        obtain ⟨ea, eb⟩ := hS.ent e (List.mem_of_getElem? hi)
        refine ⟨e.2.1, _, rfl, sqL (sG _ _ ea), rfl, _, _, rfl, _, _, rfl, rfl, rfl, r_yes ?_⟩
        walk_at "go"
        refine ⟨e.2.2, _, rfl, .inl (sqL (sG _ _ eb)), fun l nl => ?_⟩
        have sl := same_upd (o := .lst (intsV (ofN as e.1))) nl
        have el : upd H2 l (.lst (intsV (ofN as e.1))) l = some (.lst (intsV (ofN as e.1))) := upd_same
        generalize upd H2 l (.lst (intsV (ofN as e.1))) = H3 at sl el ⊢
        walk_at "go"
        refine newLB fun q1 H4 n4 g4 s4 e4 => ?_
        have s24 := sl.trans s4
        have lH : H l = none := sG.free nl
        have qH : H q1 = none := (sG.trans sl).free n4
        have lD : l ≠ D := (ne_of_none eD nl).symm
        have qD : q1 ≠ D := (ne_of_none (sl _ _ eD) n4).symm
        have ql : q1 ≠ l := (ne_of_none el n4).symm
        have nin : ∀ {b : Addr}, H2 b = none → b ∉ rs'.map (·.2.1) ++ rs'.map (·.2.2) := fun {b} nb z => by
          rcases List.mem_append.mp z with z | z
          · obtain ⟨c, hc, rfl⟩ := List.mem_map.mp z
            rw [(hent c hc).1] at nb; exact nomatch nb
          · obtain ⟨c, hc, rfl⟩ := List.mem_map.mp z
            rw [(hent c hc).2] at nb; exact nomatch nb
        have q2 : H2 q1 = none := sl.free n4
        have hk2 : k < s.rs.length := (List.getElem?_eq_some_iff.mp hi).1
        refine ⟨_, s24 _ _ eD, by rw [List.length_map, sizeLine_eq, lr]; omega, fun b u z => by rw [upd_ne (ne_of_none z hD)]; exact s24 _ _ (sG _ _ z), rs' ++ [(e.1, q1, l)], by rw [upd_same, List.map_append]; rfl, by rw [List.length_append, lr]; rfl, ?_, fun c hc => ?_, ?_, fun b hb => ?_⟩
        · rw [List.map_append, er, List.take_add_one, hi, List.map_append]
          rfl
        · rcases List.mem_append.mp hc with w | w
          · obtain ⟨g1, g2⟩ := hent c w
            have d := List.nodup_cons.mp hnd
            have m1 : c.2.1 ≠ D := fun z => d.1 (by rw [← z]; exact List.mem_append_left _ (List.mem_map.mpr ⟨c, w, rfl⟩))
            have m2 : c.2.2 ≠ D := fun z => d.1 (by rw [← z]; exact List.mem_append_right _ (List.mem_map.mpr ⟨c, w, rfl⟩))
            exact ⟨by rw [upd_ne m1]; exact s24 _ _ g1, by rw [upd_ne m2]; exact s24 _ _ g2⟩
          · rw [List.mem_singleton.mp w]
            exact ⟨by rw [upd_ne qD]; exact e4, by rw [upd_ne lD]; exact s4 _ _ el⟩
        · have w : (D :: ((rs' ++ [(e.1, q1, l)]).map (·.2.1) ++ (rs' ++ [(e.1, q1, l)]).map (·.2.2))).Perm (q1 :: l :: D :: (rs'.map (·.2.1) ++ rs'.map (·.2.2))) := by
            refine List.perm_iff_count.mpr fun z => ?_
            simp only [List.map_append, List.map_cons, List.map_nil, List.count_cons, List.count_append, List.count_nil]
            omega
          refine w.nodup_iff.mpr (List.nodup_cons.mpr ⟨fun z => ?_, List.nodup_cons.mpr ⟨fun z => ?_, hnd⟩⟩)
          · rcases List.mem_cons.mp z with z | z
            · exact ql z
            rcases List.mem_cons.mp z with z | z
            · exact qD z
            · exact nin q2 z
          · rcases List.mem_cons.mp z with z | z
            · exact lD z
            · exact nin nl z
        · simp only [List.map_append, List.map_cons, List.map_nil, List.mem_append, List.mem_cons, List.not_mem_nil, or_false] at hb
          rcases hb with (w | w) | (w | w)
          · exact hfr b (List.mem_append_left _ w)
          · rw [w]; exact qH
          · exact hfr b (List.mem_append_right _ w)
          · rw [w]; exact lH
    · rw [List.length_map, List.take_length] at er
      have oG := sG _ _ hS.ord.at_
      walk_at "go"
      refine ⟨s.ol, _, rfl, .inl (sqL oG), fun l nl => ?_⟩
      have sl := same_upd (o := .lst (s.ts.map V.ref)) nl
      have el : upd G l (.lst (s.ts.map V.ref)) l = some (.lst (s.ts.map V.ref)) := upd_same
      generalize upd G l (.lst (s.ts.map V.ref)) = G2 at sl el ⊢
      walk_at "go"
      refine newLB fun S' G3 n3 g3 s3 e3 => ?_
      have s23 := sl.trans s3
      have sH3 := sG.trans s23
      have lH : H l = none := sG.free nl
      have SH : H S' = none := (sG.trans sl).free n3
      have nin : ∀ {b : Addr}, G b = none → b ∉ D :: (rs'.map (·.2.1) ++ rs'.map (·.2.2)) := fun {b} nb z => by
        rcases List.mem_cons.mp z with z | z
        · rw [z, eD] at nb; exact nomatch nb
        rcases List.mem_append.mp z with z | z
        · obtain ⟨c, hc, rfl⟩ := List.mem_map.mp z
          rw [(hent c hc).1] at nb; exact nomatch nb
        · obtain ⟨c, hc, rfl⟩ := List.mem_map.mp z
          rw [(hent c hc).2] at nb; exact nomatch nb
      have SG : G S' = none := sl.free n3
      have Sl : S' ≠ l := (ne_of_none el n3).symm
      have hB : StAt G3 ⟨S', D, l, rs', s.ts⟩ as := ⟨e3, s23 _ _ eD, fun c hc => ⟨s23 _ _ (hent c hc).1, s23 _ _ (hent c hc).2⟩, ⟨s3 _ _ el, o60, fun a b c d e => sH3 _ _ (hS.ord.row a b c d e)⟩, by
          have w : (St.fp ⟨S', D, l, rs', s.ts⟩).Perm (S' :: l :: D :: (rs'.map (·.2.1) ++ rs'.map (·.2.2))) := by
            unfold St.fp
            exact (List.Perm.swap l D _).cons S'
          refine w.nodup_iff.mpr (List.nodup_cons.mpr ⟨fun z => ?_, List.nodup_cons.mpr ⟨nin nl, hnd⟩⟩)
          rcases List.mem_cons.mp z with z | z
          · exact Sl z
          · exact nin SG z, by show (rs'.map (·.1)).Nodup; rw [er]; exact hS.rn, hS.ok, fun y => by show y ∈ rs'.map (·.1) ↔ _; rw [er]; exact hS.mem y, hS.small⟩
      have fB : ∀ b ∈ St.fp ⟨S', D, l, rs', s.ts⟩, H b = none := fun b hb => by
        rcases List.mem_cons.mp hb with w | hb
        · rw [w]; exact SH
        rcases List.mem_cons.mp hb with w | hb
        · rw [w]; exact hD
        rcases List.mem_cons.mp hb with w | hb
        · rw [w]; exact lH
        · exact hfr b hb
      have rB : St.row ⟨S', D, l, rs', s.ts⟩ = s.row := er
      walk_at "go"
      have hx : nameOk x = true := hS.ok _ hm
      refine r_while (fun d σ G' => ∃ (m : Nat) (sb : St) (x6 x7 : Option V), σ = [some (.ref s.S), some (.ref ta), some (.ref s.rl), some (.ref s.ol), some (.ref S'), some (.int ((m : Nat) + 1 : Int)), x6, x7] ∧ Same H G' ∧
          StAt G' sb (itr m (as, s.row)).1 ∧ sb.row = (itr m (as, s.row)).2 ∧ sb.S = S' ∧ (∀ b ∈ sb.fp, H b = none) ∧ (x, i) ∈ (itr m (as, s.row)).1 ∧ (itr m (as, s.row)).1.length + m ≤ as.length ∧ (∀ k, k < m → nxtA (itr k (as, s.row)) ≠ some (x, i)) ∧ d = (itr m (as, s.row)).1.length)
        ⟨_, 0, ⟨S', D, l, rs', s.ts⟩, _, _, rfl, sH3, hB, rB, rfl, fB, hm, Nat.le_refl _, fun k hk => absurd hk (Nat.not_lt_zero k), rfl⟩ fun d σ G' hW => ?_
      obtain ⟨m, sb, x6, x7, rfl, sG', hSb, hrow, hSS, hfb, hmG, hl, hno, rfl⟩ := hW
      walk_at "go"
      generalize hs : itr m (as, s.row) = st at hSb hrow hmG hl
      obtain ⟨as', row'⟩ := st
      have hSb : StAt G' sb as' := hSb
      have hrow : sb.row = row' := hrow
      have hmG : (x, i) ∈ as' := hmG
      have hl : as'.length + m ≤ as.length := hl
      refine ⟨sb, as', by rw [hSS]; rfl, hSb, fun z => ?_, fun x' rest i' j t' sb' H4 hr' hi' hj nt' eS fp' k4 hrow' hSb' et' => ?_⟩
      · have w := (hSb.mem x).mpr ⟨i, hmG⟩
        rw [z] at w
        exact nomatch w
      have hr2 : row' = x' :: rest := hrow.symm.trans hr'
      subst hr2
      have nA : nxtA (itr m (as, s.row)) = some (x', i') := by
        rw [hs]
        show (ofN as' x').head?.map _ = _
        rw [hi']
        rfl
      have sH4 : Same H H4 := fun b u eb => k4 b u (fun z => by rw [hfb b z] at eb; exact nomatch eb) (sG' b u eb)
      have hmx' : (x', i') ∈ as' := mem_ofN.mp (List.mem_of_head? hi')
      walk_at "go"
      refine ⟨_, _, dp_ask (p := (x', i')) et', dp_ask (p := (x, i)) (sH4 _ _ ha), sh_ask1 (str_of_name (hSb.ok _ hmx')), sh_ask1 (str_of_name hx), ?_⟩
      rw [eqv_ask]
      by_cases heq : (x', i') = (x, i)
      · rw [decide_eq_true (by first | exact heq | exact heq.symm)]
        walk_at "go"
        rw [heq] at nA
        exact q m H4 sH4 nA hno
      · rw [decide_eq_false (by first | exact heq | exact fun z => heq z.symm)]
        walk_at "go"
        have hjx : as'[j]? = some (x', i') := by
          obtain ⟨h1, h2, _⟩ := List.findIdx?_eq_some_iff_getElem.mp hj
          rw [List.getElem?_eq_getElem h1, of_decide_eq_true h2]
        have hjl : j < as'.length := (List.getElem?_eq_some_iff.mp hjx).1
        have hlen := List.length_eraseIdx_of_lt hjl
        have hs' : itr (m + 1) (as, s.row) = (as'.eraseIdx j, srvRow as' x' rest) := by
          show nxt (itr m (as, s.row)) = _
          rw [hs]
          exact nxt_of hi' hj
        refine ⟨fun σ' G'' => σ' = [some (.ref s.S), some (.ref ta), some (.ref s.rl), some (.ref s.ol), some (.ref S'), some (.int ((m + 1 : Nat) + 1 : Int)), x6, x7] ∧ G'' = H4, fun σ' G'' ⟨e1, e2⟩ => ?_, ?_⟩
        · subst e2
          refine ⟨_, ?_, m + 1, sb', x6, x7, e1, sH4, by rw [hs']; exact hSb', by rw [hs']; exact hrow', eS.trans hSS, fun b hb => ?_, ?_, ?_, fun k hk => ?_, rfl⟩
          · rw [hs']
            show (as'.eraseIdx j).length < as'.length
            rw [hlen]
            omega
          · rcases fp' b hb with w | w
            · exact hfb b w
            · cases z : H b with
              | none => rfl
              | some u => rw [sG' _ _ z] at w; exact nomatch w
          · rw [hs']
            exact (erase_mem hjx (fun z => heq z.symm)).mpr hmG
          · rw [hs']
            show (as'.eraseIdx j).length + _ ≤ _
            rw [hlen]
            omega
          · by_cases hkm : k = m
            · rw [hkm, nA]
              exact fun z => heq (Option.some.inj z)
            · exact hno k (by omega)
        · walk_at "go"
          exact ⟨rfl, rfl⟩
end
end K22

namespace K22
open PySem PySem.Spec PyProof.Rows L2 Bk


def dAsk (x : Str) (i : Nat) : PyData := .tuple [.str x, .int i]
def dTold : PyData := .str (Str.ofString "told")
/-- what a deed tells, and what waits then -/
inductive Step (as : List (Str × Nat)) (row : List Str) (w : Str) (i : Nat) : Str → List PyData → List (Str × Nat) → List Str → Prop
  | serve0 (h : row = []) : Step as row w i "serve" [dTold, .none] as row
  | serve {x : Str} {rest : List Str} {k j : Nat} (h : row = x :: rest) (hk : (ofN as x).head? = some k) (hj : as.findIdx? (fun q => decide (q = (x, k))) = some j) : Step as row w i "serve" [dTold, dAsk x k] (as.eraseIdx j) (srvRow as x rest)
  | leave : Step as row w i "leave" [dTold, .list ((ofN as w).map fun (k : Nat) => .int k)] (as.filter fun q => decide (q.1 ≠ w)) (row.filter fun y => decide (y ≠ w))
  | dbl (h : (w, i) ∈ as) : Step as row w i "put" [.str (Str.ofString "doubled"), dAsk w i, .bool true] as row
  | full (h : (w, i) ∉ as) (l : as.length = 60) : Step as row w i "put" [.str (Str.ofString "full"), .int 60, .bool true] as row
  | put (h : (w, i) ∉ as) (l : as.length < 60) : Step as row w i "put" [dTold, .none] (as ++ [(w, i)]) (putRow row w)
theorem n_sl : ("serve" : Str) ≠ "leave" := by decide +kernel
theorem n_sp : ("serve" : Str) ≠ "put" := by decide +kernel
theorem n_lp : ("leave" : Str) ≠ "put" := by decide +kernel
theorem Step.one {as : List (Str × Nat)} {row : List Str} {w : Str} {i : Nat} {deed deed2 : Str} {d1 d2 : List PyData} {as1 as2 : List (Str × Nat)} {r1 r2 : List Str} (h1 : Step as row w i deed d1 as1 r1) (h2 : Step as row w i deed2 d2 as2 r2) (e : deed = deed2) : d1 = d2 ∧ as1 = as2 ∧ r1 = r2 := by
  cases h1 <;> cases h2 <;> first | exact ⟨rfl, rfl, rfl⟩ | exact absurd e n_sl | exact absurd e n_sp | exact absurd e n_lp | exact absurd e.symm n_sl | exact absurd e.symm n_sp | exact absurd e.symm n_lp | skip
  · rename_i h x rest k j h' hk hj
    rw [h] at h'
    exact nomatch h'
  · rename_i x rest k j h' hk hj h
    rw [h] at h'
    exact nomatch h'
  · rename_i x rest k j h hk hj x2 rest2 k2 j2 h2 hk2 hj2
    rw [h] at h2
    injection h2 with a b
    subst a b
    rw [hk] at hk2
    obtain rfl := Option.some.inj hk2
    rw [hj] at hj2
    obtain rfl := Option.some.inj hj2
    exact ⟨rfl, rfl, rfl⟩
  · rename_i h h2 l
    exact absurd h h2
  · rename_i h h2 l
    exact absurd h h2
  · rename_i h l h2
    exact absurd h2 h
  · rename_i h l h2 l2
    omega
  · rename_i h l h2
    exact absurd h2 h
  · rename_i h l h2 l2
    omega
def spDueL (K : PySem.W.Frag) : Sp := fun vs H Q _ => ∃ (s : St) (as : List (Str × Nat)) (deed w : Str) (i : Nat), vs = [.ref s.S, .str deed, .str w, .int i] ∧ StAt H s as ∧ nameOk w = true ∧ (deed = "serve" ∨ deed = "leave" ∨ deed = "put") ∧
  ∀ (p : Addr) (s' : St) as' ds us H', Step as s.row w i deed ds as' s'.row → s'.S = s.S → (∀ b ∈ s'.fp, b ∈ s.fp ∨ H b = none) → (∀ b u, b ∉ s.fp → H b = some u → H' b = some u) → StAt H' s' as' → H' p = some (.lst us) → DqAll false K H' us ds → Q (.ref p) H'
theorem dq_ints {K : PySem.W.Frag} {H : Hp} : ∀ l : List Nat, DqAll false K H (intsV l) (l.map fun (k : Nat) => PyData.int k)
  | [] => .nil
  | a :: r => .cons (.int _) (dq_ints r)
section
variable {P : Program} {w : World} {K : PySem.W.Frag} {mg : Str → Option Value} {base : Heap} {A : Ad}
theorem ok_dueL {f : Addr} {fd : FuncData} (F : Fun K "_law_due" "_law_due" s_due_L f fd) (T : Txt K mg A) (c_served_L : CalD P w K mg base CX0 1 "_law_served" spServedL []) (c_left_L : CalD P w K mg base CX0 1 "_law_left" spLeftL []) (c_put_L : CalD P w K mg base CX0 1 "_law_put" spPutL []) : FnOk P w K mg base CX0 2 f fd ["_law_state", "_law_deed", "_law_who", "_law_which"] (spDueL K) := by
  refine F.ok sc_due_L (fun vs H Q E h => ?_) (fun cdv A' outer s H vs Q E hr h => have hu65 := units65 hr; have hu64 := hr.units; ⟨_, (pss_cons (ps_if (pt_cmpR op_eq (pv 1) pe_str (nomark _)) (pss_one (ps_ret (pe_lstB (pa_cons pe_str (pa_cons (pe_cal c_served_L hr (by decide) (by rfl) (pa_cons (pv 0) pa_nil)) pa_nil))))) pss_nil)
    (pss_cons (ps_if (pt_cmpR op_eq (pv 1) pe_str (nomark _)) (pss_one (ps_ret (pe_lstB (pa_cons pe_str (pa_cons (pe_cal c_left_L hr (by decide) (by rfl) (pa_cons (pv 0) (pa_cons (pv 2) pa_nil))) pa_nil))))) pss_nil)
    (pss_cons (ps_if (pt_cmpR (op_inD hu65) (pe_tup (pa_cons (pv 2) (pa_cons (pv 3) pa_nil))) (pe_ix ix_list (pv 0) pe_int (fun _ _ => rfl)) (by rfl)) (pss_one (ps_ret (pe_lstB (pa_cons pe_str (pa_cons (pe_tup (pa_cons (pv 2) (pa_cons (pv 3) pa_nil))) (pa_cons pe_bl pa_nil)))))) pss_nil)
    (pss_cons (ps_if (pt_cmpR op_eq (pe_callB call_len_seq (by rfl) T.m_len (by decide +kernel) (pa_cons (pe_ix ix_list (pv 0) pe_int (fun _ _ => rfl)) pa_nil)) pe_int (nomark _)) (pss_one (ps_ret (pe_lstB (pa_cons pe_str (pa_cons pe_int (pa_cons pe_bl pa_nil)))))) pss_nil)
    (pss_cons (ps_expr (pe_cal c_put_L hr (by decide) (by rfl) (pa_cons (pv 0) (pa_cons (pv 2) (pa_cons (pv 3) pa_nil)))))
    (pss_one (ps_ret (pe_lstB (pa_cons pe_str (pa_cons pe_non pa_nil)))))))))), ?_⟩)
  · obtain ⟨s, as, deed, w, i, rfl, _⟩ := h
    rfl
  · obtain ⟨s, as, deed, w, i, rfl, hS, hw, hd, q⟩ := h
    walk_at "go"
    rcases hd with rfl | rfl | rfl
    · refine iteD rfl ?_
      walk_at "go"
      refine ⟨s, as, rfl, hS, fun hr0 H1 s1 => ?_, fun x rest k j t s' H1 hr' hk hj nt eS fp' k1 hrow' hS' et => ?_⟩
      · walk_at "go"
        refine newLB fun p H2 n2 g2 s2 e2 => ?_
        exact q p s as _ _ H2 (.serve0 hr0) rfl (fun b hb => .inl hb) (fun b u _ z => s2 _ _ (s1 _ _ z)) ((hS.same s1).same s2) e2 (.cons (.str _) (.cons .non .nil))
      · walk_at "go"
        refine newLB fun p H2 n2 g2 s2 e2 => ?_
        exact q p s' _ _ _ H2 (hrow' ▸ .serve hr' hk hj) eS fp' (fun b u n z => s2 _ _ (k1 b u n z)) (hS'.same s2) e2 (.cons (.str _) (.cons (.tup (sqT (s2 _ _ et)) (.cons (.str _) (.cons (.int _) .nil))) .nil))
    · refine iteDn (by decide +kernel) ?_
      walk_at "go"
      refine iteD rfl ?_
      walk_at "go"
      refine ⟨s, as, w, rfl, hS, fun n s' H1 nn eS fp' k1 hrow' hS' en nin => ?_⟩
      walk_at "go"
      refine newLB fun p H2 n2 g2 s2 e2 => ?_
      exact q p s' _ _ _ H2 (hrow' ▸ .leave) eS fp' (fun b u nb z => s2 _ _ (k1 b u (fun v => nb (by rw [v]; exact List.mem_cons_self)) z)) (hS'.same s2) e2 (.cons (.str _) (.cons (.lst (fun z => nomatch z) (sqL (s2 _ _ en)) (dq_ints _)) .nil))
    · refine iteDn (by decide +kernel) ?_
      walk_at "go"
      refine iteDn (by decide +kernel) ?_
      walk_at "go"
      refine newT fun t H1 n1 s1 e1 => ?_
      walk_at "go"
      have hS1 := hS.same s1
      refine r_ixL (sqL hS1.top) (v := .ref s.ol) rfl ?_
      have ao : asOk as := fun p hp => str_of_name (hS.ok p hp)
      refine hS1.ord.mem (p := (w, i)) ao (str_of_name hw) (dp_ask e1) ?_
      by_cases hm : (w, i) ∈ as
      · rw [decide_eq_true hm]
        walk_at "go"
        refine newT fun t2 H2 n2 s2 e2 => ?_
        walk_at "go"
        refine newLB fun p H3 n3 g3 s3 e3 => ?_
        exact q p s as _ _ H3 (.dbl hm) rfl (fun b hb => .inl hb) (fun b u _ z => s3 _ _ (s2 _ _ (s1 _ _ z))) ((hS1.same s2).same s3) e3 (.cons (.str _) (.cons (.tup (sqT (s3 _ _ e2)) (.cons (.str _) (.cons (.int _) .nil))) (.cons (.bl _) .nil)))
      · rw [decide_eq_false hm]
        walk_at "go"
        refine r_ixL (sqL hS1.top) (v := .ref s.ol) rfl ?_
        walk_at "go"
        refine ⟨s.ol, _, rfl, .inl (sqL hS1.ord.at_), ?_⟩
        rw [List.length_map, hS1.ord.len]
        walk_at "go"
        by_cases l60 : as.length = 60
        · refine iteD (by rw [l60]; rfl) ?_
          walk_at "go"
          refine newLB fun p H3 n3 g3 s3 e3 => ?_
          exact q p s as _ _ H3 (.full hm l60) rfl (fun b hb => .inl hb) (fun b u _ z => s3 _ _ (s1 _ _ z)) (hS1.same s3) e3 (.cons (.str _) (.cons (.int _) (.cons (.bl _) .nil)))
        · refine iteDn (fun z => l60 (by injection z with z; omega)) ?_
          have lt : as.length < 60 := by have := hS.small; omega
          walk_at "go"
          refine ⟨s, as, w, i, rfl, hS1, hw, lt, fun s' H2 eS fp' k2 hrow' hS' => ?_⟩
          walk_at "go"
          refine newLB fun p H3 n3 g3 s3 e3 => ?_
          exact q p s' _ _ _ H3 (hrow' ▸ .put hm lt) eS (fun b hb => (fp' b hb).imp id fun z => s1.free z) (fun b u nb z => s3 _ _ (k2 b u nb (s1 _ _ z))) (hS'.same s3) e3 (.cons (.str _) (.cons .non .nil))
end
end K22

namespace K22
open PySem PySem.Spec PyProof.Rows L2 Bk


theorem pe_castK {X : Cx} {K : PySem.W.Frag} {e : Expr} {T : String} {r : V → List V → Hp → VK → Prop} {to : TE} {t : TA} (e0 : X.K = K) (h : PE X e (tBM X.K T r to t)) : PE X e (tBM K T r to t) := by
  subst e0
  exact h
section
variable {K : PySem.W.Frag} {mg : Str → Option Value} {A : Ad}
theorem Txt.xf_NoNumber (T : Txt K mg A) : XfC K A.CM := T.xM.xf
theorem Txt.xc_NoNumber (T : Txt K mg A) : ExcC K A.CM := T.xM.xc
theorem Txt.xf_NoName (T : Txt K mg A) : XfC K A.CN := T.xN.xf
theorem Txt.xc_NoName (T : Txt K mg A) : ExcC K A.CN := T.xN.xc
theorem Txt.xf_Doubled (T : Txt K mg A) : XfC K A.CD := T.xD.xf
theorem Txt.xc_Doubled (T : Txt K mg A) : ExcC K A.CD := T.xD.xc
theorem Txt.xf_NoAsk (T : Txt K mg A) : XfC K A.CA := T.xA.xf
theorem Txt.xc_NoAsk (T : Txt K mg A) : ExcC K A.CA := T.xA.xc
theorem Txt.xf_Full (T : Txt K mg A) : XfC K A.CF := T.xF.xf
theorem Txt.xc_Full (T : Txt K mg A) : ExcC K A.CF := T.xF.xc
end
def spPutB (K : PySem.W.Frag) (A : Ad) : Sp := fun vs H Q E => spPut A vs H Q E ∨ spPutX K A vs H Q E
def spOfB (K : PySem.W.Frag) (A : Ad) : Sp := fun vs H Q E => spOf A vs H Q E ∨ spOfX K A vs H Q E
def spLeaveB (K : PySem.W.Frag) (A : Ad) : Sp := fun vs H Q E => spLeave A vs H Q E ∨ spLeaveX K A vs H Q E
def spComesB (K : PySem.W.Frag) (A : Ad) : Sp := fun vs H Q E => spComes A vs H Q E ∨ spComesX K A vs H Q E
def revV {α : Type} (vs zs : List α) : List α := vs ++ zs.reverse
def appV {α : Type} (vs zs : List α) : List α := vs ++ zs
/-- a deed that is asked as it should be -/
def CaughtOk (K : PySem.W.Frag) (A : Ad) (o la lr : Addr) (n : Nat) (as : List (Str × Nat)) (row : List Str) (deed : Str) (one two : V) (H : Hp) (Q : VK) : Prop := ∃ (w : Str) (i : Nat) (d0 : Str), one = .str w ∧ two = .int i ∧ nameOk w = true ∧ (d0 = "serve" ∨ d0 = "leave" ∨ d0 = "put") ∧ (deed = d0 ∨ (deed = "by name" ∧ d0 = "put")) ∧
  ∀ (p la' lr' : Addr) ts' as' row' ds us H', Step as row w i d0 ds as' row' → (∀ b ∈ [la', lr'], b ∈ [la, lr] ∨ H b = none) → (∀ b u, b ∉ [o, la, lr] → H b = some u → H' b = some u) → Qu A.CQ n H' o la' lr' ts' as' row' → H' p = some (.lst us) → DqAll false K H' us ds → Q (.ref p) H'
def Tells (H : Hp) (tag : Str) (v : V) (Q : VK) : Prop := ∀ p H', H p = none → p ≠ sysModules → Same H H' → H' p = some (.lst [.str tag, v, .bl true]) → Q (.ref p) H'
def CaughtX (K : PySem.W.Frag) (as : List (Str × Nat)) (deed : Str) (one two : V) (H : Hp) (Q : VK) : Prop :=
  ((deed = "put" ∨ deed = "leave" ∨ deed = "of") ∧ NoN K H one ∧ Tells H "name" one Q) ∨
  (deed = "put" ∧ (∃ w, one = .str w ∧ nameOk w = true) ∧ WC K H two ∧ (∀ H', Same H H' → WC K H' two) ∧ countV two = false ∧ Tells H "number" two Q) ∨
  (deed = "comes" ∧ ((WC K H two ∧ countV two = false) ∨ ∃ (x : Str) (i : Nat), one = .str x ∧ two = .int i ∧ nameOk x = true ∧ (x, i) ∉ as) ∧ ∀ t H', H t = none → Same H H' → H' t = some (.tup [one, two]) → Tells H' "ask" (.ref t) Q)
def CaughtC (as : List (Str × Nat)) (row : List Str) (deed : Str) (one two : V) (H : Hp) (Q : VK) : Prop := deed = "comes" ∧ ∃ (x : Str) (i : Nat), one = .str x ∧ two = .int i ∧ (x, i) ∈ as ∧
  ∀ (m : Nat) p H', H p = none → Same H H' → m < as.length → nxtA (itr m (as, row)) = some (x, i) → (∀ k, k < m → nxtA (itr k (as, row)) ≠ some (x, i)) → H' p = some (.lst [.str "told", .int ((m : Nat) + 1 : Int)]) → Q (.ref p) H'
def spCaught (K : PySem.W.Frag) (A : Ad) : Sp := fun vs H Q _ => ∃ (o la lr : Addr) (n : Nat) (ts : List Addr) (as : List (Str × Nat)) (row : List Str) (deed : Str) (one two : V), vs = [.ref o, .str deed, one, two] ∧ Qu A.CQ n H o la lr ts as row ∧ n < 900 ∧
  (CaughtOk K A o la lr n as row deed one two H Q ∨ CaughtX K as deed one two H Q ∨ CaughtC as row deed one two H Q)
section
variable {P : Program} {w : World} {K : PySem.W.Frag} {mg : Str → Option Value} {base : Heap} {A : Ad}
theorem ok_cell {f : Addr} {fd : FuncData} (F : Fun K "_law_cell" "_law_cell" s_cell_L f fd) (T : Txt K mg A) : FnOk P w K mg base CX0 1 f fd ["_law_script", "_law_k"] (Bk.spCell K) := by
  refine F.ok sc_cell_L (fun vs H Q E h => ?_) (fun cdv A' outer s H vs Q E hr h => ⟨_, (pss_cons (ps_if (pt_cmpR op_lt (pv 1) (pe_callB call_len_seq (by rfl) T.m_len (by decide +kernel) (pa_cons (pv 0) pa_nil)) (nomark _)) (pss_one (ps_ret (pe_ix ix_list (pv 0) (pv 1) (fun _ _ => rfl)))) pss_nil)
    (pss_one (ps_ret (pe_op op_add (pe_op op_mulW pe_int (pv 1)) pe_int)))), ?_⟩)
  · obtain ⟨a, ns, k, rfl, _⟩ := h
    rfl
  · obtain ⟨a, ns, k, rfl, hS, hk, q⟩ := h
    walk_at "go"
    refine ⟨a, _, rfl, .inl hS, ?_⟩
    walk_at "go"
    refine ite2 (fun e => ?_) (fun e => ?_)
    · walk_at "go"
      have hl : k < ns.length := by
        have z := of_decide_eq_true e
        rw [List.length_map] at z
        omega
      exact r_ixL hS (at_map hl) (q _)
    · walk_at "go"
      refine r_I (cmul (by decide) (by decide) (by omega) (by omega)) ?_
      walk_at "go"
      exact q _
theorem ok_box {f : Addr} {fd : FuncData} (F : Fun K "_law_box" "_law_box" s_box_L f fd) (T : Txt K mg A) : FnOk P w K mg base CX0 1 f fd ["_law_cell_here"] spBox := by
  refine F.ok sc_box_L (fun vs H Q E h => ?_) (fun cdv A' outer s H vs Q E hr h => ⟨_, (pss_one (ps_ret (pe_lstB (pa_cons (pe_callB (call_max2 rfl) (by rfl) T.m_max (by decide +kernel) (pa_cons pe_int (pa_cons (pe_op op_sub (pv 0) (pe_op op_pow pe_int pe_int)) pa_nil))) (pa_cons (pe_op op_mod (pv 0) pe_int) (pa_cons pe_int pa_nil)))))), ?_⟩)
  · obtain ⟨c, rfl, _⟩ := h
    rfl
  · obtain ⟨c, rfl, q⟩ := h
    walk_at "go"
    refine r_I ⟨by decide, by decide, by decide⟩ ?_
    walk_at "go"
    refine ⟨_, _, rfl, ?_⟩
    walk_at "go"
    refine r_I (by decide) ?_
    walk_at "go"
    refine newLB fun p H' np ns sm e => q p H' np sm ⟨_, _, _, e, ?_, ?_, ?_, ?_, ?_⟩ <;> first | omega | (split <;> omega)
theorem ok_take {f : Addr} {fd : FuncData} (F : Fun K "_law_take" "_law_take" s_take_L f fd) (T : Txt K mg A) : FnOk P w K mg base CX0 1 f fd ["_law_box_here", "_law_many_here"] spTake := by
  refine F.ok sc_take_L (fun vs H Q E h => ?_) (fun cdv A' outer s H vs Q E hr h => ⟨_, (pss_cons (ps_if (pt_cmpR op_gt (pe_ix ix_list (pv 0) pe_int (fun _ _ => rfl)) pe_int (nomark _)) (pss_cons (ps_set (i := 2) sc_take_L.nd rfl (.inl rfl) (pe_op op_mod (pe_ix ix_list (pv 0) pe_int (fun _ _ => rfl)) (pv 1)))
    (pss_cons (ps_asg (pe_op op_fdivW (pe_ix ix_list (pv 0) pe_int (fun _ _ => rfl)) (pv 1)) (pg_sub (pv 0) pe_int set_list))
    (pss_one (ps_ret (pv 2))))) pss_nil)
    (pss_cons (ps_asg (pe_op op_add (pe_ix ix_list (pv 0) pe_int (fun _ _ => rfl)) pe_int) (pg_sub (pv 0) pe_int set_list))
    (pss_cons (ps_set (i := 3) sc_take_L.nd rfl (.inl rfl) (pe_op op_mod (pe_op op_pow (pe_op op_add (pe_op op_add (pe_ix ix_list (pv 0) pe_int (fun _ _ => rfl)) (pe_op op_mulW pe_int (pe_ix ix_list (pv 0) pe_int (fun _ _ => rfl)))) pe_int) pe_int) pe_int))
    (pss_cons (ps_set (i := 4) sc_take_L.nd rfl (.inl rfl) (pe_op op_mod (pe_op op_pow (pe_op op_add (pe_op op_add (pe_op op_fdivW (pv 3) pe_int) (pe_op op_mulW pe_int (pe_ix ix_list (pv 0) pe_int (fun _ _ => rfl)))) pe_int) pe_int) pe_int))
    (pss_one (ps_ret (pe_op op_mod (pe_op op_add (pe_op op_fdivW (pv 3) pe_int) (pe_op op_mulW pe_int (pe_op op_fdivW (pv 4) pe_int))) (pv 1)))))))), ?_⟩)
  · obtain ⟨a, n, size, rfl, _⟩ := h
    rfl
  · obtain ⟨a, n, size, rfl, ⟨x, y, z, e, hx, hy, hy2, hz, hz2⟩, hn, h0, h1, q⟩ := h
    have i0 : SqL K H a [.int x, .int y, .int z] := sqL e
    walk_at "go"
    refine r_ixL i0 (v := .int x) rfl ?_
    walk_at "go"
    refine ite2 (fun hp => ?_) (fun hp => ?_)
    · walk_at "go"
      refine r_ixL i0 (v := .int x) rfl ?_
      walk_at "go"
      refine r_I h0 ?_
      walk_at "go"
      refine r_ixL i0 (v := .int x) rfl ?_
      walk_at "go"
      refine r_I (cdiv h0 h1) ?_
      walk_at "go"
      refine ⟨a, _, 0, 0, rfl, rfl, e, rfl, ?_⟩
      walk_at "go"
      exact q _ _ (Int.emod_nonneg _ (by omega)) (Int.emod_lt_of_pos _ h0) ⟨x / size, y, z, upd_same, Int.ediv_nonneg hx (by omega), hy, hy2, hz, by omega⟩ But.upd
    · walk_at "go"
      refine r_ixL i0 (v := .int z) rfl ?_
      walk_at "go"
      refine ⟨a, _, 2, 2, rfl, rfl, e, rfl, ?_⟩
      have i1 : SqL K (upd H a (.lst [.int x, .int y, .int (z + 1)])) a [.int x, .int y, .int (z + 1)] := sqL upd_same
      walk_at "go"
      refine r_ixL i1 (v := .int y) rfl ?_
      walk_at "go"
      refine r_ixL i1 (v := .int (z + 1)) rfl ?_
      refine r_I (cmul (by decide) (by decide) (by omega) (by omega)) ?_
      walk_at "go"
      have g1 : (y + 7919 * (z + 1) + 37).natAbs < 2 ^ 64 := by omega
      refine r_I ⟨by decide, by decide, g1⟩ ?_
      walk_at "go"
      refine r_I (by decide) ?_
      walk_at "go"
      generalize hone : (y + 7919 * (z + 1) + 37) ^ (Int.toNat 5) % 2147483647 = one
      have o1 : 0 ≤ one := by rw [← hone]; exact Int.emod_nonneg _ (by decide)
      have o2 : one < 2147483647 := by rw [← hone]; exact Int.emod_lt_of_pos _ (by decide)
      refine r_I (cdiv (by decide) (by decide)) ?_
      walk_at "go"
      refine r_ixL i1 (v := .int (z + 1)) rfl ?_
      refine r_I (cmul (by decide) (by decide) (by omega) (by omega)) ?_
      walk_at "go"
      have g2 : (one / 8 + 104729 * (z + 1) + 61).natAbs < 2 ^ 64 := by omega
      refine r_I ⟨by decide, by decide, g2⟩ ?_
      walk_at "go"
      refine r_I (by decide) ?_
      walk_at "go"
      generalize htwo : (one / 8 + 104729 * (z + 1) + 61) ^ (Int.toNat 3) % 2147483629 = two
      have t1 : 0 ≤ two := by rw [← htwo]; exact Int.emod_nonneg _ (by decide)
      have t2 : two < 2147483629 := by rw [← htwo]; exact Int.emod_lt_of_pos _ (by decide)
      refine r_I (cdiv (by decide) (by decide)) ?_
      walk_at "go"
      refine r_I (cdiv (by decide) (by decide)) ?_
      refine r_I (cmul (by decide) (by decide) (by omega) (by omega)) ?_
      walk_at "go"
      refine r_I h0 ?_
      exact q _ _ (Int.emod_nonneg _ (by omega)) (Int.emod_lt_of_pos _ h0) ⟨x, y, z + 1, upd_same, hx, hy, hy2, by omega, by omega⟩ But.upd

theorem ok_caught {f : Addr} {fd : FuncData} (F : Fun K "_law_caught" "_law_caught" s_caught_L f fd) (T : Txt K mg A) (c_Queue_put : CalM P w K mg base (L2.CX P w) 5 A.CQ "put" (spPutB K A)) (c_Queue_serve : CalM P w K mg base CX0 6 A.CQ "serve" (spServe A)) (k_Queue_put_number_name : CalMK P w K mg base (L2.CX P w) 5 0 ["number", "name"] A.CQ "put" (spPutB K A) revV)
    (k_Queue_leave_name : CalMK P w K mg base (L2.CX P w) 6 0 ["name"] A.CQ "leave" (spLeaveB K A) appV) (k_Queue_of_name : CalMK P w K mg base (L2.CX P w) 5 0 ["name"] A.CQ "of" (spOfB K A) appV) (k_Queue_comes_at_number_name : CalMK P w K mg base (L2.CX P w) 7 0 ["number", "name"] A.CQ "comes_at" (spComesB K A) revV) :
    FnOk P w K mg base CX0 8 f fd ["_law_queue", "_law_deed", "_law_who", "_law_which"] (spCaught K A) := by
  refine F.ok sc_caught_L (fun vs H Q E h => ?_) (fun cdv A' outer s H vs Q E hr h => ⟨_, (pss_one (ps_try_asM rfl rfl sc_caught_L.nd (fun W pn xe tk po => (pss_cons (ps_if (pt_cmpR op_eq (pv 1) pe_str (nomark _)) (pss_one (ps_ret (pe_lstB (pa_cons pe_str (pa_cons (pe_mth (pv 0) T.cl_Queue c_Queue_put hr (by decide) (psT tk) (pa_cons (pv 2) (pa_cons (pv 3) pa_nil))) pa_nil))))) pss_nil)
    (pss_cons (ps_if (pt_cmpR op_eq (pv 1) pe_str (nomark _)) (pss_one (ps_ret (pe_lstB (pa_cons pe_str (pa_cons (pe_mth0 (pv 0) T.cl_Queue c_Queue_serve hr (by decide) ps0) pa_nil))))) pss_nil)
    (pss_cons (ps_if (pt_cmpR op_eq (pv 1) pe_str (nomark _)) (pss_one (ps_ret (pe_lstB (pa_cons pe_str (pa_cons (pe_mthK (pv 0) T.cl_Queue k_Queue_put_number_name hr (by decide) (psT tk) (pk_cons (pv 3) (pk_cons (pv 2) pk_nil))) pa_nil))))) pss_nil)
    (pss_cons (ps_if (pt_cmpR op_eq (pv 1) pe_str (nomark _)) (pss_cons (ps_set (i := 4) sc_caught_L.nd rfl (.inl rfl) (pe_mthK (pv 0) T.cl_Queue k_Queue_leave_name hr (by decide) (psT tk) (pk_cons (pv 2) pk_nil)))
    (pss_cons (ps_set (i := 5) sc_caught_L.nd rfl (.inl rfl) (pe_callTy (call_list_ofK (K := K) rfl) (by rfl) T.m_list (by decide +kernel) (pa_cons (pv 4) pa_nil)))
    (pss_cons (ps_expr (pe_castK (K := K) rfl (pe_bm PySem.F.plainAttrs_list PySem.F.slot_list_append PySem.F.type_list_append mt_append (pv 4) (pa_cons pe_int pa_nil))))
    (pss_one (ps_ret (pe_lstB (pa_cons pe_str (pa_cons (pv 5) pa_nil)))))))) pss_nil)
    (pss_one (ps_ret (pe_lstB (pa_cons pe_str (pa_cons (pe_ifExp (pt_cmpR op_eq (pv 1) pe_str (nomark _)) (pe_mthK (pv 0) T.cl_Queue k_Queue_of_name hr (by decide) (psT tk) (pk_cons (pv 2) pk_nil)) (pe_mthK (pv 0) T.cl_Queue k_Queue_comes_at_number_name hr (by decide) (psT tk) (pk_cons (pv 3) (pk_cons (pv 2) pk_nil)))) pa_nil))))))))))
      (.more ⟨by rfl, by decide, .inl T.g_NoName⟩ (i := 6) rfl rfl (fun a oe cls d pn hz hf => (pss_one (ps_ret (pe_lstB (pa_cons pe_str (pa_cons (pe_xf T.xf_NoName T.nf_NoName hz hf (pv 6)) (pa_cons (pe_and (pe_callB (call_isH T.xc_NoName hz hf) (by rfl) T.m_isinstance (by decide +kernel) (pa_cons (pv 6) (pa_cons (pe_glob (v := .ref _) (by rfl) T.g_GuestError rfl) pa_nil))) (pe_one (pe_not (pe_callB (call_isH2 T.xc_NoName hz hf) (by rfl) T.m_isinstance (by decide +kernel) (pa_cons (pv 6) (pa_cons (pe_tup (pa_cons (pe_glob (v := .ref _) (by rfl) T.g_Missing rfl) (pa_cons (pe_glob (v := .ref _) (by rfl) T.g_Barred rfl) pa_nil))) pa_nil)))))) pa_nil)))))))
      (.more ⟨by rfl, by decide, .inl T.g_NoNumber⟩ (i := 6) rfl rfl (fun a oe cls d pn hz hf => (pss_one (ps_ret (pe_lstB (pa_cons pe_str (pa_cons (pe_xf T.xf_NoNumber T.nf_NoNumber hz hf (pv 6)) (pa_cons (pe_and (pe_callB (call_isH T.xc_NoNumber hz hf) (by rfl) T.m_isinstance (by decide +kernel) (pa_cons (pv 6) (pa_cons (pe_glob (v := .ref _) (by rfl) T.g_GuestError rfl) pa_nil))) (pe_one (pe_not (pe_callB (call_isH2 T.xc_NoNumber hz hf) (by rfl) T.m_isinstance (by decide +kernel) (pa_cons (pv 6) (pa_cons (pe_tup (pa_cons (pe_glob (v := .ref _) (by rfl) T.g_Missing rfl) (pa_cons (pe_glob (v := .ref _) (by rfl) T.g_Barred rfl) pa_nil))) pa_nil)))))) pa_nil)))))))
      (.more ⟨by rfl, by decide, .inl T.g_Doubled⟩ (i := 6) rfl rfl (fun a oe cls d pn hz hf => (pss_one (ps_ret (pe_lstB (pa_cons pe_str (pa_cons (pe_xf T.xf_Doubled T.nf_Doubled hz hf (pv 6)) (pa_cons (pe_and (pe_callB (call_isH T.xc_Doubled hz hf) (by rfl) T.m_isinstance (by decide +kernel) (pa_cons (pv 6) (pa_cons (pe_glob (v := .ref _) (by rfl) T.g_GuestError rfl) pa_nil))) (pe_one (pe_not (pe_callB (call_isH2 T.xc_Doubled hz hf) (by rfl) T.m_isinstance (by decide +kernel) (pa_cons (pv 6) (pa_cons (pe_tup (pa_cons (pe_glob (v := .ref _) (by rfl) T.g_Missing rfl) (pa_cons (pe_glob (v := .ref _) (by rfl) T.g_Barred rfl) pa_nil))) pa_nil)))))) pa_nil)))))))
      (.more ⟨by rfl, by decide, .inl T.g_NoAsk⟩ (i := 6) rfl rfl (fun a oe cls d pn hz hf => (pss_one (ps_ret (pe_lstB (pa_cons pe_str (pa_cons (pe_xf T.xf_NoAsk T.nf_NoAsk hz hf (pv 6)) (pa_cons (pe_and (pe_callB (call_isH T.xc_NoAsk hz hf) (by rfl) T.m_isinstance (by decide +kernel) (pa_cons (pv 6) (pa_cons (pe_glob (v := .ref _) (by rfl) T.g_Missing rfl) pa_nil))) (pe_one (pe_not (pe_callB (call_isH2 T.xc_NoAsk hz hf) (by rfl) T.m_isinstance (by decide +kernel) (pa_cons (pv 6) (pa_cons (pe_tup (pa_cons (pe_glob (v := .ref _) (by rfl) T.g_GuestError rfl) (pa_cons (pe_glob (v := .ref _) (by rfl) T.g_Barred rfl) pa_nil))) pa_nil)))))) pa_nil)))))))
      (.more ⟨by rfl, by decide, .inl T.g_Full⟩ (i := 6) rfl rfl (fun a oe cls d pn hz hf => (pss_one (ps_ret (pe_lstB (pa_cons pe_str (pa_cons (pe_xf T.xf_Full T.nf_Full hz hf (pv 6)) (pa_cons (pe_and (pe_callB (call_isH T.xc_Full hz hf) (by rfl) T.m_isinstance (by decide +kernel) (pa_cons (pv 6) (pa_cons (pe_glob (v := .ref _) (by rfl) T.g_Barred rfl) pa_nil))) (pe_one (pe_not (pe_callB (call_isH2 T.xc_Full hz hf) (by rfl) T.m_isinstance (by decide +kernel) (pa_cons (pv 6) (pa_cons (pe_tup (pa_cons (pe_glob (v := .ref _) (by rfl) T.g_GuestError rfl) (pa_cons (pe_glob (v := .ref _) (by rfl) T.g_Missing rfl) pa_nil))) pa_nil)))))) pa_nil)))))))
      .stop))))))), ?_⟩)
  · obtain ⟨o, la, lr, n, ts, as, row, deed, one, two, rfl, _⟩ := h
    rfl
  · obtain ⟨o, la, lr, n, ts, as, row, deed, one, two, rfl, hQ, hn9, hc⟩ := h
    obtain ⟨dx, fs, e, hA, hR, hn⟩ := hQ.ob
    walk_at "go"
    have nm : ∀ m : Str, (m == ("_asks" : Str)) = false → (m == ("_row" : Str)) = false → fs.lookup m = none := hn.2
    have nel : la ≠ o := fun z => by have w := hQ.al.at_; rw [z, e] at w; exact nomatch w
    have nlr : lr ≠ o := fun z => by have w := hQ.rw_; rw [z, e] at w; exact nomatch w
    rcases hc with ⟨w, i, d0, rfl, rfl, hw, hd0, hdd, q⟩ | hc | hc
    · rcases hdd with rfl | ⟨rfl, rfl⟩
      · rcases hd0 with rfl | rfl | rfl
        · refine iteDn (by decide +kernel) ?_
          walk_at "go"
          refine iteD rfl ?_
          walk_at "go"
          refine ⟨o, dx, fs, rfl, e, nm _ (by decide +kernel) (by decide +kernel), ?_⟩
          walk_at "go"
          refine ⟨o, la, lr, n, ts, as, row, rfl, hQ, fun hr0 => ?_, fun x rest k j t H1 hr' hk hj nt k1 hQ1 et => ?_⟩
          · walk_at "go"
            refine newLB fun p H2 np gp s2 e2 => ?_
            exact q p la lr _ _ _ _ _ H2 (.serve0 hr0) (fun b hb => .inl hb) (fun b u _ z => s2 _ _ z) (hQ.same s2) e2 (.cons (.str _) (.cons .non .nil))
          · walk_at "go"
            refine newLB fun p H2 np gp s2 e2 => ?_
            exact q p la lr _ _ _ _ _ H2 (.serve hr' hk hj) (fun b hb => .inl hb) (fun b u nb z => s2 _ _ (k1 b u (fun v => nb (by rw [v]; simp)) (fun v => nb (by rw [v]; simp)) z)) (hQ1.same s2) e2 (.cons (.str _) (.cons (.tup (sqT (s2 _ _ et)) (.cons (.str _) (.cons (.int _) .nil))) .nil))
        · refine iteDn (by decide +kernel) ?_
          walk_at "go"
          refine iteDn (by decide +kernel) ?_
          walk_at "go"
          refine iteDn (by decide +kernel) ?_
          walk_at "go"
          refine iteD rfl ?_
          walk_at "go"
          refine ⟨o, dx, fs, rfl, e, nm _ (by decide +kernel) (by decide +kernel), ?_⟩
          walk_at "go"
          refine ⟨rfl, .inl ⟨o, la, lr, n, ts, as, row, w, rfl, hQ, hn9, hw, fun p0 la' lr' ts' H1 fr n1 n2 k1 hQ1 ep => ?_⟩⟩
          walk_at "go"
          refine ⟨p0, _, rfl, .inl (sqL ep), fun l nl => ?_⟩
          have sl := same_upd (o := .lst ((ofN as w).map fun (i : Nat) => V.int i)) nl
          have el : upd H1 l (.lst ((ofN as w).map fun (i : Nat) => V.int i)) l = some (.lst ((ofN as w).map fun (i : Nat) => V.int i)) := upd_same
          generalize upd H1 l (.lst ((ofN as w).map fun (i : Nat) => V.int i)) = H2 at sl el ⊢
          walk_at "go"
          have ep2 := sl _ _ ep
          have p0n : H p0 = none := fr p0 List.mem_cons_self
          have p0o : p0 ≠ o := (ne_of_none e p0n).symm
          refine ⟨.inl ⟨rfl, _, sqL ep2⟩, ?_⟩
          walk_at "go"
          have l60 : (ofN as w).length ≤ 60 := Nat.le_trans (List.length_filterMap_le _ _) hQ.small
          refine ⟨p0, _, _, rfl, rfl, ep2, by rw [List.length_map, sizeLine_eq]; omega, ?_⟩
          have lp0 : l ≠ p0 := (ne_of_none ep nl).symm
          have hQ2 := hQ1.same sl
          have hQ3 : Qu A.CQ n (upd H2 p0 (.lst (((ofN as w).map fun (i : Nat) => V.int i) ++ [.int 5]))) o la' lr' ts' (as.filter fun q => decide (q.1 ≠ w)) (row.filter fun y => decide (y ≠ w)) := by
            obtain ⟨dx2, fs2, e2, r2⟩ := hQ2.ob
            refine { hQ2 with ob := ⟨dx2, fs2, by rw [upd_ne p0o.symm]; exact e2, r2⟩, al := hQ2.al.keep (upd_ne n1.symm) fun t ht => upd_ne fun z => ?_, rw_ := by rw [upd_ne n2.symm]; exact hQ2.rw_ }
            obtain ⟨xs, w2⟩ := hQ2.al.tup t ht
            rw [z, ep2] at w2
            exact nomatch w2
          have el3 : upd H2 p0 (.lst (((ofN as w).map fun (i : Nat) => V.int i) ++ [.int 5])) l = some (.lst ((ofN as w).map fun (i : Nat) => V.int i)) := by rw [upd_ne lp0]; exact el
          have f3 : ∀ b u, b ≠ o → H b = some u → upd H2 p0 (.lst (((ofN as w).map fun (i : Nat) => V.int i) ++ [.int 5])) b = some u := fun b u nb z => by
            rw [upd_ne (ne_of_none z p0n)]
            exact sl _ _ (k1 b u nb z)
          generalize upd H2 p0 (.lst (((ofN as w).map fun (i : Nat) => V.int i) ++ [.int 5])) = H3 at hQ3 el3 f3 ⊢
          walk_at "go"
          refine newLB fun p H4 np gp s4 e4 => ?_
          exact q p la' lr' _ _ _ _ _ H4 .leave (fun b hb => .inr (fr b (List.mem_cons_of_mem _ hb))) (fun b u nb z => s4 _ _ (f3 b u (fun v => nb (by rw [v]; simp)) z)) (hQ3.same s4) e4 (.cons (.str _) (.cons (.lst (fun z => nomatch z) (sqL (s4 _ _ el3)) (dq_ints _)) .nil))
        · refine iteD rfl ?_
          walk_at "go"
          refine ⟨o, dx, fs, rfl, e, nm _ (by decide +kernel) (by decide +kernel), ?_⟩
          walk_at "go"
          by_cases hm : (w, i) ∈ as
          · exact .inr ⟨o, la, lr, n, ts, as, row, .str w, .int i, rfl, hQ, .inr ⟨w, rfl, hw, .inr ⟨i, rfl, .inl ⟨hm, fun t H1 nt s1 et d H' hd sm ed => w_miss T.eDN (w_miss T.eDM (caught_lst T.eDD (Nat.le_of_ble_eq_true rfl) ed T.kDG T.kDK T.kDB fun p H2 np ns s2 e2 => q p la lr ts as row _ _ H2 (.dbl hm) (fun b hb => .inl hb) (fun b u _ z => s2 _ _ (sm _ _ (s1 _ _ z))) (((hQ.same s1).same sm).same s2) e2 (.cons (.str _) (.cons (.tup (sqT (s2 _ _ (sm _ _ et))) (.cons (.str _) (.cons (.int _) .nil))) (.cons (.bl _) .nil)))))⟩⟩⟩⟩
          · by_cases l60 : as.length = 60
            · exact .inr ⟨o, la, lr, n, ts, as, row, .str w, .int i, rfl, hQ, .inr ⟨w, rfl, hw, .inr ⟨i, rfl, .inr ⟨hm, l60, fun d H' hd sm ed => w_miss T.eFN (w_miss T.eFM (w_miss T.eFD (w_miss T.eFA (caught_lst T.eFF (Nat.le_of_ble_eq_true rfl) ed T.kFB T.kFG T.kFK fun p H2 np ns s2 e2 => q p la lr ts as row _ _ H2 (.full hm l60) (fun b hb => .inl hb) (fun b u _ z => s2 _ _ (sm _ _ z)) ((hQ.same sm).same s2) e2 (.cons (.str _) (.cons (.int _) (.cons (.bl _) .nil)))))))⟩⟩⟩⟩
            · have lt : as.length < 60 := by have := hQ.small; omega
              refine .inl ⟨o, la, lr, n, ts, as, row, w, i, rfl, hQ, hw, hm, lt, fun t H1 nt k1 hQ1 => ?_⟩
              walk_at "go"
              refine newLB fun p H2 np gp s2 e2 => ?_
              exact q p la lr _ _ _ _ _ H2 (.put hm lt) (fun b hb => .inl hb) (fun b u nb z => s2 _ _ (k1 b u (fun v => nb (by rw [v]; simp)) (fun v => nb (by rw [v]; simp)) z)) (hQ1.same s2) e2 (.cons (.str _) (.cons .non .nil))
      · refine iteDn (by decide +kernel) ?_
        walk_at "go"
        refine iteDn (by decide +kernel) ?_
        walk_at "go"
        refine iteD rfl ?_
        walk_at "go"
        refine ⟨o, dx, fs, rfl, e, nm _ (by decide +kernel) (by decide +kernel), ?_⟩
        walk_at "go"
        by_cases hm : (w, i) ∈ as
        · exact ⟨rfl, .inr ⟨o, la, lr, n, ts, as, row, .str w, .int i, rfl, hQ, .inr ⟨w, rfl, hw, .inr ⟨i, rfl, .inl ⟨hm, fun t H1 nt s1 et d H' hd sm ed => w_miss T.eDN (w_miss T.eDM (caught_lst T.eDD (Nat.le_of_ble_eq_true rfl) ed T.kDG T.kDK T.kDB fun p H2 np ns s2 e2 => q p la lr ts as row _ _ H2 (.dbl hm) (fun b hb => .inl hb) (fun b u _ z => s2 _ _ (sm _ _ (s1 _ _ z))) (((hQ.same s1).same sm).same s2) e2 (.cons (.str _) (.cons (.tup (sqT (s2 _ _ (sm _ _ et))) (.cons (.str _) (.cons (.int _) .nil))) (.cons (.bl _) .nil)))))⟩⟩⟩⟩⟩
        · by_cases l60 : as.length = 60
          · exact ⟨rfl, .inr ⟨o, la, lr, n, ts, as, row, .str w, .int i, rfl, hQ, .inr ⟨w, rfl, hw, .inr ⟨i, rfl, .inr ⟨hm, l60, fun d H' hd sm ed => w_miss T.eFN (w_miss T.eFM (w_miss T.eFD (w_miss T.eFA (caught_lst T.eFF (Nat.le_of_ble_eq_true rfl) ed T.kFB T.kFG T.kFK fun p H2 np ns s2 e2 => q p la lr ts as row _ _ H2 (.full hm l60) (fun b hb => .inl hb) (fun b u _ z => s2 _ _ (sm _ _ z)) ((hQ.same sm).same s2) e2 (.cons (.str _) (.cons (.int _) (.cons (.bl _) .nil)))))))⟩⟩⟩⟩⟩
          · have lt : as.length < 60 := by have := hQ.small; omega
            refine ⟨rfl, .inl ⟨o, la, lr, n, ts, as, row, w, i, rfl, hQ, hw, hm, lt, fun t H1 nt k1 hQ1 => ?_⟩⟩
            walk_at "go"
            refine newLB fun p H2 np gp s2 e2 => ?_
            exact q p la lr _ _ _ _ _ H2 (.put hm lt) (fun b hb => .inl hb) (fun b u nb z => s2 _ _ (k1 b u (fun v => nb (by rw [v]; simp)) (fun v => nb (by rw [v]; simp)) z)) (hQ1.same s2) e2 (.cons (.str _) (.cons .non .nil))
    · rcases hc with ⟨hd, hN, q⟩ | ⟨rfl, ⟨w, rfl, hw⟩, hW, hWs, hb, q⟩ | ⟨rfl, hcond, q⟩
      · rcases hd with rfl | rfl | rfl
        · refine iteD rfl ?_
          walk_at "go"
          refine ⟨o, dx, fs, rfl, e, nm _ (by decide +kernel) (by decide +kernel), ?_⟩
          walk_at "go"
          exact .inr ⟨o, la, lr, n, ts, as, row, one, two, rfl, hQ, .inl ⟨hN, fun d H' hd sm ed => caught_lst T.eNN (Nat.le_of_ble_eq_true rfl) ed T.kNG T.kNK T.kNB fun p H2 np ns s2 e2 => q p H2 (sm.free np) ns (sm.trans s2) e2⟩⟩
        · refine iteDn (by decide +kernel) ?_
          walk_at "go"
          refine iteDn (by decide +kernel) ?_
          walk_at "go"
          refine iteDn (by decide +kernel) ?_
          walk_at "go"
          refine iteD rfl ?_
          walk_at "go"
          refine ⟨o, dx, fs, rfl, e, nm _ (by decide +kernel) (by decide +kernel), ?_⟩
          walk_at "go"
          exact ⟨rfl, .inr ⟨o, la, lr, n, ts, as, row, one, rfl, hQ, hN, fun d H' hd sm ed => caught_lst T.eNN (Nat.le_of_ble_eq_true rfl) ed T.kNG T.kNK T.kNB fun p H2 np ns s2 e2 => q p H2 (sm.free np) ns (sm.trans s2) e2⟩⟩
        · refine iteDn (by decide +kernel) ?_
          walk_at "go"
          refine iteDn (by decide +kernel) ?_
          walk_at "go"
          refine iteDn (by decide +kernel) ?_
          walk_at "go"
          refine iteDn (by decide +kernel) ?_
          walk_at "go"
          refine iteD rfl ?_
          walk_at "go"
          refine ⟨o, dx, fs, rfl, e, nm _ (by decide +kernel) (by decide +kernel), ?_⟩
          walk_at "go"
          exact ⟨rfl, .inr ⟨o, one, rfl, hN, fun d H' hd sm ed => caught_lst T.eNN (Nat.le_of_ble_eq_true rfl) ed T.kNG T.kNK T.kNB fun p H2 np ns s2 e2 => q p H2 (sm.free np) ns (sm.trans s2) e2⟩⟩
      · refine iteD rfl ?_
        walk_at "go"
        refine ⟨o, dx, fs, rfl, e, nm _ (by decide +kernel) (by decide +kernel), ?_⟩
        walk_at "go"
        exact .inr ⟨o, la, lr, n, ts, as, row, .str w, two, rfl, hQ, .inr ⟨w, rfl, hw, .inl ⟨hW, hWs, hb, fun d H' hd sm ed => w_miss T.eMN (caught_lst T.eMM (Nat.le_of_ble_eq_true rfl) ed T.kMG T.kMK T.kMB fun p H2 np ns s2 e2 => q p H2 (sm.free np) ns (sm.trans s2) e2)⟩⟩⟩
      · refine iteDn (by decide +kernel) ?_
        walk_at "go"
        refine iteDn (by decide +kernel) ?_
        walk_at "go"
        refine iteDn (by decide +kernel) ?_
        walk_at "go"
        refine iteDn (by decide +kernel) ?_
        walk_at "go"
        refine iteDn (by decide +kernel) ?_
        walk_at "go"
        refine ⟨o, dx, fs, rfl, e, nm _ (by decide +kernel) (by decide +kernel), ?_⟩
        walk_at "go"
        exact ⟨rfl, .inr ⟨o, la, lr, n, ts, as, row, one, two, rfl, hQ, hcond, fun t H' nt st et d H3 hd sm ed => w_miss T.eAN (w_miss T.eAM (w_miss T.eAD (caught_lst T.eAA (Nat.le_of_ble_eq_true rfl) ed T.kAK T.kAG T.kAB fun p H2 np ns s2 e2 => q t H' nt st et p H2 (sm.free np) ns (sm.trans s2) e2)))⟩⟩
    · obtain ⟨rfl, x, i, rfl, rfl, hm, q⟩ := hc
      refine iteDn (by decide +kernel) ?_
      walk_at "go"
      refine iteDn (by decide +kernel) ?_
      walk_at "go"
      refine iteDn (by decide +kernel) ?_
      walk_at "go"
      refine iteDn (by decide +kernel) ?_
      walk_at "go"
      refine iteDn (by decide +kernel) ?_
      walk_at "go"
      refine ⟨o, dx, fs, rfl, e, nm _ (by decide +kernel) (by decide +kernel), ?_⟩
      walk_at "go"
      refine ⟨rfl, .inl ⟨o, la, lr, n, ts, as, row, x, i, rfl, hQ, hm, fun m H1 s1 hml h1 h2 => ?_⟩⟩
      walk_at "go"
      refine newLB fun p H2 np gp s2 e2 => ?_
      exact q m p H2 (s1.free np) (s1.trans s2) hml h1 h2 e2
end
end K22

namespace K22
open PySem PySem.Spec PyProof.Rows L2 Bk


def small (i : Nat) : Prop := i < 10 ^ 31
theorem dq_asks {K : PySem.W.Frag} {H : Hp} : ∀ {ts : List Addr} {as : List (Str × Nat)}, ts.length = as.length → (∀ (k : Nat) t p, ts[k]? = some t → as[k]? = some p → H t = some (.tup [.str p.1, .int p.2])) → DqAll false K H (ts.map V.ref) (as.map askD)
  | [], [], _, _ => .nil
  | t :: ts, p :: as, l, h => .cons (.tup (sqT (h 0 t p rfl rfl)) (.cons (.str _) (.cons (.int _) .nil))) (dq_asks (Nat.succ.inj l) fun k t p a b => h (k + 1) t p a b)
theorem str_sm {x : Str} (h : nameOk x = true) : smQ (.str x) = true ∧ (PyData.str x).bulk ≤ 8 := by
  have l := len_of_name h
  have c : ∀ a ∈ x.cps.toList, 97 ≤ a ∧ a ≤ 122 := fun a ha => by
    have z := List.all_eq_true.mp (Bool.and_eq_true_iff.mp h).2 a ha
    obtain ⟨u, v⟩ := Bool.and_eq_true_iff.mp z
    exact ⟨of_decide_eq_true u, of_decide_eq_true v⟩
  refine ⟨?_, ?_⟩
  · simp only [smQ]
    refine List.all_eq_true.mpr fun a ha => decide_eq_true ?_
    have := c a ha
    omega
  · simp only [PyData.bulk]
    exact l.2
theorem int_sm {i : Nat} (h : small i) : smQ (.int (i : Nat)) = true := by
  unfold small at h
  simp only [smQ, decide_eq_true_eq, Int.natAbs_natCast]
  omega
theorem asks_sm : ∀ {as : List (Str × Nat)}, (∀ p ∈ as, nameOk p.1 = true ∧ small p.2) → smQL (as.map askD) = true ∧ PyData.bulkAll (as.map askD) ≤ 12 * as.length ∧ PyData.depthAll (as.map askD) ≤ 1
  | [], _ => ⟨rfl, Nat.le_refl _, Nat.zero_le _⟩
  | p :: as, h => by
    obtain ⟨n, s⟩ := h p List.mem_cons_self
    obtain ⟨a, b⟩ := str_sm n
    obtain ⟨c, d, e⟩ := asks_sm (as := as) fun q hq => h q (List.mem_cons_of_mem _ hq)
    have t1 : smQ (askD p) = true := by
      have z : smQL [.str p.1, .int (p.2 : Nat)] = true := by
        show (smQ _ && (smQ _ && true)) = true
        rw [a, int_sm s]
        rfl
      unfold askD
      simp only [smQ] at z ⊢
      exact z
    have t2 : (askD p).bulk ≤ 11 := by unfold askD; simp only [PyData.bulk, PyData.bulkAll] at b ⊢; omega
    have t3 : (askD p).depth ≤ 1 := by
      have z : PyData.depthAll [.str p.1, .int (p.2 : Nat)] = 0 := by simp only [PyData.depthAll, PyData.depth]; rfl
      unfold askD
      simp only [PyData.depth, z]
      omega
    refine ⟨by simp only [List.map_cons, smQL, t1, c, Bool.and_true], ?_, ?_⟩
    · simp only [List.map_cons, PyData.bulkAll, List.length_cons]
      omega
    · simp only [List.map_cons, PyData.depthAll]
      omega
theorem shq_al {K : PySem.W.Frag} {H : Hp} {l : Addr} {ts : List Addr} {as : List (Str × Nat)} (a : AL H l ts as) (h : ∀ p ∈ as, nameOk p.1 = true ∧ small p.2) (l60 : as.length ≤ 60) : Shq K H (.ref l) (PyData.list (as.map askD)).shown := by
  obtain ⟨s1, s2, s3⟩ := asks_sm h
  refine shq_of (b := false) (.lst (fun z => nomatch z) (sqL a.at_) (dq_asks a.len a.row)) ?_ ?_ ?_
  · simpa only [smQ] using s1
  · simp only [PyData.bulk]
    omega
  · simp only [PyData.depth]
    omega
theorem shq_ask3 {K : PySem.W.Frag} {H : Hp} {p t : Addr} {x : Str} {i : Nat} (e : H p = some (.lst [.str "ask", .ref t, .bl true])) (et : H t = some (.tup [.str x, .int i])) (hx : nameOk x = true) (hi : small i) : Shq K H (.ref p) (PyData.list [.str (Str.ofString "ask"), askD (x, i), .bool true]).shown := by
  obtain ⟨s1, s2, s3⟩ := asks_sm (as := [(x, i)]) fun p hp => by rw [List.mem_singleton.mp hp]; exact ⟨hx, hi⟩
  have t1 : smQL [askD (x, i)] = true := s1
  have t2 : PyData.bulkAll [askD (x, i)] ≤ 12 := s2
  have t3 : PyData.depthAll [askD (x, i)] ≤ 1 := s3
  have a1 : smQ (.str (Str.ofString "ask")) = true := by decide +kernel
  have a2 : (PyData.str (Str.ofString "ask")).bulk ≤ 8 := by simp only [PyData.bulk]; decide +kernel
  refine shq_of (b := false) (.lst (fun z => nomatch z) (sqL e) (.cons (.str _) (.cons (.tup (sqT et) (.cons (.str _) (.cons (.int _) .nil))) (.cons (.bl _) .nil)))) ?_ ?_ ?_
  · simp only [smQL, Bool.and_true] at t1
    simp only [smQ, smQL, Bool.and_true] at a1 ⊢
    rw [Bool.and_eq_true]
    exact ⟨a1, t1⟩
  · simp only [PyData.bulkAll, PyData.bulk] at t2 a2 ⊢
    omega
  · simp only [PyData.depthAll, PyData.depth] at t3 ⊢
    omega
theorem one_m {f : Nat → Option (Str × Nat)} {a : Str × Nat} {m k : Nat} (h1 : f m = some a) (h2 : ∀ j, j < m → f j ≠ some a) (g1 : f k = some a) (g2 : ∀ j, j < k → f j ≠ some a) : m = k := by
  rcases Nat.lt_trichotomy m k with h | h | h
  · exact absurd h1 (g2 m h)
  · exact h
  · exact absurd g1 (h2 k h)
def spRight (A : Ad) : Sp := fun vs H Q _ => ∃ (o la lr : Addr) (n : Nat) (tq : List Addr) (as : List (Str × Nat)) (s : St) (nl ta : Addr) (N : List Str) (x : Str) (i : Nat), vs = [.ref o, .ref s.S, .ref nl, .ref ta] ∧ Qu A.CQ n H o la lr tq as s.row ∧ StAt H s as ∧ n < 900 ∧ H nl = some (.lst (N.map V.str)) ∧ N.length ≤ 60 ∧ (∀ y ∈ N, nameOk y = true) ∧ H ta = some (.tup [.str x, .int i]) ∧ nameOk x = true ∧ small i ∧ (∀ p ∈ as, small p.2) ∧ ∀ H', Same H H' → Q (.bl true) H'
section
variable {P : Program} {w : World} {K : PySem.W.Frag} {mg : Str → Option Value} {base : Heap} {A : Ad}
theorem ok_right {f : Addr} {fd : FuncData} (F : Fun K "_law_right" "_law_right" s_right_L f fd) (T : Txt K mg A) (c_Queue_waiting : CalM P w K mg base CX0 1 A.CQ "waiting" (spWaiting A)) (c_Queue_len : CalM P w K mg base CX0 1 A.CQ "__len__" (spLenQ A)) (c_Queue_twin : CalM P w K mg base CX0 3 A.CQ "twin" (spTwinQ A)) (c_Queue_of : CalM P w K mg base (L2.CX P w) 5 A.CQ "of" (spOf A))
    (c_when_L : CalD P w K mg base CX0 2 "_law_when" spWhenL []) (c_caught_L : CalD P w K mg base CX0 8 "_law_caught" (spCaught K A) []) : FnG P w K mg base CX0 9 f fd ["_law_queue", "_law_state", "_law_names_here", "_law_ask"] (spRight A) := by
  refine fun_okG F sc_right_L (fun vs H Q E h => ?_) (fun cdv A' outer s H vs Q E ga hr h => have hu65 := units65 hr; have hu64 := hr.units; ⟨_, (pss_cons (ps_asg (pv 1) (pg_lst rfl (pgs_cons (pg_name (i := 4) sc_right_L.nd rfl (.inl rfl)) (pgs_cons (pg_name (i := 5) sc_right_L.nd rfl (.inl rfl)) pgs_nil))))
    (pss_cons (ps_if (PW.pt (pw_or (pt_cmpR op_ne (pe_callB (call_repr_any ga hr) (by rfl) T.m_repr (by decide +kernel) (pa_cons (pe_mth0 (pv 0) T.cl_Queue c_Queue_waiting hr (by decide) ps0) pa_nil)) (pe_callB (call_repr_any ga hr) (by rfl) T.m_repr (by decide +kernel) (pa_cons (pv 5) pa_nil)) (nomark _)) (pw_or1 (pt_cmpR op_ne (pe_callB (call_lenO c_Queue_len hr (by decide)) (by rfl) T.m_len (by decide +kernel) (pa_cons (pv 0) pa_nil)) (pe_callB call_len_seq (by rfl) T.m_len (by decide +kernel) (pa_cons (pv 5) pa_nil)) (nomark _))))) (pss_one (ps_ret pe_bl)) pss_nil)
    (pss_cons (ps_if (pt_cmpR op_ne (pe_callB (call_repr_any ga hr) (by rfl) T.m_repr (by decide +kernel) (pa_cons (pe_mth0 (pe_mth0 (pv 0) T.cl_Queue c_Queue_twin hr (by decide) ps0) T.cl_Queue c_Queue_waiting hr (by decide) ps0) pa_nil)) (pe_callB (call_repr_any ga hr) (by rfl) T.m_repr (by decide +kernel) (pa_cons (pv 5) pa_nil)) (nomark _)) (pss_one (ps_ret pe_bl)) pss_nil)
    (pss_cons (ps_for PassesOwn.never rfl (pi_list (pv 2)) (pg_name (i := 6) sc_right_L.nd rfl (.inr rfl))
      (pss_cons (ps_setLc (i := 7) (own := [("_law_one", 9), ("_law_which", 10)]) rfl sc_right_L.nd rfl rfl (sw_true rfl rfl rfl (by decide +kernel)) (pi_seqA (pv 5)) (blkOk_by (N := ["_law_queue", "_law_state", "_law_names_here", "_law_ask", "_law_row", "_law_order", "_law_who", "_law_due_here", "_law_told", "_law_one", "_law_which"]) (sc := defScope s_right_L) (by decide +kernel)) (fun _ _ _ _ _ => (pg_tupK (K := K) (n := 2) rfl rfl (pgs_cons (pg_name (i := 9) sc_right_L.nd rfl (.inl rfl)) (pgs_cons (pg_name (i := 10) sc_right_L.nd rfl (.inl rfl)) pgs_nil)))) (fun _ _ _ _ _ => pts_one (pt_cmpR op_eq (pv 9) (pv 6) (nomark _))) (fun _ _ _ _ _ => (pv 10)))
    (pss_cons (ps_set (i := 8) sc_right_L.nd rfl (.inl rfl) (pe_mth (pv 0) T.cl_Queue c_Queue_of hr (by decide) psY (pa_cons (pv 6) pa_nil)))
    (pss_cons (ps_if (pt_cmpR (op_neD hu64) (pv 8) (pv 7) (nomark _)) (pss_one (ps_ret pe_bl)) pss_nil)
    (pss_one (ps_expr (pe_bm PySem.F.plainAttrs_list PySem.F.slot_list_append PySem.F.type_list_append mt_append (pv 8) (pa_cons pe_int pa_nil))))))))
    (pss_cons (ps_expr (pe_bm0 PySem.F.plainAttrs_list PySem.F.slot_list_clear PySem.F.type_list_clear mt_clear (pe_mth0 (pv 0) T.cl_Queue c_Queue_waiting hr (by decide) ps0)))
    (pss_cons (ps_set (i := 7) sc_right_L.nd rfl (.inl rfl) (pe_ifExp (pt_cmpR (op_inD hu65) (pv 3) (pv 5) (by rfl)) (pe_lstB (pa_cons pe_str (pa_cons (pe_cal c_when_L hr (by decide) (by rfl) (pa_cons (pv 1) (pa_cons (pv 3) pa_nil))) pa_nil))) (pe_lstB (pa_cons pe_str (pa_cons (pv 3) (pa_cons pe_bl pa_nil))))))
    (pss_one (ps_ret (pe_cmpR op_eq (pe_callB (call_repr_any ga hr) (by rfl) T.m_repr (by decide +kernel) (pa_cons (pe_cal c_caught_L hr (by decide) (by rfl) (pa_cons (pv 0) (pa_cons pe_str (pa_cons (pe_ix ix_tup (pv 3) pe_int (fun _ _ => rfl)) (pa_cons (pe_ix ix_tup (pv 3) pe_int (fun _ _ => rfl)) pa_nil))))) pa_nil)) (pe_callB (call_repr_any ga hr) (by rfl) T.m_repr (by decide +kernel) (pa_cons (pv 7) pa_nil)) (nomark _)))))))))), ?_⟩)
  · obtain ⟨o, la, lr, n, tq, as, s, nl, ta, N, x, i, rfl, _⟩ := h
    rfl
  · obtain ⟨o, la, lr, n, tq, as, s, nl, ta, N, x, i, rfl, hQ, hS, hn9, en, N60, hN, ea, hx, hi, has, q⟩ := h
    obtain ⟨dx, fs, e, hA, hR, hn⟩ := hQ.ob
    have nm : ∀ m : Str, (m == ("_asks" : Str)) = false → (m == ("_row" : Str)) = false → fs.lookup m = none := hn.2
    have hall : ∀ p ∈ as, nameOk p.1 = true ∧ small p.2 := fun p hp => ⟨hS.ok p hp, has p hp⟩
    walk_at "go"
    refine r_lst2 hS.top rfl ?_
    walk_at "go"
    refine ⟨o, dx, fs, rfl, e, nm _ (by decide +kernel) (by decide +kernel), ?_⟩
    walk_at "go"
    refine ⟨o, la, lr, n, tq, as, s.row, rfl, hQ, fun w1 H1 nw1 s1 aw1 => ?_⟩
    walk_at "go"
    refine ⟨_, _, rfl, .inl (shq_al aw1 hall hS.small), ?_⟩
    walk_at "go"
    have hS1 := hS.same s1
    refine ⟨_, _, rfl, .inl (shq_al hS1.ord hall hS.small), ?_⟩
    walk_at "go"
    rw [decide_eq_true (show V.str (PyData.list (as.map askD)).shown = V.str (PyData.list (as.map askD)).shown from rfl)]
    walk_at "go"
    have e1 := s1 _ _ e
    refine ⟨o, dx, fs, rfl, e1, o, la, lr, n, tq, as, s.row, rfl, hQ.same s1, as.length, rfl, by have := hS.small; omega, ?_⟩
    walk_at "go"
    refine ⟨s.ol, _, rfl, .inl (sqL hS1.ord.at_), ?_⟩
    rw [List.length_map, hS1.ord.len]
    walk_at "go"
    rw [decide_eq_true (show V.int (as.length : Nat) = V.int (as.length : Nat) from rfl)]
    walk_at "go"
    refine ⟨o, dx, fs, rfl, e1, nm _ (by decide +kernel) (by decide +kernel), ?_⟩
    walk_at "go"
    refine ⟨o, la, lr, n, tq, as, s.row, rfl, hQ.same s1, fun y la2 lr2 H2 s2 hY frY => ?_⟩
    walk_at "go"
    obtain ⟨dy, fy, ey, yA, yR, yn⟩ := id hY.ob
    refine ⟨y, dy, fy, rfl, ey, yn.2 _ (by decide +kernel) (by decide +kernel), ?_⟩
    walk_at "go"
    refine ⟨y, la2, lr2, 4, tq, as, s.row, rfl, hY, fun w3 H3 nw3 s3 aw3 => ?_⟩
    walk_at "go"
    refine ⟨_, _, rfl, .inl (shq_al aw3 hall hS.small), ?_⟩
    walk_at "go"
    have s13 := s1.trans (s2.trans s3)
    refine ⟨_, _, rfl, .inl (shq_al (hS.same s13).ord hall hS.small), ?_⟩
    walk_at "go"
    rw [decide_eq_true (show V.str (PyData.list (as.map askD)).shown = V.str (PyData.list (as.map askD)).shown from rfl)]
    walk_at "go"
    refine ⟨nl, rfl, ⟨_, sqL (s13 _ _ en)⟩, for_list (K := K) (a := nl) (xs := N.map V.str) (fun j σ G => (∃ x6 x7 x8 x9 x10, σ = [some (.ref o), some (.ref s.S), some (.ref nl), some (.ref ta), some (.ref s.rl), some (.ref s.ol), x6, x7, x8, x9, x10]) ∧ Same H G) ⟨⟨_, _, _, _, _, rfl⟩, s13⟩ (fun j σ G _ ⟨_, sG⟩ => sqL (sG _ _ en)) ?_ ?_⟩
    · rintro j y σ G hy ⟨⟨x6, x7, x8, x9, x10, rfl⟩, sG⟩
      rw [List.getElem?_map] at hy
      cases hj : N[j]? with
      | none => rw [hj] at hy; exact nomatch hy
      | some z =>
        rw [hj] at hy
        obtain rfl := Option.some.inj hy
        have hz := hN z (List.mem_of_getElem? hj)
        have hSG := hS.same sG
        have o60 := hS.ord.len
        have a60 := hS.small
        walk_at "go"
        refine lcQ (fun i => (fun (p : Str × Nat) => if p.1 = z then some (V.int (p.2 : Nat)) else none) (as.getD i ("", 0))) (.inl (sqL hSG.ord.at_)) (by rw [List.length_map]; omega) (fun QQ z => ⟨_, rfl, z⟩) (fun i y H1 Q' R' hy sm h1 h2 => ?_) fun D H1 nN s1 eN => ?_
        · rw [List.getElem?_map] at hy
          cases hi : s.ts[i]? with
          | none => rw [hi] at hy; exact nomatch hy
          | some t =>
            rw [hi] at hy
            obtain rfl := Option.some.inj hy
            have hil : i < as.length := by have := (List.getElem?_eq_some_iff.mp hi).1; omega
            have et := sm _ _ (hSG.ord.row i _ _ hi (List.getElem?_eq_getElem hil))
            have hg : as.getD i ("", 0) = as[i] := by rw [List.getD_eq_getElem?_getD, List.getElem?_eq_getElem hil]; rfl
            rw [hg] at h1 h2
            refine ⟨_, _, rfl, sqT et, rfl, _, _, rfl, _, _, rfl, rfl, rfl, ?_⟩
            walk_at "go"
            by_cases hp : as[i].1 = z
            · rw [decide_eq_true (by rw [hp])]
              walk_at "go"
              exact h1 _ (if_pos hp) _ (Same.refl _)
            · rw [decide_eq_false (fun w => hp (by injection w))]
              walk_at "go"
              exact h2 (if_neg hp) _ (Same.refl _)
        have eN : H1 D = some (.lst (intsV (ofN as z))) := by
          have w := rng_fm ((Str.ofString "", 0) : Str × Nat) as (fun p => if p.1 = z then some (V.int (p.2 : Nat)) else none)
          rw [eN, List.length_map, o60]
          refine congrArg (fun l => some (HO.lst l)) (w.trans ?_)
          unfold ofN intsV
          rw [List.map_filterMap]
          refine congrArg (List.filterMap · as) (funext fun p => ?_)
          by_cases h : p.1 = z
          · rw [if_pos h, if_pos h]; rfl
          · rw [if_neg h, if_neg h]; rfl
        have s1' := sG.trans s1
        walk_at "go"
        refine ⟨o, dx, fs, rfl, s1' _ _ e, nm _ (by decide +kernel) (by decide +kernel), ?_⟩
        walk_at "go"
        refine ⟨o, la, tq, as, z, rfl, (hQ.same s1').qa, hz, fun p H2 np s2 ep => ?_⟩
        walk_at "go"
        refine ⟨_, _, .lst (sqL ep) (dp_ints _), .lst (sqL (s2 _ _ eN)) (dp_ints _), sh_ints (ofN as z), sh_ints (ofN as z), ?_⟩
        rw [SeqAt.eqv_refl _ (SeqAt.canLay_of_shaped (sh_ints (ofN as z)))]
        walk_at "go"
        refine ⟨.inl ⟨rfl, _, sqL ep⟩, ?_⟩
        walk_at "go"
        have l60 : (ofN as z).length ≤ 60 := Nat.le_trans (List.length_filterMap_le _ _) hS.small
        refine ⟨p, _, _, rfl, rfl, ep, by rw [List.length_map, sizeLine_eq]; omega, ?_⟩
        have pH : H p = none := s1'.free np
        exact ⟨⟨_, _, _, _, _, rfl⟩, fun b u w => by rw [upd_ne (ne_of_none w pH)]; exact s2 _ _ (s1' _ _ w)⟩
    · rintro σ G ⟨⟨x6, x7, x8, x9, x10, rfl⟩, sG⟩
      walk_at "go"
      unfold tBM0
      walk_at "go"
      refine ⟨o, dx, fs, rfl, sG _ _ e, nm _ (by decide +kernel) (by decide +kernel), ?_⟩
      walk_at "go"
      refine ⟨o, la, lr, n, tq, as, s.row, rfl, hQ.same sG, fun w4 H4 nw4 s4 aw4 => ?_⟩
      refine ⟨.inl ⟨rfl, _, sqL aw4.at_⟩, w4, _, rfl, rfl, aw4.at_, ?_⟩
      have w4H : H w4 = none := sG.free nw4
      have s5 : Same H (upd H4 w4 (.lst [])) := fun b u z => by rw [upd_ne (ne_of_none z w4H)]; exact s4 _ _ (sG _ _ z)
      generalize upd H4 w4 (.lst []) = H5 at s5 ⊢
      walk_at "go"
      have hS5 := hS.same s5
      have ao : asOk as := fun p hp => str_of_name (hS.ok p hp)
      refine hS5.ord.mem (p := (x, i)) ao (str_of_name hx) (dp_ask (s5 _ _ ea)) ?_
      by_cases hm : (x, i) ∈ as
      · rw [decide_eq_true hm]
        walk_at "go"
        refine ⟨s, as, ta, x, i, rfl, hS5, s5 _ _ ea, hm, fun m H6 s6 h1 h2 => ?_⟩
        walk_at "go"
        refine newLB fun p7 H7 n7 g7 s7 e7 => ?_
        have s57 := s5.trans (s6.trans s7)
        walk_at "go"
        refine r_ixT (sqT (s57 _ _ ea)) (v := .str x) rfl ?_
        walk_at "go"
        refine r_ixT (sqT (s57 _ _ ea)) (v := .int i) rfl ?_
        refine ⟨o, la, lr, n, tq, as, s.row, "comes", .str x, .int i, rfl, hQ.same s57, hn9, .inr (.inr ⟨rfl, x, i, rfl, rfl, hm, fun m2 p8 H8 n8 s8 hml g1 g2 e8 => ?_⟩)⟩
        obtain rfl := one_m (f := fun k => nxtA (itr k (as, s.row))) h1 h2 g1 g2
        have sm : ([.str "told", .int ((m : Nat) + 1 : Int)] : List V).all smS = true := by
          have : smS (.int ((m : Nat) + 1 : Int)) = true := by
            have := hS.small
            simp only [smS, decide_eq_true_eq]
            omega
          rw [List.all_cons, List.all_cons, this]
          rfl
        walk_at "go"
        refine ⟨_, _, rfl, .inl (shq_lsc (sqL e8) sm (by show 2 ≤ 3000; decide)), ?_⟩
        walk_at "go"
        refine ⟨_, _, rfl, .inl (shq_lsc (sqL (s8 _ _ e7)) sm (by show 2 ≤ 3000; decide)), ?_⟩
        walk_at "go"
        rw [decide_eq_true (by rfl)]
        exact q _ (s57.trans s8)
      · rw [decide_eq_false hm]
        walk_at "go"
        refine newLB fun p7 H7 n7 g7 s7 e7 => ?_
        have s57 := s5.trans s7
        walk_at "go"
        refine r_ixT (sqT (s57 _ _ ea)) (v := .str x) rfl ?_
        walk_at "go"
        refine r_ixT (sqT (s57 _ _ ea)) (v := .int i) rfl ?_
        refine ⟨o, la, lr, n, tq, as, s.row, "comes", .str x, .int i, rfl, hQ.same s57, hn9, .inr (.inl (.inr (.inr ⟨rfl, .inr ⟨x, i, rfl, rfl, hx, hm⟩, fun t H8 nt s8 et p9 H9 np ns s9 e9 => ?_⟩)))⟩
        walk_at "go"
        refine ⟨_, _, rfl, .inl (shq_ask3 e9 (s9 _ _ et) hx hi), ?_⟩
        walk_at "go"
        refine ⟨_, _, rfl, .inl (shq_ask3 (s9 _ _ (s8 _ _ e7)) (s9 _ _ (s8 _ _ (s57 _ _ ea))) hx hi), ?_⟩
        walk_at "go"
        rw [decide_eq_true (by rfl)]
        exact q _ (s57.trans (s8.trans s9))
end
end K22

namespace K22
open PySem PySem.Spec PyProof.Rows L2 Bk


def lowS (z : Str) : Prop := ∀ c ∈ z.cps.toList, 97 ≤ c ∧ c ≤ 122
theorem nameOk_of {z : Str} (h : lowS z) (l1 : 1 ≤ z.length) (l2 : z.length ≤ 8) : nameOk z = true := by
  unfold nameOk
  rw [decide_eq_true ⟨l1, l2⟩, Bool.true_and]
  unfold allW
  refine List.all_eq_true.mpr fun c hc => ?_
  obtain ⟨a, b⟩ := h c hc
  rw [decide_eq_true a, decide_eq_true b]
  rfl
theorem low_app {x y : Str} (hx : lowS x) (hy : lowS y) : lowS (x ++ y) := fun c hc => by
  have w : (x ++ y).cps.toList = x.cps.toList ++ y.cps.toList := Array.toList_append
  rw [w] at hc
  exact (List.mem_append.mp hc).elim (hx c) (hy c)
theorem low_cut {z : Str} {lo hi : Option Int} (h : lowS z) : lowS (cutS z lo hi) := fun c hc => by
  unfold cutS at hc
  exact h c (List.mem_of_mem_drop (List.mem_of_mem_take hc))
theorem cut_pre {z : Str} {m : Int} (h : 0 ≤ m) : (cutS z none (some m)).length = min m.toNat z.length := by
  unfold cutS HT.sIx
  show (List.toArray _).size = _
  rw [List.size_toArray, List.length_take]
  simp only [if_neg (show ¬ m < 0 by omega), Nat.sub_zero, List.drop_zero]
  rw [Array.length_toList]
  show min (min m.toNat z.length) z.length = _
  omega
theorem cut_suf {z : Str} {m : Int} (h : 0 ≤ m) : (cutS z (some m) none).length = z.length - min m.toNat z.length := by
  unfold cutS HT.sIx
  show (List.toArray _).size = _
  rw [List.size_toArray, List.length_take, List.length_drop]
  simp only [if_neg (show ¬ m < 0 by omega)]
  rw [Array.length_toList]
  show min (z.length - min m.toNat z.length) (z.length - min m.toNat z.length) = _
  omega
def one1 (z : Str) : Prop := lowS z ∧ z.length = 1
theorem glue_low : ∀ (ys : List Str) (acc : Array Nat), (∀ y ∈ ys, one1 y) → (∀ c ∈ acc.toList, 97 ≤ c ∧ c ≤ 122) →
    (∀ c ∈ (ys.foldl (fun (acc : Array Nat) (p : Str) => acc ++ (Str.ofString "").cps ++ p.cps) acc).toList, 97 ≤ c ∧ c ≤ 122) ∧ (ys.foldl (fun (acc : Array Nat) (p : Str) => acc ++ (Str.ofString "").cps ++ p.cps) acc).size = acc.size + ys.length
  | [], acc, _, h => ⟨h, rfl⟩
  | y :: r, acc, hy, h => by
    obtain ⟨y1, y2⟩ := hy y List.mem_cons_self
    have e : (Str.ofString "").cps = #[] := by decide +kernel
    have y2 : y.cps.size = 1 := y2
    have z := glue_low r (acc ++ (Str.ofString "").cps ++ y.cps) (fun b hb => hy b (List.mem_cons_of_mem _ hb)) fun c hc => by
      rw [e, Array.append_empty, Array.toList_append] at hc
      exact (List.mem_append.mp hc).elim (h c) (y1 c)
    refine ⟨z.1, z.2.trans ?_⟩
    rw [e, Array.append_empty, Array.size_append, y2, List.length_cons]
    omega
theorem join_low {ys : List Str} (h : ∀ y ∈ ys, one1 y) (h0 : 0 < ys.length) : lowS (Txt.join (Str.ofString "") ys) ∧ (Txt.join (Str.ofString "") ys).length = ys.length := by
  cases ys with
  | nil => exact absurd h0 (by decide)
  | cons y r =>
    obtain ⟨y1, y2⟩ := h y List.mem_cons_self
    have z := glue_low r y.cps (fun b hb => h b (List.mem_cons_of_mem _ hb)) y1
    refine ⟨z.1, z.2.trans ?_⟩
    have y2 : y.cps.size = 1 := y2
    rw [y2, List.length_cons]
    omega
theorem strs_of {R : Str → Prop} : ∀ {xs : List V}, (∀ v ∈ xs, ∃ y, v = .str y ∧ R y) → ∃ ys : List Str, xs = ys.map V.str ∧ ys.length = xs.length ∧ ∀ y ∈ ys, R y
  | [], _ => ⟨[], rfl, rfl, fun _ z => nomatch z⟩
  | v :: r, h => by
    obtain ⟨y, rfl, hy⟩ := h v List.mem_cons_self
    obtain ⟨ys, rfl, l, hs⟩ := strs_of (xs := r) fun u hu => h u (List.mem_cons_of_mem _ hu)
    exact ⟨y :: ys, rfl, by rw [List.length_cons, l, List.length_cons], fun z hz => (List.mem_cons.mp hz).elim (fun w => by rw [w]; exact hy) (hs z)⟩
theorem sum1 : ∀ {ys : List Str}, (∀ y ∈ ys, one1 y) → (ys.map fun x => x.length).sum = ys.length
  | [], _ => rfl
  | y :: r, h => by
    rw [List.map_cons, List.sum_cons, (h y List.mem_cons_self).2, sum1 fun z hz => h z (List.mem_cons_of_mem _ hz), List.length_cons]
    omega
theorem signs_low : ∀ c ∈ (Str.ofString "abcdefghijklmnopqrstuvwxyz").cps.toList, 97 ≤ c ∧ c ≤ 122 := by decide +kernel
theorem z_low : lowS (Str.ofString "z") ∧ (Str.ofString "z").length = 1 := by
  constructor
  · unfold lowS
    decide +kernel
  · decide +kernel
theorem e_low : lowS Str.empty := fun c hc => nomatch hc
theorem sign_ok {c : Nat} (h : 97 ≤ c ∧ c ≤ 122) : one1 ⟨#[c]⟩ := ⟨fun d hd => by
  have w : d = c := List.mem_singleton.mp hd
  rw [w]
  exact h, rfl⟩
def spNames : Sp := fun vs H Q _ => ∃ (bx : Addr) (n : Nat), vs = [.ref bx] ∧ Box bx n H ∧ n < 100000 ∧
  ∀ (p : Addr) (H' : Hp) (NS : List Str), H p = none → But bx H H' → Box bx (n + 30) H' → H' p = some (.lst (NS.map V.str)) → NS.length = 7 → (∀ y ∈ NS, nameOk y = true) → Q (.ref p) H'
section
variable {K : PySem.W.Frag} {σ : L2.St} {H : Hp} {Q : VK} {j1 j2 : Nat} {vs : List Nat} {te : TE} {a : Addr} {xs : List V} {ta : TA}
theorem lcEnum (p : Nat → V) (hv : ∀ QQ : List V → Hp → Prop, QQ [.ref a] H → ta σ H QQ) (hs : SqL K H a xs) (hl : xs.length ≤ 10000) (hw : ∀ x y, wipe (((wipe σ vs).set j1 (some x)).set j2 (some y)) vs = wipe σ vs)
    (ht : ∀ (i : Nat) (y : V) (H1 : Hp) (Q' : VK), xs[i]? = some y → Same H H1 → (∀ H3, Same H1 H3 → Q' (p i) H3) → te (((wipe σ vs).set j1 (some (.int (i : Nat)))).set j2 (some y)) H1 Q')
    (q : ∀ D H', H D = none → Same H H' → H' D = some (.lst ((List.range xs.length).map p)) → Q (.ref D) H') : tLc (iEnum K ta) (gTup K 2 (gCons (gName j1) (gCons (gName j2) gNil))) tYes te vs σ H Q := by
  refine hv _ ⟨a, xs, rfl, hs, fun D hD => ?_⟩
  refine lc_by (g := gTup K 2 (gCons (gName j1) (gCons (gName j2) gNil))) (tt := tYes) (te := te) (vs := vs) (σ := σ) (Q := Q) walk_enum (fun i => some (p i)) hD hl (fun _ s => s.seq hs) (fun i x H1 H2 Q' R' hi sm y h1 h2 => ?_) fun H' s e => q D H' hD s (by rw [e]; congr 2; exact (List.filterMap_eq_map' ..).symm ▸ rfl)
  obtain ⟨T, x0, y0, rfl, nT, rfl, hx, hy⟩ := y
  obtain rfl := Option.some.inj hx
  refine ⟨T, _, rfl, sqT upd_same, rfl, _, _, rfl, _, _, rfl, rfl, hw _ _, r_yes ?_⟩
  have s2 := same_upd (o := .tup [V.int (i : Nat), y0]) nT
  exact ht i y0 _ Q' hy (sm.trans s2) fun H3 s3 => h1 _ rfl _ (s2.trans s3)
end
end K22

namespace K22
open PySem PySem.Spec PyProof.Rows L2 Bk


section
variable {P : Program} {w : World} {K : PySem.W.Frag} {mg : Str → Option Value} {base : Heap} {A : Ad}
theorem ok_names {f : Addr} {fd : FuncData} (F : Fun K "_law_names" "_law_names" s_names_L f fd) (T : Txt K mg A) (c_take_L : CalD P w K mg base CX0 1 "_law_take" spTake []) : FnOk P w K mg base CX0 2 f fd ["_law_box_here"] spNames := by
  refine F.ok sc_names_L (fun vs H Q E h => ?_) (fun cdv A' outer s H vs Q E hr h => have hu65 := units65 hr; have hu64 := hr.units; have hu := units1 hr; ⟨_, (pss_cons (ps_set (i := 1) sc_names_L.nd rfl (.inr rfl) pe_str)
    (pss_cons (ps_set (i := 2) sc_names_L.nd rfl (.inr rfl) (pe_join pe_str (pe_lc (own := [("_law_k", 6)]) rfl sc_names_L.nd (pi_range1 (by rfl) T.m_range (pa_cons pe_int pa_nil)) (blkOk_by (N := ["_law_box_here", "_law_signs", "_law_stem", "_law_first", "_law_at", "_law_names_here", "_law_k", "_law_who"]) (sc := defScope s_names_L) (by decide +kernel)) (fun _ _ _ _ _ => (pg_name (i := 6) sc_names_L.nd rfl (.inl rfl))) (fun _ _ _ _ _ => pts_nil) (fun _ _ _ _ _ => (pe_ix ix_str (pv 1) (pe_cal c_take_L hr (by decide) (by rfl) (pa_cons (pv 0) (pa_cons pe_int pa_nil))) (fun _ _ => rfl))))))
    (pss_cons (ps_asg (pe_tup (pa_cons (pe_cal c_take_L hr (by decide) (by rfl) (pa_cons (pv 0) (pa_cons pe_int pa_nil))) (pa_cons (pe_cal c_take_L hr (by decide) (by rfl) (pa_cons (pv 0) (pa_cons pe_int pa_nil))) pa_nil))) (pg_tup rfl (pgs_cons (pg_name (i := 3) sc_names_L.nd rfl (.inr rfl)) (pgs_cons (pg_name (i := 4) sc_names_L.nd rfl (.inr rfl)) pgs_nil))))
    (pss_cons (ps_if (pt_cmpR op_eq (pe_cal c_take_L hr (by decide) (by rfl) (pa_cons (pv 0) (pa_cons pe_int pa_nil))) pe_int (nomark _)) (pss_one (ps_ret (pe_lc (own := [("_law_k", 6)]) rfl sc_names_L.nd (pi_range1 (by rfl) T.m_range (pa_cons pe_int pa_nil)) (blkOk_by (N := ["_law_box_here", "_law_signs", "_law_stem", "_law_first", "_law_at", "_law_names_here", "_law_k", "_law_who"]) (sc := defScope s_names_L) (by decide +kernel)) (fun _ _ _ _ _ => (pg_name (i := 6) sc_names_L.nd rfl (.inl rfl))) (fun _ _ _ _ _ => pts_nil) (fun _ _ _ _ _ => (pe_slice sl_str (pe_op op_add_str (pv 2) (pe_ix ix_str (pv 1) (pv 3) (fun _ _ => rfl))) po_none (po_some (pe_op op_add pe_int (pe_op op_mod (pe_op op_add (pv 6) (pv 4)) pe_int)))))))) pss_nil)
    (pss_cons (ps_setLc (i := 5) (own := [("_law_k", 6)]) rfl sc_names_L.nd rfl rfl (sw_true rfl rfl rfl (by decide +kernel)) (pi_range1 (by rfl) T.m_range (pa_cons pe_int pa_nil)) (blkOk_by (N := ["_law_box_here", "_law_signs", "_law_stem", "_law_first", "_law_at", "_law_names_here", "_law_k", "_law_who"]) (sc := defScope s_names_L) (by decide +kernel)) (fun _ _ _ _ _ => (pg_name (i := 6) sc_names_L.nd rfl (.inl rfl))) (fun _ _ _ _ _ => pts_nil) (fun _ _ _ _ _ => (pe_op op_add_str (pe_op op_add_str (pe_slice sl_str (pv 2) po_none (po_some (pv 4))) (pe_ix ix_str (pv 1) (pe_op op_mod (pe_op op_add (pv 3) (pe_op op_mulW pe_int (pv 6))) pe_int) (fun _ _ => rfl))) (pe_slice sl_str (pv 2) (po_some (pv 4)) po_none))))
    (pss_one (ps_ret (pe_lc (own := [("_law_k", 6), ("_law_who", 7)]) rfl sc_names_L.nd (pi_enum (by rfl) T.m_enumerate (pa_cons (pv 5) pa_nil)) (blkOk_by (N := ["_law_box_here", "_law_signs", "_law_stem", "_law_first", "_law_at", "_law_names_here", "_law_k", "_law_who"]) (sc := defScope s_names_L) (by decide +kernel)) (fun _ _ _ _ _ => (pg_tupK (K := K) (n := 2) rfl rfl (pgs_cons (pg_name (i := 6) sc_names_L.nd rfl (.inl rfl)) (pgs_cons (pg_name (i := 7) sc_names_L.nd rfl (.inl rfl)) pgs_nil)))) (fun _ _ _ _ _ => pts_nil) (fun _ _ _ _ _ => (pe_op op_add_str (pv 7) (pe_op op_mul01 pe_str (pe_op op_mod (pv 6) pe_int)))))))))))), ?_⟩)
  · obtain ⟨bx, n, rfl, _⟩ := h
    rfl
  · obtain ⟨bx, n, rfl, hB, hn, q⟩ := h
    have hsg : (Str.ofString "abcdefghijklmnopqrstuvwxyz").length = 26 := by decide +kernel
    have hsl : ((Str.ofString "abcdefghijklmnopqrstuvwxyz").cps.toList.length : Int) = 26 := by decide +kernel
    walk_at "go"
    refine ⟨⟨_, rfl⟩, ?_⟩
    refine lcDraw (n := 6) (m := n) (bx := bx) (fun v => ∃ y, v = .str y ∧ one1 y) hB (by decide) (fun _ => rfl) (fun k H1 Q' hk hB1 kk => ?_) fun D H1 xs nD b1 hB1 e1 l1 p1 => ?_
    · walk_at "go"
      refine r_take hB1 (fun d H2 h0 h1 hB2 b2 => ?_)
      refine r_ixS h0 (by rw [hsl]; exact h1) (by rw [hsg]; decide) fun c hc => ?_
      exact kk _ H2 ⟨_, rfl, sign_ok (signs_low c (List.mem_of_getElem? hc))⟩ hB2 b2
    obtain ⟨ys, rfl, ly, hys⟩ := strs_of p1
    rw [l1] at ly
    refine ⟨_, D, ys, rfl, rfl, .inl (sqL e1), by rw [sum1 hys, ly]; decide, ?_⟩
    obtain ⟨jl, jn⟩ := join_low hys (by rw [ly]; decide)
    rw [ly] at jn
    generalize Txt.join (Str.ofString "") ys = stem at jl jn ⊢
    walk_at "go"
    refine r_take hB1 fun d1 H2 h01 h11 hB2 b2 => ?_
    walk_at "go"
    refine r_take hB2 fun d2 H3 h02 h12 hB3 b3 => ?_
    walk_at "go"
    refine newT fun tp H4 n4 s4 e4 => ?_
    refine ⟨tp, _, rfl, sqT e4, rfl, _, _, rfl, _, _, rfl, rfl, ?_⟩
    walk_at "go"
    refine r_take (hB3.same s4) fun d3 H5 h03 h13 hB5 b5 => ?_
    have bb : But bx H H5 := ((b1.trans b2).trans b3).trans ((But.of s4).trans b5)
    walk_at "go"
    refine iteC (fun h3 => ?_) (fun h3 => ?_)
    · walk_at "go"
      refine lcDraw (n := 7) (m := n + 9) (bx := bx) (fun v => ∃ y, v = .str y ∧ nameOk y = true) (hB5.mono (by omega)) (by decide) (fun _ => rfl) (fun k G Q' hk hBG kk => ?_) fun D2 G xs nD2 bG hBG eG lG pG => ?_
      · walk_at "go"
        refine r_ixS h01 (by rw [hsl]; exact h11) (by rw [hsg]; decide) fun c hc => ?_
        have hc1 := sign_ok (signs_low c (List.mem_of_getElem? hc))
        have hc2 : (⟨#[c]⟩ : Str).length = 1 := rfl
        refine ⟨stem, ⟨#[c]⟩, rfl, rfl, by rw [jn, hc2, sizeLine_eq]; decide, ?_⟩
        walk_at "go"
        refine r_I (by decide) ?_
        walk_at "go"
        have hl : (stem ++ (⟨#[c]⟩ : Str)).length = 7 := by rw [str_len_add, jn, hc2]
        refine ⟨_, rfl, by rw [hl, sizeLine_eq]; decide, ?_⟩
        have m0 : 0 ≤ ((k : Int) + d2) % 7 := Int.emod_nonneg _ (by decide)
        have m1 : ((k : Int) + d2) % 7 < 7 := Int.emod_lt_of_pos _ (by decide)
        refine kk _ G ⟨_, rfl, nameOk_of (low_cut (low_app jl hc1.1)) ?_ ?_⟩ (hBG.mono (by omega)) But.refl
        · rw [cut_pre (by omega), hl]
          omega
        · rw [cut_pre (by omega), hl]
          omega
      · obtain ⟨NS, rfl, lN, hN⟩ := strs_of pG
        have nDH : H D2 = none := by
          cases w : H D2 with
          | none => rfl
          | some u => rw [bb _ _ (hB5.ne nD2) w] at nD2; exact nomatch nD2
        exact q D2 G NS nDH (bb.trans bG) (hBG.mono (by omega)) eG (by rw [lN, lG]) hN
    · walk_at "go"
      refine lcDraw (n := 7) (m := n + 9) (bx := bx) (fun v => ∃ y, v = .str y ∧ (lowS y ∧ y.length = 7)) (hB5.mono (by omega)) (by decide) (fun _ => rfl) (fun k G Q' hk hBG kk => ?_) fun D2 G xs nD2 bG hBG eG lG pG => ?_
      · walk_at "go"
        refine ⟨stem, rfl, by rw [jn, sizeLine_eq]; decide, ?_⟩
        walk_at "go"
        refine r_I (cmul (by decide) (by decide) (by omega) (by omega)) ?_
        walk_at "go"
        refine r_I (by decide) ?_
        have m0 : 0 ≤ (d1 + 7 * (k : Int)) % 26 := Int.emod_nonneg _ (by decide)
        have m1 : (d1 + 7 * (k : Int)) % 26 < 26 := Int.emod_lt_of_pos _ (by decide)
        refine r_ixS m0 (by rw [hsl]; exact m1) (by rw [hsg]; decide) fun c hc => ?_
        have hc1 := sign_ok (signs_low c (List.mem_of_getElem? hc))
        have hc2 : (⟨#[c]⟩ : Str).length = 1 := rfl
        have l1' : (cutS stem none (some d2)).length = min d2.toNat 6 := by rw [cut_pre h02, jn]
        have l2' : (cutS stem (some d2) none).length = 6 - min d2.toNat 6 := by rw [cut_suf h02, jn]
        refine ⟨_, ⟨#[c]⟩, rfl, rfl, by rw [l1', hc2, sizeLine_eq]; omega, ?_⟩
        walk_at "go"
        refine ⟨stem, rfl, by rw [jn, sizeLine_eq]; decide, ?_⟩
        refine ⟨_, _, rfl, rfl, by rw [str_len_add, l1', l2', hc2, sizeLine_eq]; omega, ?_⟩
        refine kk _ G ⟨_, rfl, low_app (low_app (low_cut jl) hc1.1) (low_cut jl), ?_⟩ (hBG.mono (by omega)) But.refl
        rw [str_len_add, str_len_add, l1', l2', hc2]
        omega
      · obtain ⟨NS, rfl, lN, hN⟩ := strs_of pG
        have nDH : H D2 = none := by
          cases w : H D2 with
          | none => rfl
          | some u => rw [bb _ _ (hB5.ne nD2) w] at nD2; exact nomatch nD2
        walk_at "go"
        obtain ⟨g, hg⟩ : ∃ g : Nat → Str, g = fun i => NS.getD i "" ++ (if ((i : Nat) : Int) % 2 = 0 then Str.empty else Str.ofString "z") := ⟨_, rfl⟩
        have l7 : NS.length = 7 := by rw [lN, lG]
        have gok : ∀ i, i < 7 → nameOk (g i) = true := fun i hi => by
          have hm : NS.getD i "" ∈ NS := by
            rw [List.getD_eq_getElem?_getD, List.getElem?_eq_getElem (by omega)]
            exact List.getElem_mem _
          obtain ⟨a1, a2⟩ := hN _ hm
          rw [hg]
          show nameOk (NS.getD i "" ++ _) = true
          by_cases c : ((i : Nat) : Int) % 2 = 0
          · rw [if_pos c]
            have e1 : (NS.getD i "" ++ Str.empty).length = 7 := by rw [str_len_add, a2]; rfl
            exact nameOk_of (low_app a1 e_low) (by omega) (by omega)
          · rw [if_neg c]
            have e1 : (NS.getD i "" ++ Str.ofString "z").length = 8 := by rw [str_len_add, a2, z_low.2]
            exact nameOk_of (low_app a1 z_low.1) (by omega) (by omega)
        refine lcEnum (K := K) (a := D2) (fun i => V.str (g i)) (fun QQ z => r_cons (r_var rfl (r_nil z))) (sqL eG) (by rw [List.length_map, l7]; decide) (fun _ _ => rfl) (fun i y G1 Q' hy sm kk => ?_) fun D3 G3 nD3 s3 e3 => ?_
        · rw [List.getElem?_map] at hy
          cases c : NS[i]? with
          | none => rw [c] at hy; exact nomatch hy
          | some z =>
            rw [c] at hy
            obtain rfl := Option.some.inj hy
            have hz := hN z (List.mem_of_getElem? c)
            have hgz : g i = z ++ (if ((i : Nat) : Int) % 2 = 0 then Str.empty else Str.ofString "z") := by
              rw [hg]
              show NS.getD i "" ++ _ = _
              rw [List.getD_eq_getElem?_getD, c]
              rfl
            walk_at "go"
            refine r_I (by decide) ?_
            have m0 : 0 ≤ ((i : Nat) : Int) % 2 := Int.emod_nonneg _ (by decide)
            have m1 : ((i : Nat) : Int) % 2 < 2 := Int.emod_lt_of_pos _ (by decide)
            refine ⟨_, _, rfl, rfl, by omega, ?_⟩
            refine ⟨_, _, rfl, rfl, ?_, ?_⟩
            · have l2 : (if ((i : Nat) : Int) % 2 = 0 then Str.empty else Str.ofString "z").length ≤ 1 := by
                split
                · decide
                · rw [z_low.2]
                  decide
              rw [hz.2, sizeLine_eq]
              omega
            · have w := kk G1 (Same.refl _)
              rw [hgz] at w
              exact w
        · have nD3H : H D3 = none := by
            cases w : H D3 with
            | none => rfl
            | some u => rw [bG _ _ (hBG.ne nD3) (bb _ _ (hBG.ne nD3) w)] at nD3; exact nomatch nD3
          rw [List.length_map] at e3
          refine q D3 G3 ((List.range NS.length).map g) nD3H ((bb.trans bG).same s3) ((hBG.same s3).mono (by omega)) (by rw [e3, List.map_map]; rfl) (by rw [List.length_map, List.length_range]; exact l7) fun y hy => ?_
          obtain ⟨i, hi, rfl⟩ := List.mem_map.mp hy
          exact gok i (by rw [← l7]; exact List.mem_range.mp hi)
end
end K22

namespace K22
open PySem PySem.Spec PyProof.Rows L2 Bk


def spOdd : Sp := fun vs H Q _ => ∃ (a : Addr) (n : Nat), vs = [.ref a] ∧ Box a n H ∧ n < 999000 ∧ ∀ v fp H', OddV H' 1 fp v → (∀ b ∈ fp, H b = none) → (∀ z : Str, v = .str z → z.length ≤ 1000 ∧ nameOk z = false) → Box a (n + 1) H' → But a H H' → Q v H'
section
variable {P : Program} {w : World} {K : PySem.W.Frag} {mg : Str → Option Value} {base : Heap} {A : Ad}
theorem ok_odd {f : Addr} {fd : FuncData} (F : Fun K "_law_odd" "_law_odd" s_odd_L f fd) (T : Txt K mg A) (c_take_L : CalD P w K mg base CX0 1 "_law_take" spTake []) : FnOk P w K mg base CX0 2 f fd ["_law_box_here"] spOdd := by
  refine F.ok sc_odd_L (fun vs H Q E h => ?_) (fun cdv A' outer s H vs Q E hr h => ⟨_, (pss_cons (ps_set (i := 1) sc_odd_L.nd rfl (.inl rfl) (pe_lstB (pa_cons pe_non (pa_cons pe_bl (pa_cons pe_bl (pa_cons (pe_un un_neg pe_int) (pa_cons pe_str (pa_cons pe_str (pa_cons pe_str (pa_cons pe_str (pa_cons pe_str (pa_cons (pe_tup pa_nil) (pa_cons (pe_lstB pa_nil) (pa_cons (pe_lstB (pa_cons pe_str pa_nil)) (pa_cons (pe_tup (pa_cons pe_str (pa_cons pe_int pa_nil))) (pa_cons pe_dnewK (pa_cons (pe_disp (pps_cons pe_str pe_int pps_nil) rfl rfl (by simp) (by decide)) (pa_cons (pe_lstB (pa_cons (pe_lstB (pa_cons pe_int pa_nil)) pa_nil)) pa_nil))))))))))))))))))
    (pss_one (ps_ret (pe_ix ix_list (pv 1) (pe_cal c_take_L hr (by decide) (by rfl) (pa_cons (pv 0) (pa_cons pe_int pa_nil))) (fun _ _ => rfl))))), ?_⟩)
  · obtain ⟨a, n, rfl, _⟩ := h
    rfl
  · obtain ⟨a, n, rfl, hB, hn, q⟩ := h
    walk_at "go"
    refine newT fun p1 H1 n1 s1 e1 => ?_
    walk_at "go"
    refine newLB fun p2 H2 n2 g2 s2 e2 => ?_
    walk_at "go"
    refine newLB fun p3 H3 n3 g3 s3 e3 => ?_
    walk_at "go"
    refine newT fun p4 H4 n4 s4 e4 => ?_
    walk_at "go"
    refine newDK fun p5 H5 n5 s5 e5 => ?_
    walk_at "go"
    refine r_disp1 (k := .inr "a") fun p6 H6 n6 s6 e6 => ?_
    walk_at "go"
    refine newLB fun p7 H7 n7 g7 s7 e7 => ?_
    walk_at "go"
    refine newLB fun p8 H8 n8 g8 s8 e8 => ?_
    walk_at "go"
    refine newLB fun p9 H9 n9 g9 s9 e9 => ?_
    walk_at "go"
    have hB5 := (((hB.same s1).same s2).same s3).same s4 |>.same s5
    have hB9 := (((hB5.same s6).same s7).same s8).same s9
    have b09 : But a H H9 := .of (((((((((s1.trans s2).trans s3).trans s4).trans s5).trans s6).trans s7).trans s8).trans s9))
    refine r_take hB9 fun d H10 d0 d1 hB10 b10 => ?_
    have na : ∀ {p : Addr} {o : HO}, H9 p = some o → (∀ x y z : V, o ≠ .lst [x, y, z]) → p ≠ a := fun {p o} e ne z => by
      obtain ⟨x1, y1, z1, eB, _⟩ := hB9
      rw [z, eB] at e
      exact ne _ _ _ (Option.some.inj e).symm
    have up : ∀ {p : Addr} {o : HO}, H9 p = some o → (∀ x y z : V, o ≠ .lst [x, y, z]) → H10 p = some o := fun e ne => b10 _ _ (na e ne) e
    have e1 := up (s9 _ _ (s8 _ _ (s7 _ _ (s6 _ _ (s5 _ _ (s4 _ _ (s3 _ _ (s2 _ _ e1)))))))) (by intro _ _ _ z; exact nomatch z)
    have e2 := up (s9 _ _ (s8 _ _ (s7 _ _ (s6 _ _ (s5 _ _ (s4 _ _ (s3 _ _ e2))))))) (by intro _ _ _ z; exact nomatch z)
    have e3 := up (s9 _ _ (s8 _ _ (s7 _ _ (s6 _ _ (s5 _ _ (s4 _ _ e3)))))) (by intro _ _ _ z; exact nomatch z)
    have e4 := up (s9 _ _ (s8 _ _ (s7 _ _ (s6 _ _ (s5 _ _ e4))))) (by intro _ _ _ z; exact nomatch z)
    have e5 := up (s9 _ _ (s8 _ _ (s7 _ _ (s6 _ _ e5)))) (by intro _ _ _ z; exact nomatch z)
    have e6 := up (s9 _ _ (s8 _ _ (s7 _ _ e6))) (by intro _ _ _ z; exact nomatch z)
    have n78 : p7 ≠ p8 := ne_of_none e7 n8
    have e7 := up (s9 _ _ (s8 _ _ e7)) (by intro _ _ _ z; exact nomatch z)
    have e8 := up (s9 _ _ e8) (by intro _ _ _ z; exact nomatch z)
    have ne9 : p9 ≠ a := ((hB5.same s6).same s7).same s8 |>.ne n9
    have e9' := b10 _ _ ne9 e9
    have f2 : H p2 = none := s1.free n2
    have f3 : H p3 = none := (s1.trans s2).free n3
    have f7 : H p7 = none := (((((s1.trans s2).trans s3).trans s4).trans s5).trans s6).free n7
    have f8 : H p8 = none := ((((((s1.trans s2).trans s3).trans s4).trans s5).trans s6).trans s7).free n8
    refine r_ixLo (sqL e9') d0 d1 fun v hv _ => ?_
    have nov : ∀ u ∈ [V.non, .bl true, .bl false, .int (-1), .str "", .str "A", .str "abcdefghi", .str "a b", .str "7", .ref p1, .ref p2, .ref p3, .ref p4, .ref p5, .ref p6, .ref p8], ∀ z : Str, u = .str z → z.length ≤ 1000 ∧ nameOk z = false := fun u hu z ez => by
      subst ez
      simp only [List.mem_cons, List.not_mem_nil, or_false] at hu
      rcases hu with h | h | h | h | h | h | h | h | h | h | h | h | h | h | h | h <;> first | (injection h with h; subst h; exact ⟨by decide +kernel, by decide +kernel⟩) | cases h
    refine (fun z : ∃ fp, OddV H10 1 fp v ∧ ∀ b ∈ fp, H b = none => let ⟨fp, o, fr⟩ := z; q v fp H10 o fr (nov v hv) hB10 (b09.trans b10)) ?_
    have sc : ∀ {u : V}, smS u = true → (∀ lo hi, 0 ≤ lo → wholeV u lo hi = false) → countV u = false → ∃ fp, OddV H10 1 fp u ∧ ∀ b ∈ fp, H b = none := fun h1 h2 h3 => ⟨[], .sc h1 h2 h3, fun _ z => nomatch z⟩
    have neg : ∀ {i : Int}, i < 0 → ∀ lo hi : Int, 0 ≤ lo → wholeV (.int i) lo hi = false := fun h lo hi hl => by
      show (decide _ && _) = false
      rw [decide_eq_false (by omega), Bool.false_and]
    have one : ∀ {p : Addr} {xs : List V}, H10 p = some (.lst xs) → p ≠ sysModules → xs.length ≤ 1 → (∀ y ∈ xs, smS y = true) → H p = none → ∃ fp, OddV H10 1 fp (.ref p) ∧ ∀ b ∈ fp, H b = none := fun e g l h f =>
      ⟨[_], .lst e g l (fun y hy => .inl (h y hy)) (fun z => nomatch z) (fun c z => nomatch z), fun b hb => by rw [List.mem_singleton.mp hb]; exact f⟩
    simp only [List.mem_cons, List.not_mem_nil, or_false] at hv
    rcases hv with rfl | rfl | rfl | rfl | rfl | rfl | rfl | rfl | rfl | rfl | rfl | rfl | rfl | rfl | rfl | rfl
    · exact sc rfl (fun _ _ _ => rfl) rfl
    · exact sc rfl (fun _ _ _ => rfl) rfl
    · exact sc rfl (fun _ _ _ => rfl) rfl
    · exact sc (by decide +kernel) (neg (by decide)) (by decide +kernel)
    · exact sc (by decide +kernel) (fun _ _ _ => rfl) rfl
    · exact sc (by decide +kernel) (fun _ _ _ => rfl) rfl
    · exact sc (by decide +kernel) (fun _ _ _ => rfl) rfl
    · exact sc (by decide +kernel) (fun _ _ _ => rfl) rfl
    · exact sc (by decide +kernel) (fun _ _ _ => rfl) rfl
    · exact ⟨[], .tup e1 (fun _ z => nomatch z) (by decide), fun _ z => nomatch z⟩
    · exact one e2 g2 (by decide) (fun _ z => nomatch z) f2
    · exact one e3 g3 (by decide) (fun y hy => by rw [List.mem_singleton.mp hy]; decide +kernel) f3
    · exact ⟨[], .tup e4 (fun y hy => by simp only [List.mem_cons, List.not_mem_nil, or_false] at hy; rcases hy with rfl | rfl <;> decide +kernel) (by decide), fun _ z => nomatch z⟩
    · exact ⟨[], .dK e5 (fun _ z => nomatch z) (by decide), fun _ z => nomatch z⟩
    · exact ⟨[], .dK e6 (fun y hy => by rw [List.mem_singleton.mp hy]; decide +kernel) (by decide), fun _ z => nomatch z⟩
    · refine ⟨[p8, p7], .lst e8 g8 (Nat.le_refl 1) (fun y hy => .inr ⟨p7, List.mem_cons_self, List.mem_singleton.mp hy⟩) (fun z => n78 (List.mem_singleton.mp z).symm) (fun c hc => ?_), fun b hb => ?_⟩
      · rw [List.mem_singleton.mp hc]
        exact ⟨g7, _, e7, fun y hy => by rw [List.mem_singleton.mp hy]; decide +kernel, by decide⟩
      · rcases List.mem_cons.mp hb with z | z
        · rw [z]; exact f8
        · rw [List.mem_singleton.mp z]; exact f7
end
end K22

namespace K22
open PySem PySem.Spec PyProof.Rows L2 Bk


section
variable {K : PySem.W.Frag} {σ : L2.St} {H H0 : Hp} {Q : VK} {j : Nat} {vs : List Nat} {tt : TT} {te tl : TE} {a bx : Addr} {m : Nat}
theorem lcDrawT {s : Int} {i0 : Nat} {E : XK} (p : V → Prop) (hb : Box bx m H) (hm : m < 900000) (hs : 0 < s) (hs2 : s ≤ 1000) (hvv : σ[i0]? = some (some (.ref bx))) (hw : ∀ x, wipe ((wipe σ vs).set j (some x)) vs = wipe σ vs)
    (ht : ∀ (i k : Nat) (H' : Hp) (Q' : VK), k < 910000 → Box bx k H' → (∀ v H2, p v → Box bx (k + 1) H2 → But bx H' H2 → Q' v H2) → te ((wipe σ vs).set j (some (.int i))) H' Q')
    (hq : ∀ (D : Addr) (H' : Hp) (xs : List V), H D = none → But bx H H' → Box bx (m + s.toNat) H' → H' D = some (.lst xs) → (xs.length : Int) < s → (∀ v ∈ xs, p v) → Q (.ref D) H') : tLc (iRng1 (tCons (tCall spTake [] E (tCons (tVar i0) (tCons (tC (.int s)) tNil))) tNil)) (gName j) tYes te vs σ H Q := by
  refine ⟨_, hvv, ?_⟩
  walk_at "go"
  refine r_take hb (fun d H1 h0 h1 hB1 b1 => ?_) (by omega) hs (by omega)
  obtain ⟨n, rfl⟩ := Int.eq_ofNat_of_zero_le h0
  have z : tLc (iRng1 (tCons (tC (.int (n : Nat))) tNil)) (gName j) tYes te vs σ H1 Q := lcDraw (n := n) (m := m + 1) (bx := bx) p hB1 (by omega) hw (fun i H' Q' hi hB kk => ht i (m + 1 + i) H' Q' (by omega) hB kk) fun D H' xs nD b hB e l hp => hq D H' xs (by
    cases w : H D with
    | none => rfl
    | some u => rw [b1 _ _ (hB1.ne nD) w] at nD; exact nomatch nD) (b1.trans b) (hB.mono (by omega)) e (by omega) hp
  exact z
end
/-- a comprehension over range(i), i a variable: item k is p k -/
theorem lcRangeP {σ : L2.St} {H : Hp} {Q : VK} {j : Nat} {vs : List Nat} {te : TE} {tn : TA} {n : Nat} (p : Nat → V) (hl : n ≤ 10000) (hn : ∀ R : List V → Hp → Prop, R [.int (n : Nat)] H → tn σ H R) (hw : ∀ x, wipe ((wipe σ vs).set j (some x)) vs = wipe σ vs)
    (ht : ∀ (i : Nat) (H' : Hp) (Q' : VK), i < n → Same H H' → (∀ H2, Same H' H2 → Q' (p i) H2) → te ((wipe σ vs).set j (some (.int i))) H' Q')
    (hq : ∀ (D : Addr) (H' : Hp), H D = none → Same H H' → H' D = some (.lst ((List.range n).map p)) → Q (.ref D) H') : tLc (iRng1 tn) (gName j) tYes te vs σ H Q := by
  refine hn _ ⟨_, rfl, by omega, by omega, fun D hD => ?_⟩
  rw [Int.toNat_natCast]
  exact lc_map (j := j) (walk_range (lo := 0) (n := n)) (fun _ _ _ _ _ z => z.1) p hl (fun _ _ => trivial) hw (fun i y H1 H' Q' hi e sm k => by
    obtain ⟨_, rfl⟩ := e
    show te ((wipe σ vs).set j (some (.int (0 + (i : Int))))) _ _
    rw [Int.zero_add]
    exact ht i H' Q' hi sm k) hq hD
def sg (j : Nat) : Nat := (Str.ofString "abcdefghijklmnopqrstuvwxyz").cps.toList.getD j 0
theorem sg_ok {j : Nat} (h : j < 26) : one1 ⟨#[sg j]⟩ := by
  refine sign_ok ?_
  have hl : (Str.ofString "abcdefghijklmnopqrstuvwxyz").cps.toList.length = 26 := by decide +kernel
  have c := List.getElem?_eq_getElem (l := (Str.ofString "abcdefghijklmnopqrstuvwxyz").cps.toList) (i := j) (by rw [hl]; exact h)
  unfold sg
  rw [List.getD_eq_getElem?_getD, c]
  exact signs_low _ (List.getElem_mem _)
def mny (tail : Str) (f k : Nat) : Str := ⟨#[sg ((f + 7 * k) % 26)]⟩ ++ ⟨#[sg ((f + k / 26) % 26)]⟩ ++ tail
theorem mny_ok {tail : Str} {f k : Nat} (h : lowS tail) (l : tail.length ≤ 6) : nameOk (mny tail f k) = true := by
  obtain ⟨a1, a2⟩ := sg_ok (j := (f + 7 * k) % 26) (Nat.mod_lt _ (by decide))
  obtain ⟨b1, b2⟩ := sg_ok (j := (f + k / 26) % 26) (Nat.mod_lt _ (by decide))
  unfold mny
  refine nameOk_of (low_app (low_app a1 b1) h) ?_ ?_
  · rw [str_len_add, str_len_add, a2, b2]
    omega
  · rw [str_len_add, str_len_add, a2, b2]
    omega
def spMany : Sp := fun vs H Q _ => ∃ (bx : Addr) (n : Nat), vs = [.ref bx] ∧ Box bx n H ∧ n < 100000 ∧
  ∀ (p : Addr) (H' : Hp) (NS : List Str), H p = none → But bx H H' → Box bx (n + 30) H' → H' p = some (.lst (NS.map V.str)) → NS.length = 60 → (∀ y ∈ NS, nameOk y = true) → Q (.ref p) H'
section
variable {P : Program} {w : World} {K : PySem.W.Frag} {mg : Str → Option Value} {base : Heap} {A : Ad}
theorem ok_many {f : Addr} {fd : FuncData} (F : Fun K "_law_many" "_law_many" s_many_L f fd) (T : Txt K mg A) (c_take_L : CalD P w K mg base CX0 1 "_law_take" spTake []) : FnOk P w K mg base CX0 2 f fd ["_law_box_here"] spMany := by
  refine F.ok sc_many_L (fun vs H Q E h => ?_) (fun cdv A' outer s H vs Q E hr h => have hu65 := units65 hr; have hu64 := hr.units; ⟨_, (pss_cons (ps_set (i := 1) sc_many_L.nd rfl (.inr rfl) pe_str)
    (pss_cons (ps_set (i := 2) sc_many_L.nd rfl (.inr rfl) (pe_join pe_str (pe_lc (own := [("_law_k", 4)]) rfl sc_many_L.nd (pi_range1 (by rfl) T.m_range (pa_cons (pe_cal c_take_L hr (by decide) (by rfl) (pa_cons (pv 0) (pa_cons pe_int pa_nil))) pa_nil)) (blkOk_by (N := ["_law_box_here", "_law_signs", "_law_tail", "_law_first", "_law_k"]) (sc := defScope s_many_L) (by decide +kernel)) (fun _ _ _ _ _ => (pg_name (i := 4) sc_many_L.nd rfl (.inl rfl))) (fun _ _ _ _ _ => pts_nil) (fun _ _ _ _ _ => (pe_ix ix_str (pv 1) (pe_cal c_take_L hr (by decide) (by rfl) (pa_cons (pv 0) (pa_cons pe_int pa_nil))) (fun _ _ => rfl))))))
    (pss_cons (ps_set (i := 3) sc_many_L.nd rfl (.inr rfl) (pe_cal c_take_L hr (by decide) (by rfl) (pa_cons (pv 0) (pa_cons pe_int pa_nil))))
    (pss_one (ps_ret (pe_lc (own := [("_law_k", 4)]) rfl sc_many_L.nd (pi_range1 (by rfl) T.m_range (pa_cons pe_int pa_nil)) (blkOk_by (N := ["_law_box_here", "_law_signs", "_law_tail", "_law_first", "_law_k"]) (sc := defScope s_many_L) (by decide +kernel)) (fun _ _ _ _ _ => (pg_name (i := 4) sc_many_L.nd rfl (.inl rfl))) (fun _ _ _ _ _ => pts_nil) (fun _ _ _ _ _ => (pe_op op_add_str (pe_op op_add_str (pe_ix ix_str (pv 1) (pe_op op_mod (pe_op op_add (pv 3) (pe_op op_mulW pe_int (pv 4))) pe_int) (fun _ _ => rfl)) (pe_ix ix_str (pv 1) (pe_op op_mod (pe_op op_add (pv 3) (pe_op op_fdivW (pv 4) pe_int)) pe_int) (fun _ _ => rfl))) (pv 2))))))))), ?_⟩)
  · obtain ⟨bx, n, rfl, _⟩ := h
    rfl
  · obtain ⟨bx, n, rfl, hB, hn, q⟩ := h
    have hsg : (Str.ofString "abcdefghijklmnopqrstuvwxyz").length = 26 := by decide +kernel
    have hsl : ((Str.ofString "abcdefghijklmnopqrstuvwxyz").cps.toList.length : Int) = 26 := by decide +kernel
    walk_at "go"
    refine ⟨⟨_, rfl⟩, ?_⟩
    refine lcDrawT (s := 7) (fun v => ∃ y, v = .str y ∧ one1 y) hB (by omega) (by decide) (by decide) rfl (fun _ => rfl) (fun i k H1 Q' hk hB1 kk => ?_) fun D H1 xs nD b1 hB1 e1 l1 p1 => ?_
    · walk_at "go"
      refine r_take hB1 (fun d H2 h0 h1 hB2 b2 => ?_) (by omega)
      refine r_ixS h0 (by rw [hsl]; exact h1) (by rw [hsg]; decide) fun c hc => ?_
      exact kk _ H2 ⟨_, rfl, sign_ok (signs_low c (List.mem_of_getElem? hc))⟩ hB2 b2
    obtain ⟨ys, rfl, ly, hys⟩ := strs_of p1
    rw [← ly] at l1
    have he0 : (Str.ofString "").length = 0 := by decide +kernel
    refine ⟨_, D, ys, rfl, rfl, .inl (sqL e1), by rw [sum1 hys, he0]; omega, ?_⟩
    obtain ⟨jl, jn⟩ : lowS (Txt.join (Str.ofString "") ys) ∧ (Txt.join (Str.ofString "") ys).length ≤ 6 := by
      cases ys with
      | nil => exact ⟨fun c hc => (nomatch hc), Nat.zero_le _⟩
      | cons y r =>
        obtain ⟨a, b⟩ := join_low hys (by rw [List.length_cons]; omega)
        exact ⟨a, by rw [b]; omega⟩
    generalize Txt.join (Str.ofString "") ys = tail at jl jn ⊢
    walk_at "go"
    refine r_take hB1 (fun d1 H2 h01 h11 hB2 b2 => ?_) (by simp; omega)
    obtain ⟨fi, rfl⟩ := Int.eq_ofNat_of_zero_le h01
    walk_at "go"
    refine lcRangeP (n := 60) (fun k => V.str (mny tail fi k)) (by omega) (fun R h => h) (fun _ => rfl) (fun k G Q' hk sG kk => ?_) fun D2 G nD2 sG eG => ?_
    · walk_at "go"
      refine r_I (cmul (by decide) (by decide) (by omega) (by omega)) ?_
      walk_at "go"
      refine r_I (by decide) ?_
      have m0 : 0 ≤ ((fi : Int) + 7 * (k : Nat)) % 26 := Int.emod_nonneg _ (by decide)
      have m1 : ((fi : Int) + 7 * (k : Nat)) % 26 < 26 := Int.emod_lt_of_pos _ (by decide)
      have mt : (((fi : Int) + 7 * (k : Nat)) % 26).toNat = (fi + 7 * k) % 26 := by omega
      refine r_ixS m0 (by rw [hsl]; exact m1) (by rw [hsg]; decide) fun c hc => ?_
      rw [mt] at hc
      have hcd : sg ((fi + 7 * k) % 26) = c := by
        unfold sg
        rw [List.getD_eq_getElem?_getD, hc]
        rfl
      walk_at "go"
      refine r_I (cdiv (by omega) (by decide)) ?_
      walk_at "go"
      refine r_I (by decide) ?_
      have m2 : 0 ≤ ((fi : Int) + (k : Nat) / 26) % 26 := Int.emod_nonneg _ (by decide)
      have m3 : ((fi : Int) + (k : Nat) / 26) % 26 < 26 := Int.emod_lt_of_pos _ (by decide)
      have mt2 : (((fi : Int) + (k : Nat) / 26) % 26).toNat = (fi + k / 26) % 26 := by omega
      refine r_ixS m2 (by rw [hsl]; exact m3) (by rw [hsg]; decide) fun c2 hc2 => ?_
      rw [mt2] at hc2
      have hcd2 : sg ((fi + k / 26) % 26) = c2 := by
        unfold sg
        rw [List.getD_eq_getElem?_getD, hc2]
        rfl
      have l1 : ∀ c, (⟨#[c]⟩ : Str).length = 1 := fun _ => rfl
      refine ⟨_, _, rfl, rfl, by rw [l1, l1, sizeLine_eq]; omega, ?_⟩
      walk_at "go"
      refine ⟨_, _, rfl, rfl, by rw [str_len_add, l1, l1, sizeLine_eq]; omega, ?_⟩
      have w := kk G (Same.refl _)
      unfold mny at w
      rw [hcd, hcd2] at w
      exact w
    · have bb : But bx H G := fun b o nb eb => sG _ _ (b2 _ _ nb (b1 _ _ nb eb))
      have nb2 : D2 ≠ bx := hB2.ne nD2
      refine q D2 G ((List.range 60).map fun i => mny tail fi i) ?_ bb ?_ (by rw [List.map_map]; exact eG) (by rw [List.length_map, List.length_range]) (fun x hx => ?_)
      · cases z : H D2 with
        | none => rfl
        | some u =>
          rw [b2 _ _ nb2 (b1 _ _ nb2 z)] at nD2
          exact nomatch nD2
      · refine Box.mono (hB2.same sG) ?_
        simp
      · obtain ⟨i, _, rfl⟩ := List.mem_map.mp hx
        exact mny_ok jl jn
end
end K22

namespace K22
open PySem PySem.Spec PyProof.Rows L2 Bk


def spRefused (A : Ad) : Sp := fun vs H Q _ => ∃ (bx o la lr : Addr) (m : Nat) (tq : List Addr) (as : List (Str × Nat)) (row : List Str) (nl : Addr) (N : List Str) (n : Nat), vs = [.ref bx, .ref o, .ref nl] ∧ Qu A.CQ m H o la lr tq as row ∧ m < 900 ∧ Box bx n H ∧ bx ∉ [o, la, lr, nl] ∧ n < 900000 ∧ H nl = some (.lst (N.map V.str)) ∧ 0 < N.length ∧ N.length ≤ 60 ∧ (∀ y ∈ N, nameOk y = true) ∧ ∀ H', Box bx (n + 4) H' → But bx H H' → Q (.bl true) H'
/-- all but what stands at these is as it was -/
def Fr (S : List Addr) (H H' : Hp) : Prop := ∀ b o, b ∉ S → H b = some o → H' b = some o
def Th (v1 v2 : V) (u : V) : Prop := u = v1 ∨ u = v2 ∨ (∃ i : Int, u = .int i ∧ i.natAbs ≤ 10 ^ 30) ∨ ∃ w : Str, u = .str w ∧ nameOk w = true
def RowOk (S : List Addr) (v1 v2 : V) (who : Str) (H : Hp) (y : V) : Prop := ∃ (t told : Addr) (deed : Str) (one two : V) (tag : Str) (v : V), y = .ref t ∧ H t = some (.tup [.str deed, one, two, .ref told]) ∧ H told = some (.lst [.str tag, v, .bl true]) ∧ told ≠ sysModules ∧ told ∉ S ∧ Th v1 v2 one ∧ Th v1 v2 two ∧ smS (.str tag) = true ∧
  ((one = v1 ∧ (deed = "put" ∨ deed = "leave" ∨ deed = "of") ∧ tag = "name" ∧ v = one) ∨ (deed = "put" ∧ one = .str who ∧ two = v2 ∧ tag = "number" ∧ v = two) ∨ (deed = "comes" ∧ two = v2 ∧ tag = "ask" ∧ ∃ t0, v = .ref t0 ∧ H t0 = some (.tup [one, two])))
theorem RowOk.same {S : List Addr} {v1 v2 : V} {who : Str} {H H' : Hp} {y : V} (h : RowOk S v1 v2 who H y) (s : Same H H') : RowOk S v1 v2 who H' y := by
  obtain ⟨t, told, deed, one, two, tag, v, a, b, c, d1, d2, d3, d4, d5, d⟩ := h
  exact ⟨t, told, deed, one, two, tag, v, a, s _ _ b, s _ _ c, d1, d2, d3, d4, d5, d.imp id fun z => z.imp id fun ⟨z1, z2, z3, t0, z4, z5⟩ => ⟨z1, z2, z3, t0, z4, s _ _ z5⟩⟩
theorem RowOk.put {S : List Addr} {v1 v2 : V} {who : Str} {H : Hp} {l : Addr} {xs ys : List V} {y : V} (h : RowOk S v1 v2 who H y) (e : H l = some (.lst xs)) (hx : ∀ tag v b, xs ≠ [.str tag, v, b]) : RowOk S v1 v2 who (upd H l (.lst ys)) y := by
  obtain ⟨t, told, deed, one, two, tag, v, a, b, c, d1, d2, d3, d4, d5, d⟩ := h
  have tp : ∀ {u : Addr} {zs : List V}, H u = some (.tup zs) → upd H l (.lst ys) u = some (.tup zs) := fun z => by
    rw [upd_ne (ne_ct z e fun w => nomatch w)]
    exact z
  refine ⟨t, told, deed, one, two, tag, v, a, tp b, ?_, d1, d2, d3, d4, d5, d.imp id fun z => z.imp id fun ⟨z1, z2, z3, t0, z4, z5⟩ => ⟨z1, z2, z3, t0, z4, tp z5⟩⟩
  rw [upd_ne (ne_ct c e fun w => by injection w with w; exact hx _ _ _ w.symm)]
  exact c
theorem but_no {bx : Addr} {H H' : Hp} (s : But bx H H') {b : Addr} (n : b ≠ bx) (e : H' b = none) : H b = none := by
  cases z : H b with
  | none => rfl
  | some u => rw [s _ _ n z] at e; exact nomatch e
theorem Qu.keepB {C : Addr} {n : Nat} {H H' : Hp} {o la lr : Addr} {ts : List Addr} {as : List (Str × Nat)} {row : List Str} (q : Qu C n H o la lr ts as row) (k : ∀ b u, b ∈ [o, la, lr] → H b = some u → H' b = some u) (t : ∀ b xs, H b = some (.tup xs) → H' b = some (.tup xs)) : Qu C n H' o la lr ts as row := by
  obtain ⟨dx, fs, e, r⟩ := q.ob
  exact { q with ob := ⟨dx, fs, k _ _ (by simp) e, r⟩, al := ⟨k _ _ (by simp) q.al.at_, q.al.len, fun a b c d e => t _ _ (q.al.row a b c d e)⟩, rw_ := k _ _ (by simp) q.rw_ }
theorem odd_non {K : PySem.W.Frag} {H : Hp} {m : Nat} {fp : List Addr} {v : V} (o : OddV H m fp v) (h : ∀ z : Str, v = .str z → z.length ≤ 1000 ∧ nameOk z = false) : NoN K H v := by
  cases o with
  | @sc v h1 hw hc =>
    cases v with
    | int i => exact .inr isa_int
    | bl b => exact .inr isa_bl
    | non => exact .inr isa_non
    | str z => exact .inl ⟨z, rfl, h z rfl⟩
    | _ => exact nomatch h1
  | tup e _ _ => exact .inr (isa_tup e)
  | dK e _ _ => exact .inr (isa_dK e)
  | lst e _ _ _ _ _ => exact .inr (isa_lst e)
/-- the two tell the same -/
def Ag (H : Hp) (one two v vv : V) : Prop := vv = v ∨ ∃ t t0, vv = .ref t ∧ v = .ref t0 ∧ H t = some (.tup [one, two]) ∧ H t0 = some (.tup [one, two])
theorem caught_row {K : PySem.W.Frag} {A : Ad} {o la lr : Addr} {m n1 n2 : Nat} {tq : List Addr} {as : List (Str × Nat)} {row : List Str} {fp1 fp2 : List Addr} {v1 v2 : V} {who deed tag : Str} {one two v : V} {G : Hp} {Q : VK} {E : XK} (hQ : Qu A.CQ m G o la lr tq as row) (hm : m < 900) (oa : OddV G n1 fp1 v1) (ob : OddV G n2 fp2 v2) (no1 : ∀ z : Str, v1 = .str z → z.length ≤ 1000 ∧ nameOk z = false) (hwho : nameOk who = true)
    (hrow : (one = v1 ∧ (deed = "put" ∨ deed = "leave" ∨ deed = "of") ∧ tag = "name" ∧ v = one) ∨ (deed = "put" ∧ one = .str who ∧ two = v2 ∧ tag = "number" ∧ v = two) ∨ (deed = "comes" ∧ two = v2 ∧ tag = "ask" ∧ ∃ t0, v = .ref t0 ∧ G t0 = some (.tup [one, two])))
    (q : ∀ p G1 vv, G p = none → p ≠ sysModules → Same G G1 → G1 p = some (.lst [.str tag, vv, .bl true]) → Ag G1 one two v vv → Q (.ref p) G1) : spCaught K A [.ref o, .str deed, one, two] G Q E := by
  refine ⟨o, la, lr, m, tq, as, row, deed, one, two, rfl, hQ, hm, .inr (.inl ?_)⟩
  obtain ⟨wc2, cf2, wf2⟩ := ob.wc (K := K)
  rcases hrow with ⟨rfl, hd, rfl, rfl⟩ | ⟨rfl, rfl, rfl, rfl, rfl⟩ | ⟨rfl, rfl, rfl, t0, rfl, et0⟩
  · exact .inl ⟨hd, odd_non oa no1, fun p G1 np ns s e => q p G1 _ np ns s e (.inl rfl)⟩
  · exact .inr (.inl ⟨rfl, ⟨who, rfl, hwho⟩, wc2, fun H' s => ((ob.same s).wc (K := K)).1, cf2, fun p G1 np ns s e => q p G1 _ np ns s e (.inl rfl)⟩)
  · exact .inr (.inr ⟨rfl, .inl ⟨wc2, cf2⟩, fun t H' nt s et p G1 np ns s1 e => q p G1 _ (s.free np) ns (s.trans s1) e (.inr ⟨t, t0, rfl, rfl, s1 _ _ et, s1 _ _ (s _ _ et0)⟩)⟩)
theorem shq_ag {K : PySem.W.Frag} {H : Hp} {p told : Addr} {one two v vv : V} {tag : Str} (ep : H p = some (.lst [.str tag, vv, .bl true])) (et : H told = some (.lst [.str tag, v, .bl true])) (ns : p ≠ sysModules) (tns : told ≠ sysModules) (tgs : smS (.str tag) = true) (i1 : ItQ true K H 20000 one) (i2 : ItQ true K H 20000 two) (ag : (vv = v ∧ ItQ true K H 20000 v) ∨ ∃ t t0, vv = .ref t ∧ v = .ref t0 ∧ H t = some (.tup [one, two]) ∧ H t0 = some (.tup [one, two])) : ∃ z, Shq K H (.ref p) z ∧ Shq K H (.ref told) z := by
  rcases ag with ⟨rfl, iv⟩ | ⟨t, t0, rfl, rfl, e1, e2⟩
  · exact shq_lst2 (b := true) (K := K) (m := 30000) (sqL ep) (sqL et) (fun _ => ns) (fun _ => tns) (fun y hy => by
      simp only [List.mem_cons, List.not_mem_nil, or_false] at hy
      rcases hy with rfl | rfl | rfl
      · exact (itq_sc tgs).mono (by omega)
      · exact iv.mono (by omega)
      · exact (itq_sc rfl).mono (by omega)) (by show 30001 * 3 ≤ 390000; decide)
  · obtain ⟨d1, a1, a2, a3, a4⟩ := i1
    obtain ⟨d2, b1, b2, b3, b4⟩ := i2
    obtain ⟨c1, c2, c3, c4⟩ := dqS (b := true) (K := K) (H := H) tgs
    have go : ∀ {q u : Addr}, q ≠ sysModules → H q = some (.lst [.str tag, .ref u, .bl true]) → H u = some (.tup [one, two]) → Shq K H (.ref q) (PyData.list [datS (.str tag), .tuple [d1, d2], .bool true]).shown := fun {q u} nq eq eu => by
      refine shq_of (b := true) (.lst (fun _ => nq) (sqL eq) (.cons c1 (.cons (.tup (sqT eu) (.cons a1 (.cons b1 .nil))) (.cons (.bl _) .nil)))) ?_ ?_ ?_
      · simp only [smQ, smQL, c2, a2, b2, Bool.and_true]
      · simp only [PyData.bulk, PyData.bulkAll]
        omega
      · simp only [PyData.depth, PyData.depthAll]
        omega
    exact ⟨_, go ns ep e1, go tns et e2⟩
section
variable {P : Program} {w : World} {K : PySem.W.Frag} {mg : Str → Option Value} {base : Heap} {A : Ad}
theorem ok_refused {f : Addr} {fd : FuncData} (F : Fun K "_law_refused_right" "_law_refused_right" s_refused_right_L f fd) (T : Txt K mg A) (c_take_L : CalD P w K mg base CX0 1 "_law_take" spTake []) (c_odd_L : CalD P w K mg base CX0 2 "_law_odd" spOdd [])
    (c_caught_L : CalD P w K mg base CX0 8 "_law_caught" (spCaught K A) []) : FnG P w K mg base CX0 9 f fd ["_law_box_here", "_law_queue", "_law_names_here"] (spRefused A) := by
  refine fun_okG F sc_refused_right_L (fun vs H Q E h => ?_) (fun cdv A' outer s H vs Q E ga hr h => ⟨_, (pss_cons (ps_par (i := 3) (j := 4) rfl sc_refused_right_L.nd rfl rfl (by decide) rfl rfl (pa_cons (pe_cal c_odd_L hr (by decide) (by rfl) (pa_cons (pv 0) pa_nil)) (pa_cons (pe_cal c_odd_L hr (by decide) (by rfl) (pa_cons (pv 0) pa_nil)) pa_nil)) (by rfl))
    (pss_cons (ps_par (i := 5) (j := 6) rfl sc_refused_right_L.nd rfl rfl (by decide) rfl rfl (pa_cons (pe_ix ix_list (pv 2) (pe_cal c_take_L hr (by decide) (by rfl) (pa_cons (pv 0) (pa_cons (pe_callB call_len_seq (by rfl) T.m_len (by decide +kernel) (pa_cons (pv 2) pa_nil)) pa_nil))) (fun _ _ => rfl)) (pa_cons (pe_cal c_take_L hr (by decide) (by rfl) (pa_cons (pv 0) (pa_cons pe_int pa_nil))) pa_nil)) (by rfl))
    (pss_cons (ps_set (i := 7) sc_refused_right_L.nd rfl (.inl rfl) (pe_lstB (pa_cons (pe_tup (pa_cons pe_str (pa_cons (pv 3) (pa_cons (pv 6) (pa_cons (pe_lstB (pa_cons pe_str (pa_cons (pv 3) (pa_cons pe_bl pa_nil)))) pa_nil))))) (pa_cons (pe_tup (pa_cons pe_str (pa_cons (pv 3) (pa_cons (pv 4) (pa_cons (pe_lstB (pa_cons pe_str (pa_cons (pv 3) (pa_cons pe_bl pa_nil)))) pa_nil))))) pa_nil))))
    (pss_cons (ps_expr (pe_bm PySem.F.plainAttrs_list PySem.F.slot_list_append PySem.F.type_list_append mt_append (pv 7) (pa_cons (pe_tup (pa_cons pe_str (pa_cons (pv 5) (pa_cons (pv 4) (pa_cons (pe_lstB (pa_cons pe_str (pa_cons (pv 4) (pa_cons pe_bl pa_nil)))) pa_nil))))) pa_nil)))
    (pss_cons (ps_set (i := 7) sc_refused_right_L.nd rfl (.inl rfl) (pe_op op_cat (pv 7) (pe_lstB (pa_cons (pe_tup (pa_cons pe_str (pa_cons (pv 3) (pa_cons pe_int (pa_cons (pe_lstB (pa_cons pe_str (pa_cons (pv 3) (pa_cons pe_bl pa_nil)))) pa_nil))))) (pa_cons (pe_tup (pa_cons pe_str (pa_cons (pv 3) (pa_cons pe_int (pa_cons (pe_lstB (pa_cons pe_str (pa_cons (pv 3) (pa_cons pe_bl pa_nil)))) pa_nil))))) pa_nil)))))
    (pss_cons (ps_expr (pe_bm PySem.F.plainAttrs_list PySem.F.slot_list_append PySem.F.type_list_append mt_append (pv 7) (pa_cons (pe_tup (pa_cons pe_str (pa_cons (pv 3) (pa_cons (pv 4) (pa_cons (pe_lstB (pa_cons pe_str (pa_cons (pe_tup (pa_cons (pv 3) (pa_cons (pv 4) pa_nil))) (pa_cons pe_bl pa_nil)))) pa_nil))))) pa_nil)))
    (pss_cons (ps_expr (pe_bm PySem.F.plainAttrs_list PySem.F.slot_list_append PySem.F.type_list_append mt_append (pv 7) (pa_cons (pe_tup (pa_cons pe_str (pa_cons (pv 5) (pa_cons (pv 4) (pa_cons (pe_lstB (pa_cons pe_str (pa_cons (pe_tup (pa_cons (pv 5) (pa_cons (pv 4) pa_nil))) (pa_cons pe_bl pa_nil)))) pa_nil))))) pa_nil)))
    (pss_cons (ps_for PassesOwn.never rfl (pi_list (pv 7)) (pg_tup rfl (pgs_cons (pg_name (i := 8) sc_refused_right_L.nd rfl (.inl rfl)) (pgs_cons (pg_name (i := 9) sc_refused_right_L.nd rfl (.inl rfl)) (pgs_cons (pg_name (i := 10) sc_refused_right_L.nd rfl (.inl rfl)) (pgs_cons (pg_name (i := 11) sc_refused_right_L.nd rfl (.inl rfl)) pgs_nil)))))
      (pss_cons (ps_set (i := 12) sc_refused_right_L.nd rfl (.inl rfl) (pe_cal c_caught_L hr (by decide) (by rfl) (pa_cons (pv 1) (pa_cons (pv 8) (pa_cons (pv 9) (pa_cons (pv 10) pa_nil))))))
    (pss_cons (ps_for PassesOwn.never rfl (pi_list (pe_lstB (pa_cons (pv 9) (pa_cons (pv 10) pa_nil)))) (pg_name (i := 13) sc_refused_right_L.nd rfl (.inl rfl))
      (pss_one (ps_if (pt_val (pe_callB call_is (by rfl) T.m_isinstance (by decide +kernel) (pa_cons (pv 13) (pa_cons (pe_bltn (v := .ty "list") (by rfl) T.m_list (by decide +kernel) rfl) pa_nil)))) (pss_one (ps_expr (pe_bm PySem.F.plainAttrs_list PySem.F.slot_list_append PySem.F.type_list_append mt_append (pv 13) (pa_cons pe_int pa_nil)))) pss_nil)))
    (pss_one (ps_if (pt_cmpR op_ne (pe_callB (call_repr_any ga hr) (by rfl) T.m_repr (by decide +kernel) (pa_cons (pv 12) pa_nil)) (pe_callB (call_repr_any ga hr) (by rfl) T.m_repr (by decide +kernel) (pa_cons (pv 11) pa_nil)) (nomark _)) (pss_one (ps_ret pe_bl)) pss_nil)))))
    (pss_one (ps_ret pe_bl)))))))))), ?_⟩)
  · obtain ⟨bx, o, la, lr, m, tq, as, row, nl, N, n, rfl, _⟩ := h
    rfl
  · obtain ⟨bx, o, la, lr, m, tq, as, row, nl, N, n, rfl, hQ, hm9, hB, nb, hn, en, N1, N60, hN, q⟩ := h
    have q : ∀ H', Box bx (n + 4) H' → But bx H H' → Q (.bl true) H' := q
    obtain ⟨bxs, ebx⟩ : ∃ xs, H bx = some (.lst xs) := by
      obtain ⟨x, y, z, eB, _⟩ := hB
      exact ⟨_, eB⟩
    walk_at "go"
    refine ⟨bx, n, rfl, hB, by omega, fun v1 fp1 H1 o1 fr1 no1 hB1 b1 => ?_⟩
    walk_at "go"
    refine ⟨bx, n + 1, rfl, hB1, by omega, fun v2 fp2 H2 o2 fr2 no2 hB2 b2 => ?_⟩
    have bn1 : bx ∉ fp1 := fun z => by rw [fr1 _ z] at ebx; exact nomatch ebx
    obtain ⟨bxs1, ebx1⟩ : ∃ xs, H1 bx = some (.lst xs) := by
      obtain ⟨x, y, z, eB, _⟩ := hB1
      exact ⟨_, eB⟩
    have bn2 : bx ∉ fp2 := fun z => by rw [fr2 _ z] at ebx1; exact nomatch ebx1
    have dis : ∀ b ∈ fp1, b ∉ fp2 := fun b h1 h2 => by
      obtain ⟨xs, e1⟩ := o1.there b h1
      rw [fr2 b h2] at e1
      exact nomatch e1
    have fr2' : ∀ b ∈ fp2, H b = none := fun b hb => but_no b1 (fun z => bn2 (z ▸ hb)) (fr2 b hb)
    have o1 := o1.but ebx1 bn1 b2
    have nbl : nl ≠ bx := fun z => nb (by rw [← z]; simp)
    walk_at "go"
    refine ⟨_, _, rfl, ?_⟩
    walk_at "go"
    have b12 := b1.trans b2
    refine ⟨nl, _, rfl, .inl (sqL (b12 _ _ nbl en)), ?_⟩
    rw [List.length_map]
    walk_at "go"
    refine r_take hB2 (fun d3 H3 d30 d31 hB3 b3 => ?_) (by omega) (by omega) (by omega)
    refine r_ixLo (sqL (b3 _ _ nbl (b12 _ _ nbl en))) d30 (by rw [List.length_map]; exact d31) fun wv hwv _ => ?_
    obtain ⟨who, hwN, rfl⟩ := List.mem_map.mp hwv
    have hwho := hN who hwN
    walk_at "go"
    refine r_take hB3 (fun g H5 g0 g1 hB5 b5 => ?_) (by omega)
    obtain ⟨g, rfl⟩ := Int.eq_ofNat_of_zero_le g0
    have nb2 : ∀ {m : Nat} {G : Hp}, Box bx m G → ∃ xs, G bx = some (.lst xs) := fun hB => by
      obtain ⟨x, y, z, eB, _⟩ := hB
      exact ⟨_, eB⟩
    have o1 : OddV H5 1 fp1 v1 := by
      obtain ⟨xs, ez⟩ := nb2 hB2
      obtain ⟨xs2, ez2⟩ := nb2 hB3
      exact (o1.but ez bn1 b3).but ez2 bn1 b5
    have o2 : OddV H5 1 fp2 v2 := by
      obtain ⟨xs, ez⟩ := nb2 hB2
      obtain ⟨xs2, ez2⟩ := nb2 hB3
      exact (o2.but ez bn2 b3).but ez2 bn2 b5
    have b05 : But bx H H5 := (b12.trans b3).trans b5
    clear b1 b2 b3 b5 b12 hB1 hB2 hB3 ebx1
    refine ⟨_, _, rfl, ?_⟩
    walk_at "go"
    have nS : ∀ {G : Hp} {p : Addr}, Same H5 G → G p = none → p ∉ fp1 ++ fp2 := fun {G p} s np z => by
      rcases List.mem_append.mp z with z | z
      · obtain ⟨xs, ez⟩ := o1.there _ z
        rw [s _ _ ez] at np
        exact nomatch np
      · obtain ⟨xs, ez⟩ := o2.there _ z
        rw [s _ _ ez] at np
        exact nomatch np
    have tg1 : smS (.str "name") = true := by decide +kernel
    have tg2 : smS (.str "number") = true := by decide +kernel
    have tg3 : smS (.str "ask") = true := by decide +kernel
    have t1 : Th v1 v2 v1 := .inl rfl
    have t2 : Th v1 v2 v2 := .inr (.inl rfl)
    have tw : Th v1 v2 (.str who) := .inr (.inr (.inr ⟨_, rfl, hwho⟩))
    have tg : Th v1 v2 (.int (g : Int)) := .inr (.inr (.inl ⟨_, rfl, by omega⟩))
    have t0 : Th v1 v2 (.int 0) := .inr (.inr (.inl ⟨_, rfl, by decide⟩))
    refine newLB fun a1 A1 na1 ga1 sa1 ea1 => ?_
    walk_at "go"
    refine newT fun b1 B1 nb1 sb1 eb1 => ?_
    walk_at "go"
    refine newLB fun c1 C1 nc1 gc1 sc1 ec1 => ?_
    walk_at "go"
    refine newT fun d1 D1 nd1 sd1 ed1 => ?_
    walk_at "go"
    refine newLB fun l1 L1 nl1 gl1 sl1 el1 => ?_
    have sk1 : Same H5 L1 := (((sa1.trans sb1).trans sc1).trans sd1).trans sl1
    have r1 : ∀ y ∈ ([.ref b1, .ref d1] : List V), RowOk (fp1 ++ fp2) v1 v2 who L1 y := fun y hy => by
      simp only [List.mem_cons, List.not_mem_nil, or_false] at hy
      rcases hy with rfl | rfl
      · exact ⟨b1, a1, _, _, _, _, _, rfl, sl1 _ _ (sd1 _ _ (sc1 _ _ eb1)), sl1 _ _ (sd1 _ _ (sc1 _ _ (sb1 _ _ ea1))), ga1, nS (Same.refl H5) na1, t1, tg, tg1, .inl ⟨rfl, .inl rfl, rfl, rfl⟩⟩
      · exact ⟨d1, c1, _, _, _, _, _, rfl, sl1 _ _ ed1, sl1 _ _ (sd1 _ _ ec1), gc1, nS ((Same.refl H5).trans (sa1.trans sb1)) nc1, t1, t2, tg1, .inl ⟨rfl, .inl rfl, rfl, rfl⟩⟩
    clear ea1 eb1 ec1 ed1
    walk_at "go"
    refine ⟨.inl ⟨rfl, _, sqL el1⟩, ?_⟩
    walk_at "go"
    refine newLB fun a2 A2 na2 ga2 sa2 ea2 => ?_
    walk_at "go"
    refine newT fun b2 B2 nb2' sb2 eb2 => ?_
    walk_at "go"
    have el1b := sb2 _ _ (sa2 _ _ el1)
    refine ⟨l1, _, _, rfl, rfl, el1b, by show 2 + 1 ≤ _; decide, ?_⟩
    have r2 : ∀ y ∈ ([.ref b1, .ref d1] ++ [.ref b2] : List V), RowOk (fp1 ++ fp2) v1 v2 who (upd B2 l1 (.lst ([.ref b1, .ref d1] ++ [.ref b2]))) y := fun y hy => by
      refine RowOk.put ?_ el1b fun _ _ _ z => nomatch z
      rcases List.mem_append.mp hy with z | z
      · exact (r1 y z).same (sa2.trans sb2)
      · rw [List.mem_singleton.mp z]
        exact ⟨b2, a2, _, _, _, _, _, rfl, eb2, sb2 _ _ ea2, ga2, nS sk1 na2, tw, t2, tg2, .inr (.inl ⟨rfl, rfl, rfl, rfl, rfl⟩)⟩
    have l1n : H5 l1 = none := (((sa1.trans sb1).trans sc1).trans sd1).free nl1
    have k2 : Same H5 (upd B2 l1 (.lst ([.ref b1, .ref d1] ++ [.ref b2]))) := fun b u z => by
      rw [upd_ne (ne_of_none z l1n)]
      exact sb2 _ _ (sa2 _ _ (sk1 _ _ z))
    have el2 : upd B2 l1 (.lst ([.ref b1, .ref d1] ++ [.ref b2])) l1 = some (.lst ([.ref b1, .ref d1] ++ [.ref b2])) := upd_same
    generalize upd B2 l1 (.lst ([.ref b1, .ref d1] ++ [.ref b2])) = L2 at r2 k2 el2 ⊢
    clear r1 el1 el1b sk1
    walk_at "go"
    refine newLB fun a3 A3 na3 ga3 sa3 ea3 => ?_
    walk_at "go"
    refine newT fun b3 B3 nb3 sb3 eb3 => ?_
    walk_at "go"
    refine newLB fun c3 C3 nc3 gc3 sc3 ec3 => ?_
    walk_at "go"
    refine newT fun d3' D3 nd3 sd3 ed3 => ?_
    walk_at "go"
    refine newLB fun l3 L3 nl3 gl3 sl3 el3 => ?_
    have sk3 : Same L2 L3 := (((sa3.trans sb3).trans sc3).trans sd3).trans sl3
    have r3 : ∀ y ∈ ([.ref b3, .ref d3'] : List V), RowOk (fp1 ++ fp2) v1 v2 who L3 y := fun y hy => by
      simp only [List.mem_cons, List.not_mem_nil, or_false] at hy
      rcases hy with rfl | rfl
      · exact ⟨b3, a3, _, _, _, _, _, rfl, sl3 _ _ (sd3 _ _ (sc3 _ _ eb3)), sl3 _ _ (sd3 _ _ (sc3 _ _ (sb3 _ _ ea3))), ga3, nS k2 na3, t1, t0, tg1, .inl ⟨rfl, .inr (.inl rfl), rfl, rfl⟩⟩
      · exact ⟨d3', c3, _, _, _, _, _, rfl, sl3 _ _ ed3, sl3 _ _ (sd3 _ _ ec3), gc3, nS (k2.trans (sa3.trans sb3)) nc3, t1, t0, tg1, .inl ⟨rfl, .inr (.inr rfl), rfl, rfl⟩⟩
    refine r_cat (sk3 _ _ el2) el3 (fun p3 P3 np3 sp3 en3 => ?_) (Nat.le_of_ble_eq_true rfl)
    have k3 : Same H5 P3 := (k2.trans sk3).trans sp3
    have ro3 : ∀ y ∈ ([.ref b1, .ref d1] ++ [.ref b2] ++ [.ref b3, .ref d3'] : List V), RowOk (fp1 ++ fp2) v1 v2 who P3 y := fun y hy => (List.mem_append.mp hy).elim (fun z => (r2 y z).same (sk3.trans sp3)) (fun z => (r3 y z).same sp3)
    have p3n : H5 p3 = none := (k2.trans sk3).free np3
    clear ea3 eb3 ec3 ed3 el3 r3 r2 el2
    walk_at "go"
    refine ⟨.inl ⟨rfl, _, sqL en3⟩, ?_⟩
    walk_at "go"
    refine newT fun u4 U4 nu4 su4 eu4 => ?_
    walk_at "go"
    refine newLB fun a4 A4 na4 ga4 sa4 ea4 => ?_
    walk_at "go"
    refine newT fun b4 B4 nb4 sb4 eb4 => ?_
    walk_at "go"
    have en3b := sb4 _ _ (sa4 _ _ (su4 _ _ en3))
    refine ⟨p3, _, _, rfl, rfl, en3b, by show 5 + 1 ≤ _; decide, ?_⟩
    have r4 : ∀ y ∈ ([.ref b1, .ref d1] ++ [.ref b2] ++ [.ref b3, .ref d3'] ++ [.ref b4] : List V), RowOk (fp1 ++ fp2) v1 v2 who (upd B4 p3 (.lst ([.ref b1, .ref d1] ++ [.ref b2] ++ [.ref b3, .ref d3'] ++ [.ref b4]))) y := fun y hy => by
      refine RowOk.put ?_ en3b fun _ _ _ z => nomatch z
      rcases List.mem_append.mp hy with z | z
      · exact (ro3 y z).same ((su4.trans sa4).trans sb4)
      · rw [List.mem_singleton.mp z]
        exact ⟨b4, a4, _, _, _, _, _, rfl, eb4, sb4 _ _ ea4, ga4, nS (k3.trans su4) na4, t1, t2, tg3, .inr (.inr ⟨rfl, rfl, rfl, u4, rfl, sb4 _ _ (sa4 _ _ eu4)⟩)⟩
    have k4 : Same H5 (upd B4 p3 (.lst ([.ref b1, .ref d1] ++ [.ref b2] ++ [.ref b3, .ref d3'] ++ [.ref b4]))) := fun b u z => by
      rw [upd_ne (ne_of_none z p3n)]
      exact sb4 _ _ (sa4 _ _ (su4 _ _ (k3 _ _ z)))
    have el4 : upd B4 p3 (.lst ([.ref b1, .ref d1] ++ [.ref b2] ++ [.ref b3, .ref d3'] ++ [.ref b4])) p3 = some (.lst ([.ref b1, .ref d1] ++ [.ref b2] ++ [.ref b3, .ref d3'] ++ [.ref b4])) := upd_same
    generalize upd B4 p3 (.lst ([.ref b1, .ref d1] ++ [.ref b2] ++ [.ref b3, .ref d3'] ++ [.ref b4])) = L4 at r4 k4 el4 ⊢
    clear ro3 en3 en3b k3 ea4 eb4 eu4
    walk_at "go"
    refine ⟨.inl ⟨rfl, _, sqL el4⟩, ?_⟩
    walk_at "go"
    refine newT fun u5 U5 nu5 su5 eu5 => ?_
    walk_at "go"
    refine newLB fun a5 A5 na5 ga5 sa5 ea5 => ?_
    walk_at "go"
    refine newT fun b5 B5 nb5 sb5 eb5 => ?_
    walk_at "go"
    have el4b := sb5 _ _ (sa5 _ _ (su5 _ _ el4))
    refine ⟨p3, _, _, rfl, rfl, el4b, by show 6 + 1 ≤ _; decide, ?_⟩
    have r5 : ∀ y ∈ ([.ref b1, .ref d1] ++ [.ref b2] ++ [.ref b3, .ref d3'] ++ [.ref b4] ++ [.ref b5] : List V), RowOk (fp1 ++ fp2) v1 v2 who (upd B5 p3 (.lst ([.ref b1, .ref d1] ++ [.ref b2] ++ [.ref b3, .ref d3'] ++ [.ref b4] ++ [.ref b5]))) y := fun y hy => by
      refine RowOk.put ?_ el4b fun _ _ _ z => nomatch z
      rcases List.mem_append.mp hy with z | z
      · exact (r4 y z).same ((su5.trans sa5).trans sb5)
      · rw [List.mem_singleton.mp z]
        exact ⟨b5, a5, _, _, _, _, _, rfl, eb5, sb5 _ _ ea5, ga5, nS (k4.trans su5) na5, tw, t2, tg3, .inr (.inr ⟨rfl, rfl, rfl, u5, rfl, sb5 _ _ (sa5 _ _ eu5)⟩)⟩
    have k5 : Same H5 (upd B5 p3 (.lst ([.ref b1, .ref d1] ++ [.ref b2] ++ [.ref b3, .ref d3'] ++ [.ref b4] ++ [.ref b5]))) := fun b u z => by
      rw [upd_ne (ne_of_none z p3n)]
      exact sb5 _ _ (sa5 _ _ (su5 _ _ (k4 _ _ z)))
    have el5 : upd B5 p3 (.lst ([.ref b1, .ref d1] ++ [.ref b2] ++ [.ref b3, .ref d3'] ++ [.ref b4] ++ [.ref b5])) p3 = some (.lst ([.ref b1, .ref d1] ++ [.ref b2] ++ [.ref b3, .ref d3'] ++ [.ref b4] ++ [.ref b5])) := upd_same
    generalize upd B5 p3 (.lst ([.ref b1, .ref d1] ++ [.ref b2] ++ [.ref b3, .ref d3'] ++ [.ref b4] ++ [.ref b5])) = P6 at r5 k5 el5 ⊢
    obtain ⟨xs, exs, rox, lx⟩ : ∃ xs, P6 p3 = some (.lst xs) ∧ (∀ y ∈ xs, RowOk (fp1 ++ fp2) v1 v2 who P6 y) ∧ xs.length = 7 := ⟨_, el5, r5, rfl⟩
    have nq6 : p3 ∉ fp1 ++ fp2 := nS (Same.refl H5) p3n
    clear r4 r5 k4 el4 el4b el5 ea5 eb5 eu5
    have hB6 : Box bx (n + 4) P6 := (hB5.mono (by omega)).same k5
    have b06 : But bx H P6 := b05.same k5
    have o16 := o1.same k5
    have o26 := o2.same k5
    have lS : ∀ {b : Addr} {u : HO}, P6 b = some u → (∀ xs, u ≠ .lst xs) → b ∉ fp1 ++ fp2 := fun {b u} eu ne z => by
      rcases List.mem_append.mp z with z | z
      · obtain ⟨xs, ez⟩ := o16.there b z
        rw [ez] at eu; exact ne _ (Option.some.inj eu).symm
      · obtain ⟨xs, ez⟩ := o26.there b z
        rw [ez] at eu; exact ne _ (Option.some.inj eu).symm
    have bS : bx ∉ fp1 ++ fp2 := fun z => (List.mem_append.mp z).elim bn1 bn2
    have hS0 : ∀ {b : Addr} {u : HO}, H b = some u → b ∉ fp1 ++ fp2 := fun {b u} e z => by
      rcases List.mem_append.mp z with z | z
      · rw [fr1 b z] at e; exact nomatch e
      · rw [fr2' b z] at e; exact nomatch e
    walk_at "go"
    refine ⟨p3, rfl, ⟨xs, sqL exs⟩, for_list (K := K) (a := p3) (xs := xs) (fun i σ H' => (∃ x8 x9 x10 x11 x12 x13, σ = [some (.ref bx), some (.ref o), some (.ref nl), some v1, some v2, some (.str who), some (.int (g : Int)), some (.ref p3), x8, x9, x10, x11, x12, x13]) ∧ Fr (fp1 ++ fp2) P6 H' ∧ OddV H' (1 + 2 * i) fp1 v1 ∧ OddV H' (1 + 2 * i) fp2 v2)
      ⟨⟨_, _, _, _, _, _, rfl⟩, fun _ _ _ e => e, o16, o26⟩ (fun i σ H' _ ⟨_, fr, _⟩ => sqL (fr _ _ nq6 exs)) ?_ ?_⟩
    · rintro i y σ G hi ⟨⟨x8, x9, x10, x11, x12, x13, rfl⟩, fr, oa, ob⟩
      have hi12 : i < 7 := by rw [← lx]; exact (List.getElem?_eq_some_iff.mp hi).1
      obtain ⟨t, told, deed, one, two, tag, v, rfl, et, etold, tns, tS, th1, th2, tgs, hrow⟩ := rox y (List.mem_of_getElem? hi)
      have et := fr _ _ (lS et (fun _ z => nomatch z)) et
      have etold := fr _ _ tS etold
      have hQG : Qu A.CQ m G o la lr tq as row := hQ.keepB (fun b u hb e => fr _ _ (hS0 e) (b06 _ _ (fun z => nb (by rw [← z]; simp only [List.mem_cons, List.not_mem_nil, or_false] at hb ⊢; rcases hb with h | h | h <;> simp [h])) e)) fun b zs e => by
        have e6 := b06 _ _ (fun z => by rw [z, ebx] at e; exact nomatch e) e
        exact fr _ _ (lS e6 fun _ w => nomatch w) e6
      have hrowG : (one = v1 ∧ (deed = "put" ∨ deed = "leave" ∨ deed = "of") ∧ tag = "name" ∧ v = one) ∨ (deed = "put" ∧ one = .str who ∧ two = v2 ∧ tag = "number" ∧ v = two) ∨ (deed = "comes" ∧ two = v2 ∧ tag = "ask" ∧ ∃ t0, v = .ref t0 ∧ G t0 = some (.tup [one, two])) := hrow.imp id fun z => z.imp id fun ⟨z1, z2, z3, t0, z4, z5⟩ => ⟨z1, z2, z3, t0, z4, fr _ _ (lS z5 fun _ w => nomatch w) z5⟩
      have hvth : (∃ t0, v = .ref t0 ∧ G t0 = some (.tup [one, two])) ∨ Th v1 v2 v := by
        rcases hrowG with ⟨_, _, _, rfl⟩ | ⟨_, _, _, _, rfl⟩ | ⟨_, _, _, z⟩
        · exact .inr th1
        · exact .inr th2
        · exact .inl z
      refine ⟨t, _, rfl, sqT et, rfl, .str deed, _, rfl, one, _, rfl, two, _, rfl, .ref told, _, rfl, rfl, ?_⟩
      walk_at "go"
      refine caught_row hQG hm9 oa ob no1 hwho hrowG fun p G1 vv np ns s1 e1 ag => ?_
      walk_at "go"
      refine newLB fun q2 G2 n2 k2 s2 e2 => ?_
      have npS : ∀ {c : Addr}, G c = none → c ∉ fp1 ++ fp2 := fun nc z => by
        rcases List.mem_append.mp z with z | z
        · obtain ⟨xs, ez⟩ := oa.there _ z
          rw [ez] at nc; exact nomatch nc
        · obtain ⟨xs, ez⟩ := ob.there _ z
          rw [ez] at nc; exact nomatch nc
      have pS := npS np
      have qS := npS (s1.free n2)
      walk_at "go"
      refine ⟨q2, rfl, ⟨_, sqL e2⟩, for_list (K := K) (a := q2) (xs := [one, two]) (fun j σ H' => (∃ x13, σ = [some (.ref bx), some (.ref o), some (.ref nl), some v1, some v2, some (.str who), some (.int (g : Int)), some (.ref p3), some (.str deed), some one, some two, some (.ref told), some (.ref p), x13]) ∧ Fr (fp1 ++ fp2) G2 H' ∧ OddV H' (1 + 2 * i + j) fp1 v1 ∧ OddV H' (1 + 2 * i + j) fp2 v2)
        ⟨⟨_, rfl⟩, fun _ _ _ e => e, (oa.same s1).same s2, (ob.same s1).same s2⟩ (fun j σ H' _ ⟨_, fr2, _⟩ => sqL (fr2 _ _ qS e2)) ?_ ?_⟩
      · rintro j y σ G3 hj ⟨⟨x13, rfl⟩, fr3, oa3, ob3⟩
        have hj2 : j < 2 := (List.getElem?_eq_some_iff.mp hj).1
        have hy : Th v1 v2 y := by
          have hm := List.mem_of_getElem? hj
          simp only [List.mem_cons, List.not_mem_nil, or_false] at hm
          rcases hm with rfl | rfl
          · exact th1
          · exact th2
        walk_at "go"
        have skip : OddV G3 (1 + 2 * i + (j + 1)) fp1 v1 ∧ OddV G3 (1 + 2 * i + (j + 1)) fp2 v2 := ⟨oa3.keep (fun _ _ => rfl) (fun _ _ e => e) (fun _ _ e => e) (by omega), ob3.keep (fun _ _ => rfl) (fun _ _ e => e) (fun _ _ e => e) (by omega)⟩
        rcases hy with rfl | rfl | ⟨u, rfl, _⟩ | ⟨u, rfl, _⟩
        · rcases oa3.isl (K := K) with ⟨h0, _⟩ | ⟨a, ys, rfl, ea, ma, la⟩
          · refine r_is h0 ?_
            walk_at "go"
            exact ⟨⟨_, rfl⟩, fr3, skip⟩
          · refine r_is (isa_lst ea (b := true)) ?_
            walk_at "go"
            refine ⟨.inl ⟨rfl, _, sqL ea⟩, a, ys, _, rfl, rfl, ea, Nat.lt_of_le_of_lt la (Nat.lt_of_lt_of_le (show _ < 100 by omega) (by decide)), ?_⟩
            refine ⟨⟨_, rfl⟩, fun b o nb eb => ?_, oa3.grow ea (by decide +kernel) (.inl rfl), ob3.grow ea (by decide +kernel) (.inr (dis a ma))⟩
            have hne : b ≠ a := fun z => nb (List.mem_append_left _ (by rw [z]; exact ma))
            rw [upd_ne hne]
            exact fr3 _ _ nb eb
        · rcases ob3.isl (K := K) with ⟨h0, _⟩ | ⟨a, ys, rfl, ea, ma, la⟩
          · refine r_is h0 ?_
            walk_at "go"
            exact ⟨⟨_, rfl⟩, fr3, skip⟩
          · refine r_is (isa_lst ea (b := true)) ?_
            walk_at "go"
            refine ⟨.inl ⟨rfl, _, sqL ea⟩, a, ys, _, rfl, rfl, ea, Nat.lt_of_le_of_lt la (Nat.lt_of_lt_of_le (show _ < 100 by omega) (by decide)), ?_⟩
            refine ⟨⟨_, rfl⟩, fun b o nb eb => ?_, oa3.grow ea (by decide +kernel) (.inr (fun z => dis a z ma)), ob3.grow ea (by decide +kernel) (.inl rfl)⟩
            have hne : b ≠ a := fun z => nb (List.mem_append_right _ (by rw [z]; exact ma))
            rw [upd_ne hne]
            exact fr3 _ _ nb eb
        · refine r_is (isa_int (b := false)) ?_
          walk_at "go"
          exact ⟨⟨_, rfl⟩, fr3, skip⟩
        · refine r_is (isa_str (b := false)) ?_
          walk_at "go"
          exact ⟨⟨_, rfl⟩, fr3, skip⟩
      · rintro σ G3 ⟨⟨x13, rfl⟩, fr3, oa3, ob3⟩
        have oa3 : OddV G3 (1 + 2 * i + 2) fp1 v1 := oa3
        have ob3 : OddV G3 (1 + 2 * i + 2) fp2 v2 := ob3
        have ep3 := fr3 _ _ pS (s2 _ _ e1)
        have et3 := fr3 _ _ tS (s2 _ _ (s1 _ _ etold))
        have tupS : ∀ {b : Addr} {zs : List V}, G2 b = some (.tup zs) → b ∉ fp1 ++ fp2 := fun {b zs} e z => by
          rcases List.mem_append.mp z with z | z
          · obtain ⟨ys, ez⟩ := ((oa.same s1).same s2).there b z
            rw [e] at ez; exact nomatch ez
          · obtain ⟨ys, ez⟩ := ((ob.same s1).same s2).there b z
            rw [e] at ez; exact nomatch ez
        have itv : ∀ {u : V}, Th v1 v2 u → ItQ true K G3 20000 u := fun {u} h => by
          rcases h with rfl | rfl | ⟨k, rfl, hk⟩ | ⟨k, rfl, hk⟩
          · exact oa3.it.mono (by omega)
          · exact ob3.it.mono (by omega)
          · exact (itq_int (Nat.lt_of_le_of_lt hk (by decide))).mono (by omega)
          · obtain ⟨z1, z2⟩ := str_sm hk
            exact ⟨.str k, .str k, z1, by omega, by simp only [PyData.depth]; decide⟩
        have t3 : ∀ {b : Addr} {zs : List V}, G2 b = some (.tup zs) → G3 b = some (.tup zs) := fun e => fr3 _ _ (tupS e) e
        have ag3 : (vv = v ∧ ItQ true K G3 20000 v) ∨ ∃ t t0, vv = .ref t ∧ v = .ref t0 ∧ G3 t = some (.tup [one, two]) ∧ G3 t0 = some (.tup [one, two]) := by
          rcases ag with ev | ⟨t, t0, w1, w2, w3, w4⟩
          · rcases hvth with ⟨t0, hv, h0⟩ | hv
            · have h3 := t3 (s2 _ _ (s1 _ _ h0))
              exact .inr ⟨t0, t0, ev.trans hv, hv, h3, h3⟩
            · exact .inl ⟨ev, itv hv⟩
          · exact .inr ⟨t, t0, w1, w2, t3 (s2 _ _ w3), t3 (s2 _ _ w4)⟩
        obtain ⟨z, z1, z2⟩ := shq_ag ep3 et3 ns tns tgs (itv th1) (itv th2) ag3
        walk_at "go"
        refine ⟨_, z, rfl, .inl z1, ?_⟩
        walk_at "go"
        refine ⟨_, z, rfl, .inl z2, ?_⟩
        walk_at "go"
        rw [decide_eq_true (show V.str z = V.str z from rfl)]
        walk_at "go"
        exact ⟨⟨_, _, _, _, _, _, rfl⟩, fun b o nb eb => fr3 _ _ nb (s2 _ _ (s1 _ _ (fr _ _ nb eb))), oa3, ob3⟩
    · rintro σ G ⟨⟨x8, x9, x10, x11, x12, x13, rfl⟩, fr, oa, ob⟩
      walk_at "go"
      obtain ⟨u1, u2, u3, eB, hbx⟩ := hB6
      exact q G ⟨u1, u2, u3, fr _ _ bS eB, hbx⟩ fun b o nb2 eb => fr _ _ (hS0 eb) (b06 _ _ nb2 eb)
end
end K22

namespace K22
open PySem PySem.Spec PyProof.Rows L2 Bk


section
variable {P : Program} {w : World} {K : PySem.W.Frag} {mg : Str → Option Value} {base : Heap} {A : Ad}
theorem ok_GE {f : Addr} {fd : FuncData} (F : Fun K "__init__" "GuestError.__init__" s_GuestError_init f fd) (T : Txt K mg A) : FnOk P w K mg base CX0 1 f fd ["self", "text"] (spGT K .ve) := by
  refine F.ok sc_GuestError_init (fun vs H Q E h => ?_) (fun cdv A' outer s H vs Q E hr h => ⟨_, (pss_one (ps_expr (pe_veI (by rfl) T.m_ValueError T.vV (pa_cons (pv 0) (pa_cons (pv 1) pa_nil))))), ?_⟩)
  · obtain ⟨a, C, x, rfl, _⟩ := h
    rfl
  · obtain ⟨a, C, x, rfl, hC, e, q⟩ := h
    exact ⟨_, rfl, _, rfl, a, C, [x], rfl, Nat.le_of_ble_eq_true rfl, hC, e, q⟩
theorem ok_KE {f : Addr} {fd : FuncData} (F : Fun K "__init__" "Missing.__init__" s_Missing_init f fd) (T : Txt K mg A) : FnOk P w K mg base CX0 1 f fd ["self", "text"] (spGT K .ke) := by
  refine F.ok sc_Missing_init (fun vs H Q E h => ?_) (fun cdv A' outer s H vs Q E hr h => ⟨_, (pss_one (ps_expr (pe_keI (by rfl) T.m_KeyError T.vK (pa_cons (pv 0) (pa_cons (pv 1) pa_nil))))), ?_⟩)
  · obtain ⟨a, C, x, rfl, _⟩ := h
    rfl
  · obtain ⟨a, C, x, rfl, hC, e, q⟩ := h
    exact ⟨_, rfl, _, rfl, a, C, [x], rfl, Nat.le_of_ble_eq_true rfl, hC, e, q⟩
theorem ok_BB {f : Addr} {fd : FuncData} (F : Fun K "__init__" "Barred.__init__" s_Barred_init f fd) (T : Txt K mg A) : FnOk P w K mg base CX0 1 f fd ["self", "text"] (spGT K .le) := by
  refine F.ok sc_Barred_init (fun vs H Q E h => ?_) (fun cdv A' outer s H vs Q E hr h => ⟨_, (pss_one (ps_expr (pe_leI (by rfl) T.m_LookupError T.vL (pa_cons (pv 0) (pa_cons (pv 1) pa_nil))))), ?_⟩)
  · obtain ⟨a, C, x, rfl, _⟩ := h
    rfl
  · obtain ⟨a, C, x, rfl, hC, e, q⟩ := h
    exact ⟨_, rfl, _, rfl, a, C, [x], rfl, Nat.le_of_ble_eq_true rfl, hC, e, q⟩
theorem ok_iM {f : Addr} {fd fdG : FuncData} (F : Fun K "__init__" "NoNumber.__init__" s_NoNumber_init f fd) (T : Txt K mg A) (c_GuestError_init : Own P w K mg base CX0 1 A.fG fdG ["self", "text"] (spGT K .ve)) : FnOk P w K mg base CX0 2 f fd ["self", "found"] (spInitN "found" A.CM) := by
  refine F.ok sc_NoNumber_init (fun vs H Q E h => ?_) (fun cdv A' outer s H vs Q E hr h => ⟨_, (pss_cons (ps_expr (pe_cdef c_GuestError_init.ok hr (by rfl) T.g_GuestError T.rd_GuestError T.ga_GuestError T.at_GuestError c_GuestError_init.kp c_GuestError_init.bd .nil pass0 (pa_cons (pv 0) (pa_cons pe_str pa_nil))))
    (pss_one (ps_osN (pv 0) (pv 1)))), ?_⟩)
  · obtain ⟨a, x, rfl, _⟩ := h
    rfl
  · obtain ⟨a, x, rfl, e, q⟩ := h
    walk_at "go"
    exact ⟨a, A.CM, _, rfl, T.ox_NoNumber, e, x, rfl, .ref a, rfl, .ve, a, A.CM, rfl, T.ox_NoNumber, T.nf_NoNumber, e, q⟩
theorem ok_iN {f : Addr} {fd fdG : FuncData} (F : Fun K "__init__" "NoName.__init__" s_NoName_init f fd) (T : Txt K mg A) (c_GuestError_init : Own P w K mg base CX0 1 A.fG fdG ["self", "text"] (spGT K .ve)) : FnOk P w K mg base CX0 2 f fd ["self", "found"] (spInitN "found" A.CN) := by
  refine F.ok sc_NoName_init (fun vs H Q E h => ?_) (fun cdv A' outer s H vs Q E hr h => ⟨_, (pss_cons (ps_expr (pe_cdef c_GuestError_init.ok hr (by rfl) T.g_GuestError T.rd_GuestError T.ga_GuestError T.at_GuestError c_GuestError_init.kp c_GuestError_init.bd .nil pass0 (pa_cons (pv 0) (pa_cons pe_str pa_nil))))
    (pss_one (ps_osN (pv 0) (pv 1)))), ?_⟩)
  · obtain ⟨a, x, rfl, _⟩ := h
    rfl
  · obtain ⟨a, x, rfl, e, q⟩ := h
    walk_at "go"
    exact ⟨a, A.CN, _, rfl, T.ox_NoName, e, x, rfl, .ref a, rfl, .ve, a, A.CN, rfl, T.ox_NoName, T.nf_NoName, e, q⟩
theorem ok_iD {f : Addr} {fd fdG : FuncData} (F : Fun K "__init__" "Doubled.__init__" s_Doubled_init f fd) (T : Txt K mg A) (c_GuestError_init : Own P w K mg base CX0 1 A.fG fdG ["self", "text"] (spGT K .ve)) : FnOk P w K mg base CX0 2 f fd ["self", "found"] (spInitN "found" A.CD) := by
  refine F.ok sc_Doubled_init (fun vs H Q E h => ?_) (fun cdv A' outer s H vs Q E hr h => ⟨_, (pss_cons (ps_expr (pe_cdef c_GuestError_init.ok hr (by rfl) T.g_GuestError T.rd_GuestError T.ga_GuestError T.at_GuestError c_GuestError_init.kp c_GuestError_init.bd .nil pass0 (pa_cons (pv 0) (pa_cons pe_str pa_nil))))
    (pss_one (ps_osN (pv 0) (pv 1)))), ?_⟩)
  · obtain ⟨a, x, rfl, _⟩ := h
    rfl
  · obtain ⟨a, x, rfl, e, q⟩ := h
    walk_at "go"
    exact ⟨a, A.CD, _, rfl, T.ox_Doubled, e, x, rfl, .ref a, rfl, .ve, a, A.CD, rfl, T.ox_Doubled, T.nf_Doubled, e, q⟩
theorem ok_iA {f : Addr} {fd fdG : FuncData} (F : Fun K "__init__" "NoAsk.__init__" s_NoAsk_init f fd) (T : Txt K mg A) (c_Missing_init : Own P w K mg base CX0 1 A.fK fdG ["self", "text"] (spGT K .ke)) : FnOk P w K mg base CX0 2 f fd ["self", "found"] (spInitN "found" A.CA) := by
  refine F.ok sc_NoAsk_init (fun vs H Q E h => ?_) (fun cdv A' outer s H vs Q E hr h => ⟨_, (pss_cons (ps_expr (pe_cdef c_Missing_init.ok hr (by rfl) T.g_Missing T.rd_Missing T.ga_Missing T.at_Missing c_Missing_init.kp c_Missing_init.bd .nil pass0 (pa_cons (pv 0) (pa_cons pe_str pa_nil))))
    (pss_one (ps_osN (pv 0) (pv 1)))), ?_⟩)
  · obtain ⟨a, x, rfl, _⟩ := h
    rfl
  · obtain ⟨a, x, rfl, e, q⟩ := h
    walk_at "go"
    exact ⟨a, A.CA, _, rfl, T.ox_NoAsk, e, x, rfl, .ref a, rfl, .ke, a, A.CA, rfl, T.ox_NoAsk, T.nf_NoAsk, e, q⟩
theorem ok_iF {f : Addr} {fd fdG : FuncData} (F : Fun K "__init__" "Full.__init__" s_Full_init f fd) (T : Txt K mg A) (c_Barred_init : Own P w K mg base CX0 1 A.fB fdG ["self", "text"] (spGT K .le)) : FnOk P w K mg base CX0 2 f fd ["self", "many"] (spInitN "many" A.CF) := by
  refine F.ok sc_Full_init (fun vs H Q E h => ?_) (fun cdv A' outer s H vs Q E hr h => ⟨_, (pss_cons (ps_expr (pe_cdef c_Barred_init.ok hr (by rfl) T.g_Barred T.rd_Barred T.ga_Barred T.at_Barred c_Barred_init.kp c_Barred_init.bd .nil pass0 (pa_cons (pv 0) (pa_cons pe_str pa_nil))))
    (pss_one (ps_osN (pv 0) (pv 1)))), ?_⟩)
  · obtain ⟨a, x, rfl, _⟩ := h
    rfl
  · obtain ⟨a, x, rfl, e, q⟩ := h
    walk_at "go"
    exact ⟨a, A.CF, _, rfl, T.ox_Full, e, x, rfl, .ref a, rfl, .le, a, A.CF, rfl, T.ox_Full, T.nf_Full, e, q⟩
end
end K22

namespace K22
open PySem PySem.Spec PyProof.Rows L2 Bk


/-! ### the data of a deed's words are small -/
theorem ints_sm : ∀ {l : List Nat}, (∀ k ∈ l, small k) → smQL (l.map fun (k : Nat) => PyData.int k) = true ∧ PyData.bulkAll (l.map fun (k : Nat) => PyData.int k) ≤ 3 * l.length ∧ PyData.depthAll (l.map fun (k : Nat) => PyData.int k) = 0
  | [], _ => ⟨rfl, Nat.le_refl _, rfl⟩
  | k :: l, h => by
    obtain ⟨a, b, c⟩ := ints_sm (l := l) fun j hj => h j (List.mem_cons_of_mem _ hj)
    refine ⟨by simp only [List.map_cons, smQL, int_sm (h k List.mem_cons_self), a, Bool.and_true], ?_, ?_⟩
    · simp only [List.map_cons, PyData.bulkAll, PyData.bulk, List.length_cons]
      omega
    · simp only [List.map_cons, PyData.depthAll, PyData.depth, c]
      rfl
theorem shq_step {K : PySem.W.Frag} {H : Hp} {p : Addr} {as as' : List (Str × Nat)} {row row' : List Str} {w deed : Str} {i : Nat} {ds : List PyData} {us : List V} (st : Step as row w i deed ds as' row') (hw : nameOk w = true) (hi : small i) (has : ∀ q ∈ as, nameOk q.1 = true ∧ small q.2) (l60 : as.length ≤ 60) (e : H p = some (.lst us)) (d : DqAll false K H us ds) : Shq K H (.ref p) (PyData.list ds).shown := by
  have go : smQL ds = true → PyData.bulkAll ds ≤ 380000 → PyData.depthAll ds ≤ 50 → Shq K H (.ref p) (PyData.list ds).shown := fun a b c => by
    refine shq_of (b := false) (.lst (fun z => nomatch z) (sqL e) d) (by simpa only [smQ] using a) ?_ ?_
    · simp only [PyData.bulk]; omega
    · simp only [PyData.depth]; omega
  have ask : ∀ {x : Str} {k : Nat}, nameOk x = true → small k → smQ (dAsk x k) = true ∧ (dAsk x k).bulk ≤ 12 ∧ (dAsk x k).depth ≤ 1 := fun {x k} hx hk => by
    obtain ⟨s1, s2, s3⟩ := asks_sm (as := [(x, k)]) fun q hq => by rw [List.mem_singleton.mp hq]; exact ⟨hx, hk⟩
    have t1 : smQL [dAsk x k] = true := s1
    have t2 : PyData.bulkAll [dAsk x k] ≤ 12 := s2
    have t3 : PyData.depthAll [dAsk x k] ≤ 1 := s3
    simp only [smQL, Bool.and_true] at t1
    simp only [PyData.bulkAll] at t2
    simp only [PyData.depthAll] at t3
    exact ⟨t1, by omega, by omega⟩
  have told : smQ dTold = true ∧ dTold.bulk ≤ 10 ∧ dTold.depth = 0 := ⟨by decide +kernel, by simp only [dTold, PyData.bulk]; decide +kernel, by simp only [dTold, PyData.depth]⟩
  obtain ⟨a1, a2, a3⟩ := told
  cases st with
  | serve0 h =>
    refine go ?_ ?_ ?_
    · simp only [smQL, a1, smQ, Bool.and_true]
    · simp only [PyData.bulkAll, PyData.bulk]; omega
    · simp only [PyData.depthAll, PyData.depth]; omega
  | @serve x rest k j h hk hj =>
    have hm : (x, k) ∈ as := mem_ofN.mp (List.mem_of_head? hk)
    obtain ⟨b1, b2, b3⟩ := ask (x := x) (k := k) (has _ hm).1 (has _ hm).2
    refine go ?_ ?_ ?_
    · simp only [smQL, a1, b1, Bool.and_true]
    · simp only [PyData.bulkAll]; omega
    · simp only [PyData.depthAll]; omega
  | leave =>
    obtain ⟨c1, c2, c3⟩ := ints_sm (l := ofN as w) fun k hk => (has _ (mem_ofN.mp hk)).2
    have l : (ofN as w).length ≤ 60 := Nat.le_trans (List.length_filterMap_le _ _) l60
    refine go ?_ ?_ ?_
    · simp only [smQL, a1, smQ, c1, Bool.and_true]
    · simp only [PyData.bulkAll, PyData.bulk]; omega
    · simp only [PyData.depthAll, PyData.depth]; omega
  | dbl h =>
    obtain ⟨b1, b2, b3⟩ := ask hw hi
    have t : smQ (.str (Str.ofString "doubled")) = true ∧ (PyData.str (Str.ofString "doubled")).bulk ≤ 10 := ⟨by decide +kernel, by simp only [PyData.bulk]; decide +kernel⟩
    refine go ?_ ?_ ?_
    · rw [smQL, t.1, smQL, b1]; rfl
    · have := t.2
      simp only [PyData.bulkAll, PyData.bulk] at this ⊢; omega
    · simp only [PyData.depthAll, PyData.depth]; omega
  | full h l =>
    have t : smQ (.str (Str.ofString "full")) = true ∧ (PyData.str (Str.ofString "full")).bulk ≤ 10 := ⟨by decide +kernel, by simp only [PyData.bulk]; decide +kernel⟩
    refine go ?_ ?_ ?_
    · rw [smQL, t.1]; decide +kernel
    · have := t.2
      simp only [PyData.bulkAll, PyData.bulk] at this ⊢; omega
    · simp only [PyData.depthAll, PyData.depth]; omega
  | put h l =>
    refine go ?_ ?_ ?_
    · simp only [smQL, a1, smQ, Bool.and_true]
    · simp only [PyData.bulkAll, PyData.bulk]; omega
    · simp only [PyData.depthAll, PyData.depth]; omega
theorem Step.sm {as as' : List (Str × Nat)} {row row' : List Str} {w deed : Str} {i : Nat} {ds : List PyData} (st : Step as row w i deed ds as' row') (h : ∀ p ∈ as, small p.2) (hi : small i) : ∀ p ∈ as', small p.2 := by
  cases st with
  | serve0 _ => exact h
  | serve _ _ _ => exact fun p hp => h p (List.mem_of_mem_eraseIdx hp)
  | leave => exact fun p hp => h p (List.mem_filter.mp hp).1
  | dbl _ => exact h
  | full _ _ => exact h
  | put _ _ =>
    intro p hp
    rcases List.mem_append.mp hp with z | z
    · exact h p z
    · rw [List.mem_singleton.mp z]; exact hi
theorem StAt.ntup {H : Hp} {s : St} {as : List (Str × Nat)} (h : StAt H s as) {b : Addr} {xs : List V} (e : H b = some (.tup xs)) : b ∉ s.fp := fun z => by
  have z : b ∈ s.S :: s.rl :: s.ol :: (s.rs.map (·.2.1) ++ s.rs.map (·.2.2)) := z
  rcases List.mem_cons.mp z with rfl | z
  · rw [h.top] at e; exact nomatch e
  rcases List.mem_cons.mp z with rfl | z
  · rw [h.rows] at e; exact nomatch e
  rcases List.mem_cons.mp z with rfl | z
  · rw [h.ord.at_] at e; exact nomatch e
  rcases List.mem_append.mp z with z | z
  · obtain ⟨c, hc, rfl⟩ := List.mem_map.mp z
    rw [(h.ent c hc).1] at e; exact nomatch e
  · obtain ⟨c, hc, rfl⟩ := List.mem_map.mp z
    rw [(h.ent c hc).2] at e; exact nomatch e
theorem Qu.nin {C : Addr} {n : Nat} {H : Hp} {o la lr : Addr} {ts : List Addr} {as : List (Str × Nat)} {row : List Str} (q : Qu C n H o la lr ts as row) {b : Addr} (e : H b = none) : b ∉ [o, la, lr] := fun z => by
  obtain ⟨dx, fs, eo, _⟩ := q.ob
  simp only [List.mem_cons, List.not_mem_nil, or_false] at z
  rcases z with rfl | rfl | rfl
  · rw [eo] at e; exact nomatch e
  · rw [q.al.at_] at e; exact nomatch e
  · rw [q.rw_] at e; exact nomatch e
theorem Qu.ntup {C : Addr} {n : Nat} {H : Hp} {o la lr : Addr} {ts : List Addr} {as : List (Str × Nat)} {row : List Str} (q : Qu C n H o la lr ts as row) {b : Addr} {xs : List V} (e : H b = some (.tup xs)) : b ∉ [o, la, lr] := fun z => by
  obtain ⟨dx, fs, eo, _⟩ := q.ob
  simp only [List.mem_cons, List.not_mem_nil, or_false] at z
  rcases z with rfl | rfl | rfl
  · rw [eo] at e; exact nomatch e
  · rw [q.al.at_] at e; exact nomatch e
  · rw [q.rw_] at e; exact nomatch e
/-- the Queue and the law's rows tell the same; what stands in Hb stands, and is none of theirs -/
structure Lw (A : Ad) (Hb : Hp) (o la lr : Addr) (s : St) (H : Hp) (as : List (Str × Nat)) : Prop where
  q : ∃ tq, Qu A.CQ 2 H o la lr tq as s.row
  st : StAt H s as
  sm : ∀ p ∈ as, small p.2
  ap : ∀ b ∈ [o, la, lr], b ∉ s.fp
  fx : ∀ b u, Hb b = some u → H b = some u ∧ b ∉ [o, la, lr] ∧ b ∉ s.fp
section
variable {A : Ad} {Hb H H' H1 H2 : Hp} {o la lr la' lr' : Addr} {s s' : St} {as as' : List (Str × Nat)} {bx b : Addr} {n : Nat} {tq tq' : List Addr} {row' : List Str}
theorem Lw.off (L : Lw A Hb o la lr s H as) (e : H b = none) : b ∉ [o, la, lr] ∧ b ∉ s.fp := by
  obtain ⟨tq, q⟩ := L.q
  exact ⟨q.nin e, L.st.nin e⟩
theorem Lw.same (L : Lw A Hb o la lr s H as) (c : Same H H') : Lw A Hb o la lr s H' as :=
  ⟨L.q.imp fun _ q => q.same c, L.st.same c, L.sm, L.ap, fun b u e => ⟨c _ _ (L.fx b u e).1, (L.fx b u e).2⟩⟩
theorem Lw.but (L : Lw A Hb o la lr s H as) (hB : Box bx n H) (off : bx ∉ [o, la, lr] ∧ bx ∉ s.fp) (nb : Hb bx = none) (c : But bx H H') : Lw A Hb o la lr s H' as := by
  have ts : ∀ a xs, H a = some (.tup xs) → H' a = some (.tup xs) := fun a xs z => c _ _ (hB.ne_tup z) z
  exact ⟨L.q.imp fun _ q => q.keepB (fun b u m e => c _ _ (fun z => off.1 (by rw [← z]; exact m)) e) ts, L.st.keep (fun b u m e => c _ _ (fun z => off.2 (by rw [← z]; exact m)) e) ts, L.sm, L.ap,
    fun b u e => ⟨c _ _ (fun z => by rw [z, nb] at e; exact nomatch e) (L.fx b u e).1, (L.fx b u e).2⟩⟩
theorem Lw.mid (L : Lw A Hb o la lr s H as) (fr : ∀ b u, b ∉ [o, la, lr] → H b = some u → H1 b = some u) : StAt H1 s as := by
  obtain ⟨tq, q⟩ := L.q
  exact L.st.keep (fun b u m e => fr b u (fun z => L.ap b z m) e) fun b xs e => fr b _ (q.ntup e) e
theorem Lw.step (L : Lw A Hb o la lr s H as) (fr : ∀ b u, b ∉ [o, la, lr] → H b = some u → H1 b = some u) (nw : ∀ b ∈ [la', lr'], b ∈ [la, lr] ∨ H b = none) (q1 : Qu A.CQ 2 H1 o la' lr' tq' as' row')
    (fr2 : ∀ b u, b ∉ s.fp → H1 b = some u → H2 b = some u) (nw2 : ∀ b ∈ s'.fp, b ∈ s.fp ∨ H1 b = none) (st2 : StAt H2 s' as') (er : row' = s'.row) (sm' : ∀ p ∈ as', small p.2) :
    Lw A Hb o la' lr' s' H2 as' ∧ ∀ b u, H b = some u → b ∉ [o, la, lr] → b ∉ s.fp → H2 b = some u ∧ b ∉ [o, la', lr'] ∧ b ∉ s'.fp := by
  have st1 := L.mid fr
  have ap1 : ∀ b ∈ [o, la', lr'], b ∉ s.fp := fun b hb => by
    rcases List.mem_cons.mp hb with rfl | hb
    · exact L.ap _ List.mem_cons_self
    · rcases nw b hb with z | z
      · exact L.ap b (List.mem_cons_of_mem _ z)
      · exact L.st.nin z
  have keep : ∀ b u, H b = some u → b ∉ [o, la, lr] → b ∉ s.fp → H2 b = some u ∧ b ∉ [o, la', lr'] ∧ b ∉ s'.fp := fun b u e h1 h2 => by
    have e1 := fr b u h1 e
    refine ⟨fr2 b u h2 e1, fun z => ?_, fun z => ?_⟩
    · rcases List.mem_cons.mp z with z | z
      · exact h1 (by rw [z]; exact List.mem_cons_self)
      · rcases nw b z with w | w
        · exact h1 (List.mem_cons_of_mem _ w)
        · rw [e] at w; exact nomatch w
    · rcases nw2 b z with w | w
      · exact h2 w
      · rw [e1] at w; exact nomatch w
  refine ⟨⟨⟨tq', er ▸ q1.keepB (fun b u m e => fr2 b u (ap1 b m) e) fun b xs e => fr2 b _ (st1.ntup e) e⟩, st2, sm', fun b hb z => ?_, fun b u e => ?_⟩, keep⟩
  · rcases nw2 b z with w | w
    · exact ap1 b hb w
    · exact q1.nin w hb
  · obtain ⟨a1, a2, a3⟩ := L.fx b u e
    exact keep b u a1 a2 a3
theorem Lw.more (L : Lw A Hb o la lr s H as) {e : Addr} {u : HO} (eu : H e = some u) (off : e ∉ [o, la, lr] ∧ e ∉ s.fp) : Lw A (upd Hb e u) o la lr s H as :=
  ⟨L.q, L.st, L.sm, L.ap, fun b v z => by
    by_cases h : b = e
    · subst h
      rw [upd_same] at z
      obtain rfl := Option.some.inj z
      exact ⟨eu, off⟩
    · rw [upd_ne h] at z
      exact L.fx b v z⟩
theorem Lw.hb (L : Lw A Hb o la lr s H as) (e : H b = none) : Hb b = none := by
  cases z : Hb b with
  | none => rfl
  | some u => rw [(L.fx b u z).1] at e; exact nomatch e
end
/-- what stands all along: the script, the names, the Queue beside -/
structure Mi (A : Ad) (H : Hp) (w0 : Str) (y la2 lr2 E : Addr) (N : List Str) (large : Int) (Hb : Hp) : Prop where
  sub : Same H Hb
  en : Hb E = some (.lst (N.map V.str))
  n0 : 0 < N.length
  n60 : N.length ≤ 60
  ok : ∀ y ∈ N, nameOk y = true
  bs : ∃ tqb rowb, Qu A.CQ 2 Hb y la2 lr2 tqb [(w0, 5)] rowb
  hd : large ≠ 0 → N[0]? = some w0
end K22

namespace K22
open PySem PySem.Spec PyProof.Rows L2 Bk


def spLaw (K : PySem.W.Frag) : Sp := fun vs H Q _ => ∃ (sc : Addr) (ns : List Int), vs = [.ref sc] ∧ SqL K H sc (ns.map V.int) ∧ ns.length ≤ 63 ∧ ∀ H', Q (.bl true) H'
section
variable {P : Program} {w : World} {K : PySem.W.Frag} {mg : Str → Option Value} {base : Heap} {A : Ad}
theorem ok_law {f : Addr} {fd : FuncData} (F : Fun K "law" "law" s_law f fd) (T : Txt K mg A) (c_cell_L : CalD P w K mg base CX0 1 "_law_cell" (Bk.spCell K) []) (c_box_L : CalD P w K mg base CX0 1 "_law_box" spBox []) (c_take_L : CalD P w K mg base CX0 1 "_law_take" spTake [])
    (c_names_L : CalD P w K mg base CX0 2 "_law_names" spNames []) (c_many_L : CalD P w K mg base CX0 2 "_law_many" spMany []) (c_Queue_init : CalC P w K mg base CX0 1 A.CQ "Queue" (spQuInit A)) (c_Queue_put : CalM P w K mg base (L2.CX P w) 5 A.CQ "put" (spPutB K A)) (c_Queue_waiting : CalM P w K mg base CX0 1 A.CQ "waiting" (spWaiting A)) (c_Queue_len : CalM P w K mg base CX0 1 A.CQ "__len__" (spLenQ A))
    (c_caught_L : CalD P w K mg base CX0 8 "_law_caught" (spCaught K A) []) (c_due_L : CalD P w K mg base CX0 2 "_law_due" (spDueL K) []) (c_right_L : CalG P w K mg base CX0 9 "_law_right" (spRight A)) (c_refused_right_L : CalG P w K mg base CX0 9 "_law_refused_right" (spRefused A)) : FnG P w K mg base CX0 10 f fd ["_law_script"] (spLaw K) := by
  refine fun_okG F sc_law (fun vs H Q E h => ?_) (fun cdv A' outer s H vs Q E ga hr h => have hu65 := units65 hr; have hu64 := hr.units; have hu := units1 hr; ⟨_, (pss_cons (ps_set (i := 1) sc_law.nd rfl (.inl rfl) (pe_cal c_box_L hr (by decide) (by rfl) (pa_cons (pe_cal c_cell_L hr (by decide) (by rfl) (pa_cons (pv 0) (pa_cons pe_int pa_nil))) pa_nil)))
    (pss_cons (ps_par (i := 2) (j := 3) rfl sc_law.nd rfl rfl (by decide) rfl rfl (pa_cons (pe_cal c_names_L hr (by decide) (by rfl) (pa_cons (pv 1) pa_nil)) (pa_cons (pe_cal c_take_L hr (by decide) (by rfl) (pa_cons (pv 1) (pa_cons pe_int pa_nil))) pa_nil)) (by rfl))
    (pss_cons (ps_par3 (i := 4) (j := 5) (l := 6) rfl sc_law.nd rfl rfl rfl (by decide) (by decide) (by decide) rfl rfl rfl (pa_cons (pe_mk0 c_Queue_init hr (by decide) (by rfl) ps0) (pa_cons (pe_lstB (pa_cons (pe_lstB pa_nil) (pa_cons (pe_lstB pa_nil) pa_nil))) (pa_cons (pe_mk0 c_Queue_init hr (by decide) (by rfl) ps0) pa_nil))) (by rfl))
    (pss_cons (ps_expr (pe_mth (pv 6) T.cl_Queue c_Queue_put hr (by decide) psY (pa_cons (pe_ix ix_list (pv 2) pe_int (fun _ _ => rfl)) (pa_cons pe_int pa_nil))))
    (C8.pss_cut (ps_if (pt_cmpR op_eq (pv 3) pe_int (nomark _)) (C8.pss_cut (ps_set (i := 2) sc_law.nd rfl (.inl rfl) (pe_ifExp (pt_cmpR op_eq (pe_cal c_take_L hr (by decide) (by rfl) (pa_cons (pv 1) (pa_cons pe_int pa_nil))) pe_int (nomark _)) (pe_cal c_many_L hr (by decide) (by rfl) (pa_cons (pv 1) pa_nil)) (pv 2)))
    (pss_one (ps_for PassesOwn.never rfl (pi_range1 (by rfl) T.m_range (pa_cons (pe_op op_add pe_int (pe_cal c_take_L hr (by decide) (by rfl) (pa_cons (pv 1) (pa_cons pe_int pa_nil)))) pa_nil)) (pg_name (i := 7) sc_law.nd rfl (.inl rfl))
      (pss_cons (ps_set (i := 8) sc_law.nd rfl (.inl rfl) (pe_ix ix_list (pv 2) (pe_op op_mod (pe_ix ix_list (pe_lstB (pa_cons (pv 7) (pa_cons (pe_op op_mulW (pv 7) (pv 7)) pa_nil))) (pe_cal c_take_L hr (by decide) (by rfl) (pa_cons (pv 1) (pa_cons pe_int pa_nil))) (fun _ _ => rfl)) (pe_callB call_len_seq (by rfl) T.m_len (by decide +kernel) (pa_cons (pv 2) pa_nil))) (fun _ _ => rfl)))
    (pss_one (ps_if (pt_cmpR op_ne (pe_callB (call_repr_any ga hr) (by rfl) T.m_repr (by decide +kernel) (pa_cons (pe_cal c_caught_L hr (by decide) (by rfl) (pa_cons (pv 4) (pa_cons pe_str (pa_cons (pv 8) (pa_cons (pv 7) pa_nil))))) pa_nil)) (pe_callB (call_repr_any ga hr) (by rfl) T.m_repr (by decide +kernel) (pa_cons (pe_cal c_due_L hr (by decide) (by rfl) (pa_cons (pv 5) (pa_cons pe_str (pa_cons (pv 8) (pa_cons (pv 7) pa_nil))))) pa_nil)) (nomark _)) (pss_one (ps_ret pe_bl)) pss_nil)))))) pss_nil)
    (pss_cons (ps_for PassesOwn.never rfl (pi_range2 (by rfl) T.m_range (pa_cons pe_int (pa_cons (pe_callB (call_max2 rfl) (by rfl) T.m_max (by decide +kernel) (pa_cons pe_int (pa_cons (pe_callB (call_min2 rfl) (by rfl) T.m_min (by decide +kernel) (pa_cons (pe_callB call_len_seq (by rfl) T.m_len (by decide +kernel) (pa_cons (pv 0) pa_nil)) (pa_cons pe_int pa_nil))) pa_nil))) pa_nil))) (pg_name (i := 7) sc_law.nd rfl (.inl rfl))
      (pss_cons (ps_set (i := 1) sc_law.nd rfl (.inl rfl) (pe_cal c_box_L hr (by decide) (by rfl) (pa_cons (pe_cal c_cell_L hr (by decide) (by rfl) (pa_cons (pv 0) (pa_cons (pv 7) pa_nil))) pa_nil)))
    (pss_cons (ps_for PassesOwn.never rfl (pi_range1 (by rfl) T.m_range (pa_cons (pe_op op_add pe_int (pe_cal c_take_L hr (by decide) (by rfl) (pa_cons (pv 1) (pa_cons pe_int pa_nil)))) pa_nil)) (pg_name (i := 9) sc_law.nd rfl (.inl rfl))
      (pss_cons (ps_set (i := 10) sc_law.nd rfl (.inl rfl) (pe_ix ix_list (pe_lstB (pa_cons pe_str (pa_cons pe_str (pa_cons pe_str (pa_cons pe_str (pa_cons pe_str (pa_cons pe_str pa_nil))))))) (pe_cal c_take_L hr (by decide) (by rfl) (pa_cons (pv 1) (pa_cons pe_int pa_nil))) (fun _ _ => rfl)))
    (C8.pss_cut (ps_if (PW.pt (pw_and (pt_cmpR op_eq (pv 10) pe_str (nomark _)) (pw_and1 (pt_cmpR op_gt (pe_cal c_take_L hr (by decide) (by rfl) (pa_cons (pv 1) (pa_cons pe_int pa_nil))) pe_int (nomark _))))) (pss_one (ps_set (i := 10) sc_law.nd rfl (.inl rfl) pe_str)) pss_nil)
    (pss_cons (ps_set (i := 11) sc_law.nd rfl (.inl rfl) (pe_ix ix_list (pe_lstB (pa_cons (pe_cal c_take_L hr (by decide) (by rfl) (pa_cons (pv 1) (pa_cons pe_int pa_nil))) (pa_cons (pe_cal c_take_L hr (by decide) (by rfl) (pa_cons (pv 1) (pa_cons pe_int pa_nil))) (pa_cons (pe_op op_sub (pe_op op_pow pe_int pe_int) pe_int) pa_nil)))) (pe_cal c_take_L hr (by decide) (by rfl) (pa_cons (pv 1) (pa_cons pe_int pa_nil))) (fun _ _ => rfl)))
    (pss_cons (ps_set (i := 8) sc_law.nd rfl (.inl rfl) (pe_ix ix_list (pv 2) (pe_cal c_take_L hr (by decide) (by rfl) (pa_cons (pv 1) (pa_cons (pe_callB call_len_seq (by rfl) T.m_len (by decide +kernel) (pa_cons (pv 2) pa_nil)) pa_nil))) (fun _ _ => rfl)))
    (C8.pss_cut (ps_set (i := 12) sc_law.nd rfl (.inl rfl) (pe_ix ix_list (pe_lstB (pa_cons (pv 10) (pa_cons pe_str pa_nil))) (pe_callTy call_int1 (by rfl) T.m_int (by decide +kernel) (pa_cons (pe_and (pe_cmpR op_eq (pv 10) pe_str (nomark _)) (pe_one (pe_cmpR op_eq (pe_op op_mod (pv 11) pe_int) pe_int (nomark _)))) pa_nil)) (fun _ _ => rfl)))
    (pss_cons (ps_if (pt_cmpR op_ne (pe_callB (call_repr_any ga hr) (by rfl) T.m_repr (by decide +kernel) (pa_cons (pe_cal c_caught_L hr (by decide) (by rfl) (pa_cons (pv 4) (pa_cons (pv 12) (pa_cons (pv 8) (pa_cons (pv 11) pa_nil))))) pa_nil)) (pe_callB (call_repr_any ga hr) (by rfl) T.m_repr (by decide +kernel) (pa_cons (pe_cal c_due_L hr (by decide) (by rfl) (pa_cons (pv 5) (pa_cons (pv 10) (pa_cons (pv 8) (pa_cons (pv 11) pa_nil))))) pa_nil)) (nomark _)) (pss_one (ps_ret pe_bl)) pss_nil)
    (pss_cons (ps_set (i := 13) sc_law.nd rfl (.inl rfl) (pe_tup (pa_cons (pe_ix ix_list (pv 2) (pe_cal c_take_L hr (by decide) (by rfl) (pa_cons (pv 1) (pa_cons (pe_callB call_len_seq (by rfl) T.m_len (by decide +kernel) (pa_cons (pv 2) pa_nil)) pa_nil))) (fun _ _ => rfl)) (pa_cons (pe_cal c_take_L hr (by decide) (by rfl) (pa_cons (pv 1) (pa_cons pe_int pa_nil))) pa_nil))))
    (C8.pss_cut (ps_if (PW.pt (pw_and (pt_cmpR (op_neD hu64) (pe_ix ix_list (pv 5) pe_int (fun _ _ => rfl)) (pe_lstB pa_nil) (nomark _)) (pw_and1 (pt_cmpR op_gt (pe_cal c_take_L hr (by decide) (by rfl) (pa_cons (pv 1) (pa_cons pe_int pa_nil))) pe_int (nomark _))))) (pss_one (ps_set (i := 13) sc_law.nd rfl (.inl rfl) (pe_ix ix_list (pe_ix ix_list (pv 5) pe_int (fun _ _ => rfl)) (pe_cal c_take_L hr (by decide) (by rfl) (pa_cons (pv 1) (pa_cons (pe_callB call_len_seq (by rfl) T.m_len (by decide +kernel) (pa_cons (pe_ix ix_list (pv 5) pe_int (fun _ _ => rfl)) pa_nil)) pa_nil))) (fun _ _ => rfl)))) pss_nil)
    (pss_one (ps_if (pt_not (pt_val (pe_calG c_right_L ga hr (by decide) (by rfl) (pa_cons (pv 4) (pa_cons (pv 5) (pa_cons (pv 2) (pa_cons (pv 13) pa_nil))))))) (pss_one (ps_ret pe_bl)) pss_nil)))))))))))
    (pss_one (ps_if (PW.pt (pw_or (pt_not (pt_val (pe_calG c_refused_right_L ga hr (by decide) (by rfl) (pa_cons (pv 1) (pa_cons (pv 4) (pa_cons (pv 2) pa_nil)))))) (pw_or1 (pt_not (pt_val (pe_calG c_right_L ga hr (by decide) (by rfl) (pa_cons (pv 4) (pa_cons (pv 5) (pa_cons (pv 2) (pa_cons (pe_tup (pa_cons (pe_ix ix_list (pv 2) pe_int (fun _ _ => rfl)) (pa_cons pe_int pa_nil))) pa_nil)))))))))) (pss_one (ps_ret pe_bl)) pss_nil)))))
    (pss_one (ps_ret (pe_or (pe_cmpR (op_eqD hu64) (pe_mth0 (pv 6) T.cl_Queue c_Queue_waiting hr (by decide) ps0) (pe_lstB (pa_cons (pe_tup (pa_cons (pe_ix ix_list (pv 2) pe_int (fun _ _ => rfl)) (pa_cons pe_int pa_nil))) pa_nil)) (nomark _)) (pe_one (pe_and (pe_cmpR op_eq (pv 3) pe_int (nomark _)) (pe_one (pe_cmpR op_eq (pe_callB (call_lenO c_Queue_len hr (by decide)) (by rfl) T.m_len (by decide +kernel) (pa_cons (pv 6) pa_nil)) pe_int (nomark _)))))))))))))), ?_⟩)
  · obtain ⟨sc, ns, rfl, _⟩ := h
    rfl
  · obtain ⟨sc, ns, rfl, hs, hl, q⟩ := h
    walk_at "go"
    refine ⟨sc, ns, 0, rfl, hs, by omega, fun ce => ?_⟩
    walk_at "go"
    refine ⟨ce, rfl, fun bx H1 nbx s1 hB => ?_⟩
    walk_at "go"
    refine ⟨bx, 0, rfl, hB, by decide, fun D H2 N nD b2 hB2 eD lN hN => ?_⟩
    have nbD : D ≠ bx := hB.ne nD
    obtain ⟨w0, N', rfl⟩ : ∃ w0 N', N = w0 :: N' := by
      cases N with
      | nil => exact nomatch lN
      | cons a b => exact ⟨a, b, rfl⟩
    have hw0 := hN w0 List.mem_cons_self
    walk_at "go"
    refine r_take hB2 (fun large H3 l0 l1 hB3 b3 => ?_)
    refine ⟨_, _, rfl, ?_⟩
    walk_at "go"
    intro x dx nx ndx nex
    have t4 : Same H3 (upd (upd H3 dx (.own x)) x (.ins A.CQ dx [])) := fun b o e => by
      rw [upd_ne (ne_of_none e nx), upd_ne (ne_of_none e ndx)]
      exact e
    refine ⟨x, dx, rfl, upd_same, fun la lr H4 b4 q4 nla nlr => ⟨rfl, ?_⟩⟩
    have s4 : Same H3 H4 := fun b o e => b4 _ _ (ne_of_none e nx) (t4 _ _ e)
    have nla := t4.free nla
    have nlr := t4.free nlr
    clear t4 b4
    walk_at "go"
    refine newLB fun rl H5 nrl grl s5 erl => ?_
    walk_at "go"
    refine newLB fun ol H6 nol gol s6 eol => ?_
    walk_at "go"
    refine newLB fun S H7 nS gS s7 eS => ?_
    walk_at "go"
    intro y dy ny ndy ney
    have t8 : Same H7 (upd (upd H7 dy (.own y)) y (.ins A.CQ dy [])) := fun b o e => by
      rw [upd_ne (ne_of_none e ny), upd_ne (ne_of_none e ndy)]
      exact e
    refine ⟨y, dy, rfl, upd_same, fun la2 lr2 H8 b8 q8 nla2 nlr2 => ⟨rfl, ?_⟩⟩
    have s8 : Same H7 H8 := fun b o e => b8 _ _ (ne_of_none e ny) (t8 _ _ e)
    have nla2 := t8.free nla2
    have nlr2 := t8.free nlr2
    clear t8 b8
    walk_at "go"
    refine ⟨_, _, _, rfl, ?_⟩
    walk_at "go"
    obtain ⟨H9, rfl⟩ : ∃ H9, H9 = H8 := ⟨_, rfl⟩
    have s9 : Same H9 H9 := Same.refl _
    have q9 := q8
    obtain ⟨dxb, fsb, eb, _, _, nmb⟩ := id q9.ob
    refine ⟨y, dxb, fsb, rfl, eb, nmb.2 _ (by decide +kernel) (by decide +kernel), ?_⟩
    have s37 : Same H3 H7 := s4.trans (s5.trans (s6.trans s7))
    have s39 : Same H3 H9 := s37.trans (s8.trans s9)
    walk_at "go"
    refine r_ixL (sqL (s39 _ _ (b3 _ _ nbD eD))) (v := .str w0) (atI_nat (j := 0) rfl) ?_
    walk_at "go"
    refine .inl ⟨y, la2, lr2, 2, [], [], [], w0, 5, rfl, q9, hw0, List.not_mem_nil, by decide, fun tb H10 ntb fr10 q10 => ?_⟩
    walk_at "go"
    have s710 : Same H7 H10 := fun b u e => fr10 _ _ (ne_of_none e nla2) (ne_of_none e nlr2) (s9 _ _ (s8 _ _ e))
    have s310 : Same H3 H10 := s37.trans s710
    have fr3 : ∀ b ∈ [x, la, lr, S, rl, ol], H3 b = none := fun b hb => by
      simp only [List.mem_cons, List.not_mem_nil, or_false] at hb
      rcases hb with rfl | rfl | rfl | rfl | rfl | rfl
      · exact nx
      · exact nla
      · exact nlr
      · exact (s4.trans (s5.trans s6)).free nS
      · exact s4.free nrl
      · exact (s4.trans s5).free nol
    have q6 := (q4.same s5).same s6
    have q7 := q6.same s7
    obtain ⟨s0, hs0⟩ : ∃ s0 : St, s0 = ⟨S, rl, ol, [], []⟩ := ⟨_, rfl⟩
    have fp0 : s0.fp = [S, rl, ol] := by rw [hs0]; rfl
    have row0 : s0.row = [] := by rw [hs0]; rfl
    have S0 : s0.S = S := by rw [hs0]
    have st7 : StAt H7 s0 [] := by
      refine ⟨by rw [hs0]; exact eS, by rw [hs0]; exact s7 _ _ (s6 _ _ erl), fun _ z => (by rw [hs0] at z; exact nomatch z), by rw [hs0]; exact ⟨s7 _ _ eol, rfl, fun _ _ _ z => nomatch z⟩, ?_, by rw [row0]; exact List.nodup_nil, fun _ z => (nomatch z), fun _ => ⟨fun z => (by rw [row0] at z; exact nomatch z), fun ⟨_, z⟩ => (nomatch z)⟩, Nat.zero_le _⟩
      rw [fp0]
      have n1 := ne_of_none (s6 _ _ erl) nS
      have n2 := ne_of_none eol nS
      have n3 := ne_of_none erl nol
      simp only [List.nodup_cons, List.mem_cons, List.not_mem_nil, or_false, not_or, List.nodup_nil, and_true, not_false_eq_true]
      exact ⟨⟨n1.symm, n2.symm⟩, n3⟩
    obtain ⟨Hb, hHb⟩ : ∃ Hb : Hp, Hb = fun b => if b ∈ [bx, x, la, lr, S, rl, ol] then none else H10 b := ⟨_, rfl⟩
    have hb1 : ∀ {b u}, H10 b = some u → b ∉ [bx, x, la, lr, S, rl, ol] → Hb b = some u := fun {b u} e n => by rw [hHb]; exact (if_neg n).trans e
    have hb2 : ∀ {b u}, Hb b = some u → H10 b = some u ∧ b ∉ [bx, x, la, lr, S, rl, ol] := fun {b u} e => by
      rw [hHb] at e
      have e : (if b ∈ [bx, x, la, lr, S, rl, ol] then none else H10 b) = some u := e
      by_cases n : b ∈ [bx, x, la, lr, S, rl, ol]
      · rw [if_pos n] at e; exact nomatch e
      · rw [if_neg n] at e; exact ⟨e, n⟩
    have hbb : Hb bx = none := by
      cases z : Hb bx with
      | none => rfl
      | some u => exact absurd (hb2 z).2 (by simp)
    have hB10 : Box bx 40 H10 := (hB3.mono (by omega)).same s310
    have nbx : ∀ b ∈ [x, la, lr, S, rl, ol], b ≠ bx := fun b hb => hB3.ne (fr3 b hb)
    have offb : bx ∉ [x, la, lr] ∧ bx ∉ s0.fp := by
      rw [fp0]
      simp only [List.mem_cons, List.not_mem_nil, or_false, not_or]
      refine ⟨⟨(nbx _ ?_).symm, (nbx _ ?_).symm, (nbx _ ?_).symm⟩, (nbx _ ?_).symm, (nbx _ ?_).symm, (nbx _ ?_).symm⟩ <;> simp
    have n7 : ∀ {b u}, H3 b = some u → b ≠ bx → b ∉ [bx, x, la, lr, S, rl, ol] := fun {b u} e n z => by
      rcases List.mem_cons.mp z with z | z
      · exact n z
      · rw [fr3 b z] at e; exact nomatch e
    have n10 : ∀ {b}, H7 b = none → b ∉ [bx, x, la, lr, S, rl, ol] := fun {b} e z => by
      have a1 := q7.nin e
      have a2 := st7.nin e
      rw [fp0] at a2
      have a3 : b ≠ bx := (hB3.same s37).ne e
      simp only [List.mem_cons, List.not_mem_nil, or_false, not_or] at a1 a2 z
      rcases z with z | z | z | z | z | z | z
      · exact a3 z
      · exact a1.1 z
      · exact a1.2.1 z
      · exact a1.2.2 z
      · exact a2.1 z
      · exact a2.2.1 z
      · exact a2.2.2 z
    have t10 : ∀ {b xs}, H10 b = some (.tup xs) → b ∉ [bx, x, la, lr, S, rl, ol] := fun {b xs} e z => by
      have a1 := (q7.same s710).ntup e
      have a2 := (st7.same s710).ntup e
      rw [fp0] at a2
      have a3 : b ≠ bx := hB10.ne_tup e
      simp only [List.mem_cons, List.not_mem_nil, or_false, not_or] at a1 a2 z
      rcases z with z | z | z | z | z | z | z
      · exact a3 z
      · exact a1.1 z
      · exact a1.2.1 z
      · exact a1.2.2 z
      · exact a2.1 z
      · exact a2.2.1 z
      · exact a2.2.2 z
    have L0 : Lw A Hb x la lr s0 H10 [] := by
      refine ⟨⟨[], by rw [row0]; exact q7.same s710⟩, st7.same s710, fun _ z => (nomatch z), fun b hb z => ?_, fun b u e => ?_⟩
      · rw [fp0] at z
        simp only [List.mem_cons, List.not_mem_nil, or_false] at z
        rcases z with rfl | rfl | rfl
        · exact q6.nin nS hb
        · exact q4.nin nrl hb
        · exact (q4.same s5).nin nol hb
      · obtain ⟨e1, n1⟩ := hb2 e
        rw [fp0]
        refine ⟨e1, fun z => n1 ?_, fun z => n1 ?_⟩
        · simp only [List.mem_cons, List.not_mem_nil, or_false] at z ⊢
          rcases z with h | h | h <;> simp [h]
        · simp only [List.mem_cons, List.not_mem_nil, or_false] at z ⊢
          rcases z with h | h | h <;> simp [h]
    have h3 : ∀ {b u}, H b = some u → H3 b = some u ∧ b ≠ bx := fun {b u} e => by
      have n := ne_of_none e ‹H bx = none›
      exact ⟨b3 _ _ n (b2 _ _ n (s1 _ _ e)), n⟩
    have M0 : Mi A H w0 y la2 lr2 D (w0 :: N') large Hb := by
      refine ⟨fun b u e => hb1 (s310 _ _ (h3 e).1) (n7 (h3 e).1 (h3 e).2), hb1 (s310 _ _ (b3 _ _ nbD eD)) (n7 (b3 _ _ nbD eD) nbD), by rw [lN]; decide, by rw [lN]; decide, hN, ⟨_, _, q10.keepB (fun b u m e => hb1 e ?_) fun b xs e => hb1 e (t10 e)⟩, fun _ => rfl⟩
      simp only [List.mem_cons, List.not_mem_nil, or_false] at m
      rcases m with rfl | rfl | rfl
      · exact n10 ny
      · exact n10 nla2
      · exact n10 nlr2
    clear st7 q7 q6 q4 q10 q9 q8 t10 n10 n7 h3 hb1 hb2 hHb fr3 nbx s710 s310 s39 s37 s8 s9 s4 s5 s6 s7 eS eol erl eb nmb fr10 hB3 hB2 hB b2 b3 eD
    refine r_cut (fun σ G => ∃ (E : Addr) (N : List Str) (Hb : Hp) (la lr : Addr) (s : St) (as : List (Str × Nat)) (x1 x7 x8 x9 x10 x11 x12 x13 : Option V), σ = [some (.ref sc), x1, some (.ref E), some (.int large), some (.ref x), some (.ref S), some (.ref y), x7, x8, x9, x10, x11, x12, x13] ∧ Mi A H w0 y la2 lr2 E N large Hb ∧ s.S = S ∧ Lw A Hb x la lr s G as) ?_ ?_
    · walk_at "go"
      refine iteC (fun h0 => ?_) (fun h0 => ?_)
      · have h0' : large = 0 := by injection h0
        walk_at "go"
        refine r_cut (fun σ G => ∃ (E : Addr) (N : List Str) (Hb : Hp) (x7 x8 x9 x10 x11 x12 x13 : Option V), σ = [some (.ref sc), some (.ref bx), some (.ref E), some (.int large), some (.ref x), some (.ref S), some (.ref y), x7, x8, x9, x10, x11, x12, x13] ∧ Mi A H w0 y la2 lr2 E N large Hb ∧ Lw A Hb x la lr s0 G [] ∧ Box bx 200 G ∧ Hb bx = none) ?_ ?_
        · walk_at "go"
          refine r_take hB10 fun d H11 d0 d1 hB11 b11 => ?_
          have L1 := L0.but hB10 offb hbb b11
          walk_at "go"
          refine iteC (fun _ => ?_) (fun _ => ?_)
          · walk_at "go"
            refine ⟨bx, _, rfl, hB11, by decide, fun p G NS np bt hB' ep l60 hok => ?_⟩
            walk_at "go"
            have nbp : p ≠ bx := hB11.ne np
            have L2 := L1.but hB11 offb hbb bt
            have np' : Hb p = none := L1.hb np
            refine ⟨p, NS, upd Hb p (.lst (NS.map V.str)), _, _, _, _, _, _, _, rfl, ⟨fun b u e => ?_, upd_same, by omega, by omega, hok, ?_, fun z => absurd h0' z⟩, L2.more ep (L1.off np), hB'.mono (by omega), by rw [upd_ne nbp.symm]; exact hbb⟩
            · have e1 := M0.sub _ _ e
              rw [upd_ne (ne_of_none e1 np')]; exact e1
            · obtain ⟨tq, rw_, qb⟩ := M0.bs
              exact ⟨tq, rw_, qb.same (same_upd np')⟩
          · walk_at "go"
            exact ⟨_, _, _, _, _, _, _, _, _, _, rfl, M0, L1, hB11.mono (by decide), hbb⟩
        · clear L0 M0 hB10 hbb
          rintro σ G ⟨E, N, Hb, x7, x8, x9, x10, x11, x12, x13, rfl, M, L, hB, hbb⟩
          walk_at "go"
          refine r_take hB fun d H11 d0 d1 hB11 b11 => ?_
          walk_at "go"
          refine ⟨_, rfl, by omega, by omega, ?_⟩
          have L := L.but hB offb hbb b11
          have n60 : (57 + d).toNat ≤ 60 := by omega
          generalize (57 + d).toNat = n at n60 ⊢
          refine for_range (n := n) (fun k σ G => ∃ (la lr : Addr) (s : St) (as : List (Str × Nat)) (x8 : Option V), (∃ x7, σ = [some (.ref sc), some (.ref bx), some (.ref E), some (.int large), some (.ref x), some (.ref S), some (.ref y), x7, x8, x9, x10, x11, x12, x13]) ∧ s.S = S ∧ Lw A Hb x la lr s G as ∧ (bx ∉ [x, la, lr] ∧ bx ∉ s.fp) ∧ Box bx (300 + k) G)
            ⟨la, lr, s0, [], _, ⟨_, rfl⟩, S0, L, offb, hB11.mono (by omega)⟩ ?_ ?_
          · clear L offb hB11 hB b11
            rintro k σ G hk ⟨la, lr, s, as, x8, ⟨x7, rfl⟩, hS, L, off, hB⟩
            rw [Int.zero_add]
            walk_at "go"
            refine r_I (cmul (by omega) (by omega) (by omega) (by omega)) ?_
            walk_at "go"
            refine newLB fun l G1 nl gl s1 el => ?_
            have nlb : l ≠ bx := hB.ne nl
            have L := L.same s1
            walk_at "go"
            refine r_take (hB.same s1) fun d G2 d0 d1 hB2 b2 => ?_
            have L := L.but (hB.same s1) off hbb b2
            walk_at "go"
            refine r_ixLo (sqL (b2 _ _ nlb el)) d0 d1 fun v hv _ => ?_
            obtain ⟨j, rfl, hj⟩ : ∃ j : Int, v = .int j ∧ 0 ≤ j := by
              simp only [List.mem_cons, List.not_mem_nil, or_false] at hv
              rcases hv with rfl | rfl
              · exact ⟨_, rfl, by omega⟩
              · exact ⟨_, rfl, Int.mul_nonneg (by omega) (by omega)⟩
            walk_at "go"
            have eN := (L.fx _ _ M.en).1
            refine ⟨E, _, rfl, .inl (sqL eN), ?_⟩
            have N1 : 0 < (N.length : Int) := by have := M.n0; omega
            rw [List.length_map]
            walk_at "go"
            refine r_I N1 ?_
            refine r_ixLo (sqL eN) (Int.emod_nonneg _ (by omega)) (by rw [List.length_map]; exact Int.emod_lt_of_pos _ N1) fun v hv _ => ?_
            obtain ⟨w, hwN, rfl⟩ := List.mem_map.mp hv
            have hw := M.ok w hwN
            have hsm : small k := Nat.lt_of_lt_of_le (show k < 100 by omega) (by decide)
            have has : ∀ q ∈ as, nameOk q.1 = true ∧ small q.2 := fun q hq => ⟨L.st.ok q hq, L.sm q hq⟩
            obtain ⟨tq, hQ⟩ := L.q
            walk_at "go"
            refine ⟨x, la, lr, 2, tq, as, s.row, "put", .str w, .int k, rfl, hQ, by decide, .inl ⟨w, k, "put", rfl, rfl, hw, .inr (.inr rfl), .inl rfl, fun p la' lr' ts' as' row' ds us H1 st nw fr q1 ep dq => ?_⟩⟩
            walk_at "go"
            refine ⟨_, _, rfl, .inl (shq_step st hw hsm has L.st.small ep dq), ?_⟩
            walk_at "go"
            refine ⟨s, as, "put", w, k, by rw [hS]; rfl, L.mid fr, hw, .inr (.inr rfl), fun p2 s2 as2 ds2 us2 H2 st2 hS2 nw2 fr2 sa2 ep2 dq2 => ?_⟩
            walk_at "go"
            refine ⟨_, _, rfl, .inl (shq_step st2 hw hsm has L.st.small ep2 dq2), ?_⟩
            obtain ⟨rfl, rfl, er⟩ := Step.one st st2 rfl
            obtain ⟨L2, kp⟩ := L.step fr nw q1 fr2 nw2 sa2 er (st.sm L.sm hsm)
            obtain ⟨a, b, c, eb, hb⟩ := hB2
            obtain ⟨eb', o1, o2⟩ := kp _ _ eb off.1 off.2
            walk_at "go"
            rw [decide_eq_true rfl]
            walk_at "go"
            exact ⟨la', lr', s2, _, _, ⟨_, rfl⟩, hS2.trans hS, L2, ⟨o1, o2⟩, a, b, c, eb', by omega⟩
          · rintro σ G ⟨la, lr, s, as, x8, ⟨x7, rfl⟩, hS, L, off, hB⟩
            exact ⟨E, N, Hb, la, lr, s, as, _, _, _, _, _, _, _, _, rfl, M, hS, L⟩
      · walk_at "go"
        exact ⟨_, _, _, _, _, _, _, _, _, _, _, _, _, _, _, rfl, M0, S0, L0⟩
    · clear L0 M0 hB10 offb hbb
      rintro σ G ⟨E, N, Hb, la, lr, s, as, x1, x7, x8, x9, x10, x11, x12, x13, rfl, M, hS, L⟩
      have hs' : ∀ {G'}, (∀ b u, Hb b = some u → G' b = some u) → SqL K G' sc (ns.map V.int) := fun h => Same.seq (fun b u e => h _ _ (M.sub _ _ e)) hs
      walk_at "go"
      refine ⟨sc, _, rfl, .inl (hs' fun b u e => (L.fx b u e).1), ?_⟩
      walk_at "go"
      refine ⟨_, _, rfl, ?_⟩
      walk_at "go"
      refine ⟨_, _, rfl, ?_⟩
      walk_at "go"
      rw [List.length_map]
      have hn : ((if (if 31 < (ns.length : Int) then (31 : Int) else ns.length) > 4 then if 31 < (ns.length : Int) then (31 : Int) else ns.length else 4) - 1).toNat ≤ 100 := by
        split <;> split <;> omega
      refine ⟨_, _, rfl, ⟨by decide, by decide, ?_, ?_⟩, ?_⟩
      · split <;> omega
      · split <;> omega
      generalize ((if (if 31 < (ns.length : Int) then (31 : Int) else ns.length) > 4 then if 31 < (ns.length : Int) then (31 : Int) else ns.length else 4) - 1).toNat = n at hn ⊢
      refine for_range (lo := 1) (n := n) (fun k σ G => ∃ (la lr : Addr) (s : St) (as : List (Str × Nat)), (∃ x1 x7 x8 x9 x10 x11 x12 x13, σ = [some (.ref sc), x1, some (.ref E), some (.int large), some (.ref x), some (.ref S), some (.ref y), x7, x8, x9, x10, x11, x12, x13]) ∧ s.S = S ∧ Lw A Hb x la lr s G as)
        ⟨la, lr, s, as, ⟨_, _, _, _, _, _, _, _, rfl⟩, hS, L⟩ ?_ ?_
      · clear L hS
        rintro k σ G hk ⟨la, lr, s, as, ⟨x1, x7, x8, x9, x10, x11, x12, x13, rfl⟩, hS, L⟩
        have k1 : (1 : Int) + (k : Int) = ((1 + k : Nat) : Int) := by omega
        rw [k1]
        walk_at "go"
        refine ⟨sc, ns, 1 + k, rfl, hs' fun b u e => (L.fx b u e).1, by omega, fun c => ?_⟩
        walk_at "go"
        refine ⟨c, rfl, fun by_ G1 nby s1 hB => ?_⟩
        have off := L.off nby
        have hbb := L.hb nby
        have L := L.same s1
        clear s1 nby
        walk_at "go"
        refine r_take hB fun m G2 m0 m1 hB2 b2 => ?_
        have L := L.but hB off hbb b2
        walk_at "go"
        refine ⟨_, rfl, by omega, by omega, ?_⟩
        have n3 : (1 + m).toNat ≤ 3 := by omega
        generalize (1 + m).toNat = n3' at n3 ⊢
        refine for_range (n := n3') (fun t σ G => ∃ (la lr : Addr) (s : St) (as : List (Str × Nat)), (∃ x8 x9 x10 x11 x12 x13, σ = [some (.ref sc), some (.ref by_), some (.ref E), some (.int large), some (.ref x), some (.ref S), some (.ref y), some (.int ((1 + k : Nat) : Int)), x8, x9, x10, x11, x12, x13]) ∧ s.S = S ∧ Lw A Hb x la lr s G as ∧ (by_ ∉ [x, la, lr] ∧ by_ ∉ s.fp) ∧ Box by_ (1 + 20 * t) G)
          ⟨la, lr, s, as, ⟨_, _, _, _, _, _, rfl⟩, hS, L, off, hB2⟩ ?_ ?_
        · clear L hS off hB hB2 b2
          rintro t σ G ht ⟨la, lr, s, as, ⟨x8, x9, x10, x11, x12, x13, rfl⟩, hS, L, off, hB⟩
          walk_at "go"
          refine newLB fun l G1 nl gl s1 el => ?_
          have nlb : l ≠ by_ := hB.ne nl
          have L := L.same s1
          walk_at "go"
          refine r_take (hB.same s1) fun d G2 d0 d1 hB2 b2 => ?_
          have L := L.but (hB.same s1) off hbb b2
          refine r_ixLo (sqL (b2 _ _ nlb el)) d0 d1 fun v hv _ => ?_
          obtain ⟨deed, rfl, hdeed⟩ : ∃ deed : Str, v = .str deed ∧ (deed = "serve" ∨ deed = "leave" ∨ deed = "put") := by
            simp only [List.mem_cons, List.not_mem_nil, or_false] at hv
            rcases hv with rfl | rfl | rfl | rfl | rfl | rfl
            · exact ⟨_, rfl, .inr (.inr rfl)⟩
            · exact ⟨_, rfl, .inr (.inr rfl)⟩
            · exact ⟨_, rfl, .inr (.inr rfl)⟩
            · exact ⟨_, rfl, .inl rfl⟩
            · exact ⟨_, rfl, .inl rfl⟩
            · exact ⟨_, rfl, .inr (.inl rfl)⟩
          walk_at "go"
          refine r_cut (fun σ G => ∃ (deed : Str), (deed = "serve" ∨ deed = "leave" ∨ deed = "put") ∧ σ = [some (.ref sc), some (.ref by_), some (.ref E), some (.int large), some (.ref x), some (.ref S), some (.ref y), some (.int ((1 + k : Nat) : Int)), x8, some (.int (0 + (t : Int))), some (.str deed), x11, x12, x13] ∧ Lw A Hb x la lr s G as ∧ Box by_ (1 + 20 * t + 2) G) ?_ ?_
          · walk_at "go"
            refine iteC (fun _ => ?_) (fun _ => ?_)
            · walk_at "go"
              refine r_take hB2 fun g G3 g0 g1 hB3 b3 => ?_
              have L := L.but hB2 off hbb b3
              walk_at "go"
              refine iteC (fun _ => ?_) (fun _ => ?_)
              · walk_at "go"
                exact ⟨_, .inr (.inr rfl), rfl, L, hB3.mono (by omega)⟩
              · walk_at "go"
                exact ⟨_, hdeed, rfl, L, hB3.mono (by omega)⟩
            · walk_at "go"
              exact ⟨_, hdeed, rfl, L, hB2.mono (by omega)⟩
          · clear L hB hB2 b2 s1 el nl gl nlb hdeed
            rintro σ G ⟨deed, hdeed, rfl, L, hB⟩
            walk_at "go"
            refine r_take hB fun e1 G1 e10 e11 hB1 b1 => ?_
            have L := L.but hB off hbb b1
            walk_at "go"
            refine r_take hB1 fun e2 G2 e20 e21 hB2 b2 => ?_
            have L := L.but hB1 off hbb b2
            walk_at "go"
            refine r_I ⟨by decide, by decide, by decide⟩ ?_
            walk_at "go"
            refine newLB fun l2 G3 nl2 gl2 s3 el2 => ?_
            have nlb2 : l2 ≠ by_ := hB2.ne nl2
            have L := L.same s3
            walk_at "go"
            refine r_take (hB2.same s3) fun e3 G4 e30 e31 hB4 b4 => ?_
            have L := L.but (hB2.same s3) off hbb b4
            refine r_ixLo (sqL (b4 _ _ nlb2 el2)) e30 e31 fun v hv _ => ?_
            obtain ⟨i, rfl, hi⟩ : ∃ i : Nat, v = .int i ∧ small i := by
              simp only [List.mem_cons, List.not_mem_nil, or_false] at hv
              rcases hv with rfl | rfl | rfl
              · obtain ⟨i, rfl⟩ := Int.eq_ofNat_of_zero_le e10
                exact ⟨i, rfl, Nat.lt_of_lt_of_le (show i < 100 by omega) (by decide)⟩
              · obtain ⟨i, rfl⟩ := Int.eq_ofNat_of_zero_le e20
                exact ⟨i, rfl, Nat.lt_of_lt_of_le (show i < 100 by omega) (by decide)⟩
              · exact ⟨10 ^ 30 - 1, rfl, (by decide : (10 ^ 30 - 1 : Nat) < 10 ^ 31)⟩
            clear hv el2 b1 b2 b4 hB1 hB2 hB s3 nl2
            walk_at "go"
            have eN := (L.fx _ _ M.en).1
            refine ⟨E, _, rfl, .inl (sqL eN), ?_⟩
            have N1 : 0 < (N.length : Int) := by have := M.n0; omega
            have N6 := M.n60
            rw [List.length_map]
            walk_at "go"
            refine r_take hB4 (fun e5 G5 e50 e51 hB5 b5 => ?_) (by omega) (by omega) (by omega)
            have L := L.but hB4 off hbb b5
            have eN := (L.fx _ _ M.en).1
            refine r_ixLo (sqL eN) e50 (by rw [List.length_map]; exact e51) fun v hv _ => ?_
            obtain ⟨w, hwN, rfl⟩ := List.mem_map.mp hv
            have hw := M.ok w hwN
            walk_at "go"
            refine r_cut (fun σ G => ∃ (byv : Str), (deed = deed ∧ (byv = deed ∨ (byv = "by name" ∧ deed = "put"))) ∧ σ = [some (.ref sc), some (.ref by_), some (.ref E), some (.int large), some (.ref x), some (.ref S), some (.ref y), some (.int ((1 + k : Nat) : Int)), some (.str w), some (.int (0 + (t : Int))), some (.str deed), some (.int i), some (.str byv), x13] ∧ Lw A Hb x la lr s G as ∧ Box by_ (1 + 20 * t + 10) G) ?_ ?_
            · walk_at "go"
              refine newLB fun l6 G6 nl6 gl6 s6 el6 => ?_
              have L := L.same s6
              have hB6 := hB5.same s6
              walk_at "go"
              refine iteC (fun hp => ?_) (fun hp => ?_)
              · have hp : deed = "put" := by injection hp
                walk_at "go"
                refine r_I (by decide) ?_
                walk_at "go"
                refine .inr ⟨_, rfl, ?_⟩
                by_cases h2 : (i : Int) % 2 = 1
                · rw [decide_eq_true (by rw [h2])]
                  refine r_ixL (sqL el6) (v := .str "by name") rfl ?_
                  walk_at "go"
                  exact ⟨_, ⟨rfl, .inr ⟨rfl, hp⟩⟩, rfl, L, hB6.mono (by omega)⟩
                · rw [decide_eq_false (fun z => h2 (by injection z))]
                  refine r_ixL (sqL el6) (v := .str deed) rfl ?_
                  walk_at "go"
                  exact ⟨_, ⟨rfl, .inl rfl⟩, rfl, L, hB6.mono (by omega)⟩
              · walk_at "go"
                refine .inr ⟨_, rfl, ?_⟩
                refine r_ixL (sqL el6) (v := .str deed) rfl ?_
                walk_at "go"
                exact ⟨_, ⟨rfl, .inl rfl⟩, rfl, L, hB6.mono (by omega)⟩
            · clear L hB4 hB5 b5 hwN
              rintro σ G ⟨byv, ⟨_, hby⟩, rfl, L, hB⟩
              have has : ∀ q ∈ as, nameOk q.1 = true ∧ small q.2 := fun q hq => ⟨L.st.ok q hq, L.sm q hq⟩
              obtain ⟨tq, hQ⟩ := L.q
              walk_at "go"
              refine ⟨x, la, lr, 2, tq, as, s.row, byv, .str w, .int i, rfl, hQ, by decide, .inl ⟨w, i, deed, rfl, rfl, hw, hdeed, hby, fun p la' lr' ts' as' row' ds us H1 st nw fr q1 ep dq => ?_⟩⟩
              walk_at "go"
              refine ⟨_, _, rfl, .inl (shq_step st hw hi has L.st.small ep dq), ?_⟩
              walk_at "go"
              refine ⟨s, as, deed, w, i, by rw [hS]; rfl, L.mid fr, hw, hdeed, fun p2 s2 as2 ds2 us2 H2 st2 hS2 nw2 fr2 sa2 ep2 dq2 => ?_⟩
              walk_at "go"
              refine ⟨_, _, rfl, .inl (shq_step st2 hw hi has L.st.small ep2 dq2), ?_⟩
              obtain ⟨rfl, rfl, er⟩ := Step.one st st2 rfl
              obtain ⟨L2, kp⟩ := L.step fr nw q1 fr2 nw2 sa2 er (st.sm L.sm hi)
              have hB2 : Box by_ (1 + 20 * t + 10) H2 ∧ by_ ∉ [x, la', lr'] ∧ by_ ∉ s2.fp := by
                obtain ⟨a, b, c, eb, hb⟩ := hB
                obtain ⟨eb', o1, o2⟩ := kp _ _ eb off.1 off.2
                exact ⟨⟨a, b, c, eb', hb⟩, o1, o2⟩
              obtain ⟨hB2, off2⟩ := hB2
              walk_at "go"
              rw [decide_eq_true rfl]
              have hS2 := hS2.trans hS
              clear L has hQ st st2 fr nw q1 ep dq fr2 nw2 sa2 er ep2 dq2 kp hB off hS
              walk_at "go"
              have eN := (L2.fx _ _ M.en).1
              have N1 : 0 < (N.length : Int) := by have := M.n0; omega
              have N6 := M.n60
              refine ⟨E, _, rfl, .inl (sqL eN), ?_⟩
              rw [List.length_map]
              walk_at "go"
              refine r_take hB2 (fun d3 G3 d30 d31 hB3 b3 => ?_) (by omega) (by omega) (by omega)
              have L2 := L2.but hB2 off2 hbb b3
              have eN := (L2.fx _ _ M.en).1
              refine r_ixLo (sqL eN) d30 (by rw [List.length_map]; exact d31) fun v hv _ => ?_
              obtain ⟨wa, hwN, rfl⟩ := List.mem_map.mp hv
              have hwa := M.ok wa hwN
              walk_at "go"
              refine r_take hB3 (fun ka G4 ka0 ka1 hB4 b4 => ?_) (by omega)
              have L2 := L2.but hB3 off2 hbb b4
              obtain ⟨ka, rfl⟩ := Int.eq_ofNat_of_zero_le ka0
              walk_at "go"
              refine newT fun ta G5 nta s5 eta => ?_
              have L2 := L2.same s5
              have hB5 := hB4.same s5
              show C8.tCut _ _ _ _ _
              refine r_cut (fun σ G => ∃ (ta : Addr) (xa : Str) (ia : Nat), σ = [some (.ref sc), some (.ref by_), some (.ref E), some (.int large), some (.ref x), some (.ref S), some (.ref y), some (.int ((1 + k : Nat) : Int)), some (.str w), some (.int (0 + (t : Int))), some (.str deed), some (.int i), some (.str byv), some (.ref ta)] ∧ G ta = some (.tup [.str xa, .int ia]) ∧ nameOk xa = true ∧ small ia ∧ Lw A Hb x la' lr' s2 G as' ∧ Box by_ (1 + 20 * t + 20) G) ?_ ?_
              · walk_at "go"
                have top : ∀ {G}, Lw A Hb x la' lr' s2 G as' → SqL K G S [.ref s2.rl, .ref s2.ol] := fun L => by
                  have z := L.st.top
                  rw [hS2] at z
                  exact sqL z
                refine r_ixL (top L2) (v := .ref s2.ol) rfl ?_
                walk_at "go"
                refine newLB fun l7 G6 nl7 gl7 s7 el7 => ?_
                have L2 := L2.same s7
                have hB6 := hB5.same s7
                have ao : asOk as' := fun q hq => str_of_name (L2.st.ok q hq)
                walk_at "go"
                refine ⟨_, _, L2.st.ord.dp, .lst (sqL el7) .nil, sh_ask ao, sh_nil, ?_⟩
                rw [eqv_nil]
                walk_at "go"
                refine iteNC (fun hne => ?_) (fun _ => ?_)
                · have n1 : 0 < as'.length := by
                    cases as' with
                    | nil => exact absurd rfl hne
                    | cons a b => exact Nat.succ_pos _
                  walk_at "go"
                  refine r_take hB6 (fun g G7 g0 g1 hB7 b7 => ?_) (by omega)
                  have L3 := L2.but hB6 off2 hbb b7
                  walk_at "go"
                  refine iteC (fun _ => ?_) (fun _ => ?_)
                  · walk_at "go"
                    refine r_ixL (top L3) (v := .ref s2.ol) rfl ?_
                    walk_at "go"
                    refine r_ixL (top L3) (v := .ref s2.ol) rfl ?_
                    walk_at "go"
                    refine ⟨s2.ol, _, rfl, .inl (sqL L3.st.ord.at_), ?_⟩
                    have l60 := L3.st.small
                    rw [List.length_map, L3.st.ord.len]
                    walk_at "go"
                    refine r_take hB7 (fun g2 G8 g20 g21 hB8 b8 => ?_) (by omega) (by omega) (by omega)
                    have L4 := L3.but hB7 off2 hbb b8
                    obtain ⟨g2, rfl⟩ := Int.eq_ofNat_of_zero_le g20
                    have hg2 : g2 < as'.length := by omega
                    have hg3 : g2 < s2.ts.length := by rw [L4.st.ord.len]; exact hg2
                    refine r_ixL (sqL L4.st.ord.at_) (v := .ref s2.ts[g2]) (atI_nat (by rw [List.getElem?_map, List.getElem?_eq_getElem hg3]; rfl)) ?_
                    have hm : as'[g2] ∈ as' := List.getElem_mem hg2
                    walk_at "go"
                    exact ⟨_, as'[g2].1, as'[g2].2, rfl, L4.st.ord.row g2 _ _ (List.getElem?_eq_getElem hg3) (List.getElem?_eq_getElem hg2), L4.st.ok _ hm, L4.sm _ hm, L4, hB8.mono (by omega)⟩
                  · walk_at "go"
                    exact ⟨_, wa, ka, rfl, b7 _ _ (hB6.ne_tup (s7 _ _ eta)) (s7 _ _ eta), hwa, Nat.lt_of_lt_of_le (show ka < 100 by omega) (by decide), L3, hB7.mono (by omega)⟩
                · walk_at "go"
                  exact ⟨_, wa, ka, rfl, s7 _ _ eta, hwa, Nat.lt_of_lt_of_le (show ka < 100 by omega) (by decide), L2, hB6.mono (by omega)⟩
              · clear L2 hB2 hB3 hB4 hB5 b3 b4 s5 eta nta eN
                rintro σ G ⟨ta, xa, ia, rfl, eta, hxa, hia, L, hB⟩
                obtain ⟨tq, hQ⟩ := L.q
                walk_at "go"
                refine ⟨x, la', lr', 2, tq, as', s2, E, ta, N, xa, ia, by rw [hS2]; rfl, hQ, L.st, by decide, (L.fx _ _ M.en).1, M.n60, M.ok, eta, hxa, hia, L.sm, fun G' s' => ?_⟩
                walk_at "go"
                exact ⟨la', lr', s2, as', ⟨_, _, _, _, _, _, rfl⟩, hS2, L.same s', off2, (hB.same s').mono (by omega)⟩
        · rintro σ G ⟨la, lr, s, as, ⟨x8, x9, x10, x11, x12, x13, rfl⟩, hS, L, off, hB⟩
          obtain ⟨tq, hQ⟩ := L.q
          walk_at "go"
          have hbE : by_ ≠ E := fun z => by have w := M.en; rw [← z, hbb] at w; exact nomatch w
          refine ⟨by_, x, la, lr, 2, tq, as, s.row, E, N, _, rfl, hQ, by decide, hB, ?_, by omega, (L.fx _ _ M.en).1, M.n0, M.n60, M.ok, fun G1 hB1 b1 => ?_⟩
          · have o1 := off.1
            simp only [List.mem_cons, List.not_mem_nil, or_false, not_or] at o1 ⊢
            exact ⟨o1.1, o1.2.1, o1.2.2, hbE⟩
          have L := L.but hB off hbb b1
          obtain ⟨tq, hQ⟩ := L.q
          walk_at "go"
          obtain ⟨w1, N', eN'⟩ : ∃ w1 N', N = w1 :: N' := by
            have n0 := M.n0
            cases N with
            | nil => exact absurd n0 (Nat.lt_irrefl 0)
            | cons a b => exact ⟨a, b, rfl⟩
          have eN := (L.fx _ _ M.en).1
          refine r_ixL (sqL eN) (v := .str w1) (by rw [eN']; exact atI_nat (j := 0) rfl) ?_
          walk_at "go"
          refine newT fun tz G2 ntz s2 etz => ?_
          have L := L.same s2
          obtain ⟨tq, hQ⟩ := L.q
          walk_at "go"
          refine ⟨x, la, lr, 2, tq, as, s, E, tz, N, w1, 0, by rw [hS]; rfl, hQ, L.st, by decide, (L.fx _ _ M.en).1, M.n60, M.ok, etz, M.ok w1 (by rw [eN']; exact List.mem_cons_self), (by decide : 0 < 10 ^ 31), L.sm, fun G' s' => ?_⟩
          walk_at "go"
          exact ⟨la, lr, s, as, ⟨_, _, _, _, _, _, _, _, rfl⟩, hS, L.same s'⟩
      · rintro σ G ⟨la, lr, s, as, ⟨x1, x7, x8, x9, x10, x11, x12, x13, rfl⟩, hS, L⟩
        walk_at "go"
        obtain ⟨tqb, rowb, qb⟩ := M.bs
        have sb : Same Hb G := fun b u e => (L.fx b u e).1
        have qb := qb.same sb
        obtain ⟨w1, N', eN'⟩ : ∃ w1 N', N = w1 :: N' := by
          have n0 := M.n0
          cases N with
          | nil => exact absurd n0 (Nat.lt_irrefl 0)
          | cons a b => exact ⟨a, b, rfl⟩
        have hw1 := M.ok w1 (by rw [eN']; exact List.mem_cons_self)
        have hd := M.hd
        rw [eN'] at hd
        obtain ⟨dxb, fsb, eb, _, _, nmb⟩ := id qb.ob
        refine ⟨y, dxb, fsb, rfl, eb, nmb.2 _ (by decide +kernel) (by decide +kernel), ?_⟩
        walk_at "go"
        refine ⟨y, la2, lr2, 2, tqb, _, rowb, rfl, qb, fun p G1 np s1 ap => ?_⟩
        walk_at "go"
        refine r_ixL (sqL (s1 _ _ (L.fx _ _ M.en).1)) (v := .str w1) (by rw [eN']; exact atI_nat (j := 0) rfl) ?_
        walk_at "go"
        refine newT fun tz G2 ntz s2 etz => ?_
        walk_at "go"
        refine newLB fun lz G3 nlz glz s3 elz => ?_
        have s13 := s2.trans s3
        have o0 : asOk [(w0, 5)] := fun q hq => by rw [List.mem_singleton.mp hq]; exact str_of_name hw0
        have o1 : asOk [(w1, 5)] := fun q hq => by rw [List.mem_singleton.mp hq]; exact str_of_name hw1
        walk_at "go"
        refine ⟨_, .list ([(w1, 5)].map askD), (ap.same s13).dp, .lst (sqL elz) (.cons (.tup (sqT (s3 _ _ etz)) (.cons (.str _) (.cons (.int _) .nil))) .nil), sh_ask o0, sh_ask o1, ?_⟩
        have ev : PyData.eqv (.list ([(w0, 5)].map askD)) (.list ([(w1, 5)].map askD)) = decide (w0 = w1) := by
          show (PyData.eqv (askD (w0, 5)) (askD (w1, 5)) && true) = _
          rw [eqv_ask, Bool.and_true]
          by_cases h : w0 = w1
          · rw [h]; simp
          · rw [decide_eq_false h, decide_eq_false fun z => h (by injection z)]
        rw [ev]
        walk_at "go"
        refine iteC (fun _ => ?_) (fun hne => ?_)
        · exact q _
        · have l0 : large = 0 := Classical.byContradiction fun z => hne (by have w := hd z; exact (Option.some.inj w).symm)
          walk_at "go"
          rw [decide_eq_true (by rw [l0])]
          walk_at "go"
          have eb3 := (s1.trans s13) _ _ eb
          refine ⟨y, dxb, fsb, rfl, eb3, y, la2, lr2, 2, tqb, _, rowb, rfl, qb.same (s1.trans s13), 1, rfl, by decide, ?_⟩
          walk_at "go"
          exact q _
end
end K22

namespace K22
open PySem PySem.Spec PyProof.Rows L2 Bk
theorem all_mk {l : PySem.W.OpenLaw} {w : World} {K : PySem.W.Frag} {h : Heap} {mg : Str → Option Value} {fa C_GuestError C_Missing C_Barred C_NoNumber C_NoName C_Doubled C_NoAsk C_Full C_Queue f_GuestError_init f_Missing_init f_Barred_init f_NoNumber_init f_NoName_init f_Doubled_init f_NoAsk_init f_Full_init f_is_count f_is_name f_all_within f_check_name f_Queue_init f_Queue_put f_Queue_serve f_Queue_leave f_Queue_of f_Queue_waiting f_Queue_comes_at f_Queue_len f_Queue_twin f_check_count f_cell_L f_box_L f_take_L f_names_L f_many_L f_odd_L f_put_L f_served_L f_left_L f_when_L f_caught_L f_right_L f_due_L f_refused_right_L f_law : Addr} (X : K.In h) (G : h.Ns mainGlobals mg) (hfa : mg "law" = some (.ref fa))
    {od_GuestError_init an_GuestError_init : Option Addr} {sl_GuestError_init : Array (Option Value)} {oc_GuestError_init kV_GuestError_init dc_GuestError_init pm_GuestError_init cd_GuestError_init ct_GuestError_init : Value}
    {od_Missing_init an_Missing_init : Option Addr} {sl_Missing_init : Array (Option Value)} {oc_Missing_init kV_Missing_init dc_Missing_init pm_Missing_init cd_Missing_init ct_Missing_init : Value}
    {od_Barred_init an_Barred_init : Option Addr} {sl_Barred_init : Array (Option Value)} {oc_Barred_init kV_Barred_init dc_Barred_init pm_Barred_init cd_Barred_init ct_Barred_init : Value}
    {od_NoNumber_init an_NoNumber_init : Option Addr} {sl_NoNumber_init : Array (Option Value)} {oc_NoNumber_init kV_NoNumber_init dc_NoNumber_init pm_NoNumber_init cd_NoNumber_init ct_NoNumber_init : Value}
    {od_NoName_init an_NoName_init : Option Addr} {sl_NoName_init : Array (Option Value)} {oc_NoName_init kV_NoName_init dc_NoName_init pm_NoName_init cd_NoName_init ct_NoName_init : Value}
    {od_Doubled_init an_Doubled_init : Option Addr} {sl_Doubled_init : Array (Option Value)} {oc_Doubled_init kV_Doubled_init dc_Doubled_init pm_Doubled_init cd_Doubled_init ct_Doubled_init : Value}
    {od_NoAsk_init an_NoAsk_init : Option Addr} {sl_NoAsk_init : Array (Option Value)} {oc_NoAsk_init kV_NoAsk_init dc_NoAsk_init pm_NoAsk_init cd_NoAsk_init ct_NoAsk_init : Value}
    {od_Full_init an_Full_init : Option Addr} {sl_Full_init : Array (Option Value)} {oc_Full_init kV_Full_init dc_Full_init pm_Full_init cd_Full_init ct_Full_init : Value}
    {od_is_count an_is_count : Option Addr} {sl_is_count : Array (Option Value)} {oc_is_count kV_is_count dc_is_count pm_is_count cd_is_count ct_is_count : Value}
    {od_is_name an_is_name : Option Addr} {sl_is_name : Array (Option Value)} {oc_is_name kV_is_name dc_is_name pm_is_name cd_is_name ct_is_name : Value}
    {od_all_within an_all_within : Option Addr} {sl_all_within : Array (Option Value)} {oc_all_within kV_all_within dc_all_within pm_all_within cd_all_within ct_all_within : Value}
    {od_check_name an_check_name : Option Addr} {sl_check_name : Array (Option Value)} {oc_check_name kV_check_name dc_check_name pm_check_name cd_check_name ct_check_name : Value}
    {od_Queue_init an_Queue_init : Option Addr} {sl_Queue_init : Array (Option Value)} {oc_Queue_init kV_Queue_init dc_Queue_init pm_Queue_init cd_Queue_init ct_Queue_init : Value}
    {od_Queue_put an_Queue_put : Option Addr} {sl_Queue_put : Array (Option Value)} {oc_Queue_put kV_Queue_put dc_Queue_put pm_Queue_put cd_Queue_put ct_Queue_put : Value}
    {od_Queue_serve an_Queue_serve : Option Addr} {sl_Queue_serve : Array (Option Value)} {oc_Queue_serve kV_Queue_serve dc_Queue_serve pm_Queue_serve cd_Queue_serve ct_Queue_serve : Value}
    {od_Queue_leave an_Queue_leave : Option Addr} {sl_Queue_leave : Array (Option Value)} {oc_Queue_leave kV_Queue_leave dc_Queue_leave pm_Queue_leave cd_Queue_leave ct_Queue_leave : Value}
    {od_Queue_of an_Queue_of : Option Addr} {sl_Queue_of : Array (Option Value)} {oc_Queue_of kV_Queue_of dc_Queue_of pm_Queue_of cd_Queue_of ct_Queue_of : Value}
    {od_Queue_waiting an_Queue_waiting : Option Addr} {sl_Queue_waiting : Array (Option Value)} {oc_Queue_waiting kV_Queue_waiting dc_Queue_waiting pm_Queue_waiting cd_Queue_waiting ct_Queue_waiting : Value}
    {od_Queue_comes_at an_Queue_comes_at : Option Addr} {sl_Queue_comes_at : Array (Option Value)} {oc_Queue_comes_at kV_Queue_comes_at dc_Queue_comes_at pm_Queue_comes_at cd_Queue_comes_at ct_Queue_comes_at : Value}
    {od_Queue_len an_Queue_len : Option Addr} {sl_Queue_len : Array (Option Value)} {oc_Queue_len kV_Queue_len dc_Queue_len pm_Queue_len cd_Queue_len ct_Queue_len : Value}
    {od_Queue_twin an_Queue_twin : Option Addr} {sl_Queue_twin : Array (Option Value)} {oc_Queue_twin kV_Queue_twin dc_Queue_twin pm_Queue_twin cd_Queue_twin ct_Queue_twin : Value}
    {od_check_count an_check_count : Option Addr} {sl_check_count : Array (Option Value)} {oc_check_count kV_check_count dc_check_count pm_check_count cd_check_count ct_check_count : Value}
    {od_cell_L an_cell_L : Option Addr} {sl_cell_L : Array (Option Value)} {oc_cell_L kV_cell_L dc_cell_L pm_cell_L cd_cell_L ct_cell_L : Value}
    {od_box_L an_box_L : Option Addr} {sl_box_L : Array (Option Value)} {oc_box_L kV_box_L dc_box_L pm_box_L cd_box_L ct_box_L : Value}
    {od_take_L an_take_L : Option Addr} {sl_take_L : Array (Option Value)} {oc_take_L kV_take_L dc_take_L pm_take_L cd_take_L ct_take_L : Value}
    {od_names_L an_names_L : Option Addr} {sl_names_L : Array (Option Value)} {oc_names_L kV_names_L dc_names_L pm_names_L cd_names_L ct_names_L : Value}
    {od_many_L an_many_L : Option Addr} {sl_many_L : Array (Option Value)} {oc_many_L kV_many_L dc_many_L pm_many_L cd_many_L ct_many_L : Value}
    {od_odd_L an_odd_L : Option Addr} {sl_odd_L : Array (Option Value)} {oc_odd_L kV_odd_L dc_odd_L pm_odd_L cd_odd_L ct_odd_L : Value}
    {od_put_L an_put_L : Option Addr} {sl_put_L : Array (Option Value)} {oc_put_L kV_put_L dc_put_L pm_put_L cd_put_L ct_put_L : Value}
    {od_served_L an_served_L : Option Addr} {sl_served_L : Array (Option Value)} {oc_served_L kV_served_L dc_served_L pm_served_L cd_served_L ct_served_L : Value}
    {od_left_L an_left_L : Option Addr} {sl_left_L : Array (Option Value)} {oc_left_L kV_left_L dc_left_L pm_left_L cd_left_L ct_left_L : Value}
    {od_when_L an_when_L : Option Addr} {sl_when_L : Array (Option Value)} {oc_when_L kV_when_L dc_when_L pm_when_L cd_when_L ct_when_L : Value}
    {od_caught_L an_caught_L : Option Addr} {sl_caught_L : Array (Option Value)} {oc_caught_L kV_caught_L dc_caught_L pm_caught_L cd_caught_L ct_caught_L : Value}
    {od_right_L an_right_L : Option Addr} {sl_right_L : Array (Option Value)} {oc_right_L kV_right_L dc_right_L pm_right_L cd_right_L ct_right_L : Value}
    {od_due_L an_due_L : Option Addr} {sl_due_L : Array (Option Value)} {oc_due_L kV_due_L dc_due_L pm_due_L cd_due_L ct_due_L : Value}
    {od_refused_right_L an_refused_right_L : Option Addr} {sl_refused_right_L : Array (Option Value)} {oc_refused_right_L kV_refused_right_L dc_refused_right_L pm_refused_right_L cd_refused_right_L ct_refused_right_L : Value}
    {od_law an_law : Option Addr} {sl_law : Array (Option Value)} {oc_law kV_law dc_law pm_law cd_law ct_law : Value}
    {t_mw : Tok}
    {nmN qN : Str} {NN : Addr} {bsN : List Value} {snN : List Str} {subN : List Value} {abN : Bool} {colN : Option Bool} {ddN : Option Addr} {wN0 wN1 wN2 wN3 wN5 : Option Value}
    {nmM qM : Str} {NM : Addr} {bsM : List Value} {snM : List Str} {subM : List Value} {abM : Bool} {colM : Option Bool} {ddM : Option Addr} {wM0 wM1 wM2 wM3 wM5 : Option Value}
    {nmD qD : Str} {ND : Addr} {bsD : List Value} {snD : List Str} {subD : List Value} {abD : Bool} {colD : Option Bool} {ddD : Option Addr} {wD0 wD1 wD2 wD3 wD5 : Option Value}
    {nmA qA : Str} {NA : Addr} {bsA : List Value} {snA : List Str} {subA : List Value} {abA : Bool} {colA : Option Bool} {ddA : Option Addr} {wA0 wA1 wA2 wA3 wA5 : Option Value}
    {nmF qF : Str} {NF : Addr} {bsF : List Value} {snF : List Str} {subF : List Value} {abF : Bool} {colF : Option Bool} {ddF : Option Addr} {wF0 wF1 wF2 wF3 wF5 : Option Value}
    (aC_GuestError : PySem.W.nsIn K mainGlobals "GuestError" = some (some (.ref C_GuestError)))
    (aC_Missing : PySem.W.nsIn K mainGlobals "Missing" = some (some (.ref C_Missing)))
    (aC_Barred : PySem.W.nsIn K mainGlobals "Barred" = some (some (.ref C_Barred)))
    (aC_NoNumber : PySem.W.nsIn K mainGlobals "NoNumber" = some (some (.ref C_NoNumber)))
    (aC_NoName : PySem.W.nsIn K mainGlobals "NoName" = some (some (.ref C_NoName)))
    (aC_Doubled : PySem.W.nsIn K mainGlobals "Doubled" = some (some (.ref C_Doubled)))
    (aC_NoAsk : PySem.W.nsIn K mainGlobals "NoAsk" = some (some (.ref C_NoAsk)))
    (aC_Full : PySem.W.nsIn K mainGlobals "Full" = some (some (.ref C_Full)))
    (aC_Queue : PySem.W.nsIn K mainGlobals "Queue" = some (some (.ref C_Queue)))
    (a_GuestError_init : PySem.W.findIn K (.ref C_GuestError) "__init__" = some (some (.ref f_GuestError_init)))
    (l_GuestError_init : K.lookup f_GuestError_init = some ⟨oc_GuestError_init, od_GuestError_init, .func (PySem.W.fnOf "__init__" "GuestError.__init__" (defArgs s_GuestError_init) (defBody s_GuestError_init) (defScope s_GuestError_init) .none kV_GuestError_init dc_GuestError_init pm_GuestError_init an_GuestError_init cd_GuestError_init ct_GuestError_init), sl_GuestError_init⟩)
    (c_GuestError_init : PySem.W.codeIn K cd_GuestError_init "GuestError.__init__" = true)
    (k_GuestError_init : PySem.W.keepIn K (.ref f_GuestError_init) = true)
    (a_Missing_init : PySem.W.findIn K (.ref C_Missing) "__init__" = some (some (.ref f_Missing_init)))
    (l_Missing_init : K.lookup f_Missing_init = some ⟨oc_Missing_init, od_Missing_init, .func (PySem.W.fnOf "__init__" "Missing.__init__" (defArgs s_Missing_init) (defBody s_Missing_init) (defScope s_Missing_init) .none kV_Missing_init dc_Missing_init pm_Missing_init an_Missing_init cd_Missing_init ct_Missing_init), sl_Missing_init⟩)
    (c_Missing_init : PySem.W.codeIn K cd_Missing_init "Missing.__init__" = true)
    (k_Missing_init : PySem.W.keepIn K (.ref f_Missing_init) = true)
    (a_Barred_init : PySem.W.findIn K (.ref C_Barred) "__init__" = some (some (.ref f_Barred_init)))
    (l_Barred_init : K.lookup f_Barred_init = some ⟨oc_Barred_init, od_Barred_init, .func (PySem.W.fnOf "__init__" "Barred.__init__" (defArgs s_Barred_init) (defBody s_Barred_init) (defScope s_Barred_init) .none kV_Barred_init dc_Barred_init pm_Barred_init an_Barred_init cd_Barred_init ct_Barred_init), sl_Barred_init⟩)
    (c_Barred_init : PySem.W.codeIn K cd_Barred_init "Barred.__init__" = true)
    (k_Barred_init : PySem.W.keepIn K (.ref f_Barred_init) = true)
    (a_NoNumber_init : PySem.W.findIn K (.ref C_NoNumber) "__init__" = some (some (.ref f_NoNumber_init)))
    (l_NoNumber_init : K.lookup f_NoNumber_init = some ⟨oc_NoNumber_init, od_NoNumber_init, .func (PySem.W.fnOf "__init__" "NoNumber.__init__" (defArgs s_NoNumber_init) (defBody s_NoNumber_init) (defScope s_NoNumber_init) .none kV_NoNumber_init dc_NoNumber_init pm_NoNumber_init an_NoNumber_init cd_NoNumber_init ct_NoNumber_init), sl_NoNumber_init⟩)
    (c_NoNumber_init : PySem.W.codeIn K cd_NoNumber_init "NoNumber.__init__" = true)
    (k_NoNumber_init : PySem.W.keepIn K (.ref f_NoNumber_init) = true)
    (a_NoName_init : PySem.W.findIn K (.ref C_NoName) "__init__" = some (some (.ref f_NoName_init)))
    (l_NoName_init : K.lookup f_NoName_init = some ⟨oc_NoName_init, od_NoName_init, .func (PySem.W.fnOf "__init__" "NoName.__init__" (defArgs s_NoName_init) (defBody s_NoName_init) (defScope s_NoName_init) .none kV_NoName_init dc_NoName_init pm_NoName_init an_NoName_init cd_NoName_init ct_NoName_init), sl_NoName_init⟩)
    (c_NoName_init : PySem.W.codeIn K cd_NoName_init "NoName.__init__" = true)
    (k_NoName_init : PySem.W.keepIn K (.ref f_NoName_init) = true)
    (a_Doubled_init : PySem.W.findIn K (.ref C_Doubled) "__init__" = some (some (.ref f_Doubled_init)))
    (l_Doubled_init : K.lookup f_Doubled_init = some ⟨oc_Doubled_init, od_Doubled_init, .func (PySem.W.fnOf "__init__" "Doubled.__init__" (defArgs s_Doubled_init) (defBody s_Doubled_init) (defScope s_Doubled_init) .none kV_Doubled_init dc_Doubled_init pm_Doubled_init an_Doubled_init cd_Doubled_init ct_Doubled_init), sl_Doubled_init⟩)
    (c_Doubled_init : PySem.W.codeIn K cd_Doubled_init "Doubled.__init__" = true)
    (k_Doubled_init : PySem.W.keepIn K (.ref f_Doubled_init) = true)
    (a_NoAsk_init : PySem.W.findIn K (.ref C_NoAsk) "__init__" = some (some (.ref f_NoAsk_init)))
    (l_NoAsk_init : K.lookup f_NoAsk_init = some ⟨oc_NoAsk_init, od_NoAsk_init, .func (PySem.W.fnOf "__init__" "NoAsk.__init__" (defArgs s_NoAsk_init) (defBody s_NoAsk_init) (defScope s_NoAsk_init) .none kV_NoAsk_init dc_NoAsk_init pm_NoAsk_init an_NoAsk_init cd_NoAsk_init ct_NoAsk_init), sl_NoAsk_init⟩)
    (c_NoAsk_init : PySem.W.codeIn K cd_NoAsk_init "NoAsk.__init__" = true)
    (k_NoAsk_init : PySem.W.keepIn K (.ref f_NoAsk_init) = true)
    (a_Full_init : PySem.W.findIn K (.ref C_Full) "__init__" = some (some (.ref f_Full_init)))
    (l_Full_init : K.lookup f_Full_init = some ⟨oc_Full_init, od_Full_init, .func (PySem.W.fnOf "__init__" "Full.__init__" (defArgs s_Full_init) (defBody s_Full_init) (defScope s_Full_init) .none kV_Full_init dc_Full_init pm_Full_init an_Full_init cd_Full_init ct_Full_init), sl_Full_init⟩)
    (c_Full_init : PySem.W.codeIn K cd_Full_init "Full.__init__" = true)
    (k_Full_init : PySem.W.keepIn K (.ref f_Full_init) = true)
    (a_is_count : PySem.W.nsIn K mainGlobals "is_count" = some (some (.ref f_is_count)))
    (l_is_count : K.lookup f_is_count = some ⟨oc_is_count, od_is_count, .func (PySem.W.fnOf "is_count" "is_count" (defArgs s_is_count) (defBody s_is_count) (defScope s_is_count) .none kV_is_count dc_is_count pm_is_count an_is_count cd_is_count ct_is_count), sl_is_count⟩)
    (c_is_count : PySem.W.codeIn K cd_is_count "is_count" = true)
    (k_is_count : PySem.W.keepIn K (.ref f_is_count) = true)
    (a_is_name : PySem.W.nsIn K mainGlobals "is_name" = some (some (.ref f_is_name)))
    (l_is_name : K.lookup f_is_name = some ⟨oc_is_name, od_is_name, .func (PySem.W.fnOf "is_name" "is_name" (defArgs s_is_name) (defBody s_is_name) (defScope s_is_name) .none kV_is_name dc_is_name pm_is_name an_is_name cd_is_name ct_is_name), sl_is_name⟩)
    (c_is_name : PySem.W.codeIn K cd_is_name "is_name" = true)
    (k_is_name : PySem.W.keepIn K (.ref f_is_name) = true)
    (a_all_within : PySem.W.nsIn K mainGlobals "_all_within" = some (some (.ref f_all_within)))
    (l_all_within : K.lookup f_all_within = some ⟨oc_all_within, od_all_within, .func (PySem.W.fnOf "_all_within" "_all_within" (defArgs s_all_within) (defBody s_all_within) (defScope s_all_within) .none kV_all_within dc_all_within pm_all_within an_all_within cd_all_within ct_all_within), sl_all_within⟩)
    (c_all_within : PySem.W.codeIn K cd_all_within "_all_within" = true)
    (k_all_within : PySem.W.keepIn K (.ref f_all_within) = true)
    (a_check_name : PySem.W.nsIn K mainGlobals "check_name" = some (some (.ref f_check_name)))
    (l_check_name : K.lookup f_check_name = some ⟨oc_check_name, od_check_name, .func (PySem.W.fnOf "check_name" "check_name" (defArgs s_check_name) (defBody s_check_name) (defScope s_check_name) .none kV_check_name dc_check_name pm_check_name an_check_name cd_check_name ct_check_name), sl_check_name⟩)
    (c_check_name : PySem.W.codeIn K cd_check_name "check_name" = true)
    (k_check_name : PySem.W.keepIn K (.ref f_check_name) = true)
    (a_Queue_init : PySem.W.findIn K (.ref C_Queue) "__init__" = some (some (.ref f_Queue_init)))
    (l_Queue_init : K.lookup f_Queue_init = some ⟨oc_Queue_init, od_Queue_init, .func (PySem.W.fnOf "__init__" "Queue.__init__" (defArgs s_Queue_init) (defBody s_Queue_init) (defScope s_Queue_init) .none kV_Queue_init dc_Queue_init pm_Queue_init an_Queue_init cd_Queue_init ct_Queue_init), sl_Queue_init⟩)
    (c_Queue_init : PySem.W.codeIn K cd_Queue_init "Queue.__init__" = true)
    (k_Queue_init : PySem.W.keepIn K (.ref f_Queue_init) = true)
    (a_Queue_put : PySem.W.findIn K (.ref C_Queue) "put" = some (some (.ref f_Queue_put)))
    (l_Queue_put : K.lookup f_Queue_put = some ⟨oc_Queue_put, od_Queue_put, .func (PySem.W.fnOf "put" "Queue.put" (defArgs s_Queue_put) (defBody s_Queue_put) (defScope s_Queue_put) .none kV_Queue_put dc_Queue_put pm_Queue_put an_Queue_put cd_Queue_put ct_Queue_put), sl_Queue_put⟩)
    (c_Queue_put : PySem.W.codeIn K cd_Queue_put "Queue.put" = true)
    (k_Queue_put : PySem.W.keepIn K (.ref f_Queue_put) = true)
    (a_Queue_serve : PySem.W.findIn K (.ref C_Queue) "serve" = some (some (.ref f_Queue_serve)))
    (l_Queue_serve : K.lookup f_Queue_serve = some ⟨oc_Queue_serve, od_Queue_serve, .func (PySem.W.fnOf "serve" "Queue.serve" (defArgs s_Queue_serve) (defBody s_Queue_serve) (defScope s_Queue_serve) .none kV_Queue_serve dc_Queue_serve pm_Queue_serve an_Queue_serve cd_Queue_serve ct_Queue_serve), sl_Queue_serve⟩)
    (c_Queue_serve : PySem.W.codeIn K cd_Queue_serve "Queue.serve" = true)
    (k_Queue_serve : PySem.W.keepIn K (.ref f_Queue_serve) = true)
    (a_Queue_leave : PySem.W.findIn K (.ref C_Queue) "leave" = some (some (.ref f_Queue_leave)))
    (l_Queue_leave : K.lookup f_Queue_leave = some ⟨oc_Queue_leave, od_Queue_leave, .func (PySem.W.fnOf "leave" "Queue.leave" (defArgs s_Queue_leave) (defBody s_Queue_leave) (defScope s_Queue_leave) .none kV_Queue_leave dc_Queue_leave pm_Queue_leave an_Queue_leave cd_Queue_leave ct_Queue_leave), sl_Queue_leave⟩)
    (c_Queue_leave : PySem.W.codeIn K cd_Queue_leave "Queue.leave" = true)
    (k_Queue_leave : PySem.W.keepIn K (.ref f_Queue_leave) = true)
    (a_Queue_of : PySem.W.findIn K (.ref C_Queue) "of" = some (some (.ref f_Queue_of)))
    (l_Queue_of : K.lookup f_Queue_of = some ⟨oc_Queue_of, od_Queue_of, .func (PySem.W.fnOf "of" "Queue.of" (defArgs s_Queue_of) (defBody s_Queue_of) (defScope s_Queue_of) .none kV_Queue_of dc_Queue_of pm_Queue_of an_Queue_of cd_Queue_of ct_Queue_of), sl_Queue_of⟩)
    (c_Queue_of : PySem.W.codeIn K cd_Queue_of "Queue.of" = true)
    (k_Queue_of : PySem.W.keepIn K (.ref f_Queue_of) = true)
    (a_Queue_waiting : PySem.W.findIn K (.ref C_Queue) "waiting" = some (some (.ref f_Queue_waiting)))
    (l_Queue_waiting : K.lookup f_Queue_waiting = some ⟨oc_Queue_waiting, od_Queue_waiting, .func (PySem.W.fnOf "waiting" "Queue.waiting" (defArgs s_Queue_waiting) (defBody s_Queue_waiting) (defScope s_Queue_waiting) .none kV_Queue_waiting dc_Queue_waiting pm_Queue_waiting an_Queue_waiting cd_Queue_waiting ct_Queue_waiting), sl_Queue_waiting⟩)
    (c_Queue_waiting : PySem.W.codeIn K cd_Queue_waiting "Queue.waiting" = true)
    (k_Queue_waiting : PySem.W.keepIn K (.ref f_Queue_waiting) = true)
    (a_Queue_comes_at : PySem.W.findIn K (.ref C_Queue) "comes_at" = some (some (.ref f_Queue_comes_at)))
    (l_Queue_comes_at : K.lookup f_Queue_comes_at = some ⟨oc_Queue_comes_at, od_Queue_comes_at, .func (PySem.W.fnOf "comes_at" "Queue.comes_at" (defArgs s_Queue_comes_at) (defBody s_Queue_comes_at) (defScope s_Queue_comes_at) .none kV_Queue_comes_at dc_Queue_comes_at pm_Queue_comes_at an_Queue_comes_at cd_Queue_comes_at ct_Queue_comes_at), sl_Queue_comes_at⟩)
    (c_Queue_comes_at : PySem.W.codeIn K cd_Queue_comes_at "Queue.comes_at" = true)
    (k_Queue_comes_at : PySem.W.keepIn K (.ref f_Queue_comes_at) = true)
    (a_Queue_len : PySem.W.findIn K (.ref C_Queue) "__len__" = some (some (.ref f_Queue_len)))
    (l_Queue_len : K.lookup f_Queue_len = some ⟨oc_Queue_len, od_Queue_len, .func (PySem.W.fnOf "__len__" "Queue.__len__" (defArgs s_Queue_len) (defBody s_Queue_len) (defScope s_Queue_len) .none kV_Queue_len dc_Queue_len pm_Queue_len an_Queue_len cd_Queue_len ct_Queue_len), sl_Queue_len⟩)
    (c_Queue_len : PySem.W.codeIn K cd_Queue_len "Queue.__len__" = true)
    (k_Queue_len : PySem.W.keepIn K (.ref f_Queue_len) = true)
    (a_Queue_twin : PySem.W.findIn K (.ref C_Queue) "twin" = some (some (.ref f_Queue_twin)))
    (l_Queue_twin : K.lookup f_Queue_twin = some ⟨oc_Queue_twin, od_Queue_twin, .func (PySem.W.fnOf "twin" "Queue.twin" (defArgs s_Queue_twin) (defBody s_Queue_twin) (defScope s_Queue_twin) .none kV_Queue_twin dc_Queue_twin pm_Queue_twin an_Queue_twin cd_Queue_twin ct_Queue_twin), sl_Queue_twin⟩)
    (c_Queue_twin : PySem.W.codeIn K cd_Queue_twin "Queue.twin" = true)
    (k_Queue_twin : PySem.W.keepIn K (.ref f_Queue_twin) = true)
    (a_check_count : PySem.W.nsIn K mainGlobals "_check_count" = some (some (.ref f_check_count)))
    (l_check_count : K.lookup f_check_count = some ⟨oc_check_count, od_check_count, .func (PySem.W.fnOf "_check_count" "_check_count" (defArgs s_check_count) (defBody s_check_count) (defScope s_check_count) .none kV_check_count dc_check_count pm_check_count an_check_count cd_check_count ct_check_count), sl_check_count⟩)
    (c_check_count : PySem.W.codeIn K cd_check_count "_check_count" = true)
    (k_check_count : PySem.W.keepIn K (.ref f_check_count) = true)
    (a_cell_L : PySem.W.nsIn K mainGlobals "_law_cell" = some (some (.ref f_cell_L)))
    (l_cell_L : K.lookup f_cell_L = some ⟨oc_cell_L, od_cell_L, .func (PySem.W.fnOf "_law_cell" "_law_cell" (defArgs s_cell_L) (defBody s_cell_L) (defScope s_cell_L) .none kV_cell_L dc_cell_L pm_cell_L an_cell_L cd_cell_L ct_cell_L), sl_cell_L⟩)
    (c_cell_L : PySem.W.codeIn K cd_cell_L "_law_cell" = true)
    (k_cell_L : PySem.W.keepIn K (.ref f_cell_L) = true)
    (a_box_L : PySem.W.nsIn K mainGlobals "_law_box" = some (some (.ref f_box_L)))
    (l_box_L : K.lookup f_box_L = some ⟨oc_box_L, od_box_L, .func (PySem.W.fnOf "_law_box" "_law_box" (defArgs s_box_L) (defBody s_box_L) (defScope s_box_L) .none kV_box_L dc_box_L pm_box_L an_box_L cd_box_L ct_box_L), sl_box_L⟩)
    (c_box_L : PySem.W.codeIn K cd_box_L "_law_box" = true)
    (k_box_L : PySem.W.keepIn K (.ref f_box_L) = true)
    (a_take_L : PySem.W.nsIn K mainGlobals "_law_take" = some (some (.ref f_take_L)))
    (l_take_L : K.lookup f_take_L = some ⟨oc_take_L, od_take_L, .func (PySem.W.fnOf "_law_take" "_law_take" (defArgs s_take_L) (defBody s_take_L) (defScope s_take_L) .none kV_take_L dc_take_L pm_take_L an_take_L cd_take_L ct_take_L), sl_take_L⟩)
    (c_take_L : PySem.W.codeIn K cd_take_L "_law_take" = true)
    (k_take_L : PySem.W.keepIn K (.ref f_take_L) = true)
    (a_names_L : PySem.W.nsIn K mainGlobals "_law_names" = some (some (.ref f_names_L)))
    (l_names_L : K.lookup f_names_L = some ⟨oc_names_L, od_names_L, .func (PySem.W.fnOf "_law_names" "_law_names" (defArgs s_names_L) (defBody s_names_L) (defScope s_names_L) .none kV_names_L dc_names_L pm_names_L an_names_L cd_names_L ct_names_L), sl_names_L⟩)
    (c_names_L : PySem.W.codeIn K cd_names_L "_law_names" = true)
    (k_names_L : PySem.W.keepIn K (.ref f_names_L) = true)
    (a_many_L : PySem.W.nsIn K mainGlobals "_law_many" = some (some (.ref f_many_L)))
    (l_many_L : K.lookup f_many_L = some ⟨oc_many_L, od_many_L, .func (PySem.W.fnOf "_law_many" "_law_many" (defArgs s_many_L) (defBody s_many_L) (defScope s_many_L) .none kV_many_L dc_many_L pm_many_L an_many_L cd_many_L ct_many_L), sl_many_L⟩)
    (c_many_L : PySem.W.codeIn K cd_many_L "_law_many" = true)
    (k_many_L : PySem.W.keepIn K (.ref f_many_L) = true)
    (a_odd_L : PySem.W.nsIn K mainGlobals "_law_odd" = some (some (.ref f_odd_L)))
    (l_odd_L : K.lookup f_odd_L = some ⟨oc_odd_L, od_odd_L, .func (PySem.W.fnOf "_law_odd" "_law_odd" (defArgs s_odd_L) (defBody s_odd_L) (defScope s_odd_L) .none kV_odd_L dc_odd_L pm_odd_L an_odd_L cd_odd_L ct_odd_L), sl_odd_L⟩)
    (c_odd_L : PySem.W.codeIn K cd_odd_L "_law_odd" = true)
    (k_odd_L : PySem.W.keepIn K (.ref f_odd_L) = true)
    (a_put_L : PySem.W.nsIn K mainGlobals "_law_put" = some (some (.ref f_put_L)))
    (l_put_L : K.lookup f_put_L = some ⟨oc_put_L, od_put_L, .func (PySem.W.fnOf "_law_put" "_law_put" (defArgs s_put_L) (defBody s_put_L) (defScope s_put_L) .none kV_put_L dc_put_L pm_put_L an_put_L cd_put_L ct_put_L), sl_put_L⟩)
    (c_put_L : PySem.W.codeIn K cd_put_L "_law_put" = true)
    (k_put_L : PySem.W.keepIn K (.ref f_put_L) = true)
    (a_served_L : PySem.W.nsIn K mainGlobals "_law_served" = some (some (.ref f_served_L)))
    (l_served_L : K.lookup f_served_L = some ⟨oc_served_L, od_served_L, .func (PySem.W.fnOf "_law_served" "_law_served" (defArgs s_served_L) (defBody s_served_L) (defScope s_served_L) .none kV_served_L dc_served_L pm_served_L an_served_L cd_served_L ct_served_L), sl_served_L⟩)
    (c_served_L : PySem.W.codeIn K cd_served_L "_law_served" = true)
    (k_served_L : PySem.W.keepIn K (.ref f_served_L) = true)
    (a_left_L : PySem.W.nsIn K mainGlobals "_law_left" = some (some (.ref f_left_L)))
    (l_left_L : K.lookup f_left_L = some ⟨oc_left_L, od_left_L, .func (PySem.W.fnOf "_law_left" "_law_left" (defArgs s_left_L) (defBody s_left_L) (defScope s_left_L) .none kV_left_L dc_left_L pm_left_L an_left_L cd_left_L ct_left_L), sl_left_L⟩)
    (c_left_L : PySem.W.codeIn K cd_left_L "_law_left" = true)
    (k_left_L : PySem.W.keepIn K (.ref f_left_L) = true)
    (a_when_L : PySem.W.nsIn K mainGlobals "_law_when" = some (some (.ref f_when_L)))
    (l_when_L : K.lookup f_when_L = some ⟨oc_when_L, od_when_L, .func (PySem.W.fnOf "_law_when" "_law_when" (defArgs s_when_L) (defBody s_when_L) (defScope s_when_L) .none kV_when_L dc_when_L pm_when_L an_when_L cd_when_L ct_when_L), sl_when_L⟩)
    (c_when_L : PySem.W.codeIn K cd_when_L "_law_when" = true)
    (k_when_L : PySem.W.keepIn K (.ref f_when_L) = true)
    (a_caught_L : PySem.W.nsIn K mainGlobals "_law_caught" = some (some (.ref f_caught_L)))
    (l_caught_L : K.lookup f_caught_L = some ⟨oc_caught_L, od_caught_L, .func (PySem.W.fnOf "_law_caught" "_law_caught" (defArgs s_caught_L) (defBody s_caught_L) (defScope s_caught_L) .none kV_caught_L dc_caught_L pm_caught_L an_caught_L cd_caught_L ct_caught_L), sl_caught_L⟩)
    (c_caught_L : PySem.W.codeIn K cd_caught_L "_law_caught" = true)
    (k_caught_L : PySem.W.keepIn K (.ref f_caught_L) = true)
    (a_right_L : PySem.W.nsIn K mainGlobals "_law_right" = some (some (.ref f_right_L)))
    (l_right_L : K.lookup f_right_L = some ⟨oc_right_L, od_right_L, .func (PySem.W.fnOf "_law_right" "_law_right" (defArgs s_right_L) (defBody s_right_L) (defScope s_right_L) .none kV_right_L dc_right_L pm_right_L an_right_L cd_right_L ct_right_L), sl_right_L⟩)
    (c_right_L : PySem.W.codeIn K cd_right_L "_law_right" = true)
    (k_right_L : PySem.W.keepIn K (.ref f_right_L) = true)
    (a_due_L : PySem.W.nsIn K mainGlobals "_law_due" = some (some (.ref f_due_L)))
    (l_due_L : K.lookup f_due_L = some ⟨oc_due_L, od_due_L, .func (PySem.W.fnOf "_law_due" "_law_due" (defArgs s_due_L) (defBody s_due_L) (defScope s_due_L) .none kV_due_L dc_due_L pm_due_L an_due_L cd_due_L ct_due_L), sl_due_L⟩)
    (c_due_L : PySem.W.codeIn K cd_due_L "_law_due" = true)
    (k_due_L : PySem.W.keepIn K (.ref f_due_L) = true)
    (a_refused_right_L : PySem.W.nsIn K mainGlobals "_law_refused_right" = some (some (.ref f_refused_right_L)))
    (l_refused_right_L : K.lookup f_refused_right_L = some ⟨oc_refused_right_L, od_refused_right_L, .func (PySem.W.fnOf "_law_refused_right" "_law_refused_right" (defArgs s_refused_right_L) (defBody s_refused_right_L) (defScope s_refused_right_L) .none kV_refused_right_L dc_refused_right_L pm_refused_right_L an_refused_right_L cd_refused_right_L ct_refused_right_L), sl_refused_right_L⟩)
    (c_refused_right_L : PySem.W.codeIn K cd_refused_right_L "_law_refused_right" = true)
    (k_refused_right_L : PySem.W.keepIn K (.ref f_refused_right_L) = true)
    (a_law : PySem.W.nsIn K mainGlobals "law" = some (some (.ref f_law)))
    (l_law : K.lookup f_law = some ⟨oc_law, od_law, .func (PySem.W.fnOf "law" "law" (defArgs s_law) (defBody s_law) (defScope s_law) .none kV_law dc_law pm_law an_law cd_law ct_law), sl_law⟩)
    (c_law : PySem.W.codeIn K cd_law "law" = true)
    (k_law : PySem.W.keepIn K (.ref f_law) = true)
    (cMW : PySem.W.nsIn K mainGlobals "MOST_WAITING" = some (some (.int 60 t_mw)))
    (rd_GuestError : PySem.W.readsIn K C_GuestError (.type "type") = true)
    (ga_GuestError : PySem.W.specialIn K (.ref C_GuestError) "__getattribute__" = some (some (.builtin "type.__getattribute__")))
    (at_GuestError : PySem.W.findCls K (.ref C_GuestError) (.type "type") "__init__" = some (.val (.ref f_GuestError_init)))
    (v_ValueError : PySem.W.findCls K (.type "ValueError") (.type "type") "__init__" = some (.val (.builtin "ValueError.__init__")))
    (rd_Missing : PySem.W.readsIn K C_Missing (.type "type") = true)
    (ga_Missing : PySem.W.specialIn K (.ref C_Missing) "__getattribute__" = some (some (.builtin "type.__getattribute__")))
    (at_Missing : PySem.W.findCls K (.ref C_Missing) (.type "type") "__init__" = some (.val (.ref f_Missing_init)))
    (v_KeyError : PySem.W.findCls K (.type "KeyError") (.type "type") "__init__" = some (.val (.builtin "KeyError.__init__")))
    (rd_Barred : PySem.W.readsIn K C_Barred (.type "type") = true)
    (ga_Barred : PySem.W.specialIn K (.ref C_Barred) "__getattribute__" = some (some (.builtin "type.__getattribute__")))
    (at_Barred : PySem.W.findCls K (.ref C_Barred) (.type "type") "__init__" = some (.val (.ref f_Barred_init)))
    (v_LookupError : PySem.W.findCls K (.type "LookupError") (.type "type") "__init__" = some (.val (.builtin "LookupError.__init__")))
    (xL_N : K.lookup C_NoName = some (excClassObj nmN qN C_NoName NN bsN [.ref C_GuestError, .type "ValueError", .type "Exception", .type "BaseException", .type "object"] true snN subN abN colN ddN wN0 wN1 wN2 wN3 wN5 "ValueError.__new__"))
    (sa_N : PySem.W.findIn K (.ref C_NoName) "__setattr__" = some (some (.builtin "object.__setattr__")))
    (ex_N : PySem.W.subIn K (.ref C_NoName) (.type "BaseException") = some true)
    (ty_N : PySem.W.typeIn K (.ref C_NoName) = some (.type "type"))
    (kp_N : PySem.W.keepIn K (.ref C_NoName) = true)
    (tf_N : PySem.W.typeIn K (.ref f_NoName_init) = some (.type "function"))
    (nf_N : PySem.W.findIn K (.ref C_NoName) "found" = some none)
    (hg_N : PySem.W.findIn K (.ref C_NoName) "__getattribute__" = some (some (.builtin "BaseException.__getattribute__")))
    (hk_N : PySem.W.findIn K (.ref C_NoName) "__getattr__" = some none)
    (hd_N : PySem.W.hasDictIn K C_NoName = true)
    (ha_N : PySem.W.findIn K (.ref C_NoName) "__class__" = some (some (.builtin "object.__class__")))
    (hm_N : PySem.W.mroIn K C_NoName (.type "object") = some true)
    (s_N_GuestError : PySem.W.subIn K (.ref C_NoName) (.ref C_GuestError) = some true)
    (s_N_Missing : PySem.W.subIn K (.ref C_NoName) (.ref C_Missing) = some false)
    (s_N_Barred : PySem.W.subIn K (.ref C_NoName) (.ref C_Barred) = some false)
    (xL_M : K.lookup C_NoNumber = some (excClassObj nmM qM C_NoNumber NM bsM [.ref C_GuestError, .type "ValueError", .type "Exception", .type "BaseException", .type "object"] true snM subM abM colM ddM wM0 wM1 wM2 wM3 wM5 "ValueError.__new__"))
    (sa_M : PySem.W.findIn K (.ref C_NoNumber) "__setattr__" = some (some (.builtin "object.__setattr__")))
    (ex_M : PySem.W.subIn K (.ref C_NoNumber) (.type "BaseException") = some true)
    (ty_M : PySem.W.typeIn K (.ref C_NoNumber) = some (.type "type"))
    (kp_M : PySem.W.keepIn K (.ref C_NoNumber) = true)
    (tf_M : PySem.W.typeIn K (.ref f_NoNumber_init) = some (.type "function"))
    (nf_M : PySem.W.findIn K (.ref C_NoNumber) "found" = some none)
    (hg_M : PySem.W.findIn K (.ref C_NoNumber) "__getattribute__" = some (some (.builtin "BaseException.__getattribute__")))
    (hk_M : PySem.W.findIn K (.ref C_NoNumber) "__getattr__" = some none)
    (hd_M : PySem.W.hasDictIn K C_NoNumber = true)
    (ha_M : PySem.W.findIn K (.ref C_NoNumber) "__class__" = some (some (.builtin "object.__class__")))
    (hm_M : PySem.W.mroIn K C_NoNumber (.type "object") = some true)
    (s_M_GuestError : PySem.W.subIn K (.ref C_NoNumber) (.ref C_GuestError) = some true)
    (s_M_Missing : PySem.W.subIn K (.ref C_NoNumber) (.ref C_Missing) = some false)
    (s_M_Barred : PySem.W.subIn K (.ref C_NoNumber) (.ref C_Barred) = some false)
    (xL_D : K.lookup C_Doubled = some (excClassObj nmD qD C_Doubled ND bsD [.ref C_GuestError, .type "ValueError", .type "Exception", .type "BaseException", .type "object"] true snD subD abD colD ddD wD0 wD1 wD2 wD3 wD5 "ValueError.__new__"))
    (sa_D : PySem.W.findIn K (.ref C_Doubled) "__setattr__" = some (some (.builtin "object.__setattr__")))
    (ex_D : PySem.W.subIn K (.ref C_Doubled) (.type "BaseException") = some true)
    (ty_D : PySem.W.typeIn K (.ref C_Doubled) = some (.type "type"))
    (kp_D : PySem.W.keepIn K (.ref C_Doubled) = true)
    (tf_D : PySem.W.typeIn K (.ref f_Doubled_init) = some (.type "function"))
    (nf_D : PySem.W.findIn K (.ref C_Doubled) "found" = some none)
    (hg_D : PySem.W.findIn K (.ref C_Doubled) "__getattribute__" = some (some (.builtin "BaseException.__getattribute__")))
    (hk_D : PySem.W.findIn K (.ref C_Doubled) "__getattr__" = some none)
    (hd_D : PySem.W.hasDictIn K C_Doubled = true)
    (ha_D : PySem.W.findIn K (.ref C_Doubled) "__class__" = some (some (.builtin "object.__class__")))
    (hm_D : PySem.W.mroIn K C_Doubled (.type "object") = some true)
    (s_D_GuestError : PySem.W.subIn K (.ref C_Doubled) (.ref C_GuestError) = some true)
    (s_D_Missing : PySem.W.subIn K (.ref C_Doubled) (.ref C_Missing) = some false)
    (s_D_Barred : PySem.W.subIn K (.ref C_Doubled) (.ref C_Barred) = some false)
    (xL_A : K.lookup C_NoAsk = some (excClassObj nmA qA C_NoAsk NA bsA [.ref C_Missing, .type "KeyError", .type "LookupError", .type "Exception", .type "BaseException", .type "object"] true snA subA abA colA ddA wA0 wA1 wA2 wA3 wA5 "LookupError.__new__"))
    (sa_A : PySem.W.findIn K (.ref C_NoAsk) "__setattr__" = some (some (.builtin "object.__setattr__")))
    (ex_A : PySem.W.subIn K (.ref C_NoAsk) (.type "BaseException") = some true)
    (ty_A : PySem.W.typeIn K (.ref C_NoAsk) = some (.type "type"))
    (kp_A : PySem.W.keepIn K (.ref C_NoAsk) = true)
    (tf_A : PySem.W.typeIn K (.ref f_NoAsk_init) = some (.type "function"))
    (nf_A : PySem.W.findIn K (.ref C_NoAsk) "found" = some none)
    (hg_A : PySem.W.findIn K (.ref C_NoAsk) "__getattribute__" = some (some (.builtin "BaseException.__getattribute__")))
    (hk_A : PySem.W.findIn K (.ref C_NoAsk) "__getattr__" = some none)
    (hd_A : PySem.W.hasDictIn K C_NoAsk = true)
    (ha_A : PySem.W.findIn K (.ref C_NoAsk) "__class__" = some (some (.builtin "object.__class__")))
    (hm_A : PySem.W.mroIn K C_NoAsk (.type "object") = some true)
    (s_A_GuestError : PySem.W.subIn K (.ref C_NoAsk) (.ref C_GuestError) = some false)
    (s_A_Missing : PySem.W.subIn K (.ref C_NoAsk) (.ref C_Missing) = some true)
    (s_A_Barred : PySem.W.subIn K (.ref C_NoAsk) (.ref C_Barred) = some false)
    (xL_F : K.lookup C_Full = some (excClassObj nmF qF C_Full NF bsF [.ref C_Barred, .type "LookupError", .type "Exception", .type "BaseException", .type "object"] true snF subF abF colF ddF wF0 wF1 wF2 wF3 wF5 "LookupError.__new__"))
    (sa_F : PySem.W.findIn K (.ref C_Full) "__setattr__" = some (some (.builtin "object.__setattr__")))
    (ex_F : PySem.W.subIn K (.ref C_Full) (.type "BaseException") = some true)
    (ty_F : PySem.W.typeIn K (.ref C_Full) = some (.type "type"))
    (kp_F : PySem.W.keepIn K (.ref C_Full) = true)
    (tf_F : PySem.W.typeIn K (.ref f_Full_init) = some (.type "function"))
    (nf_F : PySem.W.findIn K (.ref C_Full) "many" = some none)
    (hg_F : PySem.W.findIn K (.ref C_Full) "__getattribute__" = some (some (.builtin "BaseException.__getattribute__")))
    (hk_F : PySem.W.findIn K (.ref C_Full) "__getattr__" = some none)
    (hd_F : PySem.W.hasDictIn K C_Full = true)
    (ha_F : PySem.W.findIn K (.ref C_Full) "__class__" = some (some (.builtin "object.__class__")))
    (hm_F : PySem.W.mroIn K C_Full (.type "object") = some true)
    (s_F_GuestError : PySem.W.subIn K (.ref C_Full) (.ref C_GuestError) = some false)
    (s_F_Missing : PySem.W.subIn K (.ref C_Full) (.ref C_Missing) = some false)
    (s_F_Barred : PySem.W.subIn K (.ref C_Full) (.ref C_Barred) = some true)
    (s_N_N : PySem.W.subIn K (.ref C_NoName) (.ref C_NoName) = some true)
    (s_M_N : PySem.W.subIn K (.ref C_NoNumber) (.ref C_NoName) = some false)
    (s_M_M : PySem.W.subIn K (.ref C_NoNumber) (.ref C_NoNumber) = some true)
    (s_D_N : PySem.W.subIn K (.ref C_Doubled) (.ref C_NoName) = some false)
    (s_D_M : PySem.W.subIn K (.ref C_Doubled) (.ref C_NoNumber) = some false)
    (s_D_D : PySem.W.subIn K (.ref C_Doubled) (.ref C_Doubled) = some true)
    (s_A_N : PySem.W.subIn K (.ref C_NoAsk) (.ref C_NoName) = some false)
    (s_A_M : PySem.W.subIn K (.ref C_NoAsk) (.ref C_NoNumber) = some false)
    (s_A_D : PySem.W.subIn K (.ref C_NoAsk) (.ref C_Doubled) = some false)
    (s_A_A : PySem.W.subIn K (.ref C_NoAsk) (.ref C_NoAsk) = some true)
    (s_F_N : PySem.W.subIn K (.ref C_Full) (.ref C_NoName) = some false)
    (s_F_M : PySem.W.subIn K (.ref C_Full) (.ref C_NoNumber) = some false)
    (s_F_D : PySem.W.subIn K (.ref C_Full) (.ref C_Doubled) = some false)
    (s_F_A : PySem.W.subIn K (.ref C_Full) (.ref C_NoAsk) = some false)
    (s_F_F : PySem.W.subIn K (.ref C_Full) (.ref C_Full) = some true)
    (hn : PySem.W.specialIn K (.builtin "object.__class__") "__get__" = some (some (.builtin "getset_descriptor.__get__")))
    (htk : PySem.W.takesIn K (.builtin "object.__class__") = some true)
    (hdF_GuestError : PySem.W.hasDictIn K C_GuestError = true)
    (tyF_GuestError : PySem.W.typeIn K (.ref C_GuestError) = some (.type "type"))
    (hdF_Missing : PySem.W.hasDictIn K C_Missing = true)
    (tyF_Missing : PySem.W.typeIn K (.ref C_Missing) = some (.type "type"))
    (hdF_Barred : PySem.W.hasDictIn K C_Barred = true)
    (tyF_Barred : PySem.W.typeIn K (.ref C_Barred) = some (.type "type"))
    (pg_Queue : PySem.W.plainGet K C_Queue Str.empty = true)
    (hdd_Queue : PySem.W.hasDictIn K C_Queue = true)
    (po_Queue : PySem.W.plainOver K C_Queue = true)
    (saa_Queue : PySem.W.findIn K (.ref C_Queue) "__setattr__" = some (some (.builtin "object.__setattr__")))
    (mk_Queue : PySem.W.makesIn K C_Queue = true)
    (kc_Queue : PySem.W.keepIn K (.ref C_Queue) = true)
    (na_Queue_asks : PySem.W.findIn K (.ref C_Queue) "_asks" = some none)
    (na_Queue_row : PySem.W.findIn K (.ref C_Queue) "_row" = some none)
    (fn_Queue_init : PySem.W.isFn K (.ref f_Queue_init) = true)
    (fn_Queue_put : PySem.W.isFn K (.ref f_Queue_put) = true)
    (fn_Queue_serve : PySem.W.isFn K (.ref f_Queue_serve) = true)
    (fn_Queue_leave : PySem.W.isFn K (.ref f_Queue_leave) = true)
    (fn_Queue_of : PySem.W.isFn K (.ref f_Queue_of) = true)
    (fn_Queue_waiting : PySem.W.isFn K (.ref f_Queue_waiting) = true)
    (fn_Queue_comes_at : PySem.W.isFn K (.ref f_Queue_comes_at) = true)
    (fn_Queue_len : PySem.W.isFn K (.ref f_Queue_len) = true)
    (fn_Queue_twin : PySem.W.isFn K (.ref f_Queue_twin) = true)
    (z_isinstance : PySem.W.nsIn K mainGlobals "isinstance" = some none)
    (z_int : PySem.W.nsIn K mainGlobals "int" = some none)
    (z_bool : PySem.W.nsIn K mainGlobals "bool" = some none)
    (z_str : PySem.W.nsIn K mainGlobals "str" = some none)
    (z_list : PySem.W.nsIn K mainGlobals "list" = some none)
    (z_len : PySem.W.nsIn K mainGlobals "len" = some none)
    (z_max : PySem.W.nsIn K mainGlobals "max" = some none)
    (z_min : PySem.W.nsIn K mainGlobals "min" = some none)
    (z_range : PySem.W.nsIn K mainGlobals "range" = some none)
    (z_all : PySem.W.nsIn K mainGlobals "all" = some none)
    (z_enumerate : PySem.W.nsIn K mainGlobals "enumerate" = some none)
    (z_repr : PySem.W.nsIn K mainGlobals "repr" = some none)
    (z_ValueError : PySem.W.nsIn K mainGlobals "ValueError" = some none)
    (z_LookupError : PySem.W.nsIn K mainGlobals "LookupError" = some none)
    (z_KeyError : PySem.W.nsIn K mainGlobals "KeyError" = some none) :
    ∃ fd : FuncData, (∀ (s : Shared) (v : Value), BindsTo s fd ⟨[v], []⟩ [("_law_script", v)]) ∧ ∀ base : Heap, K.In base → base.Ns mainGlobals mg → FnG l.prog w K mg base CX0 10 fa fd ["_law_script"] (spLaw K) := by
  have e := hfa.symm.trans (PySem.W.mg_of X G a_law)
  cases e
  have mo : ∀ {x : Str} {u : Value}, PySem.W.nsIn K mainGlobals x = some (some u) → mg x = some u := fun q => PySem.W.mg_of X G q
  have mz : ∀ {x : Str}, PySem.W.nsIn K mainGlobals x = some none → mg x = none := fun q => PySem.W.mg_none_of X G q
  have F_GuestError_init := fun_mk (st := s_GuestError_init) l_GuestError_init c_GuestError_init k_GuestError_init
  have b_GuestError_init := F_GuestError_init.binds (ps := ["self", "text"]) fun _ _ _ _ _ _ us hl => match us, hl with | [_, _], _ => rfl
  have F_Missing_init := fun_mk (st := s_Missing_init) l_Missing_init c_Missing_init k_Missing_init
  have b_Missing_init := F_Missing_init.binds (ps := ["self", "text"]) fun _ _ _ _ _ _ us hl => match us, hl with | [_, _], _ => rfl
  have F_Barred_init := fun_mk (st := s_Barred_init) l_Barred_init c_Barred_init k_Barred_init
  have b_Barred_init := F_Barred_init.binds (ps := ["self", "text"]) fun _ _ _ _ _ _ us hl => match us, hl with | [_, _], _ => rfl
  have F_NoNumber_init := fun_mk (st := s_NoNumber_init) l_NoNumber_init c_NoNumber_init k_NoNumber_init
  have b_NoNumber_init := F_NoNumber_init.binds (ps := ["self", "found"]) fun _ _ _ _ _ _ us hl => match us, hl with | [_, _], _ => rfl
  have F_NoName_init := fun_mk (st := s_NoName_init) l_NoName_init c_NoName_init k_NoName_init
  have b_NoName_init := F_NoName_init.binds (ps := ["self", "found"]) fun _ _ _ _ _ _ us hl => match us, hl with | [_, _], _ => rfl
  have F_Doubled_init := fun_mk (st := s_Doubled_init) l_Doubled_init c_Doubled_init k_Doubled_init
  have b_Doubled_init := F_Doubled_init.binds (ps := ["self", "found"]) fun _ _ _ _ _ _ us hl => match us, hl with | [_, _], _ => rfl
  have F_NoAsk_init := fun_mk (st := s_NoAsk_init) l_NoAsk_init c_NoAsk_init k_NoAsk_init
  have b_NoAsk_init := F_NoAsk_init.binds (ps := ["self", "found"]) fun _ _ _ _ _ _ us hl => match us, hl with | [_, _], _ => rfl
  have F_Full_init := fun_mk (st := s_Full_init) l_Full_init c_Full_init k_Full_init
  have b_Full_init := F_Full_init.binds (ps := ["self", "many"]) fun _ _ _ _ _ _ us hl => match us, hl with | [_, _], _ => rfl
  have F_is_count := fun_mk (st := s_is_count) l_is_count c_is_count k_is_count
  have b_is_count := F_is_count.binds (ps := ["thing"]) fun _ _ _ _ _ _ us hl => match us, hl with | [_], _ => rfl
  have F_is_name := fun_mk (st := s_is_name) l_is_name c_is_name k_is_name
  have b_is_name := F_is_name.binds (ps := ["thing"]) fun _ _ _ _ _ _ us hl => match us, hl with | [_], _ => rfl
  have F_all_within := fun_mk (st := s_all_within) l_all_within c_all_within k_all_within
  have b_all_within := F_all_within.binds (ps := ["text", "first", "last"]) fun _ _ _ _ _ _ us hl => match us, hl with | [_, _, _], _ => rfl
  have F_check_name := fun_mk (st := s_check_name) l_check_name c_check_name k_check_name
  have b_check_name := F_check_name.binds (ps := ["thing"]) fun _ _ _ _ _ _ us hl => match us, hl with | [_], _ => rfl
  have F_Queue_init := fun_mk (st := s_Queue_init) l_Queue_init c_Queue_init k_Queue_init
  have b_Queue_init := F_Queue_init.binds (ps := ["self"]) fun _ _ _ _ _ _ us hl => match us, hl with | [_], _ => rfl
  have F_Queue_put := fun_mk (st := s_Queue_put) l_Queue_put c_Queue_put k_Queue_put
  have b_Queue_put := F_Queue_put.binds (ps := ["self", "name", "number"]) fun _ _ _ _ _ _ us hl => match us, hl with | [_, _, _], _ => rfl
  have F_Queue_serve := fun_mk (st := s_Queue_serve) l_Queue_serve c_Queue_serve k_Queue_serve
  have b_Queue_serve := F_Queue_serve.binds (ps := ["self"]) fun _ _ _ _ _ _ us hl => match us, hl with | [_], _ => rfl
  have F_Queue_leave := fun_mk (st := s_Queue_leave) l_Queue_leave c_Queue_leave k_Queue_leave
  have b_Queue_leave := F_Queue_leave.binds (ps := ["self", "name"]) fun _ _ _ _ _ _ us hl => match us, hl with | [_, _], _ => rfl
  have F_Queue_of := fun_mk (st := s_Queue_of) l_Queue_of c_Queue_of k_Queue_of
  have b_Queue_of := F_Queue_of.binds (ps := ["self", "name"]) fun _ _ _ _ _ _ us hl => match us, hl with | [_, _], _ => rfl
  have F_Queue_waiting := fun_mk (st := s_Queue_waiting) l_Queue_waiting c_Queue_waiting k_Queue_waiting
  have b_Queue_waiting := F_Queue_waiting.binds (ps := ["self"]) fun _ _ _ _ _ _ us hl => match us, hl with | [_], _ => rfl
  have F_Queue_comes_at := fun_mk (st := s_Queue_comes_at) l_Queue_comes_at c_Queue_comes_at k_Queue_comes_at
  have b_Queue_comes_at := F_Queue_comes_at.binds (ps := ["self", "name", "number"]) fun _ _ _ _ _ _ us hl => match us, hl with | [_, _, _], _ => rfl
  have F_Queue_len := fun_mk (st := s_Queue_len) l_Queue_len c_Queue_len k_Queue_len
  have b_Queue_len := F_Queue_len.binds (ps := ["self"]) fun _ _ _ _ _ _ us hl => match us, hl with | [_], _ => rfl
  have F_Queue_twin := fun_mk (st := s_Queue_twin) l_Queue_twin c_Queue_twin k_Queue_twin
  have b_Queue_twin := F_Queue_twin.binds (ps := ["self"]) fun _ _ _ _ _ _ us hl => match us, hl with | [_], _ => rfl
  have F_check_count := fun_mk (st := s_check_count) l_check_count c_check_count k_check_count
  have b_check_count := F_check_count.binds (ps := ["thing"]) fun _ _ _ _ _ _ us hl => match us, hl with | [_], _ => rfl
  have F_cell_L := fun_mk (st := s_cell_L) l_cell_L c_cell_L k_cell_L
  have b_cell_L := F_cell_L.binds (ps := ["_law_script", "_law_k"]) fun _ _ _ _ _ _ us hl => match us, hl with | [_, _], _ => rfl
  have F_box_L := fun_mk (st := s_box_L) l_box_L c_box_L k_box_L
  have b_box_L := F_box_L.binds (ps := ["_law_cell_here"]) fun _ _ _ _ _ _ us hl => match us, hl with | [_], _ => rfl
  have F_take_L := fun_mk (st := s_take_L) l_take_L c_take_L k_take_L
  have b_take_L := F_take_L.binds (ps := ["_law_box_here", "_law_many_here"]) fun _ _ _ _ _ _ us hl => match us, hl with | [_, _], _ => rfl
  have F_names_L := fun_mk (st := s_names_L) l_names_L c_names_L k_names_L
  have b_names_L := F_names_L.binds (ps := ["_law_box_here"]) fun _ _ _ _ _ _ us hl => match us, hl with | [_], _ => rfl
  have F_many_L := fun_mk (st := s_many_L) l_many_L c_many_L k_many_L
  have b_many_L := F_many_L.binds (ps := ["_law_box_here"]) fun _ _ _ _ _ _ us hl => match us, hl with | [_], _ => rfl
  have F_odd_L := fun_mk (st := s_odd_L) l_odd_L c_odd_L k_odd_L
  have b_odd_L := F_odd_L.binds (ps := ["_law_box_here"]) fun _ _ _ _ _ _ us hl => match us, hl with | [_], _ => rfl
  have F_put_L := fun_mk (st := s_put_L) l_put_L c_put_L k_put_L
  have b_put_L := F_put_L.binds (ps := ["_law_state", "_law_who", "_law_which"]) fun _ _ _ _ _ _ us hl => match us, hl with | [_, _, _], _ => rfl
  have F_served_L := fun_mk (st := s_served_L) l_served_L c_served_L k_served_L
  have b_served_L := F_served_L.binds (ps := ["_law_state"]) fun _ _ _ _ _ _ us hl => match us, hl with | [_], _ => rfl
  have F_left_L := fun_mk (st := s_left_L) l_left_L c_left_L k_left_L
  have b_left_L := F_left_L.binds (ps := ["_law_state", "_law_who"]) fun _ _ _ _ _ _ us hl => match us, hl with | [_, _], _ => rfl
  have F_when_L := fun_mk (st := s_when_L) l_when_L c_when_L k_when_L
  have b_when_L := F_when_L.binds (ps := ["_law_state", "_law_ask"]) fun _ _ _ _ _ _ us hl => match us, hl with | [_, _], _ => rfl
  have F_caught_L := fun_mk (st := s_caught_L) l_caught_L c_caught_L k_caught_L
  have b_caught_L := F_caught_L.binds (ps := ["_law_queue", "_law_deed", "_law_who", "_law_which"]) fun _ _ _ _ _ _ us hl => match us, hl with | [_, _, _, _], _ => rfl
  have F_right_L := fun_mk (st := s_right_L) l_right_L c_right_L k_right_L
  have b_right_L := F_right_L.binds (ps := ["_law_queue", "_law_state", "_law_names_here", "_law_ask"]) fun _ _ _ _ _ _ us hl => match us, hl with | [_, _, _, _], _ => rfl
  have F_due_L := fun_mk (st := s_due_L) l_due_L c_due_L k_due_L
  have b_due_L := F_due_L.binds (ps := ["_law_state", "_law_deed", "_law_who", "_law_which"]) fun _ _ _ _ _ _ us hl => match us, hl with | [_, _, _, _], _ => rfl
  have F_refused_right_L := fun_mk (st := s_refused_right_L) l_refused_right_L c_refused_right_L k_refused_right_L
  have b_refused_right_L := F_refused_right_L.binds (ps := ["_law_box_here", "_law_queue", "_law_names_here"]) fun _ _ _ _ _ _ us hl => match us, hl with | [_, _, _], _ => rfl
  have F_law := fun_mk (st := s_law) l_law c_law k_law
  have oex : ∀ {b : Bs} {C : Addr} {nm q : Str} {N : Addr} {bs bm : List Value} {sn : List Str} {sub : List Value} {ab : Bool} {col : Option Bool} {dd : Option Addr} {k0 k1 k2 k3 k5 : Option Value}, K.lookup C = some (excClassObj nm q C N bs bm true sn sub ab col dd k0 k1 k2 k3 k5 b.new) → Tail b bm →
      PySem.W.findIn K (.ref C) "__setattr__" = some (some (.builtin "object.__setattr__")) → PySem.W.subIn K (.ref C) (.type "BaseException") = some true → PySem.W.typeIn K (.ref C) = some (.type "type") → PySem.W.keepIn K (.ref C) = true → OexT K b C :=
    fun l t a b c d => ⟨⟨_, _, _, _, _, _, _, _, _, _, _, _, _, _, _, l, t⟩, a, b, c, d⟩
  have T : Txt K mg { CG := C_GuestError, fG := f_GuestError_init, CK := C_Missing, fK := f_Missing_init, CB := C_Barred, fB := f_Barred_init, CM := C_NoNumber, fM := f_NoNumber_init, CN := C_NoName, fN := f_NoName_init, CD := C_Doubled, fD := f_Doubled_init, CA := C_NoAsk, fA := f_NoAsk_init, CF := C_Full, fF := f_Full_init, CQ := C_Queue } :=
    { m_isinstance := mz z_isinstance, m_int := mz z_int, m_bool := mz z_bool, m_str := mz z_str, m_list := mz z_list, m_len := mz z_len, m_max := mz z_max, m_min := mz z_min, m_range := mz z_range, m_all := mz z_all, m_enumerate := mz z_enumerate, m_repr := mz z_repr, m_ValueError := mz z_ValueError, m_LookupError := mz z_LookupError, m_KeyError := mz z_KeyError,
      c_MOST_WAITING := ⟨_, mo cMW, ⟨_, rfl⟩⟩,
      g_GuestError := mo aC_GuestError, rd_GuestError := rd_GuestError, ga_GuestError := ga_GuestError, at_GuestError := at_GuestError, g_Missing := mo aC_Missing, rd_Missing := rd_Missing, ga_Missing := ga_Missing, at_Missing := at_Missing, g_Barred := mo aC_Barred, rd_Barred := rd_Barred, ga_Barred := ga_Barred, at_Barred := at_Barred, vV := v_ValueError, vL := v_LookupError, vK := v_KeyError,
      g_NoNumber := mo aC_NoNumber, g_NoName := mo aC_NoName, g_Doubled := mo aC_Doubled, g_NoAsk := mo aC_NoAsk, g_Full := mo aC_Full,
      xN := ⟨oex (b := .ve) xL_N (.own _ .here) sa_N ex_N ty_N kp_N, a_NoName_init, tf_N, nf_N, ⟨hg_N, hk_N, ex_N, hd_N⟩, ⟨hg_N, hk_N, ex_N, hd_N, ha_N, hn, htk, hm_N⟩⟩,
      xM := ⟨oex (b := .ve) xL_M (.own _ .here) sa_M ex_M ty_M kp_M, a_NoNumber_init, tf_M, nf_M, ⟨hg_M, hk_M, ex_M, hd_M⟩, ⟨hg_M, hk_M, ex_M, hd_M, ha_M, hn, htk, hm_M⟩⟩,
      xD := ⟨oex (b := .ve) xL_D (.own _ .here) sa_D ex_D ty_D kp_D, a_Doubled_init, tf_D, nf_D, ⟨hg_D, hk_D, ex_D, hd_D⟩, ⟨hg_D, hk_D, ex_D, hd_D, ha_D, hn, htk, hm_D⟩⟩,
      xA := ⟨oex (b := .ke) xL_A (.own _ .here) sa_A ex_A ty_A kp_A, a_NoAsk_init, tf_A, nf_A, ⟨hg_A, hk_A, ex_A, hd_A⟩, ⟨hg_A, hk_A, ex_A, hd_A, ha_A, hn, htk, hm_A⟩⟩,
      xF := ⟨oex (b := .le) xL_F (.own _ .here) sa_F ex_F ty_F kp_F, a_Full_init, tf_F, nf_F, ⟨hg_F, hk_F, ex_F, hd_F⟩, ⟨hg_F, hk_F, ex_F, hd_F, ha_F, hn, htk, hm_F⟩⟩,
      eNN := PySem.W.exm_ref ex_N hd_N ty_N s_N_N, eMN := PySem.W.exm_ref ex_N hd_N ty_N s_M_N, eMM := PySem.W.exm_ref ex_M hd_M ty_M s_M_M, eDN := PySem.W.exm_ref ex_N hd_N ty_N s_D_N, eDM := PySem.W.exm_ref ex_M hd_M ty_M s_D_M, eDD := PySem.W.exm_ref ex_D hd_D ty_D s_D_D, eAN := PySem.W.exm_ref ex_N hd_N ty_N s_A_N, eAM := PySem.W.exm_ref ex_M hd_M ty_M s_A_M, eAD := PySem.W.exm_ref ex_D hd_D ty_D s_A_D, eAA := PySem.W.exm_ref ex_A hd_A ty_A s_A_A, eFN := PySem.W.exm_ref ex_N hd_N ty_N s_F_N, eFM := PySem.W.exm_ref ex_M hd_M ty_M s_F_M, eFD := PySem.W.exm_ref ex_D hd_D ty_D s_F_D, eFA := PySem.W.exm_ref ex_A hd_A ty_A s_F_A, eFF := PySem.W.exm_ref ex_F hd_F ty_F s_F_F, 
      kNG := kit_own s_N_N hdF_GuestError tyF_GuestError s_N_GuestError, kNK := kit_own s_N_N hdF_Missing tyF_Missing s_N_Missing, kNB := kit_own s_N_N hdF_Barred tyF_Barred s_N_Barred,
      kMG := kit_own s_M_M hdF_GuestError tyF_GuestError s_M_GuestError, kMK := kit_own s_M_M hdF_Missing tyF_Missing s_M_Missing, kMB := kit_own s_M_M hdF_Barred tyF_Barred s_M_Barred,
      kDG := kit_own s_D_D hdF_GuestError tyF_GuestError s_D_GuestError, kDK := kit_own s_D_D hdF_Missing tyF_Missing s_D_Missing, kDB := kit_own s_D_D hdF_Barred tyF_Barred s_D_Barred,
      kAG := kit_own s_A_A hdF_GuestError tyF_GuestError s_A_GuestError, kAK := kit_own s_A_A hdF_Missing tyF_Missing s_A_Missing, kAB := kit_own s_A_A hdF_Barred tyF_Barred s_A_Barred,
      kFG := kit_own s_F_F hdF_GuestError tyF_GuestError s_F_GuestError, kFK := kit_own s_F_F hdF_Missing tyF_Missing s_F_Missing, kFB := kit_own s_F_F hdF_Barred tyF_Barred s_F_Barred,
      cl_Queue := ⟨pg_Queue, hdd_Queue, po_Queue, saa_Queue⟩, na_asks := na_Queue_asks, na_row := na_Queue_row }
  refine ⟨PySem.W.fnOf "law" "law" (defArgs s_law) (defBody s_law) (defScope s_law) .none kV_law dc_law pm_law an_law cd_law ct_law, fun s v => .of_eq rfl, fun base _ _ => ?_⟩
  have c_cell := CalD.mk' (P := l.prog) (w := w) (base := base) (mo a_cell_L) k_cell_L (ok_cell F_cell_L T) b_cell_L
  have c_box := CalD.mk' (P := l.prog) (w := w) (base := base) (mo a_box_L) k_box_L (ok_box F_box_L T) b_box_L
  have c_take := CalD.mk' (P := l.prog) (w := w) (base := base) (mo a_take_L) k_take_L (ok_take F_take_L T) b_take_L
  have o_GE : Own l.prog w K mg base CX0 1 f_GuestError_init _ ["self", "text"] (spGT K .ve) := ⟨ok_GE F_GuestError_init T, b_GuestError_init, k_GuestError_init⟩
  have o_KE : Own l.prog w K mg base CX0 1 f_Missing_init _ ["self", "text"] (spGT K .ke) := ⟨ok_KE F_Missing_init T, b_Missing_init, k_Missing_init⟩
  have o_BB : Own l.prog w K mg base CX0 1 f_Barred_init _ ["self", "text"] (spGT K .le) := ⟨ok_BB F_Barred_init T, b_Barred_init, k_Barred_init⟩
  have o_M : Own l.prog w K mg base CX0 2 f_NoNumber_init _ ["self", "found"] (spInitN "found" C_NoNumber) := ⟨ok_iM F_NoNumber_init T o_GE, b_NoNumber_init, k_NoNumber_init⟩
  have o_N : Own l.prog w K mg base CX0 2 f_NoName_init _ ["self", "found"] (spInitN "found" C_NoName) := ⟨ok_iN F_NoName_init T o_GE, b_NoName_init, k_NoName_init⟩
  have o_D : Own l.prog w K mg base CX0 2 f_Doubled_init _ ["self", "found"] (spInitN "found" C_Doubled) := ⟨ok_iD F_Doubled_init T o_GE, b_Doubled_init, k_Doubled_init⟩
  have o_A : Own l.prog w K mg base CX0 2 f_NoAsk_init _ ["self", "found"] (spInitN "found" C_NoAsk) := ⟨ok_iA F_NoAsk_init T o_KE, b_NoAsk_init, k_NoAsk_init⟩
  have o_F : Own l.prog w K mg base CX0 2 f_Full_init _ ["self", "many"] (spInitN "many" C_Full) := ⟨ok_iF F_Full_init T o_BB, b_Full_init, k_Full_init⟩
  have c_aw := CalD.mk' (P := l.prog) (w := w) (base := base) (mo a_all_within) k_all_within (ok_allW F_all_within T) b_all_within
  have c_nm := CalD.mk' (P := l.prog) (w := w) (base := base) (mo a_is_name) k_is_name (ok_name F_is_name T c_aw) b_is_name
  have c_cn := CalD.mk' (P := l.prog) (w := w) (base := base) (mo a_is_count) k_is_count (ok_count F_is_count T) b_is_count
  have f_ckn := ok_ckn F_check_name T c_nm o_N
  have f_cknX := ok_cknX F_check_name T c_nm o_N
  have c_ckn := CalX.mk' (P := l.prog) (w := w) (base := base) (mo a_check_name) k_check_name f_ckn b_check_name
  have c_cknX := CalX.mk' (P := l.prog) (w := w) (base := base) (mo a_check_name) k_check_name f_cknX b_check_name
  have c_cknB := CalX.mk' (P := l.prog) (w := w) (base := base) (mo a_check_name) k_check_name (f_ckn.or f_cknX) b_check_name
  have c_cc := CalX.mk' (P := l.prog) (w := w) (base := base) (mo a_check_count) k_check_count (ok_ckc F_check_count T c_cn o_M) b_check_count
  have M_of : Meth K C_Queue "of" f_Queue_of := ⟨a_Queue_of, fn_Queue_of, k_Queue_of⟩
  have M_put : Meth K C_Queue "put" f_Queue_put := ⟨a_Queue_put, fn_Queue_put, k_Queue_put⟩
  have M_leave : Meth K C_Queue "leave" f_Queue_leave := ⟨a_Queue_leave, fn_Queue_leave, k_Queue_leave⟩
  have M_comes : Meth K C_Queue "comes_at" f_Queue_comes_at := ⟨a_Queue_comes_at, fn_Queue_comes_at, k_Queue_comes_at⟩
  have f_of := ok_of F_Queue_of T c_ckn
  have f_ofX := ok_ofX F_Queue_of T c_cknX
  have m_of : CalM l.prog w K mg base (L2.CX l.prog w) 5 C_Queue "of" (spOf _) := ⟨_, _, _, M_of, f_of, b_Queue_of⟩
  have m_ofX : CalM l.prog w K mg base (L2.CX l.prog w) 5 C_Queue "of" (spOfX K _) := ⟨_, _, _, M_of, f_ofX, b_Queue_of⟩
  have n_of : CalMK l.prog w K mg base (L2.CX l.prog w) 5 0 ["name"] C_Queue "of" (spOfB K _) appV := ⟨_, _, _, _, M_of, f_of.or f_ofX, kbPlain F_Queue_of 1 ["name"] appV (fun r1 r2 => r1.append r2) (fun _ _ _ _ _ _ us ws h1 h2 => match us, ws, h1, h2 with | [_], [_], _, _ => rfl)⟩
  have f_put := (ok_put (fD2 := 0) (fF2 := 0) F_Queue_put T c_ckn c_cc o_D o_F).or (ok_putX F_Queue_put T c_cknB c_cc o_D o_F)
  have m_put : CalM l.prog w K mg base (L2.CX l.prog w) 5 C_Queue "put" (spPutB K _) := ⟨_, _, _, M_put, f_put, b_Queue_put⟩
  have n_put : CalMK l.prog w K mg base (L2.CX l.prog w) 5 0 ["number", "name"] C_Queue "put" (spPutB K _) revV := ⟨_, _, _, _, M_put, f_put, kbPlain F_Queue_put 1 ["number", "name"] revV (fun r1 r2 => r1.append (vals_rev r2)) (fun _ _ _ _ _ _ us ws h1 h2 => match us, ws, h1, h2 with | [_], [_, _], _, _ => rfl)⟩
  have m_serve : CalM l.prog w K mg base CX0 6 C_Queue "serve" (spServe _) := ⟨_, _, _, ⟨a_Queue_serve, fn_Queue_serve, k_Queue_serve⟩, ok_serve F_Queue_serve T m_of, b_Queue_serve⟩
  have f_leave := (ok_leave F_Queue_leave T m_of).or (ok_leaveX F_Queue_leave T m_ofX)
  have n_leave : CalMK l.prog w K mg base (L2.CX l.prog w) 6 0 ["name"] C_Queue "leave" (spLeaveB K _) appV := ⟨_, _, _, _, M_leave, f_leave, kbPlain F_Queue_leave 1 ["name"] appV (fun r1 r2 => r1.append r2) (fun _ _ _ _ _ _ us ws h1 h2 => match us, ws, h1, h2 with | [_], [_], _, _ => rfl)⟩
  have m_wait : CalM l.prog w K mg base CX0 1 C_Queue "waiting" (spWaiting _) := ⟨_, _, _, ⟨a_Queue_waiting, fn_Queue_waiting, k_Queue_waiting⟩, ok_waiting F_Queue_waiting T, b_Queue_waiting⟩
  have m_len : CalM l.prog w K mg base CX0 1 C_Queue "__len__" (spLenQ _) := ⟨_, _, _, ⟨a_Queue_len, fn_Queue_len, k_Queue_len⟩, ok_len F_Queue_len T, b_Queue_len⟩
  have i_q : CalC l.prog w K mg base CX0 1 C_Queue "Queue" (spQuInit _) := ⟨_, _, _, ⟨mk_Queue, a_Queue_init, fn_Queue_init, kc_Queue⟩, ok_init F_Queue_init T, b_Queue_init, mo aC_Queue⟩
  have m_twin : CalM l.prog w K mg base CX0 3 C_Queue "twin" (spTwinQ _) := ⟨_, _, _, ⟨a_Queue_twin, fn_Queue_twin, k_Queue_twin⟩, ok_twin F_Queue_twin T i_q, b_Queue_twin⟩
  have f_comes := (ok_comes F_Queue_comes_at T c_cn o_A m_twin m_serve).or (ok_comesX F_Queue_comes_at T c_cn o_A m_twin m_serve)
  have n_comes : CalMK l.prog w K mg base (L2.CX l.prog w) 7 0 ["number", "name"] C_Queue "comes_at" (spComesB K _) revV := ⟨_, _, _, _, M_comes, f_comes, kbPlain F_Queue_comes_at 1 ["number", "name"] revV (fun r1 r2 => r1.append (vals_rev r2)) (fun _ _ _ _ _ _ us ws h1 h2 => match us, ws, h1, h2 with | [_], [_, _], _, _ => rfl)⟩
  have c_put := CalD.mk' (P := l.prog) (w := w) (base := base) (mo a_put_L) k_put_L (ok_putL F_put_L T) b_put_L
  have c_served := CalD.mk' (P := l.prog) (w := w) (base := base) (mo a_served_L) k_served_L (ok_servedL F_served_L T) b_served_L
  have c_left := CalD.mk' (P := l.prog) (w := w) (base := base) (mo a_left_L) k_left_L (ok_leftL F_left_L T) b_left_L
  have c_when := CalD.mk' (P := l.prog) (w := w) (base := base) (mo a_when_L) k_when_L (ok_whenL F_when_L T c_served) b_when_L
  have c_due := CalD.mk' (P := l.prog) (w := w) (base := base) (mo a_due_L) k_due_L (ok_dueL F_due_L T c_served c_left c_put) b_due_L
  have c_caught := CalD.mk' (P := l.prog) (w := w) (base := base) (mo a_caught_L) k_caught_L (ok_caught F_caught_L T m_put m_serve n_put n_leave n_of n_comes) b_caught_L
  have c_names := CalD.mk' (P := l.prog) (w := w) (base := base) (mo a_names_L) k_names_L (ok_names F_names_L T c_take) b_names_L
  have c_many := CalD.mk' (P := l.prog) (w := w) (base := base) (mo a_many_L) k_many_L (ok_many F_many_L T c_take) b_many_L
  have c_odd := CalD.mk' (P := l.prog) (w := w) (base := base) (mo a_odd_L) k_odd_L (ok_odd F_odd_L T c_take) b_odd_L
  have c_right := CalG.mk' (P := l.prog) (w := w) (base := base) (mo a_right_L) k_right_L (ok_right F_right_L T m_wait m_len m_twin m_of c_when c_caught) b_right_L
  have c_ref := CalG.mk' (P := l.prog) (w := w) (base := base) (mo a_refused_right_L) k_refused_right_L (ok_refused F_refused_right_L T c_take c_odd c_caught) b_refused_right_L
  exact ok_law F_law T c_cell c_box c_take c_names c_many i_q m_put m_wait m_len c_caught c_due c_right c_ref
end K22
open PySem PySem.W PyProof.Rows
set_option maxHeartbeats 0 in
theorem PySem.Challenge.cw_guestsalone_k22_asks_put_and_served_holds : PySem.Challenge.rw_guestsalone_k22_asks_put_and_served.Holds := by
  w_on; o_law; k_head; (case hw => w_witness2)
  k_fill
  refine Bk.walk_ofG (l := PySem.Challenge.rw_guestsalone_k22_asks_put_and_served) (n := 63) (k := 10) (x := "_law_script") (sp := fun w => K22.spLaw _) rfl (by decide) rfl ⟨rfl, by decide, by decide⟩ (fun w h Y => PySem.W.kIn_of Y) ?F (fun _ _ a ns hl _ hS => ⟨a, ns, rfl, hS, hl, fun _ => rfl⟩)
  case F =>
    intro w mg fa h KX G hmg
    refine' K22.all_mk KX G hmg ?aC_GuestError ?aC_Missing ?aC_Barred ?aC_NoNumber ?aC_NoName ?aC_Doubled ?aC_NoAsk ?aC_Full ?aC_Queue ?a_GuestError_init ?l_GuestError_init ?c_GuestError_init ?k_GuestError_init ?a_Missing_init ?l_Missing_init ?c_Missing_init ?k_Missing_init ?a_Barred_init ?l_Barred_init ?c_Barred_init ?k_Barred_init ?a_NoNumber_init ?l_NoNumber_init ?c_NoNumber_init ?k_NoNumber_init ?a_NoName_init ?l_NoName_init ?c_NoName_init ?k_NoName_init ?a_Doubled_init ?l_Doubled_init ?c_Doubled_init ?k_Doubled_init ?a_NoAsk_init ?l_NoAsk_init ?c_NoAsk_init ?k_NoAsk_init ?a_Full_init ?l_Full_init ?c_Full_init ?k_Full_init ?a_is_count ?l_is_count ?c_is_count ?k_is_count ?a_is_name ?l_is_name ?c_is_name ?k_is_name ?a_all_within ?l_all_within ?c_all_within ?k_all_within ?a_check_name ?l_check_name ?c_check_name ?k_check_name ?a_Queue_init ?l_Queue_init ?c_Queue_init ?k_Queue_init ?a_Queue_put ?l_Queue_put ?c_Queue_put ?k_Queue_put ?a_Queue_serve ?l_Queue_serve ?c_Queue_serve ?k_Queue_serve ?a_Queue_leave ?l_Queue_leave ?c_Queue_leave ?k_Queue_leave ?a_Queue_of ?l_Queue_of ?c_Queue_of ?k_Queue_of ?a_Queue_waiting ?l_Queue_waiting ?c_Queue_waiting ?k_Queue_waiting ?a_Queue_comes_at ?l_Queue_comes_at ?c_Queue_comes_at ?k_Queue_comes_at ?a_Queue_len ?l_Queue_len ?c_Queue_len ?k_Queue_len ?a_Queue_twin ?l_Queue_twin ?c_Queue_twin ?k_Queue_twin ?a_check_count ?l_check_count ?c_check_count ?k_check_count ?a_cell_L ?l_cell_L ?c_cell_L ?k_cell_L ?a_box_L ?l_box_L ?c_box_L ?k_box_L ?a_take_L ?l_take_L ?c_take_L ?k_take_L ?a_names_L ?l_names_L ?c_names_L ?k_names_L ?a_many_L ?l_many_L ?c_many_L ?k_many_L ?a_odd_L ?l_odd_L ?c_odd_L ?k_odd_L ?a_put_L ?l_put_L ?c_put_L ?k_put_L ?a_served_L ?l_served_L ?c_served_L ?k_served_L ?a_left_L ?l_left_L ?c_left_L ?k_left_L ?a_when_L ?l_when_L ?c_when_L ?k_when_L ?a_caught_L ?l_caught_L ?c_caught_L ?k_caught_L ?a_right_L ?l_right_L ?c_right_L ?k_right_L ?a_due_L ?l_due_L ?c_due_L ?k_due_L ?a_refused_right_L ?l_refused_right_L ?c_refused_right_L ?k_refused_right_L ?a_law ?l_law ?c_law ?k_law ?cMW ?rd_GuestError ?ga_GuestError ?at_GuestError ?v_ValueError ?rd_Missing ?ga_Missing ?at_Missing ?v_KeyError ?rd_Barred ?ga_Barred ?at_Barred ?v_LookupError ?xL_N ?sa_N ?ex_N ?ty_N ?kp_N ?tf_N ?nf_N ?hg_N ?hk_N ?hd_N ?ha_N ?hm_N ?s_N_GuestError ?s_N_Missing ?s_N_Barred ?xL_M ?sa_M ?ex_M ?ty_M ?kp_M ?tf_M ?nf_M ?hg_M ?hk_M ?hd_M ?ha_M ?hm_M ?s_M_GuestError ?s_M_Missing ?s_M_Barred ?xL_D ?sa_D ?ex_D ?ty_D ?kp_D ?tf_D ?nf_D ?hg_D ?hk_D ?hd_D ?ha_D ?hm_D ?s_D_GuestError ?s_D_Missing ?s_D_Barred ?xL_A ?sa_A ?ex_A ?ty_A ?kp_A ?tf_A ?nf_A ?hg_A ?hk_A ?hd_A ?ha_A ?hm_A ?s_A_GuestError ?s_A_Missing ?s_A_Barred ?xL_F ?sa_F ?ex_F ?ty_F ?kp_F ?tf_F ?nf_F ?hg_F ?hk_F ?hd_F ?ha_F ?hm_F ?s_F_GuestError ?s_F_Missing ?s_F_Barred ?s_N_N ?s_M_N ?s_M_M ?s_D_N ?s_D_M ?s_D_D ?s_A_N ?s_A_M ?s_A_D ?s_A_A ?s_F_N ?s_F_M ?s_F_D ?s_F_A ?s_F_F ?hn ?htk ?hdF_GuestError ?tyF_GuestError ?hdF_Missing ?tyF_Missing ?hdF_Barred ?tyF_Barred ?pg_Queue ?hdd_Queue ?po_Queue ?saa_Queue ?mk_Queue ?kc_Queue ?na_Queue_asks ?na_Queue_row ?fn_Queue_init ?fn_Queue_put ?fn_Queue_serve ?fn_Queue_leave ?fn_Queue_of ?fn_Queue_waiting ?fn_Queue_comes_at ?fn_Queue_len ?fn_Queue_twin ?z_isinstance ?z_int ?z_bool ?z_str ?z_list ?z_len ?z_max ?z_min ?z_range ?z_all ?z_enumerate ?z_repr ?z_ValueError ?z_LookupError ?z_KeyError
    (case aC_GuestError => k_is)
    (case aC_Missing => k_is)
    (case aC_Barred => k_is)
    (case aC_NoNumber => k_is)
    (case aC_NoName => k_is)
    (case aC_Doubled => k_is)
    (case aC_NoAsk => k_is)
    (case aC_Full => k_is)
    (case aC_Queue => k_is)
    (case a_GuestError_init => k_is)
    (case l_GuestError_init => k_is)
    (case c_GuestError_init => k_is)
    (case k_GuestError_init => k_is)
    (case a_Missing_init => k_is)
    (case l_Missing_init => k_is)
    (case c_Missing_init => k_is)
    (case k_Missing_init => k_is)
    (case a_Barred_init => k_is)
    (case l_Barred_init => k_is)
    (case c_Barred_init => k_is)
    (case k_Barred_init => k_is)
    (case a_NoNumber_init => k_is)
    (case l_NoNumber_init => k_is)
    (case c_NoNumber_init => k_is)
    (case k_NoNumber_init => k_is)
    (case a_NoName_init => k_is)
    (case l_NoName_init => k_is)
    (case c_NoName_init => k_is)
    (case k_NoName_init => k_is)
    (case a_Doubled_init => k_is)
    (case l_Doubled_init => k_is)
    (case c_Doubled_init => k_is)
    (case k_Doubled_init => k_is)
    (case a_NoAsk_init => k_is)
    (case l_NoAsk_init => k_is)
    (case c_NoAsk_init => k_is)
    (case k_NoAsk_init => k_is)
    (case a_Full_init => k_is)
    (case l_Full_init => k_is)
    (case c_Full_init => k_is)
    (case k_Full_init => k_is)
    (case a_is_count => k_is)
    (case l_is_count => k_is)
    (case c_is_count => k_is)
    (case k_is_count => k_is)
    (case a_is_name => k_is)
    (case l_is_name => k_is)
    (case c_is_name => k_is)
    (case k_is_name => k_is)
    (case a_all_within => k_is)
    (case l_all_within => k_is)
    (case c_all_within => k_is)
    (case k_all_within => k_is)
    (case a_check_name => k_is)
    (case l_check_name => k_is)
    (case c_check_name => k_is)
    (case k_check_name => k_is)
    (case a_Queue_init => k_is)
    (case l_Queue_init => k_is)
    (case c_Queue_init => k_is)
    (case k_Queue_init => k_is)
    (case a_Queue_put => k_is)
    (case l_Queue_put => k_is)
    (case c_Queue_put => k_is)
    (case k_Queue_put => k_is)
    (case a_Queue_serve => k_is)
    (case l_Queue_serve => k_is)
    (case c_Queue_serve => k_is)
    (case k_Queue_serve => k_is)
    (case a_Queue_leave => k_is)
    (case l_Queue_leave => k_is)
    (case c_Queue_leave => k_is)
    (case k_Queue_leave => k_is)
    (case a_Queue_of => k_is)
    (case l_Queue_of => k_is)
    (case c_Queue_of => k_is)
    (case k_Queue_of => k_is)
    (case a_Queue_waiting => k_is)
    (case l_Queue_waiting => k_is)
    (case c_Queue_waiting => k_is)
    (case k_Queue_waiting => k_is)
    (case a_Queue_comes_at => k_is)
    (case l_Queue_comes_at => k_is)
    (case c_Queue_comes_at => k_is)
    (case k_Queue_comes_at => k_is)
    (case a_Queue_len => k_is)
    (case l_Queue_len => k_is)
    (case c_Queue_len => k_is)
    (case k_Queue_len => k_is)
    (case a_Queue_twin => k_is)
    (case l_Queue_twin => k_is)
    (case c_Queue_twin => k_is)
    (case k_Queue_twin => k_is)
    (case a_check_count => k_is)
    (case l_check_count => k_is)
    (case c_check_count => k_is)
    (case k_check_count => k_is)
    (case a_cell_L => k_is)
    (case l_cell_L => k_is)
    (case c_cell_L => k_is)
    (case k_cell_L => k_is)
    (case a_box_L => k_is)
    (case l_box_L => k_is)
    (case c_box_L => k_is)
    (case k_box_L => k_is)
    (case a_take_L => k_is)
    (case l_take_L => k_is)
    (case c_take_L => k_is)
    (case k_take_L => k_is)
    (case a_names_L => k_is)
    (case l_names_L => k_is)
    (case c_names_L => k_is)
    (case k_names_L => k_is)
    (case a_many_L => k_is)
    (case l_many_L => k_is)
    (case c_many_L => k_is)
    (case k_many_L => k_is)
    (case a_odd_L => k_is)
    (case l_odd_L => k_is)
    (case c_odd_L => k_is)
    (case k_odd_L => k_is)
    (case a_put_L => k_is)
    (case l_put_L => k_is)
    (case c_put_L => k_is)
    (case k_put_L => k_is)
    (case a_served_L => k_is)
    (case l_served_L => k_is)
    (case c_served_L => k_is)
    (case k_served_L => k_is)
    (case a_left_L => k_is)
    (case l_left_L => k_is)
    (case c_left_L => k_is)
    (case k_left_L => k_is)
    (case a_when_L => k_is)
    (case l_when_L => k_is)
    (case c_when_L => k_is)
    (case k_when_L => k_is)
    (case a_caught_L => k_is)
    (case l_caught_L => k_is)
    (case c_caught_L => k_is)
    (case k_caught_L => k_is)
    (case a_right_L => k_is)
    (case l_right_L => k_is)
    (case c_right_L => k_is)
    (case k_right_L => k_is)
    (case a_due_L => k_is)
    (case l_due_L => k_is)
    (case c_due_L => k_is)
    (case k_due_L => k_is)
    (case a_refused_right_L => k_is)
    (case l_refused_right_L => k_is)
    (case c_refused_right_L => k_is)
    (case k_refused_right_L => k_is)
    (case a_law => k_is)
    (case l_law => k_is)
    (case c_law => k_is)
    (case k_law => k_is)
    (case cMW => k_is)
    (case rd_GuestError => k_is)
    (case ga_GuestError => k_is)
    (case at_GuestError => k_is)
    (case v_ValueError => k_is)
    (case rd_Missing => k_is)
    (case ga_Missing => k_is)
    (case at_Missing => k_is)
    (case v_KeyError => k_is)
    (case rd_Barred => k_is)
    (case ga_Barred => k_is)
    (case at_Barred => k_is)
    (case v_LookupError => k_is)
    (case xL_N => k_is)
    (case sa_N => k_is)
    (case ex_N => k_is)
    (case ty_N => k_is)
    (case kp_N => k_is)
    (case tf_N => k_is)
    (case nf_N => k_is)
    (case hg_N => k_is)
    (case hk_N => k_is)
    (case hd_N => k_is)
    (case ha_N => k_is)
    (case hm_N => k_is)
    (case s_N_GuestError => k_is)
    (case s_N_Missing => k_is)
    (case s_N_Barred => k_is)
    (case xL_M => k_is)
    (case sa_M => k_is)
    (case ex_M => k_is)
    (case ty_M => k_is)
    (case kp_M => k_is)
    (case tf_M => k_is)
    (case nf_M => k_is)
    (case hg_M => k_is)
    (case hk_M => k_is)
    (case hd_M => k_is)
    (case ha_M => k_is)
    (case hm_M => k_is)
    (case s_M_GuestError => k_is)
    (case s_M_Missing => k_is)
    (case s_M_Barred => k_is)
    (case xL_D => k_is)
    (case sa_D => k_is)
    (case ex_D => k_is)
    (case ty_D => k_is)
    (case kp_D => k_is)
    (case tf_D => k_is)
    (case nf_D => k_is)
    (case hg_D => k_is)
    (case hk_D => k_is)
    (case hd_D => k_is)
    (case ha_D => k_is)
    (case hm_D => k_is)
    (case s_D_GuestError => k_is)
    (case s_D_Missing => k_is)
    (case s_D_Barred => k_is)
    (case xL_A => k_is)
    (case sa_A => k_is)
    (case ex_A => k_is)
    (case ty_A => k_is)
    (case kp_A => k_is)
    (case tf_A => k_is)
    (case nf_A => k_is)
    (case hg_A => k_is)
    (case hk_A => k_is)
    (case hd_A => k_is)
    (case ha_A => k_is)
    (case hm_A => k_is)
    (case s_A_GuestError => k_is)
    (case s_A_Missing => k_is)
    (case s_A_Barred => k_is)
    (case xL_F => k_is)
    (case sa_F => k_is)
    (case ex_F => k_is)
    (case ty_F => k_is)
    (case kp_F => k_is)
    (case tf_F => k_is)
    (case nf_F => k_is)
    (case hg_F => k_is)
    (case hk_F => k_is)
    (case hd_F => k_is)
    (case ha_F => k_is)
    (case hm_F => k_is)
    (case s_F_GuestError => k_is)
    (case s_F_Missing => k_is)
    (case s_F_Barred => k_is)
    (case s_N_N => k_is)
    (case s_M_N => k_is)
    (case s_M_M => k_is)
    (case s_D_N => k_is)
    (case s_D_M => k_is)
    (case s_D_D => k_is)
    (case s_A_N => k_is)
    (case s_A_M => k_is)
    (case s_A_D => k_is)
    (case s_A_A => k_is)
    (case s_F_N => k_is)
    (case s_F_M => k_is)
    (case s_F_D => k_is)
    (case s_F_A => k_is)
    (case s_F_F => k_is)
    (case hn => k_is)
    (case htk => k_is)
    (case hdF_GuestError => k_is)
    (case tyF_GuestError => k_is)
    (case hdF_Missing => k_is)
    (case tyF_Missing => k_is)
    (case hdF_Barred => k_is)
    (case tyF_Barred => k_is)
    (case pg_Queue => k_is)
    (case hdd_Queue => k_is)
    (case po_Queue => k_is)
    (case saa_Queue => k_is)
    (case mk_Queue => k_is)
    (case kc_Queue => k_is)
    (case na_Queue_asks => k_is)
    (case na_Queue_row => k_is)
    (case fn_Queue_init => k_is)
    (case fn_Queue_put => k_is)
    (case fn_Queue_serve => k_is)
    (case fn_Queue_leave => k_is)
    (case fn_Queue_of => k_is)
    (case fn_Queue_waiting => k_is)
    (case fn_Queue_comes_at => k_is)
    (case fn_Queue_len => k_is)
    (case fn_Queue_twin => k_is)
    (case z_isinstance => k_is)
    (case z_int => k_is)
    (case z_bool => k_is)
    (case z_str => k_is)
    (case z_list => k_is)
    (case z_len => k_is)
    (case z_max => k_is)
    (case z_min => k_is)
    (case z_range => k_is)
    (case z_all => k_is)
    (case z_enumerate => k_is)
    (case z_repr => k_is)
    (case z_ValueError => k_is)
    (case z_LookupError => k_is)
    (case z_KeyError => k_is)
