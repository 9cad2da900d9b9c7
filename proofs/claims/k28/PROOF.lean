import PyProof.Rows.All
import Wide.All
import OpenK.AllK
import Wide.FinOn
import HandS.Base
import HandS.Call
import HandS.List
import HandS.Comp
import HandS.Ends
import HandS.Dict
import HandS.Iter
import HandS.Text
import HandS.Words
import HandS.Wide
import HandS.Flow
import HandS.Style
import HandS.IsInst
import HandS.ExcInit
import HandS.ExcIs
import HandS.Defaults
import HandS.Walk
import HandS.Codes
import KE.IntTextLaws
import PyProof.ReprRoads
import HandS.WordsExc
import HandS.TryMany
import HandS.ExcOwn
import HandS.ExcField
import KE.GoesEnum
import PyProof.ReprBulk
import HandS.WideBits
import PyProof.EqKinds
import PyProof.FactsAll.dict_1
import PyProof.FactsAll.subtypes_3
import PyProof.FactsAll.subtypes_4
import KE.KExcInit
import PyProof.ExcBaseAll.LookupError
import HandS.CallSlots
import HandS.Conv
import HandS.Deep
import KE.DataFind
import HandS.SetKeys
import HandS.Small
import HandS.SetFor
import HandS.WordsDict
import HandS.DictComp
import HandS.TupAny
import PyProof.SliceSyntax
import PySem.Challenge.RW_guestsalone_k28_whole_first_broken
set_option Elab.async false
set_option linter.all false
set_option maxRecDepth 100000
set_option maxHeartbeats 8000000
namespace Bk
open PySem PySem.Spec PyProof.Rows L2
/-! ## 1. rules of our own -/
section
variable {X : Cx} {CX : CXT} {k n : Nat} {f : Addr} {fd : FuncData} {ps ks : List Str} {sp : Sp} {E : XK} {x m : Str} {p p1 p2 pos : Pos} {e : Expr} {es : List Expr} {kws : List Keyword} {t tk ta : TA} {g : List Value → List Value → List Value} {gV : List V → List V → List V}
/-- f(k = v, ..): keywords alone -/
theorem pe_callN0 (F : FnOk X.prog X.w X.K X.mg X.base CX k f fd ps sp) (hr : Room k X.A) (hg : Gl X x) (hm : X.mg x = some (.ref f)) (hk : PySem.W.keepIn X.K (.ref f) = true) (hb : KBn X.K fd ps 0 ks g gV) (hx : Passes CX X E)
    (hkw : PK X kws tk) (hall : (backToKw pos (keywordEach kws X.env)).all (·.1.isSome) = true := by rfl) (hks : (backToKw pos (keywordEach kws X.env)).filterMap (·.1) = ks := by rfl)
    (hdb : (x == ("__debug__" : Str)) = false := by decide)
    (hpl : ((backTo pos (starEach [] X.env)).any (·.1) || (backToKw pos (keywordEach kws X.env)).any (·.1.isNone)) = false := by rfl) :
    PE X (.Call (.Name x p) [] kws pos) (tCallN 0 ks.length sp gV E tNil tk) := by
  refine ⟨fun pins s σ H Q I h => ?_⟩
  refine wpAny_Call_Name_kw (ld_glob I hg hm ?_ hdb)
  refine PySem.W.callWith_KW0 (h₀ := X.base) I.ok.mod.kin hk hall ?_ hpl
  refine thn (hkw.run pos pins s σ H _ I h) fun ws s2 ⟨zs, H2, I2, rz, l1, l2, q2⟩ => ⟨I2.kIn, ?_⟩
  rw [hks]
  exact run_fnN (us := []) (vs := []) F hr hb hx I2 .nil rz rfl l2 q2
/-- C.m(e, ..): m a plain def of the class at B (or above it), read off the class -/
theorem pe_cdef {B : Addr} {mc : Value} {ds : List Value} {dvs : List V} {pl : Sem Bool} (F : FnOk X.prog X.w X.K X.mg X.base CX k f fd ps sp) (hr : Room k X.A) (hg : Gl X x) (hm : X.mg x = some (.ref B))
    (rd : PySem.W.readsIn X.K B mc = true) (ga : PySem.W.specialIn X.K (.ref B) "__getattribute__" = some (some (.builtin "type.__getattribute__"))) (at_ : PySem.W.findCls X.K (.ref B) mc m = some (.val (.ref f)))
    (hk : PySem.W.keepIn X.K (.ref f) = true) (hb : Binds X.K fd ps ds) (hd : Vals dvs ds) (hx : Passes CX X E) (ha : PA X (e :: es) t)
    (ht : eval (.Call (.Attribute (.Name x p1) m p2) (e :: es) [] pos) X.env = (do
      let ov ← eval (.Name x p1) X.env
      standAt p2.atName
      let (f, first) ← holding [ov] (getMethod ov m pl)
      callWith pos f first (backTo pos (starEach (e :: es) X.env)) (backToKw pos (keywordEach [] X.env))) := by rfl)
    (hdb : (x == ("__debug__" : Str)) = false := by decide) (he : starEach (e :: es) X.env = (false, eval e X.env) :: starEach es X.env := by rfl) (hpl : (backTo pos (starEach es X.env)).any (·.1) = false := by rfl) :
    PE X (.Call (.Attribute (.Name x p1) m p2) (e :: es) [] pos) (tCall sp dvs E t) := by
  refine ⟨fun pins s σ H Q I h => ?_⟩
  refine PySem.W.methodCall_KW (pl := pl) (ld_glob I hg hm ?_ hdb) ht
  refine PySem.W.method_cls I.kIn ga (PySem.W.cls_value I.kIn rd at_ rfl ?_)
  have I1 := I.tok (s.toks + 1)
  refine PySem.W.callWith_K (h₀ := X.base) I.ok.mod.kin hk (thn (ha.run pos pins _ σ H _ I1 h) fun us s1 ⟨vs, H1, I2, r, q⟩ => ⟨I2.kIn, ?_⟩) he hpl
  exact run_fn F hr hb hd hx I2 r q
/-- C(e, ..) as a value, C an own exception class under ValueError whose own __init__ keeps sp -/
def tMkV (C : Addr) (sp : Sp) (dvs : List V) (ta : TA) : TE := fun σ H Q => ta σ H fun vs H1 => vs.length ≤ 1000 ∧ ∀ a, H1 a = none → sp (.ref a :: (vs ++ dvs)) (upd H1 a (exo a C none)) (fun v H2 => v = .non ∧ Q (.ref a) H2) (fun _ _ _ => False)
theorem pe_oex {C fI : Addr} {ds : List Value} {dvs : List V} (T : OexC X.K C) (iC : PySem.W.findIn X.K (.ref C) "__init__" = some (some (.ref fI))) (tI : PySem.W.typeIn X.K (.ref fI) = some (.type "function"))
    (F1 : FnOk X.prog X.w X.K X.mg X.base CX k fI fd ps sp) (hr : Room (k + 1) X.A) (hb : Binds X.K fd ps ds) (hd : Vals dvs ds) (hx : Passes CX X (fun _ _ _ => False)) (hg : Gl X x) (hm : X.mg x = some (.ref C)) (ha : PA X (e :: es) ta)
    (hdb : (x == ("__debug__" : Str)) = false := by decide) (he : starEach (e :: es) X.env = (false, eval e X.env) :: starEach es X.env := by rfl) (hpl : (backTo pos (starEach es X.env)).any (·.1) = false := by rfl) :
    PE X (.Call (.Name x p) (e :: es) [] pos) (tMkV C sp dvs ta) := by
  refine ⟨fun pins s σ H Q I h => ?_⟩
  obtain ⟨nm, q, N, bs, bm, sn, sub, ab, col, dd, k0, k1, k2, k3, k5, hC, hbm⟩ := T.cls
  refine wpAny_Call_Name_kw (ld_glob I hg hm ?_ hdb)
  refine PySem.W.callWith_K (h₀ := X.base) I.ok.mod.kin T.kC (thn (ha.run pos pins s σ H _ I h) fun us s1 ⟨vs, H1, I1, r1, hz, q1⟩ => ⟨I1.kIn, ?_⟩) he hpl
  show wpAny _ _ (call (.ref C) us) _ _ _
  obtain ⟨hp, g, dr, tk, os⟩ := s1
  have hsz : hp.objs.size ≤ hp.objs.size + 1 := Nat.le_succ _
  have hn : H1 (hp.objs.size + 1) = none := I1.hok.fresh hsz
  have hq := q1 (hp.objs.size + 1) hn
  have kk : ∀ b o, hp.get? b = some o → ((hp.push (PySem.W.kdv_tup us)).push (PySem.HandSPX.excO C hp.objs.size)).get? b = some o := fun b o e => Heap.get?_push_of_some _ (Heap.get?_push_of_some _ e)
  have hget : ((hp.push (PySem.W.kdv_tup us)).push (PySem.HandSPX.excO C hp.objs.size)).get? (hp.objs.size + 1) = some (PySem.HandSPX.excO C hp.objs.size) := by heap_get
  have I2 : Inv X pins σ (upd H1 (hp.objs.size + 1) (exo (hp.objs.size + 1) C none)) ⟨(hp.push (PySem.W.kdv_tup us)).push (PySem.HandSPX.excO C hp.objs.size), g, dr, tk, os⟩ :=
    I1.laid (t' := tk) (a := hp.objs.size + 1) (o := exo (hp.objs.size + 1) C none) (h' := (hp.push (PySem.W.kdv_tup us)).push (PySem.HandSPX.excO C hp.objs.size)) kk hsz (exo_ok hget)
  have r2 : Vals (V.ref (hp.objs.size + 1) :: (vs ++ dvs)) (Value.ref (hp.objs.size + 1) :: (us ++ ds)) := .cons rfl (r1.append hd)
  have hl : (Value.ref (hp.objs.size + 1) :: us ++ ds).length = ps.length := by
    have e := r2.length
    rw [F1.len _ _ _ _ hq] at e
    exact e.symm
  have hus : us.length ≤ sizeLine := by
    rw [← Paired.length r1, sizeLine_eq]
    omega
  refine wpAny_call (PySem.HandSPX.call_own F.excBase_ValueError (fun Y => PySem.HandSPX.refsVE_contains Y bm hbm) (I1.kIn _ _ hC) (PySem.W.looks_findIn I1.kIn iC) (fun self => PySem.W.bind_fn I1.kIn self tI) hus
    (codeAny_mono (F1.run _ X.stack _ _ ⟨Value.ref (hp.objs.size + 1) :: us, []⟩ (Value.ref (hp.objs.size + 1) :: (us ++ ds)) _ _ (fun _ _ _ => False) (hr.make C us []) (I2.env0.make C us []) (hb _ (Value.ref (hp.objs.size + 1) :: us) I2.kIn hl) r2 hq) fun r s' hq' => ?_))
  cases r with
  | error er => exact hx pins σ _ _ er s' I2 hq'
  | ok fl =>
    cases fl with
    | ret u =>
      obtain ⟨v, H2, I3, rv, ev, q2⟩ := I2.after hq'
      subst ev
      exact ⟨rv, .ref (hp.objs.size + 1), H2, I3, rfl, q2⟩
    | next => exact False.elim hq'
    | brk => exact False.elim hq'
    | cont => exact False.elim hq'
/-- repr of a truth -/
def reprB (b : Bool) : Str := if b then "True" else "False"
theorem reprB_inj {a b : Bool} : decide (V.str (reprB a) = V.str (reprB b)) = decide (a = b) := by
  cases a <;> cases b <;> decide +kernel
theorem call_repr_bl : CallR X (.builtin "repr") (fun xs H Q => ∃ b, xs = [.bl b] ∧ Q (.str (reprB b)) H) := by
  intro pins s σ H xs us Q I r h
  obtain ⟨b, rfl, q⟩ := h
  obtain ⟨u, rfl, rfl⟩ := vals1 r
  exact PySem.P.repr_of_bool ⟨.str _, H, I.tok _, ⟨_, rfl⟩, q⟩
end
/-! ### an exception as a value: isinstance, its field -/
end Bk
namespace PySem.W
open PySem PySem.Spec PySem.Calls PyProof.Rows
section
variable {prog : Program} {w : World} {A : Around} {E : Value → Shared → Prop} {s : Shared} {K : Frag} {x D : Addr} {ox : Obj} {od : Option Obj}
theorem bk_findObj {C : Addr} {name : Str} {a g : Value} (hc : (clsIn K C).isSome = true) (ha : findIn K (.ref C) name = some (some a)) (hg : specialIn K a "__get__" = some (some g)) (ht : takesIn K a = some true) : findObj K C od name = some (.bind g a) := by
  obtain ⟨cd, hc⟩ := Option.isSome_iff_exists.mp hc
  unfold findObj
  rw [hc, Option.bind_some, ha, Option.bind_some]
  simp [hg, ht]
theorem bk_class {Q : Option Value → Shared → Prop} (hga : findIn K (.ref D) "__getattribute__" = some (some (.builtin "BaseException.__getattribute__"))) (hgt : findIn K (.ref D) "__getattr__" = some none) (hsub : subIn K (.ref D) (.type "BaseException") = some true)
    (hdct : hasDictIn K D = true) (ha : findIn K (.ref D) "__class__" = some (some (.builtin "object.__class__")))
    (hn : specialIn K (.builtin "object.__class__") "__get__" = some (some (.builtin "getset_descriptor.__get__"))) (htk : takesIn K (.builtin "object.__class__") = some true) (hm : mroIn K D (.type "object") = some true)
    (X : K.In s.heap) (I : InstAt s.heap x ox D od) (h : Q (some (.ref D)) { s with toks := s.toks + 1 }) : wpAny (model prog w) A (getAttr? (.ref x) "__class__") Q E s := by
  have hf : findObj K D od "__class__" = some (.bind (.builtin "getset_descriptor.__get__") (.builtin "object.__class__")) := bk_findObj (by obtain ⟨cd, hc, _⟩ := any_some hdct; rw [hc]; rfl) ha hn htk
  obtain ⟨hp, g, d, t, os⟩ := s
  have L0 := I.type (M := model prog w)
  have L1 := looks_findIn (M := model prog w) X hga
  have L2 := looks_findIn (M := model prog w) X hgt
  have L3 := looks_find (M := model prog w) X I hf
  have sub : Looks (model prog w) hp (isInstance (.ref x) (.type "BaseException")) true := L0.andThen (looks_subIn X hsub)
  have hx0 : (false && onTheHeap (Value.builtin "BaseException.__getattribute__")) = false := rfl
  have hx2 : (Value.builtin "BaseException.__getattribute__" == Value.builtin "object.__getattribute__") = false := by decide +kernel
  have hx1 : (onTheHeap (Value.ref D) && Value.builtin "BaseException.__getattribute__" == Value.builtin "object.__getattribute__") = false := by rw [hx2]; rfl
  unfold getAttr? getAttrBy? getAttrBy
  refine wpAny_bind (wpAny_mkText (wpAny_bind (wpAny_attempt (wpAny_holding (wpAny_bind (L0.at (wpAny_bind (L1.at ?_))))))))
  show wpAny _ _ (if (onTheHeap (Value.ref D) && Value.builtin "BaseException.__getattribute__" == Value.builtin "object.__getattribute__") = true then _ else _) _ _ _
  rw [hx1, if_neg Bool.false_ne_true]
  unfold getAttrByItsOwn hookBefore
  refine wpAny_bind ?_
  rw [if_pos (show onTheHeap (Value.ref D) = true from rfl)]
  refine L2.at ?_
  refine wpAny_bind (wpAny_attempt (wpAny_holding ?_))
  unfold callGetattribute
  rw [hx0, if_neg Bool.false_ne_true]
  unfold boundAndCalled
  rw [PySem.F.excAttr_ValueError.ga.bind (.ref x)]
  refine wpAny_bind (wpAny_pure ?_)
  show wpAny _ _ (call (.builtin "BaseException.__getattribute__") [.ref x, .str "__class__" t]) _ _ _
  refine wpAny_call (codeAny_call_builtin PySem.F.excAttr_ValueError.ga.plain PySem.F.entry_bexc_ga ?_)
  refine @check_slot (model prog w) _ _ ⟨hp, g, d, t + 1, os⟩ "BaseException.__getattribute__" "BaseException" "__getattribute__" (.ref x) [.str "__class__" t] [] _ (by decide +kernel) (by decide +kernel) sub (PySem.F.args_bexc_ga (.ref x) (.str "__class__" t)) ?_
  unfold Builtin.«object.__getattribute__»
  refine wpAny_bind (wpAny_of_eq (a := ((Value.ref x : Value), [Value.str "__class__" t])) (by first | rfl | (simp only [slotArgs]; rfl)) ?_)
  refine wpAny_bind (wpAny_pure (wpAny_bind (L0.at (wpAny_bind (L3.at ?_)))))
  show wpAny _ _ (holding [Value.builtin "object.__class__"] (call (.builtin "getset_descriptor.__get__") [.builtin "object.__class__", .ref x, .ref D]) >>= ret) _ _ _
  refine wpAny_bind (wpAny_holding (wpAny_call (class_get (s := ⟨hp, g, d, t + 1, os⟩) (ox := ox) (od := od) X I hm ?_)))
  refine wpAny_pure ?_
  show wpAny _ _ (handedOut (.ref D)) _ _ _
  rw [handedOut_of (v := .ref D) rfl]
  first
    | exact wpAny_pure (wpAny_pure h)
    | exact wpAny_pure h
    | exact wpAny_pure (wpAny_bind (wpAny_pure (wpAny_pure h)))
theorem bk_kitx (hga : findIn K (.ref D) "__getattribute__" = some (some (.builtin "BaseException.__getattribute__"))) (hgt : findIn K (.ref D) "__getattr__" = some none) (hsub : subIn K (.ref D) (.type "BaseException") = some true) (hdct : hasDictIn K D = true) (ha : findIn K (.ref D) "__class__" = some (some (.builtin "object.__class__")))
    (hn : specialIn K (.builtin "object.__class__") "__get__" = some (some (.builtin "getset_descriptor.__get__"))) (htk : takesIn K (.builtin "object.__class__") = some true) (hm : mroIn K D (.type "object") = some true) :
    KitX K (.ref x) (.ref D) (fun h => InstAt h x ox D od) where
  ty := fun _ _ _ I => I.type
  it := fun _ _ X _ => by
    obtain ⟨cdD, hcD, _⟩ := any_some hdct
    unfold clsIn at hcD
    split at hcD
    · rename_i c' d' cd' sl' ho
      intro A' Q' E' s' k q
      unfold isType loadHead
      exact wpAny_bind (wpAny_loadPart (k _ _ (X _ _ ho)) (wpAny_pure q))
    · cases hcD
  ne := fun h tp dd its n sl X htp => by
    obtain ⟨cdD, hcD, _⟩ := any_some hdct
    refine Bool.eq_false_iff.mpr fun q => ?_
    have e : D = tp := Value.ref.inj (beq_iff_eq.mp q)
    subst e
    unfold clsIn at hcD
    split at hcD
    · rename_i c' d' cd' sl' ho
      have z := (X _ _ ho).symm.trans htp
      cases z
    · cases hcD
  ca := fun X I k => bk_class hga hgt hsub hdct ha hn htk hm X I k
end
end PySem.W
namespace Bk
open PySem PySem.Spec PyProof.Rows L2
/-- at a: an exception of the class at D, its own dict (at dx) holds fs -/
def XV (H : Hp) (a D dx : Addr) (fs : List (Str × V)) : Prop := H a = some (exo a D (some dx)) ∧ H dx = some (exd dx fs)
theorem xv_inst {X : Cx} {pins : List (Addr × Obj)} {σ : L2.St} {H : Hp} {s : Shared} {a D dx : Addr} {fs : List (Str × V)} (I : Inv X pins σ H s) (h : XV H a D dx fs) :
    ∃ (ox od : Obj) (mA : Str → Option Value), PySem.W.InstAt s.heap a ox D (some od) ∧ (∀ f, PySem.W.lookIn f od = some (mA f)) ∧ ∀ f, RelO (fs.lookup f) (mA f) := by
  obtain ⟨t1, ho⟩ := exo_at I.hok h.1
  obtain ⟨mA, hns, rel⟩ := exd_at I.hok h.2
  obtain ⟨od, hod, hl⟩ := lookIn_ns hns
  exact ⟨_, od, mA, ⟨ho, rfl, rfl, hod⟩, hl, rel⟩
/-- isinstance(e, c), e such an exception -/
def rIsX (K : PySem.W.Frag) : List V → Hp → VK → Prop := fun xs H Q => ∃ (a D dx : Addr) (fs : List (Str × V)) (c : V) (u : Value) (b : Bool), xs = [.ref a, c] ∧ XV H a D dx fs ∧ ExcC K D ∧ ClsV c u ∧ PySem.W.kitOne K (.ref D) u = some b ∧ Q (.bl b) H
theorem call_isX {X : Cx} : CallR X (.builtin "isinstance") (rIsX X.K) := by
  intro pins s σ H xs us Q I r h
  obtain ⟨a, D, dx, fs, c, u, b, rfl, xv, C, k, e, q⟩ := h
  obtain ⟨u1, u2, rfl, r1, r2⟩ := vals2 r
  have e2 := k.eq r2
  subst e2
  obtain rfl : u1 = Value.ref a := r1
  obtain ⟨ox, od, mA, J, _, _⟩ := xv_inst I xv
  exact PySem.W.kia_one (PySem.W.bk_kitx (ox := ox) (od := some od) C.hg C.hk C.hs C.hd C.ha C.hn C.ht C.hm) I.kIn J e (fun z => nomatch z) fun tk => ⟨.bl b, H, I.tok tk, rfl, q⟩
/-- isinstance of a value of any form met here -/
def rIs (K : PySem.W.Frag) : List V → Hp → VK → Prop := fun xs H Q => rIsi K xs H Q ∨ rIsX K xs H Q
theorem call_is {X : Cx} : CallR X (.builtin "isinstance") (rIs X.K) := CallR.or call_isi call_isX
end Bk

namespace Bk
open PySem PySem.Spec PyProof.Rows L2
/-! ## 2. a def that may be called by its name -/
structure Cal (P : Program) (w : World) (K : PySem.W.Frag) (mg : Str → Option Value) (base : Heap) (CX : CXT) (k : Nat) (x : Str) (sp : Sp) : Prop where
  ex : ∃ (f : Addr) (fd : FuncData) (ps : List Str) (ds : List Value) (dvs : List V), mg x = some (.ref f) ∧ PySem.W.keepIn K (.ref f) = true ∧ FnOk P w K mg base CX k f fd ps (fun vs H Q E => sp vs H Q E ∧ vs.length = ps.length) ∧ Binds K fd ps [] ∧ ds = [] ∧ dvs = []
/-- the same with keywords: n values by places, then those of the keywords ks; gV orders them -/
structure CalN (P : Program) (w : World) (K : PySem.W.Frag) (mg : Str → Option Value) (base : Heap) (CX : CXT) (k n : Nat) (ks : List Str) (x : Str) (sp : Sp) (gV : List V → List V → List V) : Prop where
  ex : ∃ (f : Addr) (fd : FuncData) (ps : List Str) (g : List Value → List Value → List Value), mg x = some (.ref f) ∧ PySem.W.keepIn K (.ref f) = true ∧ FnOk P w K mg base CX k f fd ps sp ∧ KBn K fd ps n ks g gV
/-- defaults fill up -/
structure CalD (P : Program) (w : World) (K : PySem.W.Frag) (mg : Str → Option Value) (base : Heap) (CX : CXT) (k : Nat) (x : Str) (sp : Sp) (dvs : List V) : Prop where
  ex : ∃ (f : Addr) (fd : FuncData) (ps : List Str) (ds : List Value), mg x = some (.ref f) ∧ PySem.W.keepIn K (.ref f) = true ∧ FnOk P w K mg base CX k f fd ps sp ∧ Binds K fd ps ds ∧ Vals dvs ds
/-- a method's def, by itself -/
structure Own (P : Program) (w : World) (K : PySem.W.Frag) (mg : Str → Option Value) (base : Heap) (CX : CXT) (k : Nat) (f : Addr) (fd : FuncData) (ps : List Str) (sp : Sp) : Prop where
  ok : FnOk P w K mg base CX k f fd ps sp
  bd : Binds K fd ps []
  kp : PySem.W.keepIn K (.ref f) = true
section
variable {X : Cx} {CX : CXT} {k j n : Nat} {ks : List Str} {sp : Sp} {E : XK} {x : Str} {p pos : Pos} {e : Expr} {es : List Expr} {kws : List Keyword} {t tk : TA} {gV : List V → List V → List V} {dvs : List V}
theorem pe_cal (c : CalD X.prog X.w X.K X.mg X.base CX0 k x sp []) (hr : Room j X.A) (hk : k ≤ j) (hg : Gl X x) (ha : PA X (e :: es) t)
    (hdb : (x == ("__debug__" : Str)) = false := by decide) (he : starEach (e :: es) X.env = (false, eval e X.env) :: starEach es X.env := by rfl) (hpl : (backTo pos (starEach es X.env)).any (·.1) = false := by rfl) :
    PE X (.Call (.Name x p) (e :: es) [] pos) (tCall sp [] E0 t) := by
  obtain ⟨f, fd, ps, ds, h1, h2, h3, h4, h5⟩ := c.ex
  exact pe_call h3 (hr.mono hk) hg h1 h2 h4 h5 pass0 ha hdb he hpl
theorem pe_calD (c : CalD X.prog X.w X.K X.mg X.base CX0 k x sp dvs) (hr : Room j X.A) (hk : k ≤ j) (hg : Gl X x) (ha : PA X (e :: es) t)
    (hdb : (x == ("__debug__" : Str)) = false := by decide) (he : starEach (e :: es) X.env = (false, eval e X.env) :: starEach es X.env := by rfl) (hpl : (backTo pos (starEach es X.env)).any (·.1) = false := by rfl) :
    PE X (.Call (.Name x p) (e :: es) [] pos) (tCall sp dvs E0 t) := by
  obtain ⟨f, fd, ps, ds, h1, h2, h3, h4, h5⟩ := c.ex
  exact pe_call h3 (hr.mono hk) hg h1 h2 h4 h5 pass0 ha hdb he hpl
theorem pe_cal0 (c : CalD X.prog X.w X.K X.mg X.base CX0 k x sp []) (hr : Room j X.A) (hk : k ≤ j) (hg : Gl X x) (hdb : (x == ("__debug__" : Str)) = false := by decide) :
    PE X (.Call (.Name x p) [] [] pos) (tCall sp [] E0 tNil) := by
  obtain ⟨f, fd, ps, ds, h1, h2, h3, h4, h5⟩ := c.ex
  exact pe_call0 h3 (hr.mono hk) hg h1 h2 h4 h5 pass0 hdb
theorem pe_calN (c : CalN X.prog X.w X.K X.mg X.base CX0 k n ks x sp gV) (hr : Room k X.A) (hg : Gl X x) (ha : PA X (e :: es) t) (hkw : PK X kws tk)
    (hall : (backToKw pos (keywordEach kws X.env)).all (·.1.isSome) = true := by rfl) (hks : (backToKw pos (keywordEach kws X.env)).filterMap (·.1) = ks := by rfl)
    (hdb : (x == ("__debug__" : Str)) = false := by decide) (he : starEach (e :: es) X.env = (false, eval e X.env) :: starEach es X.env := by rfl)
    (hpl : ((backTo pos (starEach (e :: es) X.env)).any (·.1) || (backToKw pos (keywordEach kws X.env)).any (·.1.isNone)) = false := by rfl) :
    PE X (.Call (.Name x p) (e :: es) kws pos) (tCallN n ks.length sp gV E0 t tk) := by
  obtain ⟨f, fd, ps, g, h1, h2, h3, h4⟩ := c.ex
  exact pe_callN h3 hr hg h1 h2 h4 pass0 ha hkw hall hks hdb he hpl
theorem pe_calN0 (c : CalN X.prog X.w X.K X.mg X.base CX0 k 0 ks x sp gV) (hr : Room k X.A) (hg : Gl X x) (hkw : PK X kws tk)
    (hall : (backToKw pos (keywordEach kws X.env)).all (·.1.isSome) = true := by rfl) (hks : (backToKw pos (keywordEach kws X.env)).filterMap (·.1) = ks := by rfl)
    (hdb : (x == ("__debug__" : Str)) = false := by decide)
    (hpl : ((backTo pos (starEach [] X.env)).any (·.1) || (backToKw pos (keywordEach kws X.env)).any (·.1.isNone)) = false := by rfl) :
    PE X (.Call (.Name x p) [] kws pos) (tCallN 0 ks.length sp gV E0 tNil tk) := by
  obtain ⟨f, fd, ps, g, h1, h2, h3, h4⟩ := c.ex
  exact pe_callN0 h3 hr hg h1 h2 h4 pass0 hkw hall hks hdb hpl
end
theorem CalD.mk' {P : Program} {w : World} {K : PySem.W.Frag} {mg : Str → Option Value} {base : Heap} {CX : CXT} {k : Nat} {x : Str} {sp : Sp} {f : Addr} {fd : FuncData} {ps : List Str} (g : mg x = some (.ref f)) (kp : PySem.W.keepIn K (.ref f) = true) (F : FnOk P w K mg base CX k f fd ps sp) (b : Binds K fd ps []) :
    CalD P w K mg base CX k x sp [] := ⟨f, fd, ps, [], g, kp, F, b, .nil⟩
/-! ## 3. going through a reading -/
section
variable {K : PySem.W.Frag} {σ : L2.St} {H : Hp} {ta tb tc te : TE} {t u : TT} {x y v : V} {Q : VK} {QB : Bool → Hp → Prop} {QL : List V → Hp → Prop} {r r' : R2} {D : Ends} {a b : TS} {tr : TA}
theorem r_var {i : Nat} (h : σ[i]? = some (some v)) (q : Q v H) : tVar i σ H Q := ⟨v, h, q⟩
theorem r_c (q : Q v H) : tC v σ H Q := q
theorem r_op (q : ta σ H fun x H1 => tb σ H1 fun y H2 => r x y H2 Q) : tOp r ta tb σ H Q := q
theorem r_un {r : V → Hp → VK → Prop} (q : ta σ H fun x H1 => r x H1 Q) : tUn r ta σ H Q := q
theorem r_I0 {g : Int → Int → V} {i j : Int} (q : Q (g i j) H) : rI0 g (.int i) (.int j) H Q := ⟨i, j, rfl, rfl, q⟩
theorem r_I {C : Int → Int → Prop} {g : Int → Int → V} {i j : Int} (c : C i j) (q : Q (g i j) H) : rI C g (.int i) (.int j) H Q := ⟨i, j, rfl, rfl, c, q⟩
theorem r_U {g : Int → V} {i : Int} (q : Q (g i) H) : rU g (.int i) H Q := ⟨i, rfl, q⟩
theorem r_eq (s : scal x y = true) (q : Q (.bl (decide (x = y))) H) : rEq x y H Q := ⟨s, q⟩
theorem r_ne (s : scal x y = true) (q : Q (.bl (!decide (x = y))) H) : rNe x y H Q := ⟨s, q⟩
theorem r_nil (q : QL [] H) : tNil σ H QL := q
theorem r_cons (q : ta σ H fun x H1 => tr σ H1 fun xs H2 => QL (x :: xs) H2) : tCons ta tr σ H QL := q
theorem r_call {sp : Sp} {dvs : List V} {E : XK} (q : tr σ H fun vs H1 => sp (vs ++ dvs) H1 Q E) : tCall sp dvs E tr σ H Q := q
theorem r_callN {n m : Nat} {sp : Sp} {gV : List V → List V → List V} {E : XK} {tk : TA} (q : tr σ H fun vs H1 => tk σ H1 fun zs H2 => vs.length = n ∧ zs.length = m ∧ sp (gV vs zs) H2 Q E) : tCallN n m sp gV E tr tk σ H Q := q
theorem r_cb {rc : List V → Hp → VK → Prop} (q : tr σ H fun vs H1 => rc vs H1 Q) : tCB rc tr σ H Q := q
theorem r_ret (q : te σ H D.rt) : tRet te D σ H := q
theorem r_seq (q : a { D with nx := b D } σ H) : tSeq a b D σ H := q
theorem r_asg {g : TG} (q : te σ H fun x H1 => g x σ H1 D.nx) : tAsg te g D σ H := q
theorem r_name {i : Nat} {Qs : L2.St → Hp → Prop} (q : Qs (σ.set i (some v)) H) : gName i v σ H Qs := q
theorem r_if (q : t σ H fun b' H1 => if b' = true then a D σ H1 else b D σ H1) : tIfS t a b D σ H := q
theorem r_next (q : D.nx σ H) : tNext D σ H := q
theorem r_drop (q : te σ H fun _ H1 => D.nx σ H1) : tDrop te D σ H := q
theorem r_test (q : te σ H fun x H' => ∃ k, x = .bl k ∧ QB k H') : tTest te σ H QB := q
theorem r_tB (q : te σ H fun x H' => ∃ k, x = .bl k ∧ QB k H') : tB te σ H QB := q
theorem r_isb {k : Bool} (q : QB k H) : ∃ k', V.bl k = .bl k' ∧ QB k' H := ⟨k, rfl, q⟩
theorem r_isv {k : Bool} {A : Bool → Prop} (q : A k) : ∃ k', V.bl k = .bl k' ∧ A k' := ⟨k, rfl, q⟩
theorem r_not (q : t σ H fun c H1 => QB (!c) H1) : tNot t σ H QB := q
theorem r_and (q : t σ H fun c H1 => if c = true then u σ H1 QB else QB false H1) : tAnd t u σ H QB := q
theorem r_or (q : t σ H fun c H1 => if c = true then QB true H1 else u σ H1 QB) : tOr t u σ H QB := q
theorem r_andV (q : ta σ H fun x H1 => ∃ c, x = .bl c ∧ if c = true then tb σ H1 Q else Q (.bl false) H1) : tAndV ta tb σ H Q := q
theorem r_orV (q : ta σ H fun x H1 => ∃ c, x = .bl c ∧ if c = true then Q (.bl true) H1 else tb σ H1 Q) : tOrV ta tb σ H Q := q
theorem r_notV (q : ta σ H fun x H1 => ∃ c, x = .bl c ∧ Q (.bl (!c)) H1) : tNotV ta σ H Q := q
theorem r_chain (q : ta σ H fun x H1 => tb σ H1 fun y H2 => r x y H2 fun z H3 => ∃ k, z = .bl k ∧ (if k = true then tc σ H3 fun w' H4 => r' y w' H4 Q else Q (.bl false) H3)) : tChain r r' ta tb tc σ H Q := q
theorem r_ifE (q : t σ H fun c H1 => if c = true then ta σ H1 Q else tb σ H1 Q) : tIf t ta tb σ H Q := q
theorem r_isN (q : Q (.bl (decide (x = .non))) H) : (fun x y H Q => y = V.non ∧ Q (.bl (decide (x = .non))) H : R2) x .non H Q := ⟨rfl, q⟩
def NewL (xs : List V) (H : Hp) (Q : VK) : Prop := xs.length ≤ sizeLine ∧ ∀ p, H p = none → Q (.ref p) (upd H p (.lst xs))
def NewT (xs : List V) (H : Hp) (Q : VK) : Prop := xs.length ≤ sizeLine ∧ ∀ p, H p = none → Q (.ref p) (upd H p (.tup xs))
theorem r_lst (q : tr σ H fun xs H1 => NewL xs H1 Q) : tLst tr σ H Q := q
theorem r_tup (q : tr σ H fun xs H1 => NewT xs H1 Q) : tTup tr σ H Q := q
theorem same_upd {p : Addr} {o : HO} (h : H p = none) : Same H (upd H p o) := fun b x e => by
  rw [upd_ne (ne_of_none e h)]
  exact e
/-- a new object: the heap behind it by what stands in it -/
theorem newL {xs : List V} (q : ∀ p H', H p = none → Same H H' → H' p = some (.lst xs) → Q (.ref p) H') (hl : xs.length ≤ 10000 := by exact Nat.le_of_ble_eq_true rfl) : NewL xs H Q :=
  ⟨Nat.le_trans hl (by decide), fun p hp => q p _ hp (same_upd hp) upd_same⟩
theorem newT {xs : List V} (q : ∀ p H', H p = none → Same H H' → H' p = some (.tup xs) → Q (.ref p) H') (hl : xs.length ≤ 10000 := by exact Nat.le_of_ble_eq_true rfl) : NewT xs H Q :=
  ⟨Nat.le_trans hl (by decide), fun p hp => q p _ hp (same_upd hp) upd_same⟩
def NewDK (kvs : List (Key × V)) (H : Hp) (Q : VK) : Prop := ∀ p, H p = none → Q (.ref p) (upd H p (.dK kvs))
theorem r_dnewK (q : NewDK [] H Q) : tDNewK σ H Q := q
theorem newDK {kvs : List (Key × V)} (q : ∀ p H', H p = none → Same H H' → H' p = some (.dK kvs) → Q (.ref p) H') : NewDK kvs H Q := fun p hp => q p _ hp (same_upd hp) upd_same
def MkV (C : Addr) (sp : Sp) (dvs vs : List V) (H : Hp) (Q : VK) : Prop := vs.length ≤ 1000 ∧ ∀ a, H a = none → sp (.ref a :: (vs ++ dvs)) (upd H a (exo a C none)) (fun v H2 => v = .non ∧ Q (.ref a) H2) (fun _ _ _ => False)
theorem r_mkV {C : Addr} {sp : Sp} {dvs : List V} (q : tr σ H fun vs H1 => MkV C sp dvs vs H1 Q) : tMkV C sp dvs tr σ H Q := q
def ForL (J : It) (g : TG) (tb : TS) (D : Ends) (σ : L2.St) (H : Hp) : Prop := ∃ W : Nat → Nat → L2.St → Hp → Prop, (∃ m, W 0 m σ H) ∧ ∀ i m σ H, W i m σ H →
  (J.stop i H ∧ D.nx σ H) ∨ (J.go i H ∧ ∃ N : L2.St → Hp → Prop, (∀ σ' H', N σ' H' → ∃ m', m' < m ∧ W (i + 1) m' σ' H') ∧ ∀ x H', J.yld i H x H' → g x σ H' fun σ2 H2 => tb { D with nx := N, ct := N, bk := D.nx } σ2 H2)
theorem r_for {wi : TI} {g : TG} (q : wi σ H fun J H1 => ForL J g a D σ H1) : tFor wi g a D σ H := q
theorem r_iList {tl : TE} {R : It → Hp → Prop} (q : tl σ H fun x H1 => ∃ p, x = .ref p ∧ (∃ xs, SqL K H1 p xs) ∧ R (Itl K p) H1) : iList K tl σ H R := q
theorem r_iTup {tl : TE} {R : It → Hp → Prop} (q : tl σ H fun x H1 => ∃ p, x = .ref p ∧ (∃ xs, SqT K H1 p xs) ∧ R (Itt K p) H1) : iTup K tl σ H R := q
theorem r_iRng1 {R : It → Hp → Prop} (q : tr σ H fun vs H1 => ∃ j : Int, vs = [.int j] ∧ -(2 ^ 62) ≤ j ∧ j < 2 ^ 62 ∧ R (Itr 0 j.toNat) H1) : iRng1 tr σ H R := q
theorem r_iRng2 {R : It → Hp → Prop} (q : tr σ H fun vs H1 => ∃ i j : Int, vs = [.int i, .int j] ∧ (-(2 ^ 62) ≤ i ∧ i < 2 ^ 62 ∧ -(2 ^ 62) ≤ j ∧ j < 2 ^ 62) ∧ R (Itr i (j - i).toNat) H1) : iRng2 tr σ H R := q
theorem r_ixL {p : Addr} {xs : List V} {i : Int} (h : SqL K H p xs) (ha : atI xs i = some v) (q : Q v H) : rIxL K (.ref p) (.int i) H Q := ⟨p, xs, i, v, rfl, rfl, h, ha, q⟩
theorem r_ixT {p : Addr} {xs : List V} {i : Int} (h : SqT K H p xs) (ha : atI xs i = some v) (q : Q v H) : rIxT K (.ref p) (.int i) H Q := ⟨p, xs, i, v, rfl, rfl, h, ha, q⟩
theorem r_gSub {to ti : TE} {ts : TSet} {Qs : L2.St → Hp → Prop} (q : to σ H fun o H1 => ti σ H1 fun i H2 => ts o i v H2 fun H3 => Qs σ H3) : gSub to ti ts v σ H Qs := q
theorem r_bm {T : String} {rm : V → List V → Hp → VK → Prop} {to : TE} (q : to σ H fun x H1 => tyV K T x H1 ∧ tr σ H1 fun xs H2 => rm x xs H2 Q) : tBM K T rm to tr σ H Q := q
theorem iteNF {A B : Prop} (h : B) : if (!true) = true then A else B := iteF h
theorem iteNT {A B : Prop} (h : A) : if (!false) = true then A else B := iteT h
theorem iteD {c A B : Prop} [Decidable c] (hc : c) (h : A) : if decide c = true then A else B := by rw [decide_eq_true hc]; exact iteT h
theorem iteDn {c A B : Prop} [Decidable c] (hc : ¬ c) (h : B) : if decide c = true then A else B := by rw [decide_eq_false hc]; exact iteF h
theorem iteND {c A B : Prop} [Decidable c] (hc : c) (h : B) : if (!decide c) = true then A else B := by rw [decide_eq_true hc]; exact iteF h
theorem iteNDn {c A B : Prop} [Decidable c] (hc : ¬ c) (h : A) : if (!decide c) = true then A else B := by rw [decide_eq_false hc]; exact iteT h
/-- a test that is open: both ways, by what it says -/
theorem iteC {c A B : Prop} [Decidable c] (h1 : c → A) (h2 : ¬ c → B) : if decide c = true then A else B := by
  by_cases h : c
  · exact iteD h (h1 h)
  · exact iteDn h (h2 h)
theorem iteNC {c A B : Prop} [Decidable c] (h1 : ¬ c → A) (h2 : c → B) : if (!decide c) = true then A else B := by
  by_cases h : c
  · exact iteND h (h2 h)
  · exact iteNDn h (h1 h)
theorem iteB {b : Bool} {A B : Prop} (h1 : b = true → A) (h2 : b = false → B) : if b = true then A else B := by
  cases b
  · exact iteF (h2 rfl)
  · exact iteT (h1 rfl)
theorem iteNB {b : Bool} {A B : Prop} (h1 : b = false → A) (h2 : b = true → B) : if (!b) = true then A else B := by
  cases b
  · exact iteT (h1 rfl)
  · exact iteF (h2 rfl)
theorem r_m1 {rm : V → List V → Hp → VK → Prop} {to te : TE} (q : to σ H fun x H1 => (∃ a, x = .str a) ∧ te σ H1 fun y H2 => rm x [y] H2 Q) : tM1 rm to te σ H Q := q
theorem r_len {z : Str} (h : z.length ≤ 100000) (q : Q (.int z.length) H) : ∃ z', [V.str z] = [V.str z'] ∧ z'.length ≤ sizeLine ∧ Q (.int z'.length) H := ⟨z, rfl, Nat.le_trans h (by decide), q⟩
theorem sqL {p : Addr} {xs : List V} (h : H p = some (.lst xs)) : SqL K H p xs := .inl (.inl h)
theorem sqT {p : Addr} {xs : List V} (h : H p = some (.tup xs)) : SqT K H p xs := .inl (.inl h)
end
end Bk

namespace Bk
open PySem PySem.Spec PyProof.Rows L2
/-! ## 4. what isinstance answers -/
def IsA (K : PySem.W.Frag) (H : Hp) (x : V) (T : String) (b : Bool) : Prop :=
  (∃ t, TyX K H x t ∧ PySem.W.kitOne K t (.type T) = some b) ∨ (∃ (a D dx : Addr) (fs : List (Str × V)), x = .ref a ∧ XV H a D dx fs ∧ ExcC K D ∧ PySem.W.kitOne K (.ref D) (.type T) = some b)
section
variable {K : PySem.W.Frag} {H H' : Hp} {x : V} {T : String} {b : Bool} {Q : VK}
theorem r_is (h : IsA K H x T b) (q : Q (.bl b) H) : rIs K [x, .ty T] H Q := by
  rcases h with ⟨t, h1, h2⟩ | ⟨a, D, dx, fs, rfl, h1, h2, h3⟩
  · exact .inl ⟨x, .ty T, t, .type T, b, rfl, .ty T, h1, h2, q⟩
  · exact .inr ⟨a, D, dx, fs, .ty T, .type T, b, rfl, h1, h2, .ty T, h3, q⟩
theorem isa_int {i : Int} (h : kitB "int" T = some b := by decide +kernel) : IsA K H (.int i) T b := .inl ⟨.type "int", .base (.int i), kit_ty h⟩
theorem isa_bl {c : Bool} (h : kitB "bool" T = some b := by decide +kernel) : IsA K H (.bl c) T b := .inl ⟨.type "bool", .base (.bl c), kit_ty h⟩
theorem isa_str {z : Str} (h : kitB "str" T = some b := by decide +kernel) : IsA K H (.str z) T b := .inl ⟨.type "str", .base (.str z), kit_ty h⟩
theorem isa_non (h : kitB "NoneType" T = some b := by decide +kernel) : IsA K H .non T b := .inl ⟨.type "NoneType", .base .non, kit_ty h⟩
theorem isa_lst {a : Addr} {xs : List V} (e : H a = some (.lst xs)) (h : kitB "list" T = some b := by decide +kernel) : IsA K H (.ref a) T b := .inl ⟨.type "list", .base (.lst e), kit_ty h⟩
theorem isa_tup {a : Addr} {xs : List V} (e : H a = some (.tup xs)) (h : kitB "tuple" T = some b := by decide +kernel) : IsA K H (.ref a) T b := .inl ⟨.type "tuple", .base (.tup e), kit_ty h⟩
theorem isa_dK {a : Addr} {kvs : List (Key × V)} (e : H a = some (.dK kvs)) (h : kitB "dict" T = some b := by decide +kernel) : IsA K H (.ref a) T b := .inl ⟨.type "dict", .base (.dK e), kit_ty h⟩
theorem isa_exc {a D dx : Addr} {fs : List (Str × V)} (e : XV H a D dx fs) (C : ExcC K D) (h : PySem.W.kitOne K (.ref D) (.type T) = some b) : IsA K H (.ref a) T b := .inr ⟨a, D, dx, fs, rfl, e, C, h⟩
end
/-! ## 5. the box of draws -/
def Box (a : Addr) (n : Nat) (H : Hp) : Prop := ∃ x y z : Int, H a = some (.lst [.int x, .int y, .int z]) ∧ 0 ≤ x ∧ 0 ≤ y ∧ y < 2147483629 ∧ 0 ≤ z ∧ z ≤ (n : Int)
/-- all but what stands at a is as it was -/
def But (a : Addr) (H H' : Hp) : Prop := ∀ b o, b ≠ a → H b = some o → H' b = some o
theorem But.refl {a : Addr} {H : Hp} : But a H H := fun _ _ _ h => h
theorem But.trans {a : Addr} {H H1 H2 : Hp} (x : But a H H1) (y : But a H1 H2) : But a H H2 := fun b o n e => y b o n (x b o n e)
theorem But.same {a : Addr} {H H1 H2 : Hp} (x : But a H H1) (y : Same H1 H2) : But a H H2 := fun b o n e => y b o (x b o n e)
theorem But.of {a : Addr} {H H1 : Hp} (y : Same H H1) : But a H H1 := fun b o _ e => y b o e
theorem But.upd {a : Addr} {H : Hp} {o : HO} : But a H (upd H a o) := fun b u n e => by rw [upd_ne n]; exact e
theorem Box.same {a : Addr} {n : Nat} {H H' : Hp} (h : Box a n H) (s : Same H H') : Box a n H' := by
  obtain ⟨x, y, z, e, r⟩ := h
  exact ⟨x, y, z, s _ _ e, r⟩
theorem Box.mono {a : Addr} {n m : Nat} {H : Hp} (h : Box a n H) (l : n ≤ m) : Box a m H := by
  obtain ⟨x, y, z, e, r1, r2, r3, r4, r5⟩ := h
  exact ⟨x, y, z, e, r1, r2, r3, r4, by omega⟩
theorem Box.ne {a p : Addr} {n : Nat} {H : Hp} (h : Box a n H) (hp : H p = none) : p ≠ a := by
  obtain ⟨x, y, z, e, _⟩ := h
  exact (ne_of_none e hp).symm
theorem Box.ne_tup {a p : Addr} {n : Nat} {H : Hp} {xs : List V} (h : Box a n H) (hp : H p = some (.tup xs)) : p ≠ a := by
  obtain ⟨x, y, z, e, _⟩ := h
  exact fun q => by rw [q, e] at hp; cases hp
def spCell (K : PySem.W.Frag) : Sp := fun vs H Q _ => ∃ (a : Addr) (ns : List Int) (k : Nat), vs = [.ref a, .int k] ∧ SqL K H a (ns.map V.int) ∧ k ≤ 100000 ∧ ∀ c, Q (.int c) H
def spBox : Sp := fun vs H Q _ => ∃ c : Int, vs = [.int c] ∧ ∀ p H', H p = none → Same H H' → Box p 0 H' → Q (.ref p) H'
def spTake : Sp := fun vs H Q _ => ∃ (a : Addr) (n : Nat) (size : Int), vs = [.ref a, .int size] ∧ Box a n H ∧ n < 1000000 ∧ 0 < size ∧ size < 2 ^ 128 ∧
  ∀ d H', 0 ≤ d → d < size → Box a (n + 1) H' → But a H H' → Q (.int d) H'
theorem cdiv {i j : Int} (h : 0 < j) (h2 : j < 2 ^ 128) : CDivW i j := wide_div (b := 128) h (by omega) (by decide) (by decide)
theorem cmul {i j : Int} (h1 : -(2 ^ 128) < i) (h2 : i < 2 ^ 128) (h3 : -(2 ^ 128) < j) (h4 : j < 2 ^ 128) : CMulW i j := wide_mul (a := 128) (b := 128) (by omega) (by omega) (by decide) (by decide) (by decide)
theorem at_map {ns : List Int} {k : Nat} (h : k < ns.length) : atI (ns.map V.int) ((k : Nat) : Int) = some (.int ns[k]) := atI_nat (by rw [List.getElem?_map, List.getElem?_eq_getElem h]; rfl)
end Bk

namespace Bk
open PySem PySem.Spec PyProof.Rows L2
theorem sameBut {H H' : Hp} {D : Addr} {o : HO} (h : Same H H') (n : H D = none) : Same H (upd H' D o) := fun b u e => by
  rw [upd_ne (ne_of_none e n)]
  exact h b u e
/-! ## 6. a comprehension over a text's signs, all of it -/
section
variable {K : PySem.W.Frag} {σ : L2.St} {H : Hp} {Q : VK} {te : TE}
/-- the list of p of each sign -/
theorem r_lcStr {i0 j : Nat} {vs : List Nat} {z : Str} (p : Nat → V) (hv : σ[i0]? = some (some (.str z))) (hz : z.length ≤ 100000)
    (hw : ∀ x, wipe ((wipe σ vs).set j (some x)) vs = wipe σ vs)
    (ht : ∀ (c : Nat) (H' : Hp) (Q' : VK), c ∈ z.cps.toList → Same H H' → (∀ H2, Same H' H2 → Q' (p c) H2) → te ((wipe σ vs).set j (some (.str ⟨#[c]⟩))) H' Q')
    (q : ∀ D H', H D = none → Same H H' → H' D = some (.lst (z.cps.toList.map p)) → Q (.ref D) H') :
    tLc (iStr (tVar i0)) (gName j) tYes te vs σ H Q := by
  refine ⟨_, hv, z, rfl, fun D hD => ?_⟩
  refine lc_it (n := z.cps.size) walk_str (fun i H' => Same H H' ∧ H' D = some (.lst ((z.cps.toList.take i).map p))) ⟨same_upd hD, by rw [upd_same]; rfl⟩ (fun _ _ _ _ => trivial) ?_ ?_
  · rintro i x H1 H2 hi ⟨sm, e⟩ ⟨rfl, c, hc, rfl⟩
    have hc' : z.cps.toList[i]? = some c := by rw [Array.getElem?_toList]; exact hc
    refine ⟨hw _, ?_⟩
    show te _ _ _
    refine ht c _ _ (List.mem_of_getElem? hc') sm fun H3 s3 => ⟨_, s3 _ _ e, ?_, sameBut (sm.trans s3) hD, ?_⟩
    · have l : ((z.cps.toList.take i).map p).length ≤ z.cps.size := by
        rw [List.length_map, List.length_take, Array.length_toList]
        omega
      have hz' : z.cps.size ≤ 100000 := hz
      exact Nat.lt_of_le_of_lt (Nat.le_trans l hz') (by decide)
    · rw [upd_same, List.take_add_one, hc', List.map_append]
      rfl
  · rintro H1 ⟨sm, e⟩
    refine q D H1 hD sm ?_
    rw [e]
    have l : z.cps.size = z.cps.toList.length := (Array.length_toList).symm
    rw [l, List.take_length]
/-- all([p(sign) for sign in text]) -/
theorem r_allStr {i0 j : Nat} {vs : List Nat} {z : Str} (p : Nat → Bool) (hv : σ[i0]? = some (some (.str z))) (hz : z.length ≤ 100000)
    (hw : ∀ x, wipe ((wipe σ vs).set j (some x)) vs = wipe σ vs)
    (ht : ∀ (c : Nat) (H' : Hp) (Q' : VK), c ∈ z.cps.toList → Same H H' → (∀ H2, Same H' H2 → Q' (.bl (p c)) H2) → te ((wipe σ vs).set j (some (.str ⟨#[c]⟩))) H' Q')
    (q : ∀ H', Same H H' → Q (.bl (z.cps.toList.all p)) H') :
    tCB (rAll K) (tCons (tLc (iStr (tVar i0)) (gName j) tYes te vs) tNil) σ H Q := by
  refine r_cb (r_cons ?_)
  refine r_lcStr (fun c => .bl (p c)) hv hz hw ht fun D H' nD sm e => ?_
  refine r_nil ⟨D, z.cps.toList.map p, rfl, sqL ?_, ?_⟩
  · rw [e, List.map_map]
    rfl
  · rw [List.all_map]
    exact q H' sm
end
/-! ## 7. draws, items, slices -/
section
variable {K : PySem.W.Frag} {σ : L2.St} {H : Hp} {Q : VK} {E : XK} {te : TE} {tl th : TO} {QO : Option Int → Hp → Prop}
theorem r_take {a : Addr} {n : Nat} {size : Int} (hB : Box a n H) (q : ∀ d H', 0 ≤ d → d < size → Box a (n + 1) H' → But a H H' → Q (.int d) H') (hn : n < 1000000 := by omega) (h0 : 0 < size := by decide) (h1 : size < 2 ^ 128 := by decide) : spTake [.ref a, .int size] H Q E :=
  ⟨a, n, size, rfl, hB, hn, h0, h1, q⟩
theorem r_ixS {z : Str} {d : Int} (h0 : 0 ≤ d) (h1 : d < (z.cps.toList.length : Int)) (hz : z.length ≤ 100000) (q : ∀ c, z.cps.toList[d.toNat]? = some c → Q (.str ⟨#[c]⟩) H) : rIxS (.str z) (.int d) H Q := by
  have l : d.toNat < z.cps.toList.length := by omega
  obtain ⟨c, hc⟩ : ∃ c, z.cps.toList[d.toNat]? = some c := ⟨_, List.getElem?_eq_getElem l⟩
  refine ⟨z, d, c, rfl, rfl, Nat.le_trans hz (by decide), ?_, q c hc⟩
  have e : d = ((d.toNat : Nat) : Int) := by omega
  rw [e]
  exact atI_nat hc
theorem r_ixLo {p : Addr} {xs : List V} {d : Int} (h : SqL K H p xs) (h0 : 0 ≤ d) (h1 : d < (xs.length : Int)) (q : ∀ v, v ∈ xs → xs[d.toNat]? = some v → Q v H) : rIxL K (.ref p) (.int d) H Q := by
  have l : d.toNat < xs.length := by omega
  obtain ⟨v, hv⟩ : ∃ v, xs[d.toNat]? = some v := ⟨_, List.getElem?_eq_getElem l⟩
  refine r_ixL h (v := v) ?_ (q v (List.mem_of_getElem? hv) hv)
  have e : d = ((d.toNat : Nat) : Int) := by omega
  rw [e]
  exact atI_nat hv
theorem r_sl {r : V → Option Int → Option Int → Hp → VK → Prop} (q : te σ H fun x H1 => tl σ H1 fun l H2 => th σ H2 fun u H3 => r x l u H3 Q) : tSl r te tl th σ H Q := q
theorem r_noPart (q : QO none H) : tNoPart σ H QO := q
theorem r_part (q : te σ H fun x H1 => ∃ i, x = .int i ∧ QO (some i) H1) : tPart te σ H QO := q
theorem r_isi {i : Int} {A : Int → Prop} (q : A i) : ∃ i', V.int i = .int i' ∧ A i' := ⟨i, rfl, q⟩
theorem r_slS {z : Str} {lo hi : Option Int} (hz : z.length ≤ 100000) (q : ∀ y : Str, y.length ≤ z.length → Q (.str y) H) : rSlS (.str z) lo hi H Q := ⟨z, rfl, Nat.le_trans hz (by decide), q _ (cutS_length z lo hi)⟩
end
theorem r_cut {a b : TS} {D : Ends} {σ : L2.St} {H : Hp} (Mid : L2.St → Hp → Prop) (h1 : a { D with nx := Mid } σ H) (h2 : ∀ σ' H', Mid σ' H' → b D σ' H') : C8.tCut a b D σ H := ⟨Mid, h1, h2⟩
theorem str_len_add (x y : Str) : (x ++ y).length = x.length + y.length := by
  have h : ∀ z : Str, z.length = z.cps.toList.length := fun z => (Array.length_toList).symm
  rw [h, h, h]; show (TL.tl (x ++ y)).length = _; rw [TL.tl_append]
  exact List.length_append
theorem lt1 {c d : Nat} : decide ([c] < [d]) = decide (c < d) := by
  by_cases h : c < d
  · rw [decide_eq_true h]
    exact decide_eq_true (List.Lex.rel h)
  · rw [decide_eq_false h]
    refine decide_eq_false fun z => ?_
    cases z with
    | rel q => exact h q
    | cons q => cases q
theorem sign_tl {c : Nat} : (⟨#[c]⟩ : Str).cps.toList = [c] := rfl
/-- a text begins with this sign -/
theorem starts1 (z : Str) (c : Nat) : Txt.startswith z ⟨#[c]⟩ = decide (z.cps.toList[0]? = some c) := by
  have h := PySem.StrLaws.subAt_one z c 0
  unfold Txt.startswith
  by_cases e : z.cps.toList[0]? = some c
  · obtain ⟨h1, h2⟩ := h.mpr e
    rw [decide_eq_true e, h2, decide_eq_true h1]
    rfl
  · rw [decide_eq_false e]
    by_cases h1 : 0 + (⟨#[c]⟩ : Str).length ≤ z.length
    · rw [decide_eq_true h1, Bool.true_and]
      exact Bool.eq_false_iff.mpr fun h2 => e (h.mp ⟨h1, h2⟩)
    · rw [decide_eq_false h1]
      rfl
end Bk

namespace Bk
open PySem PySem.Spec PyProof.Rows L2
/-! ## 9. defs that are run where no text is being told of a thing -/
structure FnG (P : Program) (w : World) (K : PySem.W.Frag) (mg : Str → Option Value) (base : Heap) (CX : CXT) (k : Nat) (f : Addr) (fd : FuncData) (ps : List Str) (sp : Sp) : Prop where
  len : ∀ vs H Q E, sp vs H Q E → vs.length = ps.length
  go : ∀ (A : Around) (ou : List Env) (s : Shared) (H : Hp) (ar : Args) (us : List Value) (vs : List V) (Q : VK) (E : XK), A.guards = some [] → Room k A → Env0 P w K mg base A ou s H → BindsTo s fd ar (ps.zip us) → Vals vs us → sp vs H Q E →
    codeAny (model P w) A (.call (.ref f) ar) (CR CX ou P w H s Q E) s
section
variable {P : Program} {w : World} {K : PySem.W.Frag} {mg : Str → Option Value} {base : Heap} {CX : CXT} {j k : Nat} {f : Addr} {fd : FuncData} {N ps : List Str} {sp : Sp} {x qual : Str} {st : Stmt}
theorem FnG.of (F : FnOk P w K mg base CX k f fd ps sp) : FnG P w K mg base CX k f fd ps sp := ⟨F.len, fun A ou s H ar us vs Q E _ => F.run A ou s H ar us vs Q E⟩
theorem FnG.up (F : FnG P w K mg base CX j f fd ps sp) (h : j ≤ k) : FnG P w K mg base CX k f fd ps sp := ⟨F.len, fun A ou s H ar us vs Q E g hr => F.go A ou s H ar us vs Q E g (hr.mono h)⟩
/-- by its body -/
theorem fun_okG (F : Fun K x qual st f fd) (S : FnScope N ps (defScope st)) (len : ∀ vs H Q E, sp vs H Q E → vs.length = ps.length)
    (hbody : ∀ (cdv : Value) (A : Around) (ou : List Env) (s : Shared) (H : Hp) (vs : List V) (Q : VK) (E : XK), (A.deeper (envOfC qual (defScope st) s.heap.objs.size f cdv)).guards = some [] → Room k (A.deeper (envOfC qual (defScope st) s.heap.objs.size f cdv)) → sp vs H Q E →
      ∃ t, PSs (cxOf CX0 P w K mg base N qual (defScope st) f cdv A ou s H E).nox (defBody st) t ∧ t { nx := fun _ H' => Q .non H', rt := Q } (start N vs) H) : FnG P w K mg base CX0 (k + 1) f fd ps sp := by
  obtain ⟨oc, od, kV, doc, pm, an, cdv, ct, osl, rfl, lk, hcd⟩ := F.ex
  refine ⟨len, fun A ou s H ar us vs Q E hg hr e0 hb rv hsp => ?_⟩
  have KX : K.In s.heap := e0.mod.kin.keeps fun b o z => (e0.bs b o z).1
  refine Att.call_fn KX (e0.mod.nolimit.keeps fun b o z => (e0.bs b o z).1) lk hcd hr.depth hb ?_ (fun s1 x1 => ?_) S.co S.gen S.kind
  · rw [List.all_eq_true]
    rintro ⟨n, v⟩ hy
    rcases S.par n (List.of_mem_zip hy).1 with q | q <;> simp [q]
  · obtain ⟨t, ht, hq⟩ := hbody cdv A ou s H vs Q E hg (hr.deeper _) hsp
    have I := inv_start (CX := CX0) (E := E) S hr.hd e0 (len _ _ _ _ hsp) rv x1
    refine wpAny_mono (ht.nox.run [] s1 (start N vs) H _ I hq) (fun fl s2 z => ?_) fun _ _ z => z
    cases fl with
    | ret u => exact let ⟨v, _, H2, J, r2, q2⟩ := z; ⟨v, H2, J.os, J.bare, J.base, J.hok, r2, q2⟩
    | next => exact let ⟨_, H2, J, q2⟩ := z; ⟨.non, H2, J.os, J.bare, J.base, J.hok, rfl, q2⟩
    | brk => exact (let ⟨_, _, _, q2⟩ := z; q2 : False).elim
    | cont => exact (let ⟨_, _, _, q2⟩ := z; q2 : False).elim
end
structure CalG (P : Program) (w : World) (K : PySem.W.Frag) (mg : Str → Option Value) (base : Heap) (CX : CXT) (k : Nat) (x : Str) (sp : Sp) : Prop where
  ex : ∃ (f : Addr) (fd : FuncData) (ps : List Str), mg x = some (.ref f) ∧ PySem.W.keepIn K (.ref f) = true ∧ FnG P w K mg base CX k f fd ps sp ∧ Binds K fd ps []
theorem CalG.mk' {P : Program} {w : World} {K : PySem.W.Frag} {mg : Str → Option Value} {base : Heap} {CX : CXT} {k : Nat} {x : Str} {sp : Sp} {f : Addr} {fd : FuncData} {ps : List Str} (g : mg x = some (.ref f)) (kp : PySem.W.keepIn K (.ref f) = true) (F : FnG P w K mg base CX k f fd ps sp) (b : Binds K fd ps []) :
    CalG P w K mg base CX k x sp := ⟨f, fd, ps, g, kp, F, b⟩
section
variable {X : Cx} {k j : Nat} {sp : Sp} {x : Str} {p pos : Pos} {e : Expr} {es : List Expr} {t : TA}
theorem pe_calG (c : CalG X.prog X.w X.K X.mg X.base CX0 k x sp) (ga : X.A.guards = some []) (hr : Room j X.A) (hk : k ≤ j) (hg : Gl X x) (ha : PA X (e :: es) t)
    (hdb : (x == ("__debug__" : Str)) = false := by decide) (he : starEach (e :: es) X.env = (false, eval e X.env) :: starEach es X.env := by rfl) (hpl : (backTo pos (starEach es X.env)).any (·.1) = false := by rfl) :
    PE X (.Call (.Name x p) (e :: es) [] pos) (tCall sp [] E0 t) := by
  obtain ⟨f, fd, ps, h1, h2, h3, h4⟩ := c.ex
  refine ⟨fun pins s σ H Q I h => wpAny_Call_Name_kw (ld_glob I hg h1 (PySem.W.callWith_K (h₀ := X.base) I.ok.mod.kin h2 (thn (ha.run pos pins s σ H _ I h) fun us s1 ⟨vs, H1, I1, r, q⟩ => ⟨I1.kIn, ?_⟩) he hpl) hdb)⟩
  have q' : sp vs H1 Q E0 := by have z : sp (vs ++ []) H1 Q E0 := q; rw [List.append_nil] at z; exact z
  have b := h4 s1 us I1.kIn (by rw [List.append_nil, ← r.length]; exact h3.len _ _ _ _ q')
  rw [List.append_nil] at b
  refine wpAny_call (codeAny_mono (h3.go X.A X.stack s1 H1 ⟨us, []⟩ us vs Q E0 ga (hr.mono hk) I1.env0 b r q') fun rr s2 z => ?_)
  match rr, z with
  | .ok (.ret _), z => exact I1.after z
end
/-! ### the head -/
section
variable {P : Program} {w : World} {K : PySem.W.Frag} {mg mb : Str → Option Value} {s : Shared} {a : Addr} {vs : List Value} {ns : List Int} {H : Hp}
theorem lawG_core {k : Nat} {fa : Addr} {fd : FuncData} {x : Str} {sp : Sp} (KX : K.In s.heap) (hns : s.heap.Ns mainGlobals mg) (hb : s.heap.Ns builtinsNs mb) (hbb : ∀ x : Str, x ≠ "__name__" → mb x = bootBuiltins x) (hlim : s.heap.NoLimit) (hg : s.gens = #[])
    (ha : s.heap.get? a = some { cls := .type "list", data := .seq vs.toArray }) (hr : Room k callerA)
    (F : ∀ base : Heap, K.In base → base.Ns mainGlobals mg → FnG P w K mg base CX0 k fa fd [x] sp) (hbind : ∀ (s : Shared) (u : Value), BindsTo s fd ⟨[u], []⟩ [(x, u)])
    (hO : Only H) (hq : sp [.ref a] H (fun v _ => v = .bl true) fun _ _ _ => False) (ok : HOk P w H s.heap) (hA : ∀ b, H b ≠ none → b = a ∧ K.lookup a = none) :
    codeAny (model P w) callerA (.call (.ref fa) ⟨[.ref a], []⟩) (fun r s' => r = .ok (.ret (.bool true)) ∧ OldK s.heap s'.heap ∧ s'.os = s.os ∧ AllBare s'.gens) s := by
  have un : ∀ {b : Addr} {o : Obj}, s.heap.get? b = some o → (b = a → K.lookup a ≠ none ∨ ∃ es ep, o.data = .dict es ep) → (hidT s.heap H).get? b = some o := fun {b o} e n => hidT_get e (by
    apply Classical.byContradiction
    intro z
    obtain ⟨rfl, kn⟩ := hA b z
    rcases n rfl with q | ⟨es, ep, q⟩
    · exact q kn
    · rw [ha] at e
      cases e
      exact nomatch q)
  have nsK : ∀ {b : Addr} {m : Str → Option Value}, s.heap.Ns b m → (hidT s.heap H).Ns b m := fun ⟨o, es, ep, e, d, r⟩ => ⟨o, es, ep, un e fun _ => .inr ⟨es, ep, d⟩, d, r⟩
  have hKb : K.In (hidT s.heap H) := fun b o e => un (KX b o e) fun z => .inl (by rw [← z, e]; exact Option.some_ne_none o)
  have e0 : Env0 P w K mg (hidT s.heap H) callerA [] s H := ⟨rfl, ⟨hKb, nsK hns, ⟨mb, nsK hb, hbb⟩, hlim.elim fun mc z => ⟨mc, nsK z.1, z.2⟩⟩, fun b o z => of_hidT z, Nat.le_of_eq (hidT_size _ _), trivial, fun _ z => absurd z List.not_mem_nil, ok, .of_eq hg⟩
  refine codeAny_mono ((F _ hKb (nsK hns)).go callerA [] s H ⟨[.ref a], []⟩ [.ref a] [.ref a] _ _ rfl hr e0 (hbind s (.ref a)) (.cons rfl .nil) hq) fun r s' h => ?_
  match r, h with
  | .ok (.ret u), h =>
    obtain ⟨v, H2, os, bare, un2, ok2, rv, q2⟩ := h
    obtain rfl : v = .bl true := q2
    obtain rfl : u = Value.bool true := rv
    refine ⟨rfl, OldK.of_keep fun b o e => ?_, os, bare⟩
    rcases hO b with z | ⟨ob, xs, z⟩
    · exact un2.keep b o e z List.not_mem_nil List.not_mem_nil
    · have o1 := (ok b _ z).1
      have o2 := (ok2 b _ (un2.frzs b ob _ z)).1
      rw [e] at o1
      rw [o1]
      exact o2
theorem lawG {k : Nat} {fa : Addr} {fd : FuncData} {x : Str} {sp : Sp} (KX : K.In s.heap) (hns : s.heap.Ns mainGlobals mg) (hb : s.heap.Ns builtinsNs mb) (hbb : ∀ x : Str, x ≠ "__name__" → mb x = bootBuiltins x) (hlim : s.heap.NoLimit) (hg : s.gens = #[])
    (ha : s.heap.get? a = some { cls := .type "list", data := .seq vs.toArray }) (hi : IntsAre vs ns) (hl : ns.length ≤ sizeLine) (hr : Room k callerA)
    (F : ∀ base : Heap, K.In base → base.Ns mainGlobals mg → FnG P w K mg base CX0 k fa fd [x] sp) (hbind : ∀ (s : Shared) (u : Value), BindsTo s fd ⟨[u], []⟩ [(x, u)])
    (hsp : ∀ H : Hp, Only H → SqL K H a (ns.map V.int) → sp [.ref a] H (fun v _ => v = .bl true) fun _ _ _ => False) :
    codeAny (model P w) callerA (.call (.ref fa) ⟨[.ref a], []⟩) (fun r s' => r = .ok (.ret (.bool true)) ∧ OldK s.heap s'.heap ∧ s'.os = s.os ∧ AllBare s'.gens) s := by
  have rv := vals_ints hi
  cases hk : K.lookup a with
  | some o =>
    have e := KX a o hk
    rw [ha] at e
    cases e
    exact lawG_core KX hns hb hbb hlim hg ha hr F hbind (fun _ => .inl rfl) (hsp (fun _ => none) (fun _ => .inl rfl) (.inr ⟨_, vs.toArray, _, hk, rfl, rfl, rfl, by rw [List.size_toArray, hi.length]; exact hl, rv⟩)) (fun b u z => nomatch z) fun b z => absurd rfl z
  | none =>
    have ke : (fun b => if b = a then some (HO.frz { cls := .type "list", data := .seq vs.toArray } (.lst (ns.map V.int))) else none) a = some (HO.frz { cls := .type "list", data := .seq vs.toArray } (.lst (ns.map V.int))) := if_pos rfl
    have only : ∀ b, (fun b => if b = a then some (HO.frz { cls := .type "list", data := .seq vs.toArray } (.lst (ns.map V.int))) else none) b ≠ none → b = a := fun b z => Classical.byContradiction fun n => z (if_neg n)
    have hO : Only (fun b => if b = a then some (HO.frz { cls := .type "list", data := .seq vs.toArray } (.lst (ns.map V.int))) else none) := fun b => by
      by_cases q : b = a
      · exact .inr ⟨_, _, if_pos q⟩
      · exact .inl (if_neg q)
    refine lawG_core KX hns hb hbb hlim hg ha hr F hbind hO (hsp _ hO (.inl (.inr ⟨_, ke⟩))) (fun b u z => ?_) fun b z => ⟨only b z, hk⟩
    obtain rfl := only b fun y => nomatch z.symm.trans y
    have z2 := ke.symm.trans z
    cases z2
    exact ⟨ha, by rw [List.length_map]; exact hl, vs, _, rv, ha⟩
end
theorem walk_ofG {l : PySem.W.OpenLaw} {n k : Nat} {q : Program} {loose : List Str} {XP : (Str → Option Value) → Heap → Prop} {YP : World → Heap → Prop} {d : DefRec} {K : Params → PySem.W.Frag} {sp : World → Sp} {x : Str}
    (hn : l.most = some n) (hn2 : n ≤ sizeLine) (hdf : d.params.defaults = []) (hr : Room k callerA) (hY : ∀ (w : World) (h : Heap), YP w h → (K w.params).In h)
    (F : ∀ (w : World) (mg : Str → Option Value) (fa : Addr) (h : Heap), (K w.params).In h → h.Ns mainGlobals mg → mg d.name = some (.ref fa) →
      ∃ fd : FuncData, (∀ (s : Shared) (u : Value), BindsTo s fd ⟨[u], []⟩ [(x, u)]) ∧ ∀ base : Heap, (K w.params).In base → base.Ns mainGlobals mg → FnG l.prog w (K w.params) mg base CX0 k fa fd [x] (sp w))
    (hsp : ∀ (w : World) (H : Hp) (a : Addr) (ns : List Int), ns.length ≤ n → Only H → SqL (K w.params) H a (ns.map V.int) → sp w [.ref a] H (fun v _ => v = .bl true) fun _ _ _ => False) :
    PySem.W.WalkO q loose XP YP l.row.toRowW d [] (fun f vs => PySem.call f vs) :=
  Att.attach_call hn hdf fun w s₀ s₁ mg mb fa o pm cd doc a vs ns G Y ho hd hcd hmg hobj hints hlen hg => by
    obtain ⟨fd, hb, hF⟩ := F w mg fa _ (hY w _ Y) G.T.g hmg
    exact lawG (hY w _ Y) G.T.g G.T.b G.T.builtins G.T.nolimit hg hobj hints (Nat.le_trans hlen hn2) hr hF hb fun H hO hS => hsp w H a ns hlen hO hS
/-! ## 10. a thing's text -/
mutual
theorem dp_flat {K : PySem.W.Frag} {H : Hp} : ∀ (d : PyData) (v : V), Dp K H v d → d.hasDict = false
  | .none, _, _ => by simp only [PyData.hasDict]
  | .bool _, _, _ => by simp only [PyData.hasDict]
  | .int _, _, _ => by simp only [PyData.hasDict]
  | .str _, _, _ => by simp only [PyData.hasDict]
  | .list ds, _, h => by
    cases h with
    | lst _ ha => simpa only [PyData.hasDict] using dp_flatAll ds _ ha
  | .tuple ds, _, h => by
    cases h with
    | tup _ ha => simpa only [PyData.hasDict] using dp_flatAll ds _ ha
  | .dict _, _, h => by cases h
theorem dp_flatAll {K : PySem.W.Frag} {H : Hp} : ∀ (ds : List PyData) (vs : List V), DpAll K H vs ds → PyData.hasDictAll ds = false
  | [], _, _ => by simp only [PyData.hasDictAll]
  | d :: ds, _, h => by
    cases h with
    | cons h1 h2 => simp only [PyData.hasDictAll, dp_flat d _ h1, dp_flatAll ds _ h2, Bool.or_false]
end
/-- z is how repr tells v -/
def Shw (K : PySem.W.Frag) (H : Hp) (v : V) (z : Str) : Prop := (∃ d, Dp K H v d ∧ d.showable = true ∧ d.shown.length ≤ sizeLine ∧ d.depth ≤ 60 ∧ z = d.shown) ∨ ∃ a, v = .ref a ∧ H a = some (.dK []) ∧ z = "{}"
section
variable {X : Cx} {j : Nat}
theorem call_repr_shw (ga : X.A.guards = some []) (hr : Room j X.A) : CallR X (.builtin "repr") (fun xs H Q => ∃ v z, xs = [v] ∧ Shw X.K H v z ∧ Q (.str z) H) := by
  intro pins s σ H xs us Q I r h
  obtain ⟨v, z, rfl, hs, q⟩ := h
  obtain ⟨u, rfl, rv⟩ := vals1 r
  have hu := hr.units
  rcases hs with ⟨d, hd, h1, h2, h3, rfl⟩ | ⟨a, rfl, ha, rfl⟩
  · have fin : ∀ {x : Str} {t : Nat}, x = d.shown → EP X pins σ Q (.str x s.toks) { s with toks := t } := fun {x t} e => ⟨.str _, H, I.tok _, ⟨_, rfl⟩, by rw [e]; exact q⟩
    have ref : ∀ {a : Addr}, v = .ref a → wpAny (model X.prog X.w) X.A (call (.builtin "repr") [u]) (EP X pins σ Q) X.xe s := fun {a} e => by
      subst e
      obtain rfl : u = Value.ref a := rv
      obtain ⟨as, rd⟩ := Dp.reads I d (.ref a) _ hd rfl
      exact repr_of_reads' rd h1 (PyData.noDict_hsm (dp_flat d _ hd)) ga (by omega) (fun _ _ e => e) (fun h' u tk hk => ⟨.str _, H, I.kept hk, ⟨_, rfl⟩, q⟩) h2
    cases hd with
    | non =>
      cases rv
      exact PySem.P.repr_of_none (fin (by simp only [PyData.shown]))
    | bl b =>
      cases rv
      exact PySem.P.repr_of_bool (fin (by simp only [PyData.shown]))
    | int i =>
      obtain ⟨t, rfl⟩ := rv
      exact PySem.P.repr_of_int (by simpa only [PyData.showable, decide_eq_true_eq] using h1) (fin (by simp only [PyData.shown]))
    | str x =>
      obtain ⟨t, rfl⟩ := rv
      exact PySem.P.repr_of_str (fin (by simp only [PyData.shown])) (by simpa only [PyData.shown] using h2)
    | lst _ _ => exact ref rfl
    | tup _ _ => exact ref rfl
  · obtain rfl : u = Value.ref a := rv
    obtain ⟨_, hm, vs, kv, o, es, ep, ho, hx, hde, _, pr, _⟩ := I.hok a _ ha
    cases kv
    have e0 : es.toList = [] := by
      have z := pr
      generalize es.toList = l at z
      cases z
      rfl
    have hc : o.cls = .type "dict" := hx.1
    have rd : Reads s.heap (.ref a) (.dict []) [a] := by
      have z : Reads s.heap (.ref a) (.dict []) (a :: [] ++ []) := .dict ho hc hde (by rw [e0]; exact .nil) (by rw [e0]; exact .nil)
      exact z
    have nm : sysModules ∉ [a] := fun z => by
      rw [List.mem_singleton.mp z] at hm
      exact absurd hm (by simp)
    have dp : (PyData.dict []).depth = 1 := by simp [PyData.depth, PyData.depthKv]
    have tx : (PyData.dict []).shown = ("{}" : Str) := by simp [PyData.shown, PyData.shownKv]; rfl
    refine repr_of_reads' rd (by simp only [PyData.showable, PyData.showableKv]) (fun _ => nm) ga (by rw [dp]; omega) (fun _ _ e => e) (fun h' u tk hk => ⟨.str _, H, I.kept hk, ⟨_, rfl⟩, ?_⟩) ?_
    · rw [tx]
      exact q
    · rw [tx]
      decide
end
end Bk

namespace Bk
open PySem PySem.Spec PyProof.Rows L2
/-! ## 11. try: .. except A as e: .. except B as e: .. , what none of them takes does not come -/
abbrev ClA := Value × Nat × (Addr → Value → Option Addr → TS)
def offI (i : Nat) (D : Ends) : Ends := { nx := fun τ G => D.nx (τ.set i none) G, rt := D.rt, bk := fun τ G => D.bk (τ.set i none) G, ct := fun τ G => D.ct (τ.set i none) G }
def wAM (K : PySem.W.Frag) (D : Ends) : List ClA → WX
  | [] => fun _ _ _ _ => False
  | q :: l => fun cls d τ G => ∃ b, PySem.W.exmOne K cls q.1 = some b ∧ (b = true → ∀ a, G a = none → q.2.2 a cls d (offI q.2.1 D) (τ.set q.2.1 (some (.ref a))) G) ∧ (b = false → wAM K D l cls d τ G)
inductive HdA (X : Cx) : List ExceptHandler → List ClA → Prop
  | stop {hds : List ExceptHandler} : HdA X hds []
  | more {x n : Str} {c : Value} {i : Nat} {ts : Addr → Value → Option Addr → TS} {b : Stmt} {bs : List Stmt} {p1 p2 : Pos} {hds : List ExceptHandler} {l : List ClA} (nm : Names X x c) (hi : X.N[i]? = some n) (hn : X.env.kindOf n = some .local)
      (su : ∀ (a : Addr) (oe : Obj) (cls : Value) (d : Option Addr) (pn : List (Addr × Obj)), Zc cls d oe → (∃ vs, oe.data = .fields vs) → PSs (X.suite a ((a, oe) :: pn)) (b :: bs) (ts a cls d)) (r : HdA X hds l) :
      HdA X (.ExceptHandler (some (.Name x p1)) (some n) (b :: bs) p2 :: hds) ((c, i, ts) :: l)
section
variable {X : Cx} {body : List Stmt} {h₀ : ExceptHandler} {hds : List ExceptHandler} {l : List ClA} {pos : Pos} {tb : WX → TS}
theorem ps_try_asM (st : X.stack = X.env :: X.outer) (fr : X.env.frame = some X.env.locals) (nd : X.N.Nodup)
    (hb : ∀ (W : WX) (pn : List (Addr × Obj)) (xe : Value → Shared → Prop), Takes (X.tr pn xe) W → PassesOwn (model X.prog X.w) X.A X.env xe → PSs (X.tr pn xe) body (tb W))
    (hh : HdA X (h₀ :: hds) l) : PS X (.Try body (h₀ :: hds) [] [] pos) (fun D τ G => tb (wAM X.K D l) D τ G) := by
  refine ⟨fun pins s τ G D I hq => wpAny_Try_except ?_⟩
  have ok := I.ok
  refine wpAny_mono ((hb (wAM X.K D l) (X.pn ++ pins) _ (fun u s2 z => ?_) PassesOwn.looking).run [] s τ G D (I.toTry _) hq) (fun fl s2 z => ?_) (fun _ _ z => z)
  · -- what came out of the body
    obtain ⟨a, B, sI, pins2, τ2, G2, cls, d, rfl, J2, nb, up, sky, na, os, ag, w⟩ := z
    have J : Inv X pins τ2 G2 sI := J2.ofTry ok
    refine Sky.land Zc.steady (show X.A.frames = some (X.env :: X.outer) by rw [ok.frames, st]) fr (by rw [← st]; exact sky) fun h3 fl3 up3 => ?_
    obtain ⟨o3, v3, g3, z3, d3⟩ := fl3.there
    have J3 : Inv X pins τ2 G2 { s2 with heap := h3 } := J.landed nb fl3.1 (up.trans up3) os ag
    have out : a ∉ frs (X.env :: X.outer) := fun m => by
      obtain ⟨_, o4, g4, n4⟩ := fl3.2.2.1.mem m
      rw [g3] at g4
      cases g4
      exact n4 _ d3
    have aL : a ≠ X.env.locals := fun e => out (List.mem_filterMap.mpr ⟨X.env, List.mem_cons_self, by rw [fr, e]⟩)
    have aF : a ∉ X.fs := fun m => by
      obtain ⟨e, me, q⟩ := List.mem_filterMap.mp m
      exact out (List.mem_filterMap.mpr ⟨e, List.mem_cons_of_mem _ me, q⟩)
    have S3 := J3.suite g3 d3 na aL aF
    have all : ∀ {hs : List ExceptHandler} {k : List ClA}, HdA X hs k → wAM X.K D k cls d τ2 G2 → wpAny (model X.prog X.w) X.A (handleBy (.ref a) X.env hs) (SP X pins D) X.xe { s2 with heap := h3 } := by
      intro hs k hk
      induction hk with
      | stop => exact fun z => z.elim
      | @more x n c i ts b bs p1 p2 hs2 k2 nm hi hn su r ih =>
        rintro ⟨yes, e1, w1, w2⟩
        refine wpAny_handleBy_cons (codeAny_handlers_test ?_) (fun q => nomatch q)
        have T1 : PySem.W.Looks (model X.prog X.w) h3 (typeOf (.ref a)) cls := fun A Q E s k q => wpAny_typeOf_ref (k _ _ g3) (by rw [z3.1]; exact q)
        have T2 := PySem.W.exm_one (M := model X.prog X.w) J3.kIn T1 e1
        have ask : ∀ {Q : Value → Shared → Prop} {E : Value → Shared → Prop}, Q c { s2 with heap := h3 } → wpAny (model X.prog X.w) (X.A.mark (some (.ref a))) (eval (.Name x p1) X.env) Q E { s2 with heap := h3 } := fun {Q E} q => by
          obtain ⟨g1, g2, m1 | ⟨m1, m2, m3⟩⟩ := nm
          · exact ld_glob (X := X.suite a ((a, o3) :: (X.pn ++ pins))) S3 g1 m1 q g2
          · exact ld_blt (X := X.suite a ((a, o3) :: (X.pn ++ pins))) S3 g1 m1 m2 q m3 g2
        refine ask (T2.here ?_)
        match yes, w1, w2 with
        | false, w1, w2 => exact ih (w2 rfl)
        | true, w1, w2 =>
          refine codeAny_handlers_suite_as (HandSPX.lands_againZ fl3 fun h4 fl4 up4 => ?_)
          obtain ⟨o4, v4, g4, z4, d4⟩ := fl4.there
          have S4 := (J.landed nb fl4.1 ((up.trans up3).trans up4) os ag : Inv X pins τ2 G2 { s2 with heap := h4 }).suite g4 d4 na aL aF
          refine store_ok (X := X.suite a ((a, o4) :: (X.pn ++ pins))) (v := .ref a) S4 nd hi (.inl hn) rfl (fun s5 S5 => ?_) (.inr hn)
          refine wpAny_mono ((su a o4 cls d (X.pn ++ pins) z4 ⟨_, d4⟩).run [] s5 _ G2 _ S5 (w1 rfl a na)) (fun fl s6 z6 => ?_) fun _ _ z6 => z6.elim
          have back : ∀ {τ6 : L2.St} {G6 : Hp} {R : Shared → Prop}, Inv (X.suite a ((a, o4) :: (X.pn ++ pins))) [] τ6 G6 s6 → (∀ s7, Inv X pins (τ6.set i none) G6 s7 → R s7) →
              wpAny (model X.prog X.w) X.A (do bindName X.env n .none; unbindBehindTheSuite X.env n p2) (fun _ s7 => R s7) X.xe s6 := fun {τ6 G6 R} S6 f => gone_ok (S6.unsuite ok) nd hi hn f
          match fl, z6 with
          | .next, ⟨_, _, S6, q6⟩ => exact back S6 fun s7 J7 => ⟨_, _, J7, q6⟩
          | .brk, ⟨_, _, S6, q6⟩ => exact back S6 fun s7 J7 => ⟨_, _, J7, q6⟩
          | .cont, ⟨_, _, S6, q6⟩ => exact back S6 fun s7 J7 => ⟨_, _, J7, q6⟩
          | .ret u, ⟨_, _, _, S6, r6, q6⟩ => exact back S6 fun s7 J7 => ⟨_, _, _, J7, r6, q6⟩
    exact all hh w
  · match fl, z with
    | .next, ⟨_, _, J, q⟩ => exact wpAny_execs_nil ⟨_, _, J.ofTry ok, q⟩
    | .brk, ⟨_, _, J, q⟩ => exact ⟨_, _, J.ofTry ok, q⟩
    | .cont, ⟨_, _, J, q⟩ => exact ⟨_, _, J.ofTry ok, q⟩
    | .ret u, ⟨_, _, _, J, r, q⟩ => exact ⟨_, _, _, J.ofTry ok, r, q⟩
end
end Bk

namespace Bk
open PySem PySem.Spec PyProof.Rows L2
/-! ## 12. enumerate of a tuple -/
theorem meets_enum1 {v : Value} {o : Obj} {S : Heap → Prop} (B : Begins v o S) :
    Meets (Builtin.«enumerate.__new__» ⟨[.type "enumerate", v], []⟩) (fun _ R s => S s.heap ∧
      R (.ok (.ret (.ref (s.heap.push o).objs.size))) { s with heap := (s.heap.push o).push { cls := .type "enumerate", data := .fields #[.none, .bool false, .ref s.heap.objs.size, rawInt 0, .none, .none] } }) :=
  .of_wp fun prog w A R s z => by
    obtain ⟨hp, g, d, tk, os⟩ := s
    obtain ⟨z1, z2⟩ := z
    have sub := sub_enumerate
    have it : ∀ {A' : Around} {E : Value → Shared → Prop} {Q : Value → Shared → Prop}, Q (.ref hp.objs.size) ⟨hp.push o, g, d, tk, os⟩ → wpAny (model prog w) A' (pyIter v) Q E ⟨hp, g, d, tk, os⟩ := fun q => B.iter prog w _ _ _ _ z1 q
    wp_walk using it
    refine wpAny_stack_any fun st => wpAny_pure ?_
    split
    · rename_i c _ _ _ _ _
      cases (c == Value.type "enumerate") <;> (wp_walk using it; exact ⟨_, rfl, z2⟩)
    · wp_walk using it
      exact ⟨_, rfl, z2⟩
theorem enum1 {prog : Program} {w : World} {A : Around} {E : Value → Shared → Prop} {s : Shared} {v : Value} {o : Obj} {S : Heap → Prop} {Q : Value → Shared → Prop} (B : Begins v o S) (z : S s.heap)
    (q : ∀ h', IsEnum h' (s.heap.objs.size + 1) s.heap.objs.size 0 .none → h'.get? s.heap.objs.size = some o → h'.objs.size = s.heap.objs.size + 2 → (∀ b u, s.heap.get? b = some u → h'.get? b = some u) → Q (.ref (s.heap.objs.size + 1)) { s with heap := h' }) :
    wpAny (model prog w) A (call (.type "enumerate") [v]) Q E s := by
  refine callType_new F.called_enumerate (by decide) (F.typeCall_enumerate_1 _) (F.newCall_enumerate_1 _) (fun u => F.args_object_init_2 u _) F.entry_enumerate_new (meets_enum1 B) ⟨z, ?_⟩
  have sz : (s.heap.push o).objs.size = s.heap.objs.size + 1 := Heap.size_push ..
  have top := Heap.get?_push_size (s.heap.push o) (o := { cls := .type "enumerate", data := .fields #[.none, .bool false, .ref s.heap.objs.size, rawInt 0, .none, .none] }) rfl
  show _ ∧ _
  rw [sz] at top ⊢
  exact ⟨⟨_, top, rfl⟩, q _ top (Heap.get?_push_of_some _ (Heap.get?_push_size _ B.free)) (by rw [Heap.size_push, sz]) fun b u e => Heap.get?_push_of_some _ (Heap.get?_push_of_some _ e)⟩
/-- the tuple's items in new pairs -/
def Itu (K : PySem.W.Frag) (a : Addr) : It :=
  ⟨fun i H => ∃ (xs : List V) (x : V), SqT K H a xs ∧ xs[i]? = some x, fun i H v H' => ∃ T x, v = .ref T ∧ H T = none ∧ H' = upd H T (.tup [.int (i : Nat), x]) ∧ ∀ xs, SqT K H a xs → xs[i]? = some x, fun i H => ∃ xs : List V, SqT K H a xs ∧ xs.length ≤ i⟩
theorem turn_enumT {P : Program} {w : World} {K : PySem.W.Frag} {elts : List Expr} {kk : Nat} {tpos : Pos} (a e it : Addr) (ai : a ≠ it) (ae : a ≠ e) :
    Turn P w K (.Tuple elts kk tpos) (Itu K a) [e, it] e (fun i h => (∃ old, IsEnum h e it ((i : Nat) : Int) old) ∧ h.IsTupleIter it a i ∧ e ≠ it) where
  mem := List.mem_cons_self
  obj := fun i h st b hb => by
    obtain ⟨⟨old, he⟩, ⟨o, ho, _, hd⟩, _⟩ := st
    rcases List.mem_cons.mp hb with z | z
    · subst z
      exact ⟨_, he, fun v q => nomatch q⟩
    · exact ⟨o, by rw [List.mem_singleton.mp z]; exact ho, fun v q => by rw [hd] at q; exact nomatch q⟩
  keep := fun i h h' st k => ⟨st.1.elim fun old z => ⟨old, k e List.mem_cons_self _ z⟩, st.2.1.at fun o q => k it (List.mem_cons_of_mem _ List.mem_cons_self) o q, st.2.2⟩
  item := by
    intro X hP hw hK hc i pins s σ H E I hf st hg
    subst hP hw hK
    obtain ⟨⟨old, he⟩, hit, ne⟩ := st
    obtain ⟨xs, x, hq, hx⟩ := hg
    obtain ⟨its, rv, p, _⟩ := I.tuple hq
    obtain ⟨u, hu, ru⟩ := rv.get hx
    have e1 := Heap.lt_size he
    have i1 : it < s.heap.objs.size := let ⟨_, q, _⟩ := hit; Heap.lt_size q
    have li : i < its.toArray.size := by
      rw [List.size_toArray]
      exact (List.getElem?_eq_some_iff.mp hu).1
    refine wpAny_pyNext_enum_itemD (Draws.tuple (show X.A.in1.handled = none from I.ok.hd hc) it a ai its.toArray) he ⟨hit, p⟩ li ne (fun z => ?_) fun v h' tk hv ho hs hT _ hk => ?_
    · rcases List.mem_cons.mp z with z | z
      · exact ne z
      · exact ae (List.mem_singleton.mp z).symm
    obtain rfl : v = u := by
      have hv' : its.toArray[i]? = some v := hv
      rw [List.getElem?_toArray, hu] at hv'
      exact (Option.some.inj hv').symm
    refine ⟨_, rfl, wpAny_letOwnedTupleGo_enum (s := { s with heap := h', toks := tk + 1 }) ho fun h2 he2 sb => ?_⟩
    have T2 : h2.get? s.heap.objs.size = some { cls := .type "tuple", data := .seq #[.int i tk, v] } := (sb.2 _ (Nat.ne_of_gt e1)).trans hT
    have fresh := I.hok.fresh (Nat.le_refl s.heap.objs.size)
    have J : Inv X pins σ (upd H s.heap.objs.size (.tup [.int (i : Nat), x])) { s with heap := h2, toks := tk + 1 } :=
      I.turnedNew (ch := [e, it]) (fun b ob hb q => (sb.2 b (fun z => hb (by simp [z]))).trans (hk b ob (fun z => hb (by simp [z])) (fun z => hb (by simp [z])) q)) hf (Nat.le_refl _)
        (show ObjOk X.prog X.w _ h2 _ (.tup [.int (i : Nat), x]) from ⟨Nat.le_of_ble_eq_true rfl, [.int i tk, v], .cons ⟨_, rfl⟩ (.cons ru .nil), ⟨_, T2, rfl, _, rfl⟩⟩)
    refine ⟨.ref s.heap.objs.size, _, J, rfl, ⟨_, x, rfl, fresh, rfl, fun ys hy => by rw [I.tuple_inj hy hq]; exact hx⟩, ⟨⟨v, ?_⟩, hs.1.at fun o q => (sb.2 it (Ne.symm ne)).trans q, ne⟩, fun b hb => ?_⟩
    · rw [show ((i + 1 : Nat) : Int) = (i : Int) + 1 by omega]
      exact he2
    · have lb : b < s.heap.objs.size := by
        rcases List.mem_cons.mp hb with z | z
        · rw [z]; exact e1
        · rw [List.mem_singleton.mp z]; exact i1
      rw [upd_ne (Nat.ne_of_lt lb)]
      exact (hf b hb).1
  done := by
    intro X hP hw hK hc i pins s σ H E I hf st hg
    subst hP hw hK
    obtain ⟨⟨old, he⟩, hit, ne⟩ := st
    obtain ⟨xs, hq, hx⟩ := hg
    obtain ⟨its, rv, p, _⟩ := I.tuple hq
    obtain ⟨f0, f1, f2, f3, f4, f5⟩ := hf it (List.mem_cons_of_mem _ List.mem_cons_self)
    have ln := rv.length
    have hn : its.toArray[i]? = none := by
      rw [List.getElem?_toArray]
      exact List.getElem?_eq_none (by omega)
    have hT : s.TypeIs (.ref e) "enumerate" := ⟨_, he, rfl⟩
    unfold pyNext
    refine wpAny_bind (wpAny_attempt (wpAny_callSpecial?_slot (name := Str.ofString "__next__") hT F.slot_enumerate_next
      (wpAny_call_entry F.slot_enumerate_next hT F.entry_enumerate_next ?_ (F.args_enumerate_next_1 _))))
    show wpAny (model X.prog X.w) _ (field (.ref e) 2 >>= _) _ _ _
    refine wpAny_bind (wpAny_field he rfl (x := .ref it) rfl ?_)
    refine wpAny_bind (wpAny_nextOf_tuple_end (I.ok.hd hc) hit p hn fun h' x he' hx' => ?_)
    obtain ⟨o, ho, hcl⟩ := hx'
    exact wpAny_bind (wpAny_isInstance (T := "StopIteration") (b := true) ⟨o, ho, hcl⟩ isSubtype_stop (wpAny_pure ⟨rfl, I.turned (t' := s.toks) (fun b o hb q => he' b o hb q) f0 f1 f3 f4 f5⟩))
  self := fun A i s Q E st h => let ⟨⟨_, he⟩, _⟩ := st; wpAny_pyIter_enum he h
def iEnumA (K : PySem.W.Frag) (ta : TA) : TI := fun σ H R => ta σ H fun vs H1 => ∃ a xs, vs = [.ref a] ∧ ((SqL K H1 a xs ∧ R (Ite K a) H1) ∨ (SqT K H1 a xs ∧ R (Itu K a) H1))
def iSeqA (K : PySem.W.Frag) (te : TE) : TI := fun σ H R => te σ H fun x H1 => ∃ a xs, x = .ref a ∧ ((SqL K H1 a xs ∧ R (Itl K a) H1) ∨ (SqT K H1 a xs ∧ R (Itt K a) H1))
section
variable {X : Cx} {e tg : Expr} {ta : TA} {te : TE} {p pos tpos : Pos} {elts : List Expr} {kk : Nat}
theorem pi_enumA (hg : Gl X "enumerate") (hm : X.mg "enumerate" = none) (ha : PA X [e] ta) (hs : starEach [e] X.env = [(false, eval e X.env)] := by rfl) : PI X (.Tuple elts kk tpos) (.Call (.Name "enumerate" p) [e] [] pos) (iEnumA X.K ta) := by
  refine ⟨fun pins s σ H R I h => Call_ (ld_blt I hg hm boot_enumerate (PyProof.Rows.callWith_type1 (thn (ha.run pos pins s σ H _ I h) fun us s1 ⟨vs, H1, I1, r1, q1⟩ => ?_) hs rfl))⟩
  obtain ⟨a, xs, rfl, q⟩ := q1
  obtain ⟨u, rfl, rv⟩ := vals1 r1
  obtain rfl : u = Value.ref a := rv
  have near : ∀ {b : Addr}, b ∈ [s1.heap.objs.size + 1, s1.heap.objs.size] → FpOk X pins H1 b := fun {b} hb => by
    have le : s1.heap.objs.size ≤ b := by
      rcases List.mem_cons.mp hb with z | z
      · rw [z]; exact Nat.le_succ _
      · rw [List.mem_singleton.mp z]; exact Nat.le_refl _
    exact I1.fpOk le (I1.hok.fresh le)
  rcases q with ⟨hq, q⟩ | ⟨hq, q⟩
  · obtain ⟨its, rv, p', hz⟩ := I1.list hq
    refine call_enumerate_list p'.isList fun h' he hit _ hk => wpAny_pyIter_enum he ?_
    exact ⟨s1.heap.objs.size + 1, [s1.heap.objs.size + 1, s1.heap.objs.size], _, _, H1, rfl, I1.kept (t' := s1.toks) hk, turn_enum a (s1.heap.objs.size + 1) s1.heap.objs.size, ⟨⟨.none, he⟩, hit, Nat.succ_ne_self _⟩, fun b hb => near hb, q⟩
  · obtain ⟨its, rv, p', hz⟩ := I1.tuple hq
    have la : a < s1.heap.objs.size := let ⟨_, z, _⟩ := p'; Heap.lt_size z
    refine enum1 (begins_tuple a its.toArray) p' fun h' he hit _ hk => wpAny_pyIter_enum he ?_
    exact ⟨s1.heap.objs.size + 1, [s1.heap.objs.size + 1, s1.heap.objs.size], _, _, H1, rfl, I1.kept (t' := s1.toks) hk, turn_enumT a (s1.heap.objs.size + 1) s1.heap.objs.size (Nat.ne_of_lt la) (Nat.ne_of_lt (Nat.lt_succ_of_lt la)), ⟨⟨.none, he⟩, ⟨_, hit, rfl, rfl⟩, Nat.succ_ne_self _⟩, fun b hb => near hb, q⟩
theorem pi_seqA (he : PE X e te) : PI X tg e (iSeqA X.K te) := by
  refine ⟨fun pins s σ H R I h => thn (he.run pins s σ H _ I h) fun v s1 ⟨x, H1, I1, r1, q1⟩ => ?_⟩
  obtain ⟨a, xs, rfl, q⟩ := q1
  obtain rfl : v = Value.ref a := r1
  have near : ∀ {b : Addr}, b ∈ [s1.heap.objs.size] → FpOk X pins H1 b := fun {b} hb => by
    rw [List.mem_singleton.mp hb]
    exact I1.fpOk (Nat.le_refl _) (I1.hok.fresh (Nat.le_refl _))
  have J : ∀ {o : Obj}, Inv X pins σ H1 { s1 with heap := s1.heap.push o } := fun {o} => I1.kept (t' := s1.toks) fun b u z => Heap.get?_push_of_some _ z
  rcases q with ⟨hq, q⟩ | ⟨hq, q⟩
  · obtain ⟨its, rv, p', hz⟩ := I1.list hq
    exact wpAny_pyIter_list p'.isList ⟨s1.heap.objs.size, [s1.heap.objs.size], _, _, H1, rfl, J, turn_list a _, ⟨_, Heap.get?_push_size _ rfl, rfl, rfl⟩, fun b hb => near hb, q⟩
  · obtain ⟨its, rv, p', hz⟩ := I1.tuple hq
    exact wpAny_pyIter_tuple (show s1.heap.IsTuple a its.toArray from p') ⟨s1.heap.objs.size, [s1.heap.objs.size], _, _, H1, rfl, J, turn_tuple a _, ⟨_, Heap.get?_push_size _ rfl, rfl, rfl⟩, fun b hb => near hb, q⟩
end
section
variable {K : PySem.W.Frag} {a : Addr} {xs : List V}
theorem walk_enumT : Walk (Itu K a) xs.length (fun H => SqT K H a xs) (YPair (fun i => some (.int (i : Nat))) (fun i => xs[i]?)) :=
  ⟨fun i _ hi q => ⟨xs, xs[i], q, List.getElem?_eq_getElem hi⟩, fun _ q => ⟨xs, q, Nat.le_refl _⟩, fun i H v H' _ q ⟨T, x, h1, h2, h3, h4⟩ => ⟨T, .int (i : Nat), x, h1, h2, h3, rfl, h4 xs q⟩⟩
end
end Bk

namespace Bk
open PySem PySem.Spec PyProof.Rows L2
/-! ## 13. defs that refuse -/
/-- what a refusal is: a new own exception of the class at C, v its only field -/
def Refuse (C : Addr) (v : V) (H : Hp) (E : XK) : Prop := ∀ d H', H d = none → Same H H' → H' d = some (.xd [("found", v)]) → E (.ref C) (some d) H'
theorem Refuse.same {C : Addr} {v : V} {H H' : Hp} {E : XK} (r : Refuse C v H E) (s : Same H H') (n : ∀ d, H' d = none → H d = none) : Refuse C v H' E := fun d H2 hd s2 e => r d H2 (n d hd) (s.trans s2) e
def noE : XK := fun _ _ _ => False
structure CalX (P : Program) (w : World) (K : PySem.W.Frag) (mg : Str → Option Value) (base : Heap) (k : Nat) (x : Str) (sp : Sp) : Prop where
  ex : ∃ (f : Addr) (fd : FuncData) (ps : List Str), mg x = some (.ref f) ∧ PySem.W.keepIn K (.ref f) = true ∧ FnOk P w K mg base (L2.CX P w) k f fd ps sp ∧ Binds K fd ps []
theorem CalX.mk' {P : Program} {w : World} {K : PySem.W.Frag} {mg : Str → Option Value} {base : Heap} {k : Nat} {x : Str} {sp : Sp} {f : Addr} {fd : FuncData} {ps : List Str} (g : mg x = some (.ref f)) (kp : PySem.W.keepIn K (.ref f) = true) (F : FnOk P w K mg base (L2.CX P w) k f fd ps sp) (b : Binds K fd ps []) :
    CalX P w K mg base k x sp := ⟨f, fd, ps, g, kp, F, b⟩
/-- with keywords alone -/
structure CalNX (P : Program) (w : World) (K : PySem.W.Frag) (mg : Str → Option Value) (base : Heap) (k : Nat) (ks : List Str) (x : Str) (sp : Sp) (gV : List V → List V → List V) : Prop where
  ex : ∃ (f : Addr) (fd : FuncData) (ps : List Str) (g : List Value → List Value → List Value), mg x = some (.ref f) ∧ PySem.W.keepIn K (.ref f) = true ∧ FnOk P w K mg base (L2.CX P w) k f fd ps sp ∧ KBn K fd ps 0 ks g gV
theorem CalNX.mk' {P : Program} {w : World} {K : PySem.W.Frag} {mg : Str → Option Value} {base : Heap} {k : Nat} {ks : List Str} {x : Str} {sp : Sp} {gV : List V → List V → List V} {f : Addr} {fd : FuncData} {ps : List Str} {g : List Value → List Value → List Value} (a : mg x = some (.ref f)) (kp : PySem.W.keepIn K (.ref f) = true)
    (F : FnOk P w K mg base (L2.CX P w) k f fd ps sp) (b : KBn K fd ps 0 ks g gV) : CalNX P w K mg base k ks x sp gV := ⟨f, fd, ps, g, a, kp, F, b⟩
section
variable {X : Cx} {k j : Nat} {ks : List Str} {sp : Sp} {x : Str} {p pos : Pos} {e : Expr} {es : List Expr} {kws : List Keyword} {t tk : TA} {W : WX} {gV : List V → List V → List V}
/-- in a def that may let it out itself -/
theorem pe_calX {E : XK} (c : CalX X.prog X.w X.K X.mg X.base k x sp) (hr : Room j X.A) (hk : k ≤ j) (hg : Gl X x) (tk : Takes X (fun cls d _ H => E cls d H)) (ha : PA X (e :: es) t)
    (hdb : (x == ("__debug__" : Str)) = false := by decide) (he : starEach (e :: es) X.env = (false, eval e X.env) :: starEach es X.env := by rfl) (hpl : (backTo pos (starEach es X.env)).any (·.1) = false := by rfl) :
    PE X (.Call (.Name x p) (e :: es) [] pos) (tCall sp [] E t) := by
  obtain ⟨f, fd, ps, h1, h2, h3, h4⟩ := c.ex
  exact pe_call h3 (hr.mono hk) hg h1 h2 h4 .nil (passes_call tk fun _ _ _ _ h => h) ha hdb he hpl
theorem pass_no : Passes (L2.CX X.prog X.w) X noE := fun _ _ _ _ _ _ _ z => by
  obtain ⟨_, _, _, _, _, _, _, _, _, _, _, _, q⟩ := z
  exact q.elim
/-- where it is not refused -/
theorem pe_calY (c : CalX X.prog X.w X.K X.mg X.base k x sp) (hr : Room j X.A) (hk : k ≤ j) (hg : Gl X x) (ha : PA X (e :: es) t)
    (hdb : (x == ("__debug__" : Str)) = false := by decide) (he : starEach (e :: es) X.env = (false, eval e X.env) :: starEach es X.env := by rfl) (hpl : (backTo pos (starEach es X.env)).any (·.1) = false := by rfl) :
    PE X (.Call (.Name x p) (e :: es) [] pos) (tCall sp [] noE t) := by
  obtain ⟨f, fd, ps, h1, h2, h3, h4⟩ := c.ex
  exact pe_call h3 (hr.mono hk) hg h1 h2 h4 .nil pass_no ha hdb he hpl
theorem pe_calNY (c : CalNX X.prog X.w X.K X.mg X.base k ks x sp gV) (hr : Room j X.A) (hk : k ≤ j) (hg : Gl X x) (hkw : PK X kws tk)
    (hall : (backToKw pos (keywordEach kws X.env)).all (·.1.isSome) = true := by rfl) (hks : (backToKw pos (keywordEach kws X.env)).filterMap (·.1) = ks := by rfl)
    (hdb : (x == ("__debug__" : Str)) = false := by decide)
    (hpl : ((backTo pos (starEach [] X.env)).any (·.1) || (backToKw pos (keywordEach kws X.env)).any (·.1.isNone)) = false := by rfl) :
    PE X (.Call (.Name x p) [] kws pos) (tCallN 0 ks.length sp gV noE tNil tk) := by
  obtain ⟨f, fd, ps, g, h1, h2, h3, h4⟩ := c.ex
  exact pe_callN0 h3 (hr.mono hk) hg h1 h2 h4 pass_no hkw hall hks hdb hpl
/-- in a try -/
theorem pe_calT (c : CalX X.prog X.w X.K X.mg X.base k x sp) (hr : Room j X.A) (hk : k ≤ j) (hg : Gl X x) (tk : Takes X W) (ha : PA X (e :: es) t)
    (hdb : (x == ("__debug__" : Str)) = false := by decide) (he : starEach (e :: es) X.env = (false, eval e X.env) :: starEach es X.env := by rfl) (hpl : (backTo pos (starEach es X.env)).any (·.1) = false := by rfl) :
    PE X (.Call (.Name x p) (e :: es) [] pos) (tCallS sp (WE W) t) := by
  obtain ⟨f, fd, ps, h1, h2, h3, h4⟩ := c.ex
  exact pe_callS h3 (hr.mono hk) hg h1 h2 h4 (passAt tk) ha hdb he hpl
end
section
variable {K : PySem.W.Frag} {σ : L2.St} {H : Hp} {Q : VK} {D : Ends} {l : List ClA} {q : ClA} {cls : Value} {d : Option Addr}
theorem r_callS {sp : Sp} {E : L2.St → XK} {t : TA} (z : t σ H fun vs H1 => sp vs H1 Q (E σ)) : tCallS sp E t σ H Q := z
theorem r_try {tb : WX → TS} (z : tb (wAM K D l) D σ H) : (fun D τ G => tb (wAM K D l) D τ G) D σ H := z
theorem w_hit (h : PySem.W.exmOne K cls q.1 = some true) (z : ∀ a, H a = none → q.2.2 a cls d (offI q.2.1 D) (σ.set q.2.1 (some (.ref a))) H) : wAM K D (q :: l) cls d σ H := ⟨true, h, fun _ => z, fun y => absurd y.symm Bool.false_ne_true⟩
theorem w_miss (h : PySem.W.exmOne K cls q.1 = some false) (z : wAM K D l cls d σ H) : wAM K D (q :: l) cls d σ H := ⟨false, h, fun y => absurd y Bool.false_ne_true, fun _ => z⟩
theorem r_raise {t : L2.St → Hp → XK → Prop} {W : WX} (z : t σ H fun cls d H' => W cls d σ H') : (fun (_ : Ends) (τ : L2.St) (G : Hp) => t τ G fun cls d G' => W cls d τ G') D σ H := z
/-- raise C(v), C's own __init__ being this -/
def spInit (C : Addr) : Sp := fun vs H Q _ => ∃ (a : Addr) (x : V), vs = [.ref a, x] ∧ H a = some (exo a C none) ∧ ∀ dx, H dx = none → dx ≠ a → Q .non (upd (upd H dx (exd dx [("found", x)])) a (exo a C (some dx)))
theorem r_mkO {C : Addr} {v : V} {E : XK} (z : Refuse C v H E) : [v].length ≤ 1000 ∧ ∀ a, H a = none → spInit C (.ref a :: ([v] ++ [])) (upd H a (exo a C none))
    (fun u H2 => u = .non ∧ ∃ (d : Addr) (fs : List (Str × V)), H2 a = some (exo a C (some d)) ∧ H2 d = some (exd d fs) ∧ H d = none ∧ E (.ref C) (some d) (upd (del H2 a) d (.xd fs))) (fun _ _ _ => False) := by
  refine ⟨Nat.le_of_ble_eq_true rfl, fun a ha => ⟨a, v, rfl, upd_same, fun dx hd ne => ⟨rfl, dx, [("found", v)], upd_same, ?_, ?_, ?_⟩⟩⟩
  · rw [upd_ne ne, upd_same]
  · rw [upd_ne ne] at hd
    exact hd
  · rw [upd_ne ne] at hd
    refine z dx _ hd (fun b o e => ?_) upd_same
    have h1 : b ≠ a := ne_of_none e ha
    have h2 : b ≠ dx := ne_of_none e hd
    rw [upd_ne h2]
    show del _ a b = some o
    unfold del
    rw [if_neg h1, upd_ne h1, upd_ne h2, upd_ne h1]
    exact e
end
/-! ## 14. isinstance of several classes -/
def rIs2 (K : PySem.W.Frag) : List V → Hp → VK → Prop := fun xs H Q => rIsi K xs H Q ∨ rIsiT K xs H Q
theorem call_is2 {X : Cx} : CallR X (.builtin "isinstance") (rIs2 X.K) := CallR.or call_isi call_isiT
def IsB (K : PySem.W.Frag) (H : Hp) (x : V) (T U : String) (b : Bool) : Prop := ∃ t, TyX K H x t ∧ PySem.W.kitAny K t [.type T, .type U] = some b
theorem kit2 {K : PySem.W.Frag} {t : Value} {T U : String} {a b : Bool} (h : PySem.W.kitOne K t (.type T) = some a) (h2 : PySem.W.kitOne K t (.type U) = some b) : PySem.W.kitAny K t [.type T, .type U] = some (a || b) := by
  cases a with
  | true => exact kitAny_cons h (fun z => nomatch z) (fun _ => rfl)
  | false => exact kitAny_cons h (fun _ => by cases b with
      | true => exact kitAny_cons h2 (fun z => nomatch z) (fun _ => rfl)
      | false => exact kitAny_cons h2 (fun _ => kitAny_nil) (fun z => nomatch z)) (fun z => nomatch z)
section
variable {K : PySem.W.Frag} {H H' : Hp} {x : V} {T U : String} {b c : Bool} {Q : VK} {tp : Addr}
theorem r_is2 (h : IsB K H x T U b) (e : H tp = some (.tup [.ty T, .ty U])) (q : Q (.bl b) H) : rIs2 K [x, .ref tp] H Q := by
  obtain ⟨t, h1, h2⟩ := h
  exact .inr ⟨x, tp, [.ty T, .ty U], t, [.type T, .type U], b, rfl, e, .cons (.ty T) (.cons (.ty U) .nil), h1, h2, q⟩
theorem r_is1 (h : ∃ t, TyX K H x t ∧ PySem.W.kitOne K t (.type T) = some b) (q : Q (.bl b) H) : rIs2 K [x, .ty T] H Q := by
  obtain ⟨t, h1, h2⟩ := h
  exact .inl ⟨x, .ty T, t, .type T, b, rfl, .ty T, h1, h2, q⟩
end
/-! ## 15. a comprehension, by what each turn gives -/
section
variable {J : It} {n : Nat} {G : Hp → Prop} {Y : Nat → Hp → V → Hp → Prop} {g : TG} {tt : TT} {te : TE} {vs : List Nat} {σ : L2.St} {H : Hp} {D : Addr} {Q : VK}
theorem lc_by (w : Walk J n G Y) (p : Nat → Option V) (hD : H D = none) (hn : n ≤ 10000) (hG : ∀ H', Same H H' → G H')
    (hs : ∀ i x H1 H2 (Q' : VK) (R' : Hp → Prop), i < n → Same H H1 → Y i H1 x H2 → (∀ v, p i = some v → ∀ H3, Same H1 H3 → Q' v H3) → (p i = none → ∀ H3, Same H1 H3 → R' H3) →
      g x (wipe σ vs) H2 fun τ H3 => wipe τ vs = wipe σ vs ∧ tt τ H3 fun b H4 => if b = true then te τ H4 Q' else R' H4)
    (q : ∀ H', Same H H' → H' D = some (.lst ((List.range n).filterMap p)) → Q (.ref D) H') :
    ∃ W : Nat → Nat → Hp → Prop, (∃ m, W 0 m (upd H D (.lst []))) ∧ ∀ i m H, W i m H →
      (J.stop i H ∧ Q (.ref D) H) ∨ (J.go i H ∧ ∃ Nx : Hp → Prop, (∀ H', Nx H' → ∃ m', m' < m ∧ W (i + 1) m' H') ∧ ∀ x H', J.yld i H x H' → g x (wipe σ vs) H' fun σ2 H2 => wipe σ2 vs = wipe σ vs ∧ tt σ2 H2 fun b H3 =>
        if b = true then te σ2 H3 fun y H4 => ∃ acc, H4 D = some (.lst acc) ∧ acc.length < sizeLine ∧ Nx (upd H4 D (.lst (acc ++ [y]))) else Nx H3) := by
  refine lc_it w (fun i G => Same H G ∧ G D = some (.lst ((List.range i).filterMap p))) ⟨same_upd hD, by rw [upd_same]; rfl⟩ (fun i G _ z => hG G z.1) (fun i x H1 H2 hi ⟨sm, e⟩ y => ?_) fun G z => q G z.1 z.2
  refine hs i x H1 H2 _ _ hi sm y (fun v hv H3 s3 => ⟨_, s3 _ _ e, ?_, sameBut (sm.trans s3) hD, ?_⟩) fun hv H3 s3 => ⟨sm.trans s3, ?_⟩
  · have l := List.length_filterMap_le p (List.range i)
    rw [List.length_range] at l
    exact Nat.lt_of_le_of_lt (Nat.le_trans l (Nat.le_trans (Nat.le_of_lt hi) hn)) (by decide)
  · rw [upd_same, List.range_succ, List.filterMap_append]
    simp only [List.filterMap_cons, List.filterMap_nil, hv]
  · rw [s3 _ _ e, List.range_succ, List.filterMap_append]
    simp only [List.filterMap_cons, List.filterMap_nil, hv, List.append_nil]
end
end Bk

namespace Bk
open PySem PySem.Spec PyProof.Rows L2
/-! ## 8. binding with keywords -/
theorem vals_rev : ∀ {zs : List V} {ws : List Value}, Vals zs ws → Vals zs.reverse ws.reverse
  | _, _, .nil => .nil
  | _, _, .cons r t => by
    rw [List.reverse_cons, List.reverse_cons]
    exact (vals_rev t).append (.cons r .nil)
section
variable {K : PySem.W.Frag} {x qual : Str} {params : Arguments} {body : List Stmt} {scope : Scope} {kws : List (Str × V)} {f : Addr} {fd : FuncData} {ps : List Str}
theorem kbinds0 (F : FunD K x qual params body scope [] kws f fd) (n : Nat) (ks : List Str) (ms : List (Str × V)) (g : {α : Type} → List α → List α → List α → List α) (hk : kws ≠ []) (hms : ∀ q ∈ ms, q ∈ kws)
    (hrel : ∀ {vs mz zs : List V} {us mv ws : List Value}, Vals vs us → Vals mz mv → Vals zs ws → Vals (g vs mz zs) (g us mv ws))
    (h : ∀ (D : Addr) (doc pm : Value) (an : Option Addr) (cdv ct : Value) (us mv ws : List Value), us.length = n → mv.length = ms.length → ws.length = ks.length →
      KwChain D ((ms.map (·.1)).zip mv) (bindArgs (PySem.W.fnOf x qual params body scope .none (.ref D) doc pm an cdv ct) ⟨us, ks.zip ws⟩) (ps.zip (g us mv ws))) :
    ∃ mv : List Value, KBn K fd ps n ks (fun us ws => g us mv ws) (fun vs zs => g vs (ms.map (·.2)) zs) := by
  obtain ⟨oc, od, dV, kV, doc, pm, an, cdv, ct, osl, rfl, lk, hcd, hD, hK⟩ := F.ex
  rcases hD with ⟨_, rfl⟩ | ⟨e, _⟩
  · rcases hK with e | ⟨D, rfl, hq⟩
    · exact absurd e hk
    · obtain ⟨mv, hl, rk, hks⟩ := kwd_vals (ms := ms) fun q hm => hq q (hms q hm)
      refine ⟨mv, ⟨fun s us ws X l1 l2 => ?_, fun r1 r2 => hrel r1 rk r2⟩⟩
      exact BindsTo.of_looks fun M => KwChain.looks X hks (h D doc pm an cdv ct us mv ws l1 hl l2)
  · exact absurd rfl e
/-- keywords alone or beside values, no defaults -/
theorem kbPlain {st : Stmt} {f : Addr} {fd : FuncData} (F : Fun K x qual st f fd) (n : Nat) (ks : List Str) (g : {α : Type} → List α → List α → List α)
    (hrel : ∀ {vs zs : List V} {us ws : List Value}, Vals vs us → Vals zs ws → Vals (g vs zs) (g us ws))
    (h : ∀ (kV doc pm : Value) (an : Option Addr) (cdv ct : Value) (us ws : List Value), us.length = n → ws.length = ks.length → bindArgs (PySem.W.fnOf x qual (defArgs st) (defBody st) (defScope st) .none kV doc pm an cdv ct) ⟨us, ks.zip ws⟩ = pure (ps.zip (g us ws))) :
    KBn K fd ps n ks (fun us ws => g us ws) (fun vs zs => g vs zs) := by
  obtain ⟨oc, od, kV, doc, pm, an, cdv, ct, osl, rfl, lk, hcd⟩ := F.ex
  exact ⟨fun s us ws X l1 l2 => .of_eq (h kV doc pm an cdv ct us ws l1 l2), fun r1 r2 => hrel r1 r2⟩
end
theorem kit_sub {K : PySem.W.Frag} {C : Addr} {T : String} {b : Bool} (hm : PySem.W.kitMeta T = true) (h : PySem.W.subIn K (.ref C) (.type T) = some b) : PySem.W.kitOne K (.ref C) (.type T) = some b := by
  unfold PySem.W.kitOne PySem.W.kitCls
  rw [if_neg (fun z => by cases (beq_iff_eq.mp z))]
  show (if PySem.W.kitMeta T = true then PySem.W.subIn K (.ref C) (.type T) else none) = some b
  rw [if_pos hm]
  exact h
theorem CalN.mk' {P : Program} {w : World} {K : PySem.W.Frag} {mg : Str → Option Value} {base : Heap} {CX : CXT} {k n : Nat} {ks : List Str} {x : Str} {sp : Sp} {gV : List V → List V → List V} {f : Addr} {fd : FuncData} {ps : List Str} {g : List Value → List Value → List Value} (a : mg x = some (.ref f)) (kp : PySem.W.keepIn K (.ref f) = true) (F : FnOk P w K mg base CX k f fd ps sp) (b : KBn K fd ps n ks g gV) :
    CalN P w K mg base CX k n ks x sp gV := ⟨f, fd, ps, g, a, kp, F, b⟩
/-! ### within a comprehension: K by name -/
theorem call_isK {X : Cx} {K : PySem.W.Frag} (h : X.K = K) : CallR X (.builtin "isinstance") (rIs K) := by
  subst h
  exact call_is
theorem pg_tupK {X : Cx} {K : PySem.W.Frag} {es : List Expr} {k : Nat} {t : TGs} {n : Nat} {pos : Pos} (e : X.K = K) (hc : X.calm = true) (h : PGs X es t) (hn : (assignEach es X.env).length = n := by rfl) (hst : (assignEach es X.env).findIdx? (·.1) = none := by rfl) :
    PG X (.Tuple es k pos) (gTup K n t) := by
  subst e
  exact pg_tup hc h hn hst
theorem butSame {p : Addr} {H H1 H2 : Hp} (s : Same H H1) (n : H p = none) (b : But p H1 H2) : Same H H2 := fun c o e => b c o (ne_of_none e n) (s c o e)
end Bk

namespace Bk
open PySem PySem.Spec PyProof.Rows L2
/-! ## 16. things whose text is short -/
mutual
def smallD : PyData → Bool
  | .none | .bool _ => true
  | .int i => decide (i.natAbs < 10 ^ 38)
  | .str x => x.cps.toList.all fun c => decide (c < 16 ^ 8)
  | .list xs | .tuple xs => smallL xs
  | .dict _ => false
def smallL : List PyData → Bool
  | [] => true
  | x :: xs => smallD x && smallL xs
end
mutual
theorem small_ok : ∀ d : PyData, smallD d = true → d.showable = true ∧ d.leavesShort 40 = true
  | .none, _ => ⟨rfl, rfl⟩
  | .bool _, _ => ⟨rfl, rfl⟩
  | .int i, h => by
    have h' : i.natAbs < 10 ^ 38 := by simpa only [smallD, decide_eq_true_eq] using h
    have l1 := int_text_length_le10 (k := 38) (by decide) h'
    refine ⟨?_, ?_⟩
    · simp only [PyData.showable, decide_eq_true_eq]
      by_cases z : i.natAbs = 0
      · rw [z]; decide
      · have z2 := (Nat.log2_lt z (k := 128)).mpr (Nat.lt_of_lt_of_le h' (by decide))
        omega
    · simp only [PyData.leavesShort]
      refine decide_eq_true ?_
      have e : (PyData.shown (.int i)).length = (toString i).length := by
        simp only [PyData.shown]
        exact PySem.ofString_length _
      omega
  | .str x, h => ⟨by simp only [PyData.showable], by simpa only [smallD, PyData.leavesShort] using h⟩
  | .list xs, h => by simpa only [PyData.showable, PyData.leavesShort] using small_okL xs (by simpa only [smallD] using h)
  | .tuple xs, h => by simpa only [PyData.showable, PyData.leavesShort] using small_okL xs (by simpa only [smallD] using h)
  | .dict _, h => by simp only [smallD] at h; exact nomatch h
theorem small_okL : ∀ xs : List PyData, smallL xs = true → PyData.showableAll xs = true ∧ PyData.leavesShortAll 40 xs = true
  | [], _ => ⟨rfl, rfl⟩
  | x :: xs, h => by
    have h' : smallD x = true ∧ smallL xs = true := by simpa only [smallL, Bool.and_eq_true] using h
    obtain ⟨a, b⟩ := small_ok x h'.1
    obtain ⟨c, d⟩ := small_okL xs h'.2
    exact ⟨by simp only [PyData.showableAll, a, c, Bool.and_true], by simp only [PyData.leavesShortAll, b, d, Bool.and_true]⟩
end
section
variable {K : PySem.W.Frag} {H H' : Hp} {v : V} {a : Addr} {xs : List V}
theorem shw_of {d : PyData} (h : Dp K H v d) (s : smallD d = true) (b : d.bulk ≤ 20000) (e : d.depth ≤ 60) : Shw K H v d.shown := by
  obtain ⟨h1, h2⟩ := small_ok d s
  have h3 := PyData.shown_le_bulk 40 (by decide) d h2
  exact .inl ⟨d, h, h1, by rw [sizeLine_eq]; omega, e, rfl⟩
theorem shw_dK (e : H a = some (.dK [])) : Shw K H (.ref a) "{}" := .inr ⟨a, rfl, e, rfl⟩
/-- a thing within a list -/
def Itm (K : PySem.W.Frag) (H : Hp) (v : V) : Prop := ∃ d, Dp K H v d ∧ smallD d = true ∧ d.bulk ≤ 100 ∧ d.depth ≤ 20
theorem itm_shw (h : Itm K H v) : ∃ z, Shw K H v z := let ⟨_, h1, h2, h3, h4⟩ := h; ⟨_, shw_of h1 h2 (by omega) (by omega)⟩
theorem itms : ∀ {xs : List V}, (∀ y ∈ xs, Itm K H y) → ∃ ds, DpAll K H xs ds ∧ smallL ds = true ∧ PyData.bulkAll ds ≤ 101 * xs.length ∧ PyData.depthAll ds ≤ 20
  | [], _ => ⟨[], .nil, rfl, Nat.le_refl _, Nat.zero_le _⟩
  | y :: ys, h => by
    obtain ⟨d, h1, h2, h3, h4⟩ := h y List.mem_cons_self
    obtain ⟨ds, g1, g2, g3, g4⟩ := itms fun z hz => h z (List.mem_cons_of_mem _ hz)
    refine ⟨d :: ds, .cons h1 g1, by simp only [smallL, h2, g2, Bool.and_true], ?_, ?_⟩
    · simp only [PyData.bulkAll, List.length_cons]
      omega
    · simp only [PyData.depthAll]
      omega
theorem shw_lst (h : SqL K H a xs) (i : ∀ y ∈ xs, Itm K H y) (l : xs.length ≤ 150) : ∃ z, Shw K H (.ref a) z := by
  obtain ⟨ds, g1, g2, g3, g4⟩ := itms i
  exact ⟨_, shw_of (.lst h g1) (by simpa only [smallD] using g2) (by simp only [PyData.bulk]; omega) (by simp only [PyData.depth]; omega)⟩
theorem shw_tup (h : SqT K H a xs) (i : ∀ y ∈ xs, Itm K H y) (l : xs.length ≤ 150) : ∃ z, Shw K H (.ref a) z := by
  obtain ⟨ds, g1, g2, g3, g4⟩ := itms i
  exact ⟨_, shw_of (.tup h g1) (by simpa only [smallD] using g2) (by simp only [PyData.bulk]; omega) (by simp only [PyData.depth]; omega)⟩
/-! scalars -/
def datS : V → PyData
  | .bl b => .bool b
  | .int i => .int i
  | .str z => .str z
  | _ => .none
def smS : V → Bool
  | .non | .bl _ => true
  | .int i => decide (i.natAbs < 10 ^ 38)
  | .str z => decide (z.length ≤ 90) && z.cps.toList.all fun c => decide (c < 16 ^ 8)
  | _ => false
theorem datS_ok (h : smS v = true) : Dp K H v (datS v) ∧ smallD (datS v) = true ∧ (datS v).bulk ≤ 100 ∧ (datS v).depth = 0 := by
  cases v with
  | non => exact ⟨.non, by simp only [datS, smallD], by simp [datS, PyData.bulk], by simp only [datS, PyData.depth]⟩
  | bl b => exact ⟨.bl b, by simp only [datS, smallD], by simp [datS, PyData.bulk], by simp only [datS, PyData.depth]⟩
  | int i => exact ⟨.int i, by simpa only [datS, smallD, smS] using h, by simp [datS, PyData.bulk], by simp only [datS, PyData.depth]⟩
  | str z =>
    have h' : z.length ≤ 90 ∧ (z.cps.toList.all fun c => decide (c < 16 ^ 8)) = true := by
      have z2 := Bool.and_eq_true_iff.mp (show (decide (z.length ≤ 90) && z.cps.toList.all fun c => decide (c < 16 ^ 8)) = true from h)
      exact ⟨of_decide_eq_true z2.1, z2.2⟩
    have hz : z.cps.size ≤ 90 := h'.1
    exact ⟨.str z, by simpa only [datS, smallD] using h'.2, by simp only [datS, PyData.bulk]; omega, by simp only [datS, PyData.depth]⟩
  | _ => exact nomatch h
theorem itm_sc (h : smS v = true) : Itm K H v := let ⟨h1, h2, h3, h4⟩ := datS_ok h; ⟨_, h1, h2, h3, by omega⟩
theorem shw_sc (h : smS v = true) : Shw K H v (datS v).shown := let ⟨h1, h2, h3, h4⟩ := datS_ok h; shw_of h1 h2 (by omega) (by omega)
theorem datSs : ∀ {xs : List V}, xs.all smS = true → DpAll K H xs (xs.map datS) ∧ smallL (xs.map datS) = true ∧ PyData.bulkAll (xs.map datS) ≤ 101 * xs.length ∧ PyData.depthAll (xs.map datS) = 0
  | [], _ => ⟨.nil, rfl, Nat.le_refl _, rfl⟩
  | y :: ys, h => by
    rw [List.all_cons, Bool.and_eq_true] at h
    obtain ⟨h1, h2, h3, h4⟩ := datS_ok (K := K) (H := H) h.1
    obtain ⟨g1, g2, g3, g4⟩ := datSs h.2
    rw [List.map_cons]
    refine ⟨.cons h1 g1, by simp only [smallL, h2, g2, Bool.and_true], ?_, ?_⟩
    · simp only [PyData.bulkAll, List.length_cons]
      omega
    · simp only [PyData.depthAll, h4, g4]
      rfl
theorem shw_lsc (h : SqL K H a xs) (i : xs.all smS = true) (l : xs.length ≤ 150) : Shw K H (.ref a) (PyData.list (xs.map datS)).shown := by
  obtain ⟨g1, g2, g3, g4⟩ := datSs (K := K) (H := H) i
  exact shw_of (.lst h g1) (by simpa only [smallD] using g2) (by simp only [PyData.bulk]; omega) (by simp only [PyData.depth]; omega)
theorem shw_tsc (h : SqT K H a xs) (i : xs.all smS = true) (l : xs.length ≤ 150) : Shw K H (.ref a) (PyData.tuple (xs.map datS)).shown := by
  obtain ⟨g1, g2, g3, g4⟩ := datSs (K := K) (H := H) i
  exact shw_of (.tup h g1) (by simpa only [smallD] using g2) (by simp only [PyData.bulk]; omega) (by simp only [PyData.depth]; omega)
end
theorem smS_int {i : Int} (h : i.natAbs < 10 ^ 38) : smS (.int i) = true := decide_eq_true h
theorem smS_bls {bs : List Bool} : (bs.map V.bl).all smS = true := by
  rw [List.all_map]
  exact List.all_eq_true.mpr fun _ _ => rfl
end Bk

namespace Bk
open PySem PySem.Spec PyProof.Rows L2
/-! ## 18. what k03 left for all -/
theorem seqT {K : PySem.W.Frag} {H H' : Hp} {a : Addr} {xs : List V} (s : Same H H') (h : SqT K H a xs) : SqT K H' a xs := by
  rcases h with (h | ⟨o, h⟩) | h
  · exact .inl (.inl (s _ _ h))
  · exact .inl (.inr ⟨o, s _ _ h⟩)
  · exact .inr h
theorem Refuse.on {C : Addr} {v : V} {H H' : Hp} {E : XK} (r : Refuse C v H E) (s : Same H H') : Refuse C v H' E := fun d H2 hd s2 e => r d H2 (s.free hd) (s.trans s2) e
section
variable {K : PySem.W.Frag} {H : Hp} {a : Addr} {T U : String} {b c : Bool}
theorem isb_lst {xs : List V} (e : H a = some (.lst xs)) (h : kitB "list" T = some b := by decide +kernel) (h2 : kitB "list" U = some c := by decide +kernel) : IsB K H (.ref a) T U (b || c) := ⟨.type "list", .base (.lst e), kit2 (kit_ty h) (kit_ty h2)⟩
theorem isb_tup {xs : List V} (e : H a = some (.tup xs)) (h : kitB "tuple" T = some b := by decide +kernel) (h2 : kitB "tuple" U = some c := by decide +kernel) : IsB K H (.ref a) T U (b || c) := ⟨.type "tuple", .base (.tup e), kit2 (kit_ty h) (kit_ty h2)⟩
theorem isb_dK {kvs : List (Key × V)} (e : H a = some (.dK kvs)) (h : kitB "dict" T = some b := by decide +kernel) (h2 : kitB "dict" U = some c := by decide +kernel) : IsB K H (.ref a) T U (b || c) := ⟨.type "dict", .base (.dK e), kit2 (kit_ty h) (kit_ty h2)⟩
theorem isb_int {i : Int} (h : kitB "int" T = some b := by decide +kernel) (h2 : kitB "int" U = some c := by decide +kernel) : IsB K H (.int i) T U (b || c) := ⟨.type "int", .base (.int i), kit2 (kit_ty h) (kit_ty h2)⟩
theorem isb_bl {k : Bool} (h : kitB "bool" T = some b := by decide +kernel) (h2 : kitB "bool" U = some c := by decide +kernel) : IsB K H (.bl k) T U (b || c) := ⟨.type "bool", .base (.bl k), kit2 (kit_ty h) (kit_ty h2)⟩
theorem isb_str {z : Str} (h : kitB "str" T = some b := by decide +kernel) (h2 : kitB "str" U = some c := by decide +kernel) : IsB K H (.str z) T U (b || c) := ⟨.type "str", .base (.str z), kit2 (kit_ty h) (kit_ty h2)⟩
theorem isb_non (h : kitB "NoneType" T = some b := by decide +kernel) (h2 : kitB "NoneType" U = some c := by decide +kernel) : IsB K H .non T U (b || c) := ⟨.type "NoneType", .base .non, kit2 (kit_ty h) (kit_ty h2)⟩
end
theorem r_yes {σ : L2.St} {H : Hp} {te : TE} {Q : VK} {R : Hp → Prop} (q : te σ H Q) : tYes σ H (fun b H4 => if b = true then te σ H4 Q else R H4) := by
  show if true = true then te σ H Q else R H
  exact iteT q
section
variable {K : PySem.W.Frag} {σ : L2.St} {H : Hp} {Q : VK} {i0 j j1 j2 : Nat} {vs : List Nat} {a : Addr} {xs : List V} {te : TE} {tt : TT}
/-- over a list or a tuple -/
theorem lcA (p : Nat → V) (hv : σ[i0]? = some (some (.ref a))) (hs : SqL K H a xs ∨ SqT K H a xs) (hl : xs.length ≤ 10000) (hw : ∀ x, wipe ((wipe σ vs).set j (some x)) vs = wipe σ vs)
    (ht : ∀ (i : Nat) (y : V) (H' : Hp) (Q' : VK), xs[i]? = some y → Same H H' → (∀ H2, Same H' H2 → Q' (p i) H2) → te ((wipe σ vs).set j (some y)) H' Q')
    (q : ∀ D H', H D = none → Same H H' → H' D = some (.lst ((List.range xs.length).map p)) → Q (.ref D) H') : tLc (iSeqA K (tVar i0)) (gName j) tYes te vs σ H Q := by
  have go : ∀ {J : It} {G : Hp → Prop}, Walk J xs.length G (YAt xs) → (∀ H', Same H H' → G H') → ∀ D, H D = none → _ := fun {J G} wk hG D hD =>
    lc_by (g := gName j) (tt := tYes) (te := te) (vs := vs) (σ := σ) (Q := Q) wk (fun i => some (p i)) hD hl hG (fun i y H1 H2 Q' R' hi sm ⟨e, hy⟩ h1 _ => ⟨hw _, by
      subst e
      exact r_yes (ht i y H2 Q' hy sm (h1 _ rfl))⟩) fun H' sm e => q D H' hD sm (by
      rw [e]
      show some (HO.lst (List.filterMap (some ∘ p) _)) = _
      rw [List.filterMap_eq_map])
  refine ⟨_, hv, a, xs, rfl, ?_⟩
  rcases hs with hs | hs
  · exact .inl ⟨hs, go walk_list fun H' sm => sm.seq hs⟩
  · exact .inr ⟨hs, go walk_tup fun H' sm => seqT sm hs⟩
/-- enumerate of a list or a tuple, some left out -/
theorem lcE (p : Nat → V → Option V) (hv : σ[i0]? = some (some (.ref a))) (hs : SqL K H a xs ∨ SqT K H a xs) (hl : xs.length ≤ 10000) (hw : ∀ x y, wipe (((wipe σ vs).set j1 (some x)).set j2 (some y)) vs = wipe σ vs)
    (ht : ∀ (i : Nat) (y : V) (H' : Hp) (Q' : VK) (R' : Hp → Prop), xs[i]? = some y → Same H H' → (∀ v, p i y = some v → ∀ H2, Same H' H2 → Q' v H2) → (p i y = none → ∀ H2, Same H' H2 → R' H2) →
      tt (((wipe σ vs).set j1 (some (.int i))).set j2 (some y)) H' fun b H4 => if b = true then te (((wipe σ vs).set j1 (some (.int i))).set j2 (some y)) H4 Q' else R' H4)
    (q : ∀ D H', H D = none → Same H H' → H' D = some (.lst ((List.range xs.length).filterMap fun i => xs[i]?.bind (p i))) → Q (.ref D) H') :
    tLc (iEnumA K (tCons (tVar i0) tNil)) (gTup K 2 (gCons (gName j1) (gCons (gName j2) gNil))) tt te vs σ H Q := by
  have go : ∀ {J : It} {G : Hp → Prop}, Walk J xs.length G (YPair (fun i => some (.int (i : Nat))) (fun i => xs[i]?)) → (∀ H', Same H H' → G H') → ∀ D, H D = none → _ := fun {J G} wk hG D hD =>
    lc_by (g := gTup K 2 (gCons (gName j1) (gCons (gName j2) gNil))) (tt := tt) (te := te) (vs := vs) (σ := σ) (Q := Q) wk (fun i => xs[i]?.bind (p i)) hD hl hG (fun i v H1 H2 Q' R' hi sm ⟨Tn, x, y, e1, nT, e2, hx, hy⟩ h1 h2 => by
      subst e1 e2
      injection hx with hx
      subst hx
      have sT := same_upd (o := .tup [.int (i : Nat), y]) nT
      have ey : xs[i]?.bind (p i) = p i y := by
        rw [show xs[i]? = some y from hy]
        rfl
      refine ⟨Tn, _, rfl, sqT upd_same, rfl, .int i, _, rfl, y, _, rfl, rfl, hw _ _, ?_⟩
      exact ht i y _ Q' R' hy (sm.trans sT) (fun v hv H3 s3 => h1 v (by rw [ey]; exact hv) H3 (sT.trans s3)) fun hn H3 s3 => h2 (by rw [ey]; exact hn) H3 (sT.trans s3)) fun H' sm e => q D H' hD sm e
  refine ⟨_, hv, a, xs, rfl, ?_⟩
  rcases hs with hs | hs
  · exact .inl ⟨hs, go walk_enum fun H' sm => sm.seq hs⟩
  · exact .inr ⟨hs, go walk_enumT fun H' sm => seqT sm hs⟩
end
theorem map_getD {α : Type} (f : V → α) (d : V) (xs : List V) : (List.range xs.length).map (fun i => f (xs.getD i d)) = xs.map f := by
  refine List.ext_getElem (by simp) fun i h1 h2 => ?_
  simp only [List.getElem_map, List.getElem_range]
  have h : i < xs.length := by simpa using h1
  rw [List.getD_eq_getElem?_getD, List.getElem?_eq_getElem h]
  rfl
/-! ## 17. comprehensions over a list, a tuple, a range -/
section
variable {K : PySem.W.Frag} {σ : L2.St} {H : Hp} {Q : VK} {i0 j : Nat} {vs : List Nat} {a : Addr} {xs : List V} {te : TE}
theorem lc_map {J : It} {n : Nat} {G : Hp → Prop} {Y : Nat → Hp → V → Hp → Prop} {D : Addr} (wk : Walk J n G Y) (hY : ∀ i H1 x H2, i < n → Y i H1 x H2 → H2 = H1) (p : Nat → V) (hl : n ≤ 10000) (hG : ∀ H', Same H H' → G H') (hw : ∀ x, wipe ((wipe σ vs).set j (some x)) vs = wipe σ vs)
    (ht : ∀ (i : Nat) (y : V) (H1 H' : Hp) (Q' : VK), i < n → Y i H1 y H' → Same H H' → (∀ H2, Same H' H2 → Q' (p i) H2) → te ((wipe σ vs).set j (some y)) H' Q')
    (q : ∀ D H', H D = none → Same H H' → H' D = some (.lst ((List.range n).map p)) → Q (.ref D) H') (hD : H D = none) : ∃ W : Nat → Nat → Hp → Prop, (∃ m, W 0 m (upd H D (.lst []))) ∧ ∀ i m H, W i m H →
      (J.stop i H ∧ Q (.ref D) H) ∨ (J.go i H ∧ ∃ Nx : Hp → Prop, (∀ H', Nx H' → ∃ m', m' < m ∧ W (i + 1) m' H') ∧ ∀ x H', J.yld i H x H' → gName j x (wipe σ vs) H' fun σ2 H2 => wipe σ2 vs = wipe σ vs ∧ tYes σ2 H2 fun b H3 =>
        if b = true then te σ2 H3 fun y H4 => ∃ acc, H4 D = some (.lst acc) ∧ acc.length < sizeLine ∧ Nx (upd H4 D (.lst (acc ++ [y]))) else Nx H3) :=
  lc_by (g := gName j) (tt := tYes) (te := te) (vs := vs) (σ := σ) (Q := Q) wk (fun i => some (p i)) hD hl hG (fun i y H1 H2 Q' R' hi sm e h1 _ => ⟨hw _, by
    obtain rfl := hY i _ _ _ hi e
    exact r_yes (ht i y H2 H2 Q' hi e sm (h1 _ rfl))⟩) fun H' sm e => q D H' hD sm (by
      rw [e]
      show some (HO.lst (List.filterMap (some ∘ p) _)) = _
      rw [List.filterMap_eq_map])
theorem lcT (p : Nat → V) (hv : σ[i0]? = some (some (.ref a))) (hs : SqT K H a xs) (hl : xs.length ≤ 10000) (hw : ∀ x, wipe ((wipe σ vs).set j (some x)) vs = wipe σ vs)
    (ht : ∀ (i : Nat) (y : V) (H' : Hp) (Q' : VK), xs[i]? = some y → Same H H' → (∀ H2, Same H' H2 → Q' (p i) H2) → te ((wipe σ vs).set j (some y)) H' Q')
    (q : ∀ D H', H D = none → Same H H' → H' D = some (.lst ((List.range xs.length).map p)) → Q (.ref D) H') : tLc (iTup K (tVar i0)) (gName j) tYes te vs σ H Q :=
  ⟨_, hv, a, rfl, ⟨xs, hs⟩, fun D hD => lc_map (j := j) walk_tup (fun _ _ _ _ _ z => z.1) p hl (fun H' sm => seqT sm hs) hw (fun i y H1 H' Q' _ e sm k => ht i y H' Q' e.2 sm k) q hD⟩
theorem lcL (p : Nat → V) (hv : σ[i0]? = some (some (.ref a))) (hs : SqL K H a xs) (hl : xs.length ≤ 10000) (hw : ∀ x, wipe ((wipe σ vs).set j (some x)) vs = wipe σ vs)
    (ht : ∀ (i : Nat) (y : V) (H' : Hp) (Q' : VK), xs[i]? = some y → Same H H' → (∀ H2, Same H' H2 → Q' (p i) H2) → te ((wipe σ vs).set j (some y)) H' Q')
    (q : ∀ D H', H D = none → Same H H' → H' D = some (.lst ((List.range xs.length).map p)) → Q (.ref D) H') : tLc (iList K (tVar i0)) (gName j) tYes te vs σ H Q :=
  ⟨_, hv, a, rfl, ⟨xs, hs⟩, fun D hD => lc_map (j := j) walk_list (fun _ _ _ _ _ z => z.1) p hl (fun H' sm => sm.seq hs) hw (fun i y H1 H' Q' _ e sm k => ht i y H' Q' e.2 sm k) q hD⟩
/-- what is drawn at each turn: the box changes -/
theorem lcDraw {n m : Nat} {bx : Addr} (p : V → Prop) (hb : Box bx m H) (hl : n ≤ 1000) (hw : ∀ x, wipe ((wipe σ vs).set j (some x)) vs = wipe σ vs)
    (ht : ∀ (i : Nat) (H' : Hp) (Q' : VK), i < n → Box bx (m + i) H' → (∀ v H2, p v → Box bx (m + i + 1) H2 → But bx H' H2 → Q' v H2) → te ((wipe σ vs).set j (some (.int i))) H' Q')
    (q : ∀ D H' xs, H D = none → But bx H H' → Box bx (m + n) H' → H' D = some (.lst xs) → xs.length = n → (∀ v ∈ xs, p v) → Q (.ref D) H') : tLc (iRng1 (tCons (tC (.int n)) tNil)) (gName j) tYes te vs σ H Q := by
  refine ⟨_, rfl, by omega, by omega, fun D hD => ?_⟩
  have nD : D ≠ bx := hb.ne hD
  rw [Int.toNat_natCast]
  refine lc_it (g := gName j) (tt := tYes) (te := te) (vs := vs) (σ := σ) (n := n) walk_range (fun i G => But bx H G ∧ Box bx (m + i) G ∧ ∃ xs, G D = some (.lst xs) ∧ xs.length = i ∧ ∀ v ∈ xs, p v)
    ⟨.of (same_upd hD), hb.same (same_upd hD), [], upd_same, rfl, fun _ z => nomatch z⟩ (fun _ _ _ _ => trivial) (fun i x H1 H2 hi ⟨bt, hB, xs, e, l, hp⟩ y => ?_) fun G ⟨bt, hB, xs, e, l, hp⟩ => q D G xs hD bt hB e l hp
  obtain ⟨rfl, rfl⟩ := y
  refine ⟨hw _, ?_⟩
  show te ((wipe σ vs).set j (some (.int (0 + (i : Int))))) _ _
  rw [Int.zero_add]
  refine ht i H2 _ hi hB fun v H3 pv hB3 b3 => ⟨xs, b3 _ _ nD e, by rw [l]; exact Nat.lt_of_lt_of_le hi (Nat.le_trans hl (by decide)), ?_, ?_, xs ++ [v], upd_same, by rw [List.length_append, l]; rfl, fun u hu => ?_⟩
  · exact fun b o ne e0 => by
      have z := b3 _ _ ne (bt _ _ ne e0)
      rw [upd_ne (ne_of_none e0 hD)]
      exact z
  · obtain ⟨x1, y1, z1, eB, r⟩ := hB3
    exact ⟨x1, y1, z1, by rw [upd_ne nD.symm]; exact eB, r⟩
  · rcases List.mem_append.mp hu with z | z
    · exact hp u z
    · rw [List.mem_singleton.mp z]; exact pv
end
/-- except C as e: return (tag, e.found) -/
theorem caught_at {K : PySem.W.Frag} {C d : Addr} {i : Nat} {σ : L2.St} {H' : Hp} {D : Ends} {l : List ClA} {v : V} {tag : Str} (e : PySem.W.exmOne K (.ref C) (.ref C) = some true) (hi : i < σ.length) (ed : H' d = some (.xd [("found", v)]))
    (q : ∀ p H2, H' p = none → Same H' H2 → H2 p = some (.tup [.str tag, v]) → D.rt (.ref p) H2) :
    wAM K D ((.ref C, i, fun a cls d => tRet (tTup (tCons (tC (.str tag)) (tCons (tXf a cls d C "found" (tVar i)) tNil)))) :: l) (.ref C) (some d) σ H' := by
  refine w_hit e fun a na => ?_
  show tRet (tTup (tCons (tC (.str tag)) (tCons (tXf a (.ref C) (some d) C "found" (tVar i)) tNil))) (offI i D) (σ.set i (some (.ref a))) H'
  refine r_ret (r_tup (r_cons (r_c (r_cons ?_))))
  refine ⟨.ref a, List.getElem?_set_self hi, rfl, rfl, d, _, v, rfl, ed, rfl, ?_⟩
  exact r_nil (newT fun p H2 np s2 e2 => q p H2 np s2 e2)
theorem fm_congr {α β : Type} {f g : α → Option β} : ∀ {l : List α}, (∀ x ∈ l, f x = g x) → l.filterMap f = l.filterMap g
  | [], _ => rfl
  | x :: l, h => by
    rw [List.filterMap_cons, List.filterMap_cons, h x List.mem_cons_self, fm_congr fun y hy => h y (List.mem_cons_of_mem _ hy)]
section
variable {K : PySem.W.Frag} {H : Hp} {x y : V} {Q : VK}
theorem r_neSame {d : PyData} (h1 : Dp K H x d) (h2 : Dp K H y d) (s : SeqAt.shaped d = true) (q : Q (.bl false) H) : rNeD K x y H Q :=
  ⟨d, d, h1, h2, s, s, by rw [SeqAt.eqv_refl d (SeqAt.canLay_of_shaped s)]; exact q⟩
end
theorem box_upd {bx a : Addr} {n : Nat} {H : Hp} {o : HO} (h : Box bx n H) (ne : a ≠ bx) : Box bx n (upd H a o) := by
  obtain ⟨x, y, z, e, r⟩ := h
  exact ⟨x, y, z, by rw [upd_ne ne.symm]; exact e, r⟩
theorem but_upd {bx a : Addr} {H0 H : Hp} {o : HO} (b : But bx H0 H) (fr : H0 a = none) : But bx H0 (upd H a o) := fun c u ne e => by
  rw [upd_ne (ne_of_none e fr)]
  exact b c u ne e
theorem cut_to {xs : List V} {m : Nat} (h : m ≤ xs.length) : cutV xs none (some (m : Int)) = xs.take m := by
  unfold cutV
  rw [HT.sIx_none, HT.sIx_nat, Nat.min_eq_left h, List.drop_zero, Nat.sub_zero]
theorem cut_from {xs : List V} {m : Nat} (h : m ≤ xs.length) : cutV xs (some (m : Int)) none = xs.drop m := by
  unfold cutV
  rw [HT.sIx_none, HT.sIx_nat, Nat.min_eq_left h]
  exact List.take_of_length_le (by rw [List.length_drop]; exact Nat.le_refl _)
section
variable {H : Hp} {Q : VK} {a b : Addr} {xs ys : List V} {lo hi : Option Int}
theorem r_slL {K : PySem.W.Frag} (h : SqL K H a xs) (e : cutV xs lo hi = ys) (q : ∀ p H', H p = none → Same H H' → H' p = some (.lst ys) → Q (.ref p) H') : rSlL K (.ref a) lo hi H Q :=
  ⟨a, xs, rfl, h, fun p n => q p _ n (same_upd n) (by rw [upd_same, e])⟩
theorem r_cat (h1 : H a = some (.lst xs)) (h2 : H b = some (.lst ys)) (q : ∀ p H', H p = none → Same H H' → H' p = some (.lst (xs ++ ys)) → Q (.ref p) H') (l : xs.length + ys.length ≤ 10000 := by omega) : rCat (.ref a) (.ref b) H Q :=
  ⟨a, b, xs, ys, rfl, rfl, h1, h2, Nat.le_trans l (by decide), fun p n => q p _ n (same_upd n) upd_same⟩
end
theorem shw_tup2 {K : PySem.W.Frag} {H : Hp} {a b : Addr} {xs : List V} (h : SqT K H a xs) (h2 : SqT K H b xs) (i : ∀ y ∈ xs, Itm K H y) (l : xs.length ≤ 150) : ∃ z, Shw K H (.ref a) z ∧ Shw K H (.ref b) z := by
  obtain ⟨ds, g1, g2, g3, g4⟩ := itms i
  exact ⟨_, shw_of (.tup h g1) (by simpa only [smallD] using g2) (by simp only [PyData.bulk]; omega) (by simp only [PyData.depth]; omega),
    shw_of (.tup h2 g1) (by simpa only [smallD] using g2) (by simp only [PyData.bulk]; omega) (by simp only [PyData.depth]; omega)⟩
theorem but_none {a c : Addr} {H G : Hp} (b : But a H G) (ne : c ≠ a) (h : G c = none) : H c = none := by
  cases e : H c with
  | none => rfl
  | some o => exact nomatch h.symm.trans (b _ _ ne e)
theorem r_par {i j : Nat} {ta : TA} {D : Ends} {σ : L2.St} {H : Hp} (q : ta σ H fun vs H1 => ∃ v w, vs = [v, w] ∧ D.nx ((σ.set i (some v)).set j (some w)) H1) : tPar i j ta D σ H := q
theorem small_int {i : Int} (h0 : -100000 ≤ i) (h1 : i ≤ 100000) : smS (.int i) = true := smS_int (Nat.lt_of_lt_of_le (show i.natAbs < 1000000 by omega) (by decide))
structure Exc (K : PySem.W.Frag) (C f : Addr) : Prop where
  ox : OexC K C
  i : PySem.W.findIn K (.ref C) "__init__" = some (some (.ref f))
  t : PySem.W.typeIn K (.ref f) = some (.type "function")
  nf : PySem.W.findIn K (.ref C) "found" = some none
  xf : XfC K C
def spGE (K : PySem.W.Frag) : Sp := fun vs H Q _ => ∃ (a C : Addr) (x : V), vs = [.ref a, x] ∧ OexC K C ∧ H a = some (exo a C none) ∧ Q .non H
def wholeV (x : V) (lo hi : Int) : Bool := match x with
  | .int i => decide (lo ≤ i) && decide (i ≤ hi)
  | _ => false
/-- a thing of which isinstance(.., int) is known -/
def WD (K : PySem.W.Frag) (H : Hp) (x : V) : Prop := (∃ i, x = .int i) ∨ (∃ b, x = .bl b) ∨ (IsA K H x "int" false ∧ ∀ l h, wholeV x l h = false)
def spWhole (K : PySem.W.Frag) : Sp := fun vs H Q _ => ∃ (x : V) (lo hi : Int), vs = [x, .int lo, .int hi] ∧ WD K H x ∧ Q (.bl (wholeV x lo hi)) H
def wd (x : V) : Bool := wholeV x 0 4095
def spIsWord (K : PySem.W.Frag) : Sp := fun vs H Q _ => ∃ x : V, vs = [x] ∧ WD K H x ∧ Q (.bl (wd x)) H
def spCheck (K : PySem.W.Frag) (CW : Addr) : Sp := fun vs H Q E => ∃ x : V, vs = [x] ∧ WD K H x ∧ ((wd x = true ∧ Q .non H) ∨ (wd x = false ∧ Refuse CW x H E))
theorem wd_int {i : Int} (h0 : 0 ≤ i) (h1 : i ≤ 4095) : wd (.int i) = true := by
  show (decide (0 ≤ i) && decide (i ≤ 4095)) = true
  rw [decide_eq_true h0, decide_eq_true h1]
  rfl
end Bk

namespace Bk
open PySem PySem.Spec PyProof.Rows L2
/-! ## 19. a text is no dict -/
theorem str_not_dict (x : Str) (t : Tok) (d : Addr) (o : Obj) (es : Array DictEntry) (ep : Nat) (hd : o.data = .dict es ep) (hc : o.cls = .type "dict") :
    Meets (Builtin.«str.__eq__» ⟨[.str x t, .ref d], []⟩) (fun _ R s => s.heap.get? d = some o ∧ R (.ok (.ret .notImplemented)) s) :=
  .of_wp fun prog w A R s h => by
    obtain ⟨hp, g, dr, tk, os⟩ := s
    obtain ⟨hl, h⟩ := h
    obtain ⟨c, dd, dt, sl⟩ := o
    subst hd hc
    wp_walk using wpAny_load hl
    exact ⟨_, rfl, h⟩
theorem dict_not_str (x : Str) (t : Tok) (d : Addr) (o : Obj) (es : Array DictEntry) (ep : Nat) (hd : o.data = .dict es ep) (hc : o.cls = .type "dict") :
    Meets (Builtin.«dict.__eq__» ⟨[.ref d, .str x t], []⟩) (fun _ R s => s.heap.get? d = some o ∧ R (.ok (.ret .notImplemented)) s) :=
  .of_wp fun prog w A R s h => by
    obtain ⟨hp, g, dr, tk, os⟩ := s
    obtain ⟨hl, h⟩ := h
    obtain ⟨c, dd, dt, sl⟩ := o
    subst hd hc
    have f1 := F.sub_str_dict
    wp_walk using wpAny_load hl
    exact ⟨_, rfl, h⟩
def rEqSD : R2 := fun x y H Q => ∃ (z : Str) (a : Addr) (kvs : List (Key × V)), x = .str z ∧ y = .ref a ∧ H a = some (.dK kvs) ∧ Q (.bl false) H
section
variable {X : Cx}
theorem op_eqSD (hu : X.A.units < cLine) : OpR X (compareOp .Eq) rEqSD := by
  intro pins s σ H x y v u Q I rx ry h
  obtain ⟨z, a, kvs, rfl, rfl, e, q⟩ := h
  obtain ⟨t, rfl⟩ := rx
  obtain rfl : u = Value.ref a := ry
  obtain ⟨_, _, vs, _, o, es, ep, ho, hx, hd, _⟩ := I.hok a _ e
  have hc : o.cls = .type "dict" := hx.1
  exact SeqAt.rc_eq_decline_or (k := false) (typeIs_str s z t) ⟨_, ho, hc⟩ (by decide) F.sub_dict_str F.slot_str_eq F.slot_dict_eq_refl
    (fun _ hq => call_meets F.slot_str_eq (typeIs_str s z t) F.entry_str_eq (F.args_str_eq_2 _ _) (str_not_dict z t a o es ep hd hc) ⟨ho, hq⟩)
    (fun _ hq => call_meets F.slot_dict_eq_refl ⟨_, ho, hc⟩ F.entry_dict_eq (F.args_dict_eq_2 _ _) (dict_not_str z t a o es ep hd hc) ⟨ho, hq⟩)
    (fun _ hq => wpAny_of_eq (rfl : isSame (.str z t) (.ref a) = pure false) hq) (.inr hu) ⟨.bl false, H, I, rfl, q⟩
/-- a text beside any thing -/
def rEqS (K : PySem.W.Frag) : R2 := fun x y H Q => (rEq x y H Q ∨ rEqD K x y H Q) ∨ rEqSD x y H Q
theorem op_eqS (hu : X.A.units + 64 < cLine) : OpR X (compareOp .Eq) (rEqS X.K) := OpR.or (OpR.or op_eq (op_eqD hu)) (op_eqSD (by omega))
end
/-! ## 20. refusing defs called with keywords beside values, or with defaults -/
structure CalMX (P : Program) (w : World) (K : PySem.W.Frag) (mg : Str → Option Value) (base : Heap) (k n : Nat) (ks : List Str) (x : Str) (sp : Sp) (gV : List V → List V → List V) : Prop where
  ex : ∃ (f : Addr) (fd : FuncData) (ps : List Str) (g : List Value → List Value → List Value), mg x = some (.ref f) ∧ PySem.W.keepIn K (.ref f) = true ∧ FnOk P w K mg base (L2.CX P w) k f fd ps sp ∧ KBn K fd ps n ks g gV
theorem CalMX.mk' {P : Program} {w : World} {K : PySem.W.Frag} {mg : Str → Option Value} {base : Heap} {k n : Nat} {ks : List Str} {x : Str} {sp : Sp} {gV : List V → List V → List V} {f : Addr} {fd : FuncData} {ps : List Str} {g : List Value → List Value → List Value} (a : mg x = some (.ref f)) (kp : PySem.W.keepIn K (.ref f) = true)
    (F : FnOk P w K mg base (L2.CX P w) k f fd ps sp) (b : KBn K fd ps n ks g gV) : CalMX P w K mg base k n ks x sp gV := ⟨f, fd, ps, g, a, kp, F, b⟩
structure CalXD (P : Program) (w : World) (K : PySem.W.Frag) (mg : Str → Option Value) (base : Heap) (k : Nat) (x : Str) (sp : Sp) (dvs : List V) : Prop where
  ex : ∃ (f : Addr) (fd : FuncData) (ps : List Str) (ds : List Value), mg x = some (.ref f) ∧ PySem.W.keepIn K (.ref f) = true ∧ FnOk P w K mg base (L2.CX P w) k f fd ps sp ∧ Binds K fd ps ds ∧ Vals dvs ds
def tCallNS (n m : Nat) (sp : Sp) (gV : List V → List V → List V) (E : L2.St → XK) (t tk : TA) : TE := fun σ H Q => t σ H fun vs H1 => tk σ H1 fun zs H2 => vs.length = n ∧ zs.length = m ∧ sp (gV vs zs) H2 Q (E σ)
section
variable {X : Cx} {k j n : Nat} {ks : List Str} {sp : Sp} {x : Str} {p pos : Pos} {e : Expr} {es : List Expr} {kws : List Keyword} {t tk : TA} {W : WX} {gV : List V → List V → List V} {dvs : List V}
theorem r_callNS {n m : Nat} {E : L2.St → XK} {σ : L2.St} {H : Hp} {Q : VK} (q : t σ H fun vs H1 => tk σ H1 fun zs H2 => vs.length = n ∧ zs.length = m ∧ sp (gV vs zs) H2 Q (E σ)) : tCallNS n m sp gV E t tk σ H Q := q
theorem pe_calMY (c : CalMX X.prog X.w X.K X.mg X.base k n ks x sp gV) (hr : Room j X.A) (hk : k ≤ j) (hg : Gl X x) (ha : PA X (e :: es) t) (hkw : PK X kws tk)
    (hall : (backToKw pos (keywordEach kws X.env)).all (·.1.isSome) = true := by rfl) (hks : (backToKw pos (keywordEach kws X.env)).filterMap (·.1) = ks := by rfl)
    (hdb : (x == ("__debug__" : Str)) = false := by decide) (he : starEach (e :: es) X.env = (false, eval e X.env) :: starEach es X.env := by rfl)
    (hpl : ((backTo pos (starEach (e :: es) X.env)).any (·.1) || (backToKw pos (keywordEach kws X.env)).any (·.1.isNone)) = false := by rfl) :
    PE X (.Call (.Name x p) (e :: es) kws pos) (tCallN n ks.length sp gV noE t tk) := by
  obtain ⟨f, fd, ps, g, h1, h2, h3, h4⟩ := c.ex
  exact pe_callN h3 (hr.mono hk) hg h1 h2 h4 pass_no ha hkw hall hks hdb he hpl
theorem pe_calYD (c : CalXD X.prog X.w X.K X.mg X.base k x sp dvs) (hr : Room j X.A) (hk : k ≤ j) (hg : Gl X x) (ha : PA X (e :: es) t)
    (hdb : (x == ("__debug__" : Str)) = false := by decide) (he : starEach (e :: es) X.env = (false, eval e X.env) :: starEach es X.env := by rfl) (hpl : (backTo pos (starEach es X.env)).any (·.1) = false := by rfl) :
    PE X (.Call (.Name x p) (e :: es) [] pos) (tCall sp dvs noE t) := by
  obtain ⟨f, fd, ps, ds, h1, h2, h3, h4, h5⟩ := c.ex
  exact pe_call h3 (hr.mono hk) hg h1 h2 h4 h5 pass_no ha hdb he hpl
/-- in a try -/
theorem pe_calMT (c : CalMX X.prog X.w X.K X.mg X.base k n ks x sp gV) (hr : Room j X.A) (hk : k ≤ j) (hg : Gl X x) (tkW : Takes X W) (ha : PA X (e :: es) t) (hkw : PK X kws tk)
    (hall : (backToKw pos (keywordEach kws X.env)).all (·.1.isSome) = true := by rfl) (hks : (backToKw pos (keywordEach kws X.env)).filterMap (·.1) = ks := by rfl)
    (hdb : (x == ("__debug__" : Str)) = false := by decide) (he : starEach (e :: es) X.env = (false, eval e X.env) :: starEach es X.env := by rfl)
    (hpl : ((backTo pos (starEach (e :: es) X.env)).any (·.1) || (backToKw pos (keywordEach kws X.env)).any (·.1.isNone)) = false := by rfl) :
    PE X (.Call (.Name x p) (e :: es) kws pos) (tCallNS n ks.length sp gV (WE W) t tk) := by
  obtain ⟨f, fd, ps, g, h1, h2, h3, h4⟩ := c.ex
  refine ⟨fun pins s σ H Q I h => ?_⟩
  refine wpAny_Call_Name_kw (ld_glob I hg h1 (PySem.W.callWith_KW (h₀ := X.base) I.ok.mod.kin h2 hall (thn (ha.run pos pins s σ H _ I h) fun us s1 ⟨vs, H1, I1, r, q⟩ => ?_) hpl he) hdb)
  refine thn (hkw.run pos pins s1 σ H1 _ I1 q) fun ws s2 ⟨zs, H2, I2, rz, l1, l2, q2⟩ => ⟨I2.kIn, ?_⟩
  rw [hks]
  refine wpAny_call (codeAny_mono (h3.run X.A X.stack s2 H2 ⟨us, ks.zip ws⟩ (g us ws) (gV vs zs) Q (WE W σ) (hr.mono hk) I2.env0 (h4.to s2 us ws I2.kIn (r.length.symm.trans l1) (rz.length.symm.trans l2)) (h4.rel r rz) q2) fun rr s3 z => ?_)
  match rr, z with
  | .error u, z => exact passAt tkW σ pins H2 s2 u s3 I2 z
  | .ok (.ret _), z => exact I2.after z
end
theorem ix_listK {X : Cx} {K : PySem.W.Frag} (h : X.K = K) : IxR X (rIxL K) := by
  subst h
  exact ix_list
theorem ix_tupK {X : Cx} {K : PySem.W.Frag} (h : X.K = K) : IxR X (rIxT K) := by
  subst h
  exact ix_tup
end Bk

namespace Bk
open PySem PySem.Spec PySem.Calls PyProof.Rows L2
/-! ## 20a. own exception classes under ValueError, LookupError or KeyError -/
/-- what a built-in __init__ of errors must be -/
structure IniF (B initId : String) : Prop where
  init : Slot B "__init__" initId
  entry : entryFor table initId = some Builtin.«BaseException.__init__»
  split : splitId initId = some (B, "__init__")
  kind : builtinKind initId = some .slot
  row : Manifest.signature? initId = some ⟨.positional, "*", B, .self, [⟨"args", .varPos, false⟩]⟩
  noStar : (B != "*") = true
theorem inf_of {B newId initId : String} (F : ExcCallFacts B newId initId) : IniF B initId := ⟨F.init, F.initEntry, F.initSplit, F.initKind, F.initRow, F.noStar⟩
theorem inf_KE : IniF "KeyError" "KeyError.__init__" where
  init := .of (owner := "KeyError") (n := "__init__") (by rw [typeLookup_type, builtinLookup_eq_fast]; kernel_rfl) (by decide +kernel) (by decide +kernel) (by decide +kernel)
    (by first | exact .inl (by decide +kernel) | exact .inr (by decide +kernel)) (by rw [isSubtype_type]; kernel_rfl)
  entry := entryFor_alias (id' := "BaseException.__init__") (by rw [fastTable_eq_tree]; kernel_rfl) (by first | rfl | decide +kernel) (by decide +kernel) (by rw [fastTable_eq_tree]; kernel_rfl)
  split := by kernel_rfl
  kind := by kernel_rfl
  row := by kernel_rfl
  noStar := by decide +kernel
section
variable {M : Model} {prog : Program} {w : World} {A : Around} {E : Value → Shared → Prop} {R : Result → Shared → Prop} {h : Heap} {g : Array GenState} {d : Drawn} {t : Nat} {os : OsState}
variable {nm q : Str} {C N : Addr} {bs bm bmB : List Value} {hdct : Bool} {sn : List Str} {sub : List Value} {ab : Bool} {col : Option Bool} {dd : Option Addr} {k0 k1 k2 k3 k5 : Option Value} {B newId i0 IB initId : String} {rest : List Value}
theorem checkNewW (F : ExcBaseFacts B newId i0 bmB) (hB : bm.contains (.type B) = true) {Q : Unit → Shared → Prop} (hC : h.get? C = some (excClassObj nm q C N bs bm hdct sn sub ab col dd k0 k1 k2 k3 k5 newId)) (hq : Q () ⟨h, g, d, t, os⟩) :
    wpAny M A (checkBuiltinCall newId ⟨.ref C :: rest, []⟩) Q E ⟨h, g, d, t, os⟩ := by
  have cB : (Value.ref C :: bm).contains (.type B) = true := by rw [List.contains_cons, hB, Bool.or_true]
  have star := F.noStar
  simp only [checkBuiltinCall, F.newKind, F.newSplit, F.newRow]
  repeat (first | refine wpAny_loadPart_at hC ?_ | (refine wpAny_isSubtype_exc hC ?_; rw [cB]) | refine wpAny_staticBase_exc hC ?_ | refine wpAny_madeBy_exc hC ?_ | simp only [bne_self_eq_false, Bool.false_eq_true, if_false] | wp_step)
  exact hq
theorem checkInitW (F : IniF IB initId) (hI : bm.contains (.type IB) = true) {e : Addr} {oe : Obj} {Q : Unit → Shared → Prop} (hC : h.get? C = some (excClassObj nm q C N bs bm hdct sn sub ab col dd k0 k1 k2 k3 k5 newId)) (he : h.get? e = some oe) (hcls : oe.cls = .ref C) (hq : Q () ⟨h, g, d, t, os⟩) :
    wpAny M A (checkBuiltinCall initId ⟨.ref e :: rest, []⟩) Q E ⟨h, g, d, t, os⟩ := by
  have cI : (Value.ref C :: bm).contains (.type IB) = true := by rw [List.contains_cons, hI, Bool.or_true]
  have star := F.noStar
  simp only [checkBuiltinCall, F.kind, F.split, F.row]
  repeat (first | (with_reducible refine wpAny_loadPart_at he ?_; rw [hcls]) | with_reducible refine wpAny_loadPart_at hC ?_ | (with_reducible refine wpAny_isSubtype_exc hC ?_; rw [cI]) | wp_step)
  refine wpAny_onRaise ?_
  rw [show ∀ (a b : String) (n : Nat), Bind.check ⟨.positional, "*", IB, .self, [⟨"args", .varPos, false⟩]⟩ a b n (List.map (fun x => x.fst) ({ pos := Value.ref e :: rest } : Args).kw) = pure () from fun a b n => check_star_args _ _ _ _ _ _]
  exact wpAny_pure hq
theorem newW (F : ExcBaseFacts B newId i0 bmB) (hB : bm.contains (.type B) = true) (hA : bm.contains (.type "AttributeError") = false) (hN : bm.contains (.type "NameError") = false) (hC : h.get? C = some (excClassObj nm q C N bs bm hdct sn sub ab col dd k0 k1 k2 k3 k5 newId)) (hrest : rest.length ≤ sizeLine)
    (hq : R (.ok (.ret (.ref (h.objs.size + 1)))) ⟨(h.push (PySem.W.kdv_tup rest)).push (PySem.HandSPX.excO C h.objs.size), g, d, t, os⟩) : codeAny (model prog w) A (.builtin newId ⟨.ref C :: rest, []⟩) R ⟨h, g, d, t, os⟩ := by
  have hends := F.ends
  have cB : (Value.ref C :: bm).contains (.type B) = true := by rw [List.contains_cons, hB, Bool.or_true]
  have cA : (Value.ref C :: bm).contains (.type "AttributeError") = false := by rw [List.contains_cons, hA]; rfl
  have cN : (Value.ref C :: bm).contains (.type "NameError") = false := by rw [List.contains_cons, hN]; rfl
  refine codeAny_builtinAt F.entry ?_
  unfold Builtin.«BaseException.__new__»
  refine PySem.wpAt_bind ?_
  show PySem.wpAt _ _ _ (stack >>= _) _ _ _
  refine PySem.wpAt_bind (PySem.wpAt_stack fun p below => PySem.wpAt_of_wpAny ?_)
  wp_walk
  refine PySem.wpAt_of_wpAny ?_
  rw [F.owner]
  repeat (first | with_reducible refine wpAny_madeHere_exc F.canon hC ?_ | with_reducible refine wpAny_loadPart_at hC ?_ | (with_reducible refine wpAny_isSubtype_exc hC ?_; first | rw [cB] | rw [cA] | rw [cN]) | wp_step)
  show R _ _
  rw [Heap.size_push]
  exact hq
theorem typeCallW (F : ExcBaseFacts B newId i0 bmB) (hB : bm.contains (.type B) = true) (hA : bm.contains (.type "AttributeError") = false) (hN : bm.contains (.type "NameError") = false) {fI : Addr} {Q : Fin → Shared → Prop} (hC : h.get? C = some (excClassObj nm q C N bs bm hdct sn sub ab col dd k0 k1 k2 k3 k5 newId))
    (hi : PySem.W.Looks (model prog w) h (typeLookup (.ref C) "__init__") (some (.ref fI))) (hb : ∀ self, PySem.W.Looks (model prog w) h (bindSpecial (.ref fI) self) (.ref fI, [self])) (hrest : rest.length ≤ sizeLine) {kw : List (Str × Value)} {Af : Around}
    (hq : codeAny (model prog w) A (.call (.ref fI) ⟨.ref (h.objs.size + 1) :: rest, []⟩) (fun r s' => match r with | .ok (.ret v) => v = .none ∧ Q (.done (.ret (.ref (h.objs.size + 1)))) s' | .ok _ => False | .error e => E e s') ⟨(h.push (PySem.W.kdv_tup rest)).push (PySem.HandSPX.excO C h.objs.size), g, d, t, os⟩) :
    wpAny (model prog w) A (Builtin.«type.__call__» ⟨.ref C :: rest, []⟩) Q E ⟨h, g, d, t, os⟩ := by
  repeat (first | with_reducible refine wpAny_loadPart_at hC ?_ | with_reducible refine wpAny_madeBy_exc hC ?_ | wp_step)
  refine codeAny_call_builtin_code (Code.quiet_builtin _ F.quiet) (checkNewW F hB hC ?_)
  refine newW F hB hA hN hC hrest ?_
  show wpAny _ _ _ _ _ _
  have k : ∀ c o, h.get? c = some o → ((h.push (PySem.W.kdv_tup rest)).push (PySem.HandSPX.excO C h.objs.size)).get? c = some o := fun c o e => Heap.get?_push_of_some _ (Heap.get?_push_of_some _ e)
  have hC1 := k _ _ hC
  have hget : ((h.push (PySem.W.kdv_tup rest)).push (PySem.HandSPX.excO C h.objs.size)).get? (h.objs.size + 1) = some (PySem.HandSPX.excO C h.objs.size) := by heap_get
  have cC : (Value.ref C :: bm).contains (.ref C) = true := by simp
  have i1 := hi.keeps k
  have b1 := (hb (.ref (h.objs.size + 1))).keeps k
  unfold isInstance
  repeat (first | with_reducible refine wpAny_loadPart_at hget ?_ | (with_reducible refine wpAny_isSubtype_exc hC1 ?_; rw [cC]) | wp_step)
  show wpAny _ _ (typeLookup (.ref C) _) _ _ _
  refine i1.at (wpAny_holding (wpAny_bind (b1.at (wpAny_bind (wpAny_call (codeAny_mono hq fun r s' z => ?_))))))
  rcases r with e | (v | _ | _ | _) <;> first | exact z | exact z.elim | skip
  obtain ⟨rfl, z⟩ := z
  first
    | exact wpAny_pure (wpAny_pure z)
    | (wp_walk; exact z)
theorem callW (F : ExcBaseFacts B newId i0 bmB) (hB : bm.contains (.type B) = true) (hA : bm.contains (.type "AttributeError") = false) (hN : bm.contains (.type "NameError") = false) {fI : Addr} (hC : h.get? C = some (excClassObj nm q C N bs bm hdct sn sub ab col dd k0 k1 k2 k3 k5 newId))
    (hi : PySem.W.Looks (model prog w) h (typeLookup (.ref C) "__init__") (some (.ref fI))) (hb : ∀ self, PySem.W.Looks (model prog w) h (bindSpecial (.ref fI) self) (.ref fI, [self])) (hrest : rest.length ≤ sizeLine)
    (hq : codeAny (model prog w) (A.under (.builtin "type.__call__" ⟨.ref C :: rest, []⟩)) (.call (.ref fI) ⟨.ref (h.objs.size + 1) :: rest, []⟩) (PySem.W.InitBack (h.objs.size + 1) R) ⟨(h.push (PySem.W.kdv_tup rest)).push (PySem.HandSPX.excO C h.objs.size), g, d, t, os⟩) :
    codeAny (model prog w) A (.call (.ref C) ⟨rest, []⟩) R ⟨h, g, d, t, os⟩ := by
  have f1 := PySem.tc_lookup
  have f2 := PySem.tc_bind (.ref C)
  have hTy : (⟨h, g, d, t, os⟩ : Shared).TypeIs (.ref C) "type" := ⟨_, hC, rfl⟩
  refine codeAny_of_tree ?_
  show wpAny _ _ (callAny (.ref C) _) _ _ _
  repeat (any_goals (first | assumption | with_reducible refine wpAny_loadPart_at hC ?_ | wp_step))
  refine ⟨rfl, codeAny_call_builtin_at (Code.quiet_builtin _ (by decide +kernel)) entry_typeCall (wpAny_check_type_call_sub hC (typeCallW F hB hA hN hC hi hb hrest (kw := []) (Af := A) ?_))⟩
  refine codeAny_mono hq fun r s' z => ?_
  rcases r with e | (v | _ | _ | _) <;> exact z
theorem initW (F : IniF IB initId) (hI : bm.contains (.type IB) = true) {e t0 : Addr} (hC : h.get? C = some (excClassObj nm q C N bs bm hdct sn sub ab col dd k0 k1 k2 k3 k5 newId)) (he : h.get? e = some (PySem.HandSPX.excO C t0)) (hrest : rest.length ≤ sizeLine)
    (hq : ∀ h' t1, (∀ c o, c ≠ e → h.get? c = some o → h'.get? c = some o) → h'.get? e = some (PySem.HandSPX.excO C t1) → R (.ok (.ret .none)) ⟨h', g, d, t, os⟩) : codeAny (model prog w) A (.call (.builtin initId) ⟨.ref e :: rest, []⟩) R ⟨h, g, d, t, os⟩ := by
  refine codeAny_call_builtin F.init.plain F.entry (checkInitW F hI hC he rfl ?_)
  wp_walk
  refine hq _ h.objs.size (fun c o hc ho => ?_) ?_
  · rw [Heap.get?_update_other _ _ (Ne.symm hc)]
    exact Heap.get?_push_of_some _ ho
  · rw [Heap.get?_update_self _ (Heap.get?_push_of_some _ he) rfl]
    rfl
end
inductive Bs where
  | ve
  | le
  | ke
def Bs.nm : Bs → String
  | .ve => "ValueError"
  | .le => "LookupError"
  | .ke => "KeyError"
/-- whose __new__ it is -/
def Bs.nb : Bs → String
  | .ve => "ValueError"
  | _ => "LookupError"
def Bs.new : Bs → String
  | .ve => "ValueError.__new__"
  | _ => "LookupError.__new__"
def Bs.init : Bs → String
  | .ve => "ValueError.__init__"
  | .le => "LookupError.__init__"
  | .ke => "KeyError.__init__"
def Bs.tl : Bs → List Value
  | .ve => [.type "ValueError", .type "Exception", .type "BaseException", .type "object"]
  | .le => [.type "LookupError", .type "Exception", .type "BaseException", .type "object"]
  | .ke => [.type "KeyError", .type "LookupError", .type "Exception", .type "BaseException", .type "object"]
theorem Bs.f : ∀ b : Bs, ∃ i0 bmB, ExcBaseFacts b.nb b.new i0 bmB
  | .ve => ⟨_, _, F.excBase_ValueError⟩
  | .le => ⟨_, _, F.excBase_LookupError⟩
  | .ke => ⟨_, _, F.excBase_LookupError⟩
theorem Bs.i : ∀ b : Bs, IniF b.nm b.init
  | .ve => inf_of F.excBase_ValueError.toExcCallFacts
  | .le => inf_of F.excBase_LookupError.toExcCallFacts
  | .ke => inf_KE
theorem pass_KE (self : Value) : refuseLoop self "__setattr__" [.type "KeyError", .type "LookupError", .type "Exception", .type "BaseException", .type "object"] = pure () := by kernel_rfl
theorem Bs.pass : ∀ (b : Bs) (self : Value), refuseLoop self "__setattr__" b.tl = pure ()
  | .ve, self => F.store_ValueError.passes self
  | .le, self => F.store_LookupError.passes self
  | .ke, self => pass_KE self
theorem Bs.obj (b : Bs) : b.tl.contains (.type "object") = true := by cases b <;> decide +kernel
theorem Bs.hB (b : Bs) : b.tl.contains (.type b.nb) = true := by cases b <;> decide +kernel
theorem Bs.hI (b : Bs) : b.tl.contains (.type b.nm) = true := by cases b <;> decide +kernel
theorem Bs.hA (b : Bs) : b.tl.contains (.type "AttributeError") = false := by cases b <;> decide +kernel
theorem Bs.hN (b : Bs) : b.tl.contains (.type "NameError") = false := by cases b <;> decide +kernel
/-- own classes, then the built-in one's line -/
inductive Tail (b : Bs) : List Value → Prop
  | here : Tail b b.tl
  | own (C : Addr) {l : List Value} : Tail b l → Tail b (.ref C :: l)
section
variable {b : Bs} {l : List Value}
theorem Tail.pass (h : Tail b l) (self : Value) : refuseLoop self "__setattr__" l = pure () := by
  induction h with
  | here => exact b.pass self
  | own C _ ih => rw [refuseLoop_ref]; exact ih
theorem Tail.has (h : Tail b l) (X : String) : l.contains (.type X) = b.tl.contains (.type X) := by
  induction h with
  | here => rfl
  | own C _ ih => rw [List.contains_cons, ih]; rfl
theorem Tail.ne (h : Tail b l) : l.isEmpty = false := by
  cases h with
  | here => cases b <;> rfl
  | own C _ => rfl
end
section
open Builtin Builtin.ObjectAttr
variable {prog : Program} {w : World} {A : Around} {E : Value → Shared → Prop} {R : Result → Shared → Prop} {hp : Heap} {g : Array GenState} {d : Drawn} {t : Nat} {os : OsState}
/-- the first field of an exception -/
theorem osaT {K : PySem.W.Frag} {b : Bs} {name : Str} {tk : Tok} {v : Value} {x C : Addr} {fv : Array Value} {cd : ClassData} (X : K.In hp) (hx : hp.get? x = some { cls := .ref C, data := .fields fv }) (hcd : PySem.W.clsIn K C = some cd) (hm : Tail b cd.mro) (hh : cd.hasDict = true) (ha : PySem.W.findIn K (.ref C) name = some none)
    (hq : ∀ h' tk' dx, (∀ c o, c ≠ x → hp.get? c = some o → h'.get? c = some o) → hp.objs.size ≤ dx → dx ≠ x → h'.get? x = some { cls := .ref C, dict := some dx, data := .fields fv } → h'.Ns1 dx (fun y => if y = name then some v else none) → R (.ok (.ret .none)) ⟨h', g, d, tk', os⟩) :
    codeAny (model prog w) A (.call (.builtin "object.__setattr__") ⟨[.ref x, .str name tk, v], []⟩) R ⟨hp, g, d, t, os⟩ := by
  have I : PySem.W.InstAt hp x { cls := .ref C, data := .fields fv } C none := ⟨hx, rfl, rfl, trivial⟩
  have SF := F.store_object
  have hob : cd.mro.contains (.type "object") = true := (hm.has "object").trans b.obj
  have hxs : x ≠ hp.objs.size := Nat.ne_of_lt (Heap.lt_size hx)
  have isO : PySem.W.Looks (model prog w) hp (isInstance (.ref x) (.type "object")) true :=
    I.type.andThen (PySem.W.looks_mroIn X (by unfold PySem.W.mroIn; rw [hcd, Option.bind_some, if_neg (by rw [hm.ne]; decide), hob]))
  have lineL : PySem.W.Looks (model prog w) hp (mroOf (.ref C)) cd.mro := (PySem.W.looks_clsIn X hcd).andThen .now
  have noTaker : PySem.W.Looks (model prog w) hp (storeTaker? none) none := .now
  have clsL : PySem.W.Looks (model prog w) hp (classData C) cd := PySem.W.looks_clsIn X hcd
  refine codeAny_call_builtin SF.slot.plain SF.entry (@PySem.W.check_slot (model prog w) _ _ ⟨hp, g, d, t, os⟩ "object.__setattr__" "object" "__setattr__" (.ref x) [.str name tk, v] [] _ SF.kind SF.split isO (SF.args (.ref x) (.str name tk) v) ?_)
  rw [PySem.W.osa_eq, refuse_eq]
  refine wpAny_bind (wpAny_bind (I.type.at (wpAny_bind (lineL.at ?_))))
  rw [hm.pass]
  refine wpAny_pure (wpAny_bind (I.type.at (wpAny_bind ((PySem.W.looks_findIn X ha).at (wpAny_bind (noTaker.at ?_))))))
  show wpAny _ _ (storeInOwnDict (.ref x) (.ref C) (.str name tk) name v false) _ _ _
  obtain ⟨nm, bs, mro, ns, qn, hd, sn, sb, ab, col, del⟩ := cd
  dsimp only at hh
  subst hh
  unfold storeInOwnDict ownDictForStores
  repeat (first | with_reducible refine PySem.HandSPX.store_in_new ?_ ?_ | with_reducible refine wpAny_loadPart_at hx ?_ | with_reducible refine clsL.at ?_ | wp_step)
  · exact ⟨_, #[], _, (Heap.get?_update_ne _ _ _ _ hxs.symm).trans (Heap.get?_push_at rfl rfl), rfl, fun e he => absurd he (by simp), fun _ => rfl⟩
  · intro h' tk' hn' hs
    have hx1 : (hp.push { cls := .type "dict", data := .dict #[] }).get? x = some { cls := .ref C, data := .fields fv } := Heap.get?_push_of_some _ hx
    refine hq h' tk' hp.objs.size (fun c o hc ho => ?_) (Nat.le_refl _) hxs.symm ?_ hn'
    · have z1 := hs.2 c (Nat.ne_of_lt (Heap.lt_size ho))
      exact z1.trans ((Heap.get?_update_ne _ _ _ _ hc).trans (Heap.get?_push_of_some _ ho))
    · exact (hs.2 x hxs).trans (Heap.get?_update_self _ hx1 rfl)
end
/-- what the written part says of the class -/
structure OexT (K : PySem.W.Frag) (b : Bs) (C : Addr) : Prop where
  cls : ∃ nm q N bs bm sn sub ab col dd k0 k1 k2 k3 k5, K.lookup C = some (excClassObj nm q C N bs bm true sn sub ab col dd k0 k1 k2 k3 k5 b.new) ∧ Tail b bm
  sa : PySem.W.findIn K (.ref C) "__setattr__" = some (some (.builtin "object.__setattr__"))
  exC : PySem.W.subIn K (.ref C) (.type "BaseException") = some true
  tyC : PySem.W.typeIn K (.ref C) = some (.type "type")
  kC : PySem.W.keepIn K (.ref C) = true
section
variable {X : Cx} {pins : List (Addr × Obj)} {σ : L2.St} {H : Hp} {s : Shared} {a C dx : Addr} {f : Str} {y : V} {u : Value} {b : Bs} {Q : Unit → Shared → Prop} {E : Value → Shared → Prop} {A : Around}
theorem ost_newT (T : OexT X.K b C) (I : Inv X pins σ H s) (e : H a = some (exo a C none)) (hno : PySem.W.findIn X.K (.ref C) f = some none) (ry : RelV y u)
    (h : ∀ dx s', H dx = none → dx ≠ a → Inv X pins σ (upd (upd H dx (exd dx [(f, y)])) a (exo a C (some dx))) s' → Q () s') : wpAny (model X.prog X.w) A (setAttr (.ref a) f u) Q E s := by
  obtain ⟨nm, q, N, bs, bm, sn, sub, ab, col, dd, k0, k1, k2, k3, k5, hC, hbm⟩ := T.cls
  obtain ⟨t1, ho⟩ := exo_at I.hok e
  obtain ⟨hp, g, d, t, os⟩ := s
  have hcl : PySem.W.clsIn X.K C = some { name := nm, bases := bs, mro := .ref C :: bm, ns := N, qualname := q, hasDict := true, slotNames := sn, subclasses := sub, abstract := ab, collection := col, hasDel := false } := by
    unfold PySem.W.clsIn
    rw [hC] <;> rfl
  refine PySem.W.set_plain I.kIn (ox := { cls := .ref C, dict := none, data := .fields #[.ref t1, .none, .none, .none, .bool false, .none] }) (od := none) ⟨ho, rfl, rfl, trivial⟩ T.sa ?_
  refine osaT I.kIn ho hcl (.own C hbm) rfl hno fun h' tk' dx k dn dne hx hn => ?_
  have hnd : H dx = none := I.hok.fresh dn
  have nd : ∀ {c : Addr} {o : Obj}, hp.get? c = some o → c ≠ dx := fun {c o} z => Nat.ne_of_lt (Nat.lt_of_lt_of_le (Heap.lt_size z) dn)
  have na : ∀ {c : Addr}, H c = none → c ≠ a := fun {c} n z => by
    rw [z, e] at n
    exact nomatch n
  have un : Un X.fs [] H (upd (upd H dx (exd dx [(f, y)])) a (exo a C (some dx))) hp h' := by
    refine ⟨fun c o z n _ _ => k c o (na n) z, fun c o z n _ _ => ⟨o.slots, k c o (na n) z⟩, fun c o z n _ => by rw [upd_ne (na n), upd_ne (nd z)]; exact n, fun c o z _ => ?_, fun c xs z => ?_, fun c o v z => ?_, fun c ps z => ⟨#[], ?_⟩⟩
    · by_cases hc : c = a
      · exact ⟨_, by rw [hc]; exact hx⟩
      · exact ⟨o, k c o hc z⟩
    · rw [upd_ne (at_ne e z exo_tup), upd_ne (ne_of_none z hnd)]; exact z
    · rw [upd_ne (at_ne e z exo_frz), upd_ne (ne_of_none z hnd)]; exact z
    · rw [upd_ne (at_ne e z exo_tbl), upd_ne (ne_of_none z hnd), z]; simp
  refine h dx _ hnd dne (I.un (t' := tk') un fun c o z => ?_)
  by_cases hc : c = a
  · subst hc
    rw [upd_same] at z
    obtain rfl := Option.some.inj z
    exact exo_ok hx
  · rw [upd_ne hc] at z
    by_cases hd : c = dx
    · subst hd
      rw [upd_same] at z
      obtain rfl := Option.some.inj z
      exact exd_ok hn (relO_put (fs := []) ry fun _ => True.intro)
    · rw [upd_ne hd] at z
      refine (I.hok c o z).stay (fun c2 v hc2 z2 => k c2 v ?_ z2) (fun c2 z2 => ?_) fun c2 xs z2 => ?_
      · rcases hc2 with q2 | q2
        · rw [q2]; exact hc
        · exact at_ne e q2 exo_own
      · rw [upd_ne (at_ne e z2 exo_own), upd_ne (ne_of_none z2 hnd)]; exact z2
      · rw [upd_ne (at_ne e z2 exo_tup), upd_ne (ne_of_none z2 hnd)]; exact z2
/-- the built-in class's __init__: nothing of it is told -/
theorem oinitT {us : List Value} {Q : Value → Shared → Prop} (T : OexT X.K b C) (I : Inv X pins σ H s) (e : H a = some (exo a C none)) (hl : us.length ≤ sizeLine) (h : ∀ s', Inv X pins σ H s' → Q .none s') : wpAny (model X.prog X.w) A (call (.builtin b.init) (.ref a :: us)) Q E s := by
  obtain ⟨nm, q, N, bs, bm, sn, sub, ab, col, dd, k0, k1, k2, k3, k5, hC, hbm⟩ := T.cls
  obtain ⟨t1, ho⟩ := exo_at I.hok e
  obtain ⟨hp, g, d, t, os⟩ := s
  refine wpAny_call (initW b.i ((hbm.has _).trans b.hI) (I.kIn _ _ hC) ho hl fun h' t2 k hx => ?_)
  have J := I.write (t' := t) (x := a) (e := a) (o := exo a C none) (by rw [e]; exact True.intro) (.inl rfl) k ⟨_, hx⟩ (exo_ok hx)
  have eu : upd H a (exo a C none) = H := funext fun c => by
    by_cases hc : c = a
    · rw [hc, upd_same, e]
    · rw [upd_ne hc]
  exact h _ (eu ▸ J)
end
def tBaI (K : PySem.W.Frag) (b : Bs) (ta : TA) : TE := fun σ H Q => ta σ H fun vs H1 => ∃ (a C : Addr) (ws : List V), vs = .ref a :: ws ∧ ws.length ≤ 1000 ∧ OexT K b C ∧ H1 a = some (exo a C none) ∧ Q .non H1
/-- self.f = e, the first one -/
def tOsN (K : PySem.W.Frag) (f : Str) (to te : TE) : TS := fun D σ H => te σ H fun y H1 => to σ H1 fun x H2 => ∃ (b : Bs) (a C : Addr), x = .ref a ∧ OexT K b C ∧ PySem.W.findIn K (.ref C) f = some none ∧
  H2 a = some (exo a C none) ∧ ∀ dx, H2 dx = none → dx ≠ a → D.nx σ (upd (upd H2 dx (exd dx [(f, y)])) a (exo a C (some dx)))
section
variable {X : Cx} {o e : Expr} {es : List Expr} {to te : TE} {ta : TA} {f : Str} {p p' p1 p2 pos : Pos}
theorem typ_LE : typeOf (.type "LookupError") = pure (.type "type") := by kernel_rfl
theorem pe_veI {pl : Sem Bool} (hg : Gl X "ValueError") (hm : X.mg "ValueError" = none) (vV : PySem.W.findCls X.K (.type "ValueError") (.type "type") "__init__" = some (.val (.builtin "ValueError.__init__"))) (ha : PA X (e :: es) ta)
    (hc : eval (.Call (.Attribute (.Name "ValueError" p1) "__init__" p2) (e :: es) [] pos) X.env = (do
      let ov ← eval (.Name "ValueError" p1) X.env
      standAt p2.atName
      let (f, first) ← holding [ov] (getMethod ov "__init__" pl)
      callWith pos f first (backTo pos (starEach (e :: es) X.env)) (backToKw pos (keywordEach [] X.env))) := by rfl)
    (he : starEach (e :: es) X.env = (false, eval e X.env) :: starEach es X.env := by rfl) (hpl : (backTo pos (starEach es X.env)).any (·.1) = false := by rfl) :
    PE X (.Call (.Attribute (.Name "ValueError" p1) "__init__" p2) (e :: es) [] pos) (tBaI X.K .ve ta) := by
  refine ⟨fun pins s σ H Q I h => PySem.W.methodCall_KW (ld_blt I hg hm PyProof.Rows.Boot.«ValueError» ?_ (by decide) (by decide)) hc⟩
  obtain ⟨m, fr⟩ := I.fr
  refine PySem.W.method_type fr I.ok.mod.kin PySem.OEX.typ_VE (by decide +kernel) vV (by decide +kernel) ?_
  refine PyProof.Rows.callWith_method1 (thn (ha.run pos pins _ σ H _ (I.tok _) h) fun us s1 ⟨vs, H1, I1, r1, a, C, ws, ev, hl, T, ea, q⟩ => ?_) he hpl
  subst ev
  cases r1 with
  | @cons _ u0 _ ur ra rw' =>
    obtain rfl : u0 = Value.ref a := ra
    exact oinitT T I1 ea (by rw [← Paired.length rw', sizeLine_eq]; omega) fun s' J => ⟨.non, H1, J, rfl, q⟩
theorem pe_leI {pl : Sem Bool} (hg : Gl X "LookupError") (hm : X.mg "LookupError" = none) (vV : PySem.W.findCls X.K (.type "LookupError") (.type "type") "__init__" = some (.val (.builtin "LookupError.__init__"))) (ha : PA X (e :: es) ta)
    (hc : eval (.Call (.Attribute (.Name "LookupError" p1) "__init__" p2) (e :: es) [] pos) X.env = (do
      let ov ← eval (.Name "LookupError" p1) X.env
      standAt p2.atName
      let (f, first) ← holding [ov] (getMethod ov "__init__" pl)
      callWith pos f first (backTo pos (starEach (e :: es) X.env)) (backToKw pos (keywordEach [] X.env))) := by rfl)
    (he : starEach (e :: es) X.env = (false, eval e X.env) :: starEach es X.env := by rfl) (hpl : (backTo pos (starEach es X.env)).any (·.1) = false := by rfl) :
    PE X (.Call (.Attribute (.Name "LookupError" p1) "__init__" p2) (e :: es) [] pos) (tBaI X.K .le ta) := by
  refine ⟨fun pins s σ H Q I h => PySem.W.methodCall_KW (ld_blt I hg hm PyProof.Rows.Boot.«LookupError» ?_ (by decide) (by decide)) hc⟩
  obtain ⟨m, fr⟩ := I.fr
  refine PySem.W.method_type fr I.ok.mod.kin typ_LE (by decide +kernel) vV (by decide +kernel) ?_
  refine PyProof.Rows.callWith_method1 (thn (ha.run pos pins _ σ H _ (I.tok _) h) fun us s1 ⟨vs, H1, I1, r1, a, C, ws, ev, hl, T, ea, q⟩ => ?_) he hpl
  subst ev
  cases r1 with
  | @cons _ u0 _ ur ra rw' =>
    obtain rfl : u0 = Value.ref a := ra
    exact oinitT T I1 ea (by rw [← Paired.length rw', sizeLine_eq]; omega) fun s' J => ⟨.non, H1, J, rfl, q⟩
theorem typ_KE : typeOf (.type "KeyError") = pure (.type "type") := by kernel_rfl
theorem pe_keI {pl : Sem Bool} (hg : Gl X "KeyError") (hm : X.mg "KeyError" = none) (vV : PySem.W.findCls X.K (.type "KeyError") (.type "type") "__init__" = some (.val (.builtin "KeyError.__init__"))) (ha : PA X (e :: es) ta)
    (hc : eval (.Call (.Attribute (.Name "KeyError" p1) "__init__" p2) (e :: es) [] pos) X.env = (do
      let ov ← eval (.Name "KeyError" p1) X.env
      standAt p2.atName
      let (f, first) ← holding [ov] (getMethod ov "__init__" pl)
      callWith pos f first (backTo pos (starEach (e :: es) X.env)) (backToKw pos (keywordEach [] X.env))) := by rfl)
    (he : starEach (e :: es) X.env = (false, eval e X.env) :: starEach es X.env := by rfl) (hpl : (backTo pos (starEach es X.env)).any (·.1) = false := by rfl) :
    PE X (.Call (.Attribute (.Name "KeyError" p1) "__init__" p2) (e :: es) [] pos) (tBaI X.K .ke ta) := by
  refine ⟨fun pins s σ H Q I h => PySem.W.methodCall_KW (ld_blt I hg hm PyProof.Rows.Boot.«KeyError» ?_ (by decide) (by decide)) hc⟩
  obtain ⟨m, fr⟩ := I.fr
  refine PySem.W.method_type fr I.ok.mod.kin typ_KE (by decide +kernel) vV (by decide +kernel) ?_
  refine PyProof.Rows.callWith_method1 (thn (ha.run pos pins _ σ H _ (I.tok _) h) fun us s1 ⟨vs, H1, I1, r1, a, C, ws, ev, hl, T, ea, q⟩ => ?_) he hpl
  subst ev
  cases r1 with
  | @cons _ u0 _ ur ra rw' =>
    obtain rfl : u0 = Value.ref a := ra
    exact oinitT T I1 ea (by rw [← Paired.length rw', sizeLine_eq]; omega) fun s' J => ⟨.non, H1, J, rfl, q⟩
theorem ps_osN (ho : PE X o to) (he : PE X e te) (hs : swapsWith e (some (.Attribute o f p')) pos.line X.env = pure false := by rfl) : PS X (.Assign [.Attribute o f p'] e pos) (tOsN X.K f to te) := by
  refine ⟨fun pins s σ H D I h => plainObj_wpAny_Assign_Attribute (thn (he.run pins s σ H _ I h) fun v s1 ⟨y, H1, I1, r1, q1⟩ => thn (ho.run pins s1 σ H1 _ I1 q1) fun u s2 ⟨x, H2, I2, r2, b, a, C, ex, T, hno, ea, q⟩ => ?_) hs⟩
  subst ex
  obtain rfl : u = Value.ref a := r2
  exact ost_newT T I2 ea hno r1 fun dx s' n ne J => ⟨σ, _, J, q dx n ne⟩
/-- C(e, ..) that is raised -/
theorem pmk_oexT {b : Bs} {CX : CXT} {x : Str} {C fI : Addr} {k : Nat} {fd : FuncData} {ps : List Str} {sp : Sp} {ds : List Value} {dvs : List V} (T : OexT X.K b C) (iC : PySem.W.findIn X.K (.ref C) "__init__" = some (some (.ref fI))) (tI : PySem.W.typeIn X.K (.ref fI) = some (.type "function"))
    (F1 : FnOk X.prog X.w X.K X.mg X.base CX k fI fd ps sp) (hr : Room (k + 1) X.A) (hb : Binds X.K fd ps ds) (hd : Vals dvs ds) (hx : Passes CX X (fun _ _ _ => False)) (hg : Gl X x) (hm : X.mg x = some (.ref C)) (ha : PA X (e :: es) ta)
    (hdb : (x == ("__debug__" : Str)) = false := by decide) (he : starEach (e :: es) X.env = (false, eval e X.env) :: starEach es X.env := by rfl) (hpl : (backTo pos (starEach es X.env)).any (·.1) = false := by rfl) :
    PMk X (.Call (.Name x p) (e :: es) [] pos) (tMkO C sp dvs ta) := by
  intro pins s σ H Q I h
  obtain ⟨nm, q, N, bs, bm, sn, sub, ab, col, dd, k0, k1, k2, k3, k5, hC, hbm⟩ := T.cls
  refine wpAny_Call_Name_kw (ld_glob I hg hm ?_ hdb)
  refine PySem.W.callWith_K (h₀ := X.base) I.ok.mod.kin T.kC (thn (ha.run pos pins s σ H _ I h) fun us s1 ⟨vs, H1, I1, r1, hz, q1⟩ => ⟨I1.kIn, ?_⟩) he hpl
  show wpAny _ _ (call (.ref C) us) _ _ _
  obtain ⟨hp, g, dr, tk, os⟩ := s1
  have hsz : hp.objs.size ≤ hp.objs.size + 1 := Nat.le_succ _
  have hq := q1 (hp.objs.size + 1) (I1.hok.fresh hsz)
  have hget : ((hp.push (PySem.W.kdv_tup us)).push (PySem.HandSPX.excO C hp.objs.size)).get? (hp.objs.size + 1) = some (PySem.HandSPX.excO C hp.objs.size) := by heap_get
  have kk : ∀ c o, hp.get? c = some o → ((hp.push (PySem.W.kdv_tup us)).push (PySem.HandSPX.excO C hp.objs.size)).get? c = some o := fun c o z => Heap.get?_push_of_some _ (Heap.get?_push_of_some _ z)
  have I2 : Inv X pins σ (upd H1 (hp.objs.size + 1) (exo (hp.objs.size + 1) C none)) ⟨(hp.push (PySem.W.kdv_tup us)).push (PySem.HandSPX.excO C hp.objs.size), g, dr, tk, os⟩ :=
    I1.laid (t' := tk) (a := hp.objs.size + 1) (o := exo (hp.objs.size + 1) C none) (h' := (hp.push (PySem.W.kdv_tup us)).push (PySem.HandSPX.excO C hp.objs.size)) kk hsz (exo_ok hget)
  have r2 : Vals (V.ref (hp.objs.size + 1) :: (vs ++ dvs)) (Value.ref (hp.objs.size + 1) :: (us ++ ds)) := .cons rfl (r1.append hd)
  have hl : (Value.ref (hp.objs.size + 1) :: us ++ ds).length = ps.length := r2.length.symm.trans (F1.len _ _ _ _ hq)
  have hus : us.length ≤ sizeLine := by rw [← Paired.length r1, sizeLine_eq]; omega
  obtain ⟨i0, bmB, bf⟩ := b.f
  refine wpAny_call (callW bf ((hbm.has _).trans b.hB) ((hbm.has _).trans b.hA) ((hbm.has _).trans b.hN) (I1.kIn _ _ hC) (PySem.W.looks_findIn I1.kIn iC) (fun self => PySem.W.bind_fn I1.kIn self tI) hus
    (codeAny_mono (F1.run _ X.stack _ _ ⟨Value.ref (hp.objs.size + 1) :: us, []⟩ (Value.ref (hp.objs.size + 1) :: (us ++ ds)) _ _ (fun _ _ _ => False) (hr.make C us []) (I2.env0.make C us []) (hb _ (Value.ref (hp.objs.size + 1) :: us) I2.kIn hl) r2 hq) fun r s' hq' => ?_))
  match r, hq' with
  | .error er, hq' => exact hx pins σ _ _ er s' I2 hq'
  | .ok (.ret u), hq' =>
    obtain ⟨v, H2, os2, bare2, un2, hok2, rv, ev, d, fs, ea, ed, hd1, q2⟩ := hq'
    subst ev
    obtain ⟨h2, g2, d2, t2, os'⟩ := s'
    exact ⟨rv, mk_end (raises_own T.exC T.tyC) I1 hsz kk un2 hok2 os2 bare2 ea ed hd1 q2⟩
end
/-- Base.__init__(self, text) of an own family -/
def spGT (K : PySem.W.Frag) (b : Bs) : Sp := fun vs H Q _ => ∃ (a C : Addr) (x : V), vs = [.ref a, x] ∧ OexT K b C ∧ H a = some (exo a C none) ∧ Q .non H
end Bk

namespace Bk
open PySem PySem.Spec PyProof.Rows L2
/-! ## 21. methods of own classes: what is raised is wished for at the caller's slots -/
structure CalM (P : Program) (w : World) (K : PySem.W.Frag) (mg : Str → Option Value) (base : Heap) (CX : CXT) (k : Nat) (C : Addr) (m : Str) (sp : Sp) : Prop where
  ex : ∃ (f : Addr) (fd : FuncData) (ps : List Str), Meth K C m f ∧ FnOk P w K mg base CX k f fd ps sp ∧ Binds K fd ps []
structure CalMK (P : Program) (w : World) (K : PySem.W.Frag) (mg : Str → Option Value) (base : Heap) (CX : CXT) (k n : Nat) (ks : List Str) (C : Addr) (m : Str) (sp : Sp) (gV : List V → List V → List V) : Prop where
  ex : ∃ (f : Addr) (fd : FuncData) (ps : List Str) (g : List Value → List Value → List Value), Meth K C m f ∧ FnOk P w K mg base CX k f fd ps sp ∧ KBn K fd ps (n + 1) ks g gV
/-- C(..) of a class whose objects are plain -/
structure CalC (P : Program) (w : World) (K : PySem.W.Frag) (mg : Str → Option Value) (base : Heap) (CX : CXT) (k : Nat) (C : Addr) (x : Str) (sp : Sp) : Prop where
  ex : ∃ (f : Addr) (fd : FuncData) (ps : List Str), Mk K C f ∧ FnOk P w K mg base CX k f fd ps sp ∧ Binds K fd ps [] ∧ mg x = some (.ref C)
def tMeS (C : Addr) (m : Str) (sp : Sp) (E : L2.St → XK) (ta : TE) (t : TA) : TE := fun σ H Q => ta σ H fun x H1 => ∃ a dx fs, x = .ref a ∧ H1 a = some (.ins C dx fs) ∧ fs.lookup m = none ∧ t σ H1 fun vs H2 => sp (x :: vs) H2 Q (E σ)
def tMeK (C : Addr) (m : Str) (j : Nat) (sp : Sp) (gV : List V → List V → List V) (E : L2.St → XK) (ta : TE) (tk : TA) : TE := fun σ H Q => ta σ H fun x H1 => ∃ a dx fs, x = .ref a ∧ H1 a = some (.ins C dx fs) ∧ fs.lookup m = none ∧ tk σ H1 fun zs H2 => zs.length = j ∧ sp (gV [x] zs) H2 Q (E σ)
def tMkS (C : Addr) (sp : Sp) (E : L2.St → XK) (t : TA) : TE := fun σ H Q => t σ H fun vs H1 => ∀ x dx, H1 x = none → H1 dx = none → dx ≠ x →
  sp (.ref x :: vs) (upd (upd H1 dx (.own x)) x (.ins C dx [])) (fun v H2 => v = .non ∧ Q (.ref x) H2) (E σ)
section
variable {X : Cx} {CX : CXT} {k j n : Nat} {ks : List Str} {f C : Addr} {fd : FuncData} {ps : List Str} {sp : Sp} {E : L2.St → XK} {x m : Str} {p pos apos : Pos} {e o : Expr} {es : List Expr} {kws : List Keyword} {ta : TE} {t tk : TA} {W : WX} {gV : List V → List V → List V} {g : List Value → List Value → List Value}
theorem ps0 : ∀ σ, PassesAt CX0 X σ ((fun _ => E0) σ) := fun _ _ _ _ _ _ _ h => h.elim
theorem psY : ∀ σ, PassesAt (L2.CX X.prog X.w) X σ ((fun _ => noE) σ) := fun σ pins H s e s' I h => pass_no (X := X) pins σ H s e s' I h
theorem psX {E : XK} (tk : Takes X (fun cls d _ H => E cls d H)) : ∀ σ, PassesAt (L2.CX X.prog X.w) X σ ((fun _ => E) σ) := fun σ pins H s e s' I h => passes_call tk (fun _ _ _ _ z => z) pins σ H s e s' I h
theorem psT (tk : Takes X W) : ∀ σ, PassesAt (L2.CX X.prog X.w) X σ (WE W σ) := passAt tk
/-- o.m(e, ..) -/
theorem pe_mth {pl : Sem Bool} (he : PE X o ta) (cl : Cls X.K C) (c : CalM X.prog X.w X.K X.mg X.base CX k C m sp) (hr : Room j X.A) (hk : k ≤ j) (hx : ∀ σ, PassesAt CX X σ (E σ)) (ha : PA X (e :: es) t)
    (hst : starEach (e :: es) X.env = (false, eval e X.env) :: starEach es X.env := by rfl) (hpl : (backTo pos (starEach es X.env)).any (·.1) = false := by rfl)
    (ht : eval (.Call (.Attribute o m apos) (e :: es) [] pos) X.env = (do
      let ov ← eval o X.env
      standAt apos.atName
      let (f, first) ← holding [ov] (getMethod ov m pl)
      callWith pos f first (backTo pos (starEach (e :: es) X.env)) (backToKw pos (keywordEach [] X.env))) := by rfl) :
    PE X (.Call (.Attribute o m apos) (e :: es) [] pos) (tMeS C m sp E ta t) := by
  obtain ⟨f, fd, ps, hm, F, hb⟩ := c.ex
  refine ⟨fun pins s σ H Q I h => ?_⟩
  refine PySem.W.methodCall_KW (pl := pl) (thn (he.run pins s σ H _ I h) fun u s1 ⟨x, H1, I1, rx, a, dx, fs, ex, ea, l, q⟩ => ?_) ht
  subst ex
  obtain rfl : u = Value.ref a := rx
  refine getmeth_ok I1 ea cl hm l ?_
  refine PySem.W.callWith_K (first := [.ref a]) (h₀ := X.base) I.ok.mod.kin hm.kp (thn (ha.run pos pins s1 σ H1 _ I1 q) fun us s2 ⟨vs, H2, I2, r, q2⟩ => ⟨I2.kIn, ?_⟩) hst hpl
  exact run_fnS (us := .ref a :: us) (vs := .ref a :: vs) F (hr.mono hk) hb (hx σ) I2 (.cons rfl r) q2
/-- o.m() -/
theorem pe_mth0 {pl : Sem Bool} (he : PE X o ta) (cl : Cls X.K C) (c : CalM X.prog X.w X.K X.mg X.base CX k C m sp) (hr : Room j X.A) (hk : k ≤ j) (hx : ∀ σ, PassesAt CX X σ (E σ))
    (ht : eval (.Call (.Attribute o m apos) [] [] pos) X.env = (do
      let ov ← eval o X.env
      standAt apos.atName
      let (f, first) ← holding [ov] (getMethod ov m pl)
      callWith pos f first (backTo pos (starEach [] X.env)) (backToKw pos (keywordEach [] X.env))) := by rfl) :
    PE X (.Call (.Attribute o m apos) [] [] pos) (tMeS C m sp E ta tNil) := by
  obtain ⟨f, fd, ps, hm, F, hb⟩ := c.ex
  refine ⟨fun pins s σ H Q I h => ?_⟩
  refine PySem.W.methodCall_KW (pl := pl) (thn (he.run pins s σ H _ I h) fun u s1 ⟨x, H1, I1, rx, a, dx, fs, ex, ea, l, q⟩ => ?_) ht
  subst ex
  obtain rfl : u = Value.ref a := rx
  refine getmeth_ok I1 ea cl hm l ?_
  exact PySem.W.callWith_K0 (first := [.ref a]) I1.kIn hm.kp (run_fnS (us := [.ref a]) (vs := [.ref a]) F (hr.mono hk) hb (hx σ) I1 (.cons rfl .nil) q)
theorem run_fnNS {pins : List (Addr × Obj)} {σ : L2.St} {H : Hp} {s : Shared} {Q : VK} {us ws : List Value} {vs zs : List V} (F : FnOk X.prog X.w X.K X.mg X.base CX k f fd ps sp) (hr : Room k X.A) (hb : KBn X.K fd ps n ks g gV) (hx : PassesAt CX X σ (E σ))
    (I : Inv X pins σ H s) (r : Vals vs us) (rz : Vals zs ws) (l1 : vs.length = n) (l2 : zs.length = ks.length) (h : sp (gV vs zs) H Q (E σ)) : wpAny (model X.prog X.w) X.A (call (.ref f) us (ks.zip ws)) (EP X pins σ Q) X.xe s := by
  refine wpAny_call (codeAny_mono (F.run X.A X.stack s H ⟨us, ks.zip ws⟩ (g us ws) (gV vs zs) Q (E σ) hr I.env0 (hb.to s us ws I.kIn (r.length.symm.trans l1) (rz.length.symm.trans l2)) (hb.rel r rz) h) fun rr s3 z => ?_)
  match rr, z with
  | .error u, z => exact hx pins H s u s3 I z
  | .ok (.ret _), z => exact I.after z
/-- o.m(k = e, ..) -/
theorem pe_mthK {pl : Sem Bool} (he : PE X o ta) (cl : Cls X.K C) (c : CalMK X.prog X.w X.K X.mg X.base CX k 0 ks C m sp gV) (hr : Room j X.A) (hk : k ≤ j) (hx : ∀ σ, PassesAt CX X σ (E σ)) (hkw : PK X kws tk)
    (hall : (backToKw pos (keywordEach kws X.env)).all (·.1.isSome) = true := by rfl) (hks : (backToKw pos (keywordEach kws X.env)).filterMap (·.1) = ks := by rfl)
    (hpl : ((backTo pos (starEach [] X.env)).any (·.1) || (backToKw pos (keywordEach kws X.env)).any (·.1.isNone)) = false := by rfl)
    (ht : eval (.Call (.Attribute o m apos) [] kws pos) X.env = (do
      let ov ← eval o X.env
      standAt apos.atName
      let (f, first) ← holding [ov] (getMethod ov m pl)
      callWith pos f first (backTo pos (starEach [] X.env)) (backToKw pos (keywordEach kws X.env))) := by rfl) :
    PE X (.Call (.Attribute o m apos) [] kws pos) (tMeK C m ks.length sp gV E ta tk) := by
  obtain ⟨f, fd, ps, g, hm, F, hb⟩ := c.ex
  refine ⟨fun pins s σ H Q I h => ?_⟩
  refine PySem.W.methodCall_KW (pl := pl) (thn (he.run pins s σ H _ I h) fun u s1 ⟨x, H1, I1, rx, a, dx, fs, ex, ea, l, q⟩ => ?_) ht
  subst ex
  obtain rfl : u = Value.ref a := rx
  refine getmeth_ok I1 ea cl hm l ?_
  refine PySem.W.callWith_KW0 (first := [.ref a]) (h₀ := X.base) I.ok.mod.kin hm.kp hall ?_ hpl
  refine thn (hkw.run pos pins s1 σ H1 _ I1 q) fun ws s2 ⟨zs, H2, I2, rz, l2, q2⟩ => ⟨I2.kIn, ?_⟩
  rw [hks]
  exact run_fnNS (us := [.ref a]) (vs := [.ref a]) F (hr.mono hk) hb (hx σ) I2 (.cons rfl .nil) rz rfl l2 q2
theorem run_mkS {pins : List (Addr × Obj)} {σ : L2.St} {H : Hp} {s : Shared} {Q : VK} {us : List Value} {vs : List V} (M : Mk X.K C f) (F : FnOk X.prog X.w X.K X.mg X.base CX k f fd ps sp) (hr : Room (k + 1) X.A) (hb : Binds X.K fd ps [])
    (hx : PassesAt CX X σ (E σ)) (I : Inv X pins σ H s) (r : Vals vs us)
    (h : ∀ x dx, H x = none → H dx = none → dx ≠ x → sp (.ref x :: vs) (upd (upd H dx (.own x)) x (.ins C dx [])) (fun v H2 => v = .non ∧ Q (.ref x) H2) (E σ)) :
    wpAny (model X.prog X.w) X.A (call (.ref C) us) (EP X pins σ Q) X.xe s := by
  have hq := h (s.heap.objs.size + 1) s.heap.objs.size (I.hok.fresh (Nat.le_succ _)) (I.hok.fresh (Nat.le_refl _)) (Nat.ne_of_lt (Nat.lt_succ_self _))
  have I2 := Inv.made (C := C) I
  have r2 : Vals (V.ref (s.heap.objs.size + 1) :: vs) (Value.ref (s.heap.objs.size + 1) :: us) := .cons rfl r
  have hl : (Value.ref (s.heap.objs.size + 1) :: us).length = ps.length := by
    have e := r2.length
    rw [F.len _ _ _ _ hq] at e
    exact e.symm
  have bb := hb { s with heap := _ } (Value.ref (s.heap.objs.size + 1) :: us) I2.kIn (by rw [List.append_nil]; exact hl)
  rw [List.append_nil] at bb
  refine wpAny_call (make_map (f := f) I.kIn M.makes M.init (beq_iff_eq.mp M.fn) (codeAny_mono (F.run _ X.stack _ _ ⟨Value.ref (s.heap.objs.size + 1) :: us, []⟩ (Value.ref (s.heap.objs.size + 1) :: us) _ _ (E σ) (hr.make C us [])
    (I2.env0.make C us []) bb r2 hq) fun r s' hq' => ?_))
  cases r with
  | error e => exact hx pins _ _ e s' I2 hq'
  | ok fl =>
    cases fl with
    | ret u =>
      obtain ⟨v, H', I3, rv, ev, q3⟩ := I2.after hq'
      subst ev
      exact ⟨rv, ⟨V.ref (s.heap.objs.size + 1), H', I3, rfl, q3⟩⟩
    | next => exact False.elim hq'
    | brk => exact False.elim hq'
    | cont => exact False.elim hq'
theorem pe_mk (c : CalC X.prog X.w X.K X.mg X.base CX k C x sp) (hr : Room j X.A) (hk : k + 1 ≤ j) (hg : Gl X x) (hx : ∀ σ, PassesAt CX X σ (E σ)) (ha : PA X (e :: es) t)
    (hdb : (x == ("__debug__" : Str)) = false := by decide) (he : starEach (e :: es) X.env = (false, eval e X.env) :: starEach es X.env := by rfl) (hpl : (backTo pos (starEach es X.env)).any (·.1) = false := by rfl) :
    PE X (.Call (.Name x p) (e :: es) [] pos) (tMkS C sp E t) := by
  obtain ⟨f, fd, ps, M, F, hb, hm⟩ := c.ex
  refine ⟨fun pins s σ H Q I h => ?_⟩
  refine wpAny_Call_Name_kw (ld_glob I hg hm ?_ hdb)
  refine PySem.W.callWith_K (h₀ := X.base) I.ok.mod.kin M.kp (thn (ha.run pos pins s σ H _ I h) fun us s1 ⟨vs, H1, I1, r, q⟩ => ⟨I1.kIn, ?_⟩) he hpl
  exact run_mkS M F (hr.mono hk) hb (hx σ) I1 r q
theorem pe_mk0 (c : CalC X.prog X.w X.K X.mg X.base CX k C x sp) (hr : Room j X.A) (hk : k + 1 ≤ j) (hg : Gl X x) (hx : ∀ σ, PassesAt CX X σ (E σ))
    (hdb : (x == ("__debug__" : Str)) = false := by decide) : PE X (.Call (.Name x p) [] [] pos) (tMkS C sp E tNil) := by
  obtain ⟨f, fd, ps, M, F, hb, hm⟩ := c.ex
  refine ⟨fun pins s σ H Q I h => ?_⟩
  refine wpAny_Call_Name_kw (ld_glob I hg hm ?_ hdb)
  exact PySem.W.callWith_K0 I.kIn M.kp (run_mkS (us := []) (vs := []) M F (hr.mono hk) hb (hx σ) I .nil h)
/-- repr and the like in a guarded def -/
theorem run_fnGS {pins : List (Addr × Obj)} {σ : L2.St} {H : Hp} : True := trivial
end
section
variable {σ : L2.St} {H : Hp} {Q : VK} {C a dx : Addr} {m : Str} {sp : Sp} {E : L2.St → XK} {ta : TE} {t tk : TA} {fs : List (Str × V)}
theorem r_mth (q : ta σ H fun x H1 => ∃ a dx fs, x = .ref a ∧ H1 a = some (.ins C dx fs) ∧ fs.lookup m = none ∧ t σ H1 fun vs H2 => sp (x :: vs) H2 Q (E σ)) : tMeS C m sp E ta t σ H Q := q
theorem r_mthK {j : Nat} {gV : List V → List V → List V} (q : ta σ H fun x H1 => ∃ a dx fs, x = .ref a ∧ H1 a = some (.ins C dx fs) ∧ fs.lookup m = none ∧ tk σ H1 fun zs H2 => zs.length = j ∧ sp (gV [x] zs) H2 Q (E σ)) : tMeK C m j sp gV E ta tk σ H Q := q
theorem r_mkS (q : t σ H fun vs H1 => ∀ x dx, H1 x = none → H1 dx = none → dx ≠ x → sp (.ref x :: vs) (upd (upd H1 dx (.own x)) x (.ins C dx [])) (fun v H2 => v = .non ∧ Q (.ref x) H2) (E σ)) : tMkS C sp E t σ H Q := q
theorem r_fld {K : PySem.W.Frag} {f : Str} {v : V} (q : ta σ H fun x H1 => ∃ a C dx fs v, x = .ref a ∧ H1 a = some (.ins C dx fs) ∧ Cls K C ∧ NoAttr K C f ∧ fs.lookup f = some v ∧ Q v H1) : tFld K ta f σ H Q := q
end
/-! ## 22. refusals whose field has another name -/
def RefuseN (nm : Str) (C : Addr) (v : V) (H : Hp) (E : XK) : Prop := ∀ d H', H d = none → Same H H' → H' d = some (.xd [(nm, v)]) → E (.ref C) (some d) H'
theorem RefuseN.on {nm : Str} {C : Addr} {v : V} {H H' : Hp} {E : XK} (r : RefuseN nm C v H E) (s : Same H H') : RefuseN nm C v H' E := fun d H2 hd s2 e => r d H2 (s.free hd) (s.trans s2) e
def spInitN (nm : Str) (C : Addr) : Sp := fun vs H Q _ => ∃ (a : Addr) (x : V), vs = [.ref a, x] ∧ H a = some (exo a C none) ∧ ∀ dx, H dx = none → dx ≠ a → Q .non (upd (upd H dx (exd dx [(nm, x)])) a (exo a C (some dx)))
theorem r_mkN {nm : Str} {C : Addr} {v : V} {H : Hp} {E : XK} (z : RefuseN nm C v H E) : [v].length ≤ 1000 ∧ ∀ a, H a = none → spInitN nm C (.ref a :: ([v] ++ [])) (upd H a (exo a C none))
    (fun u H2 => u = .non ∧ ∃ (d : Addr) (fs : List (Str × V)), H2 a = some (exo a C (some d)) ∧ H2 d = some (exd d fs) ∧ H d = none ∧ E (.ref C) (some d) (upd (del H2 a) d (.xd fs))) (fun _ _ _ => False) := by
  refine ⟨Nat.le_of_ble_eq_true rfl, fun a ha => ⟨a, v, rfl, upd_same, fun dx hd ne => ⟨rfl, dx, [(nm, v)], upd_same, ?_, ?_, ?_⟩⟩⟩
  · rw [upd_ne ne, upd_same]
  · rw [upd_ne ne] at hd
    exact hd
  · rw [upd_ne ne] at hd
    refine z dx _ hd (fun b o e => ?_) upd_same
    have h1 : b ≠ a := ne_of_none e ha
    have h2 : b ≠ dx := ne_of_none e hd
    rw [upd_ne h2]
    show del _ a b = some o
    unfold del
    rw [if_neg h1, upd_ne h1, upd_ne h2, upd_ne h1]
    exact e
structure ExcN (K : PySem.W.Frag) (nm : Str) (C f : Addr) : Prop where
  ox : OexC K C
  i : PySem.W.findIn K (.ref C) "__init__" = some (some (.ref f))
  t : PySem.W.typeIn K (.ref f) = some (.type "function")
  nf : PySem.W.findIn K (.ref C) nm = some none
  xf : XfC K C
/-! ## 23. a comprehension each turn of which lays a new object, all of them unlike -/
section
variable {J : It} {n : Nat} {G : Hp → Prop} {Y : Nat → Hp → V → Hp → Prop} {g : TG} {te : TE} {vs : List Nat} {σ : L2.St} {H : Hp} {D : Addr} {Q : VK}
theorem lc_new (w : Walk J n G Y) (c : Nat → HO) (hD : H D = none) (hn : n ≤ 10000) (hG : ∀ H', Same H H' → G H')
    (hs : ∀ i x H1 H2 (Q' : VK) (R' : Hp → Prop), i < n → Same H H1 → Y i H1 x H2 → (∀ t H3, H1 t = none → Same H1 H3 → H3 t = some (c i) → Q' (.ref t) H3) →
      g x (wipe σ vs) H2 fun τ H3 => wipe τ vs = wipe σ vs ∧ tYes τ H3 fun b H4 => if b = true then te τ H4 Q' else R' H4)
    (q : ∀ H' (ts : List Addr), Same H H' → H' D = some (.lst (ts.map V.ref)) → ts.length = n → (∀ k t, ts[k]? = some t → H' t = some (c k)) → (D :: ts).Nodup → (∀ t ∈ ts, H t = none) → Q (.ref D) H') :
    ∃ W : Nat → Nat → Hp → Prop, (∃ m, W 0 m (upd H D (.lst []))) ∧ ∀ i m H, W i m H →
      (J.stop i H ∧ Q (.ref D) H) ∨ (J.go i H ∧ ∃ Nx : Hp → Prop, (∀ H', Nx H' → ∃ m', m' < m ∧ W (i + 1) m' H') ∧ ∀ x H', J.yld i H x H' → g x (wipe σ vs) H' fun σ2 H2 => wipe σ2 vs = wipe σ vs ∧ tYes σ2 H2 fun b H3 =>
        if b = true then te σ2 H3 fun y H4 => ∃ acc, H4 D = some (.lst acc) ∧ acc.length < sizeLine ∧ Nx (upd H4 D (.lst (acc ++ [y]))) else Nx H3) := by
  refine lc_it w (fun i G => Same H G ∧ ∃ ts : List Addr, G D = some (.lst (ts.map V.ref)) ∧ ts.length = i ∧ (∀ k t, ts[k]? = some t → G t = some (c k)) ∧ (D :: ts).Nodup ∧ ∀ t ∈ ts, H t = none)
    ⟨same_upd hD, [], upd_same, rfl, (fun _ _ z => nomatch z), (by simp), (fun _ z => nomatch z)⟩ (fun i G _ z => hG G z.1) (fun i x H1 H2 hi ⟨sm, ts, e, l, all, nd, fr⟩ y => ?_) fun G ⟨sm, ts, e, l, all, nd, fr⟩ => q G ts sm e l all nd fr
  refine hs i x H1 H2 _ _ hi sm y fun t H3 nt s3 et => ?_
  have tD : t ≠ D := fun z => by rw [z, e] at nt; exact nomatch nt
  have tts : t ∉ ts := fun z => by
    obtain ⟨k, hk⟩ := List.getElem?_of_mem z
    rw [all k t hk] at nt
    exact nomatch nt
  obtain ⟨nD, nts⟩ := List.nodup_cons.mp nd
  refine ⟨_, s3 _ _ e, by rw [List.length_map, l]; exact Nat.lt_of_lt_of_le hi (Nat.le_trans hn (by decide)), sameBut (sm.trans s3) hD, ts ++ [t], ?_, by rw [List.length_append, l]; rfl, fun k u hk => ?_, ?_, fun u hu => ?_⟩
  · rw [upd_same, List.map_append]
    rfl
  · by_cases hk2 : k < ts.length
    · rw [List.getElem?_append_left hk2] at hk
      have z := s3 _ _ (all k u hk)
      have nu : u ≠ D := fun q => by subst q; exact nD (List.mem_of_getElem? hk)
      rw [upd_ne nu]
      exact z
    · have e3 : k = i := by
        have := (List.getElem?_eq_some_iff.mp hk).1
        rw [List.length_append] at this
        have h1 : [t].length = 1 := rfl
        omega
      subst e3
      rw [List.getElem?_append_right (by omega), l, Nat.sub_self] at hk
      obtain rfl := Option.some.inj hk
      rw [upd_ne tD]
      exact et
  · refine List.nodup_cons.mpr ⟨fun z => ?_, List.nodup_append.mpr ⟨nts, by simp, fun a ha b hb q => ?_⟩⟩
    · rcases List.mem_append.mp z with z | z
      · exact nD z
      · exact tD (List.mem_singleton.mp z).symm
    · rw [List.mem_singleton.mp hb] at q
      exact tts (q ▸ ha)
  · rcases List.mem_append.mp hu with z | z
    · exact fr u z
    · rw [List.mem_singleton.mp z]
      exact sm.free nt
end
/-! ## 24. a list of lists -/
/-- at l: a list of the lists at rows, which hold ws -/
structure LL (H : Hp) (l : Addr) (rows : List Addr) (ws : List (List V)) : Prop where
  at_ : H l = some (.lst (rows.map V.ref))
  len : rows.length = ws.length
  row : ∀ (k : Nat) (r : Addr) (w : List V), rows[k]? = some r → ws[k]? = some w → H r = some (.lst w)
  nd : (l :: rows).Nodup
theorem LL.keep {H H' : Hp} {l : Addr} {rows : List Addr} {ws : List (List V)} (h : LL H l rows ws) (k : ∀ b ∈ l :: rows, H' b = H b) : LL H' l rows ws :=
  ⟨by rw [k l List.mem_cons_self]; exact h.at_, h.len, fun i r w h1 h2 => by rw [k r (List.mem_cons_of_mem _ (List.mem_of_getElem? h1))]; exact h.row i r w h1 h2, h.nd⟩
theorem LL.same {H H' : Hp} {l : Addr} {rows : List Addr} {ws : List (List V)} (h : LL H l rows ws) (s : Same H H') : LL H' l rows ws :=
  ⟨s _ _ h.at_, h.len, fun i r w h1 h2 => s _ _ (h.row i r w h1 h2), h.nd⟩
/-- the row at k grows -/
theorem LL.put {H H' : Hp} {l r : Addr} {rows : List Addr} {ws : List (List V)} {k : Nat} {w w' : List V} (h : LL H l rows ws) (hr : rows[k]? = some r) (hw : ws[k]? = some w) (b : But r H H') (e : H' r = some (.lst w')) : LL H' l rows (ws.set k w') := by
  obtain ⟨nl, nr⟩ := List.nodup_cons.mp h.nd
  have lr : l ≠ r := fun q => nl (q ▸ List.mem_of_getElem? hr)
  refine ⟨b _ _ lr h.at_, by rw [List.length_set]; exact h.len, fun i r2 w2 h1 h2 => ?_, h.nd⟩
  by_cases q : i = k
  · subst q
    rw [hr] at h1
    obtain rfl := Option.some.inj h1
    rw [List.getElem?_set_self (List.getElem?_eq_some_iff.mp hw).1] at h2
    obtain rfl := Option.some.inj h2
    exact e
  · rw [List.getElem?_set_ne (fun z => q z.symm)] at h2
    refine b _ _ (fun z => ?_) (h.row i r2 w2 h1 h2)
    subst z
    exact q ((List.getElem?_inj (List.getElem?_eq_some_iff.mp h1).1 nr).mp (h1.trans hr.symm))
end Bk

namespace Bk
open PySem PySem.Spec PyProof.Rows L2
/-! ## 25. the text of things, dicts among them -/
mutual
/-- v is the thing d; b: a dict may be in it, and each list stands where no dict of modules does -/
inductive Dq (b : Bool) (K : PySem.W.Frag) (H : Hp) : V → PyData → Prop
  | non : Dq b K H .non .none
  | bl (c : Bool) : Dq b K H (.bl c) (.bool c)
  | int (i : Int) : Dq b K H (.int i) (.int i)
  | str (x : Str) : Dq b K H (.str x) (.str x)
  | lst {a : Addr} {xs : List V} {ds : List PyData} : (b = true → a ≠ sysModules) → SqL K H a xs → DqAll b K H xs ds → Dq b K H (.ref a) (.list ds)
  | tup {a : Addr} {xs : List V} {ds : List PyData} : SqT K H a xs → DqAll b K H xs ds → Dq b K H (.ref a) (.tuple ds)
  | dK {a : Addr} {kvs : List (Key × V)} {ps : List (PyData × PyData)} : b = true → H a = some (.dK kvs) → DqAll b K H (kvs.map fun q => kV q.1) (ps.map (·.1)) → DqAll b K H (kvs.map (·.2)) (ps.map (·.2)) → Dq b K H (.ref a) (.dict ps)
inductive DqAll (b : Bool) (K : PySem.W.Frag) (H : Hp) : List V → List PyData → Prop
  | nil : DqAll b K H [] []
  | cons {v : V} {vs : List V} {d : PyData} {ds : List PyData} : Dq b K H v d → DqAll b K H vs ds → DqAll b K H (v :: vs) (d :: ds)
end
mutual
theorem dq_flat {K : PySem.W.Frag} {H : Hp} : ∀ (d : PyData) (v : V), Dq false K H v d → d.hasDict = false
  | .none, _, _ => by simp only [PyData.hasDict]
  | .bool _, _, _ => by simp only [PyData.hasDict]
  | .int _, _, _ => by simp only [PyData.hasDict]
  | .str _, _, _ => by simp only [PyData.hasDict]
  | .list ds, _, h => by
    cases h with
    | lst _ _ ha => simpa only [PyData.hasDict] using dq_flatAll ds _ ha
  | .tuple ds, _, h => by
    cases h with
    | tup _ ha => simpa only [PyData.hasDict] using dq_flatAll ds _ ha
  | .dict _, _, h => by
    cases h with
    | dK e _ _ _ => exact nomatch e
theorem dq_flatAll {K : PySem.W.Frag} {H : Hp} : ∀ (ds : List PyData) (vs : List V), DqAll false K H vs ds → PyData.hasDictAll ds = false
  | [], _, _ => by simp only [PyData.hasDictAll]
  | d :: ds, _, h => by
    cases h with
    | cons h1 h2 => simp only [PyData.hasDictAll, dq_flat d _ h1, dq_flatAll ds _ h2, Bool.or_false]
end
theorem kv_of : ∀ {P : Program} {w : World} {kvs : List (Key × V)} {vs : List (Key × Value)} {es : List DictEntry}, KV kvs vs → Pairs (mixKind P w) es vs → Vals (kvs.map fun q => kV q.1) (es.map (·.key)) ∧ Vals (kvs.map (·.2)) (es.map (·.val))
  | _, _, _, _, _, .nil, .nil => ⟨.nil, .nil⟩
  | P, w, (k, v) :: kvs, (k2, u) :: vs, e :: es, .cons r t, .cons h1 h2 h3 => by
    obtain ⟨a, b⟩ := kv_of (P := P) (w := w) t h3
    obtain ⟨rk, rv⟩ := r
    refine ⟨.cons ?_ a, .cons ?_ b⟩
    · have rk : k = k2 := rk
      subst rk
      rcases keyIs_shape (show keyIs k e.key = true from h1) with ⟨i, t, rfl, z⟩ | ⟨x, t, rfl, z⟩
      · exact ⟨t, z⟩
      · exact ⟨t, z⟩
    · show RelV v e.val
      rw [h2]
      exact rv
section
variable {X : Cx} {pins : List (Addr × Obj)} {σ : L2.St} {H : Hp} {s : Shared} {b : Bool}
mutual
theorem Dq.reads (I : Inv X pins σ H s) : ∀ {d : PyData} {v : V} {u : Value}, Dq b X.K H v d → RelV v u → ∃ as, Reads s.heap u d as ∧ (b = true → sysModules ∉ as)
  | _, _, _, .non, r => by
    cases r
    exact ⟨_, Reads.none, fun _ => by simp⟩
  | _, _, _, .bl b, r => by
    cases r
    exact ⟨_, Reads.bool b, fun _ => by simp⟩
  | _, _, _, .int i, r => by
    obtain ⟨t, rfl⟩ := r
    exact ⟨_, Reads.int i t, fun _ => by simp⟩
  | _, _, _, .str x, r => by
    obtain ⟨t, rfl⟩ := r
    exact ⟨_, Reads.str x t, fun _ => by simp⟩
  | _, _, _, .lst ne hs ha, r => by
    cases r
    obtain ⟨its, rv, ⟨o, n, ho, hc, _, hd⟩, _⟩ := I.list hs
    obtain ⟨as, hr, hn⟩ := Dq.readsAll I ha rv
    exact ⟨_, Reads.list ho hc hd hr, fun z m => by
      rcases List.mem_cons.mp m with m | m
      · exact ne z m.symm
      · exact hn z m⟩
  | _, _, _, .tup hs ha, r => by
    cases r
    obtain ⟨its, rv, ⟨o, ho, hc, n, hd⟩, _⟩ := I.tuple hs
    obtain ⟨as, hr, hn⟩ := Dq.readsAll I ha rv
    exact ⟨_, Reads.tuple ho hc hd hr, hn⟩
  | _, _, _, .dK (a := a) (kvs := kvs) (ps := ps) eb ha h1 h2, r => by
    cases r
    obtain ⟨_, hm, vs, kv, o, es, ep, ho, hx, hde, _, pr, _⟩ := I.hok a _ ha
    obtain ⟨r1, r2⟩ := kv_of kv pr
    obtain ⟨as, q1, n1⟩ := Dq.readsAll I h1 r1
    obtain ⟨bs, q2, n2⟩ := Dq.readsAll I h2 r2
    have rd : Reads s.heap (.ref a) (.dict ps) (a :: as ++ bs) := .dict ho hx.1 hde q1 q2
    exact ⟨_, rd, fun z m => by
      rcases List.mem_append.mp m with m | m
      · rcases List.mem_cons.mp m with m | m
        · rw [← m] at hm
          exact absurd hm (by decide)
        · exact n1 z m
      · exact n2 z m⟩
theorem Dq.readsAll (I : Inv X pins σ H s) : ∀ {ds : List PyData} {vs : List V} {us : List Value}, DqAll b X.K H vs ds → Vals vs us → ∃ as, ReadsAll s.heap us ds as ∧ (b = true → sysModules ∉ as)
  | _, _, _, .nil, r => by
    cases r
    exact ⟨_, ReadsAll.nil, fun _ => by simp⟩
  | _, _, _, .cons h1 h2, r => by
    cases r with
    | cons r1 r2 =>
      obtain ⟨as, q1, n1⟩ := Dq.reads I h1 r1
      obtain ⟨bs, q2, n2⟩ := Dq.readsAll I h2 r2
      exact ⟨_, ReadsAll.cons q1 q2, fun z m => by
        rcases List.mem_append.mp m with m | m
        · exact n1 z m
        · exact n2 z m⟩
end
end
/-- z is how repr tells v -/
def Shq (K : PySem.W.Frag) (H : Hp) (v : V) (z : Str) : Prop := ∃ b d, Dq b K H v d ∧ d.showable = true ∧ d.shown.length ≤ sizeLine ∧ d.depth ≤ 60 ∧ z = d.shown
section
variable {X : Cx} {j : Nat}
theorem call_repr_shq (ga : X.A.guards = some []) (hr : Room j X.A) : CallR X (.builtin "repr") (fun xs H Q => ∃ v z, xs = [v] ∧ Shq X.K H v z ∧ Q (.str z) H) := by
  intro pins s σ H xs us Q I r h
  obtain ⟨v, z, rfl, ⟨b, d, hd, h1, h2, h3, rfl⟩, q⟩ := h
  obtain ⟨u, rfl, rv⟩ := vals1 r
  have hu := hr.units
  have fin : ∀ {x : Str} {t : Nat}, x = d.shown → EP X pins σ Q (.str x s.toks) { s with toks := t } := fun {x t} e => ⟨.str _, H, I.tok _, ⟨_, rfl⟩, by rw [e]; exact q⟩
  have ref : ∀ {a : Addr}, v = .ref a → wpAny (model X.prog X.w) X.A (call (.builtin "repr") [u]) (EP X pins σ Q) X.xe s := fun {a} e => by
    subst e
    obtain rfl : u = Value.ref a := rv
    obtain ⟨as, rd, hn⟩ := Dq.reads I (u := .ref a) hd rfl
    refine repr_of_reads' rd h1 (fun hh => ?_) ga (by omega) (fun _ _ e => e) (fun h' u tk hk => ⟨.str _, H, I.kept hk, ⟨_, rfl⟩, q⟩) h2
    cases b with
    | true => exact hn rfl
    | false =>
      rw [dq_flat d _ hd] at hh
      exact nomatch hh
  cases hd with
  | non =>
    cases rv
    exact PySem.P.repr_of_none (fin (by simp only [PyData.shown]))
  | bl b =>
    cases rv
    exact PySem.P.repr_of_bool (fin (by simp only [PyData.shown]))
  | int i =>
    obtain ⟨t, rfl⟩ := rv
    exact PySem.P.repr_of_int (by simpa only [PyData.showable, decide_eq_true_eq] using h1) (fin (by simp only [PyData.shown]))
  | str x =>
    obtain ⟨t, rfl⟩ := rv
    exact PySem.P.repr_of_str (fin (by simp only [PyData.shown])) (by simpa only [PyData.shown] using h2)
  | lst _ _ _ => exact ref rfl
  | tup _ _ => exact ref rfl
  | dK _ _ _ _ => exact ref rfl
end
mutual
def smQ : PyData → Bool
  | .none | .bool _ => true
  | .int i => decide (i.natAbs < 10 ^ 38)
  | .str x => x.cps.toList.all fun c => decide (c < 16 ^ 8)
  | .list xs | .tuple xs => smQL xs
  | .dict ps => smQK ps
def smQL : List PyData → Bool
  | [] => true
  | x :: xs => smQ x && smQL xs
def smQK : List (PyData × PyData) → Bool
  | [] => true
  | (x, y) :: xs => smQ x && smQ y && smQK xs
end
mutual
theorem smQ_ok : ∀ d : PyData, smQ d = true → d.showable = true ∧ d.leavesShort 40 = true
  | .none, _ => ⟨rfl, rfl⟩
  | .bool _, _ => ⟨rfl, rfl⟩
  | .int i, h => by
    have h' : smallD (.int i) = true := by simpa only [smallD, smQ] using h
    exact small_ok _ h'
  | .str x, h => ⟨by simp only [PyData.showable], by simpa only [smQ, PyData.leavesShort] using h⟩
  | .list xs, h => by simpa only [PyData.showable, PyData.leavesShort] using smQ_okL xs (by simpa only [smQ] using h)
  | .tuple xs, h => by simpa only [PyData.showable, PyData.leavesShort] using smQ_okL xs (by simpa only [smQ] using h)
  | .dict ps, h => by simpa only [PyData.showable, PyData.leavesShort] using smQ_okK ps (by simpa only [smQ] using h)
theorem smQ_okL : ∀ xs : List PyData, smQL xs = true → PyData.showableAll xs = true ∧ PyData.leavesShortAll 40 xs = true
  | [], _ => ⟨rfl, rfl⟩
  | x :: xs, h => by
    have h' : smQ x = true ∧ smQL xs = true := by simpa only [smQL, Bool.and_eq_true] using h
    obtain ⟨a, b⟩ := smQ_ok x h'.1
    obtain ⟨c, d⟩ := smQ_okL xs h'.2
    exact ⟨by simp only [PyData.showableAll, a, c, Bool.and_true], by simp only [PyData.leavesShortAll, b, d, Bool.and_true]⟩
theorem smQ_okK : ∀ xs : List (PyData × PyData), smQK xs = true → PyData.showableKv xs = true ∧ PyData.leavesShortKv 40 xs = true
  | [], _ => ⟨rfl, rfl⟩
  | (x, y) :: xs, h => by
    have h' : (smQ x = true ∧ smQ y = true) ∧ smQK xs = true := by simpa only [smQK, Bool.and_eq_true] using h
    obtain ⟨a, b⟩ := smQ_ok x h'.1.1
    obtain ⟨a2, b2⟩ := smQ_ok y h'.1.2
    obtain ⟨c, d⟩ := smQ_okK xs h'.2
    exact ⟨by simp only [PyData.showableKv, a, a2, c, Bool.and_true], by simp only [PyData.leavesShortKv, b, b2, d, Bool.and_true]⟩
end
section
variable {b : Bool} {K : PySem.W.Frag} {H H' : Hp} {v : V} {a : Addr} {xs : List V}
theorem shq_of {d : PyData} (h : Dq b K H v d) (s : smQ d = true) (l : d.bulk ≤ 390000) (e : d.depth ≤ 60) : Shq K H v d.shown := by
  obtain ⟨h1, h2⟩ := smQ_ok d s
  have h3 := PyData.shown_le_bulk 40 (by decide) d h2
  exact ⟨b, d, h, h1, by rw [sizeLine_eq]; omega, e, rfl⟩
/-- a thing that may stand in a list whose text is asked: m its size -/
def ItQ (b : Bool) (K : PySem.W.Frag) (H : Hp) (m : Nat) (v : V) : Prop := ∃ d, Dq b K H v d ∧ smQ d = true ∧ d.bulk ≤ m ∧ d.depth ≤ 20
theorem ItQ.shq {m : Nat} (h : ItQ b K H m v) (l : m ≤ 390000) : ∃ z, Shq K H v z := let ⟨_, h1, h2, h3, h4⟩ := h; ⟨_, shq_of h1 h2 (by omega) (by omega)⟩
theorem itqs {m : Nat} : ∀ {xs : List V}, (∀ y ∈ xs, ItQ b K H m y) → ∃ ds, DqAll b K H xs ds ∧ smQL ds = true ∧ PyData.bulkAll ds ≤ (m + 1) * xs.length ∧ PyData.depthAll ds ≤ 20
  | [], _ => ⟨[], .nil, rfl, Nat.le_refl _, Nat.zero_le _⟩
  | y :: ys, h => by
    obtain ⟨d, h1, h2, h3, h4⟩ := h y List.mem_cons_self
    obtain ⟨ds, g1, g2, g3, g4⟩ := itqs fun z hz => h z (List.mem_cons_of_mem _ hz)
    refine ⟨d :: ds, .cons h1 g1, by simp only [smQL, h2, g2, Bool.and_true], ?_, ?_⟩
    · simp only [PyData.bulkAll, List.length_cons, Nat.mul_succ]
      omega
    · simp only [PyData.depthAll]
      omega
/-- two lists of the same things are told alike -/
theorem shq_lst2 {m : Nat} {c : Addr} (h : SqL K H a xs) (h2 : SqL K H c xs) (n1 : b = true → a ≠ sysModules) (n2 : b = true → c ≠ sysModules) (i : ∀ y ∈ xs, ItQ b K H m y) (l : (m + 1) * xs.length ≤ 390000) : ∃ z, Shq K H (.ref a) z ∧ Shq K H (.ref c) z := by
  obtain ⟨ds, g1, g2, g3, g4⟩ := itqs i
  exact ⟨_, shq_of (.lst n1 h g1) (by simpa only [smQ] using g2) (by simp only [PyData.bulk]; omega) (by simp only [PyData.depth]; omega),
    shq_of (.lst n2 h2 g1) (by simpa only [smQ] using g2) (by simp only [PyData.bulk]; omega) (by simp only [PyData.depth]; omega)⟩
theorem shq_tup2 {m : Nat} {c : Addr} (h : SqT K H a xs) (h2 : SqT K H c xs) (i : ∀ y ∈ xs, ItQ b K H m y) (l : (m + 1) * xs.length ≤ 390000) : ∃ z, Shq K H (.ref a) z ∧ Shq K H (.ref c) z := by
  obtain ⟨ds, g1, g2, g3, g4⟩ := itqs i
  exact ⟨_, shq_of (.tup h g1) (by simpa only [smQ] using g2) (by simp only [PyData.bulk]; omega) (by simp only [PyData.depth]; omega),
    shq_of (.tup h2 g1) (by simpa only [smQ] using g2) (by simp only [PyData.bulk]; omega) (by simp only [PyData.depth]; omega)⟩
/-- a list of things within a list -/
theorem itq_lst {m M : Nat} (h : SqL K H a xs) (n1 : b = true → a ≠ sysModules) (i : ∀ y ∈ xs, ∃ d, Dq b K H y d ∧ smQ d = true ∧ d.bulk ≤ m ∧ d.depth = 0) (l : (m + 1) * xs.length ≤ M) : ItQ b K H M (.ref a) := by
  have go : ∀ {xs : List V}, (∀ y ∈ xs, ∃ d, Dq b K H y d ∧ smQ d = true ∧ d.bulk ≤ m ∧ d.depth = 0) → ∃ ds, DqAll b K H xs ds ∧ smQL ds = true ∧ PyData.bulkAll ds ≤ (m + 1) * xs.length ∧ PyData.depthAll ds = 0 := by
    intro xs
    induction xs with
    | nil => exact fun _ => ⟨[], .nil, rfl, Nat.le_refl _, rfl⟩
    | cons y ys ih =>
      intro h
      obtain ⟨d, h1, h2, h3, h4⟩ := h y List.mem_cons_self
      obtain ⟨ds, g1, g2, g3, g4⟩ := ih fun z hz => h z (List.mem_cons_of_mem _ hz)
      refine ⟨d :: ds, .cons h1 g1, by simp only [smQL, h2, g2, Bool.and_true], ?_, ?_⟩
      · simp only [PyData.bulkAll, List.length_cons, Nat.mul_succ]
        omega
      · simp only [PyData.depthAll, h4, g4]
        rfl
  obtain ⟨ds, g1, g2, g3, g4⟩ := go i
  exact ⟨_, .lst n1 h g1, by simpa only [smQ] using g2, by simp only [PyData.bulk]; omega, by simp only [PyData.depth, g4]; omega⟩
theorem dqS (h : smS v = true) : Dq b K H v (datS v) ∧ smQ (datS v) = true ∧ (datS v).bulk ≤ 100 ∧ (datS v).depth = 0 := by
  obtain ⟨h1, h2, h3, h4⟩ := datS_ok (K := K) (H := H) h
  refine ⟨?_, ?_, h3, h4⟩
  · cases v with
    | non => exact .non
    | bl b => exact .bl b
    | int i => exact .int i
    | str z => exact .str z
    | _ => exact nomatch h
  · cases v with
    | non => exact rfl
    | bl b => exact rfl
    | int i => simpa only [smallD, smQ, datS] using h2
    | str z => simpa only [smallD, smQ, datS] using h2
    | _ => exact nomatch h
theorem itq_sc (h : smS v = true) : ItQ b K H 100 v := let ⟨h1, h2, h3, h4⟩ := dqS h; ⟨_, h1, h2, h3, by omega⟩
theorem itq_int {i : Int} (h : i.natAbs < 10 ^ 38) : ItQ b K H 0 (.int i) := ⟨.int i, .int i, by simpa only [smQ, decide_eq_true_eq] using h, Nat.le_refl _, by simp only [PyData.depth]; decide⟩
theorem ItQ.mono {m M : Nat} (h : ItQ b K H m v) (l : m ≤ M) : ItQ b K H M v := let ⟨d, h1, h2, h3, h4⟩ := h; ⟨d, h1, h2, by omega, h4⟩
theorem shq_sc (h : smS v = true) : Shq K H v (datS v).shown := let ⟨h1, h2, h3, h4⟩ := dqS (b := false) h; shq_of h1 h2 (by omega) (by omega)
end
/-! new lists and dicts stand where no dict of modules does -/
def NewLB (xs : List V) (H : Hp) (Q : VK) : Prop := xs.length ≤ sizeLine ∧ ∀ p, H p = none → p ≠ sysModules → Q (.ref p) (upd H p (.lst xs))
def tLstB (t : TA) : TE := fun σ H Q => t σ H fun xs H1 => NewLB xs H1 Q
section
variable {X : Cx} {es : List Expr} {t : TA} {pos : Pos}
theorem pe_lstB (h : PA X es t) : PE X (.List es pos) (tLstB t) := by
  refine ⟨fun pins s σ H Q I hq => ?_⟩
  refine wpAny_List_spliced (thn (h.run pos pins s σ H _ I hq) fun us s1 ⟨xs, H1, I1, r, z, q⟩ => ⟨by rw [← r.length]; exact z, ?_⟩)
  have hf : H1 s1.heap.objs.size = none := I1.hok.fresh (Nat.le_refl _)
  refine ⟨.ref s1.heap.objs.size, upd H1 s1.heap.objs.size (.lst xs), I1.laid (t' := s1.toks) (fun b u e => Heap.get?_push_of_some _ e) (Nat.le_refl _) ?_, rfl, q _ hf (Nat.ne_of_gt I1.big)⟩
  exact ⟨z, us, 0, r, Heap.get?_push_size _ rfl⟩
theorem r_lstB {σ : L2.St} {H : Hp} {Q : VK} (q : t σ H fun xs H1 => NewLB xs H1 Q) : tLstB t σ H Q := q
theorem newLB {xs : List V} {H : Hp} {Q : VK} (q : ∀ p H', H p = none → p ≠ sysModules → Same H H' → H' p = some (.lst xs) → Q (.ref p) H') (hl : xs.length ≤ 10000 := by exact Nat.le_of_ble_eq_true rfl) : NewLB xs H Q :=
  ⟨Nat.le_trans hl (by decide), fun p hp ns => q p _ hp ns (same_upd hp) upd_same⟩
end
end Bk

namespace Bk
open PySem PySem.Spec PyProof.Rows L2
/-! ## 26. isinstance of what an except suite holds -/
def rIsH (K : PySem.W.Frag) (a : Addr) (cls : Value) (d : Option Addr) (C : Addr) : List V → Hp → VK → Prop := fun xs H Q => ∃ (c : V) (u : Value) (b : Bool) (dd : Addr) (fs : List (Str × V)), xs = [.ref a, c] ∧ cls = .ref C ∧ d = some dd ∧ H dd = some (.xd fs) ∧ ClsV c u ∧ PySem.W.kitOne K (.ref C) u = some b ∧ Q (.bl b) H
def rIsH2 (K : PySem.W.Frag) (a : Addr) (cls : Value) (d : Option Addr) (C : Addr) : List V → Hp → VK → Prop := fun xs H Q => ∃ (tp : Addr) (cs : List V) (us : List Value) (b : Bool) (dd : Addr) (fs : List (Str × V)), xs = [.ref a, .ref tp] ∧ cls = .ref C ∧ d = some dd ∧ H dd = some (.xd fs) ∧ H tp = some (.tup cs) ∧ Paired ClsV cs us ∧ PySem.W.kitAny K (.ref C) us = some b ∧ Q (.bl b) H
section
variable {X : Cx} {a C : Addr} {oe : Obj} {cls : Value} {d : Option Addr} {pn : List (Addr × Obj)}
theorem held_inst {pins : List (Addr × Obj)} {σ : L2.St} {H : Hp} {s : Shared} {dd : Addr} {fs : List (Str × V)} (I : Inv (X.suite a ((a, oe) :: pn)) pins σ H s) (hz : Zc (.ref C) (some dd) oe) (hf : ∃ vs, oe.data = .fields vs) (ea : H dd = some (.xd fs)) :
    ∃ od, PySem.W.InstAt s.heap a oe C (some od) := by
  obtain ⟨ha, _⟩ := I.pin (a, oe) (List.mem_append_left _ List.mem_cons_self)
  obtain ⟨vs, hd⟩ := hf
  have hx : ObjOk X.prog X.w H s.heap dd (.xd fs) := I.hok dd _ ea
  obtain ⟨mA, hns, hr⟩ := hx
  obtain ⟨od, ho, hl⟩ := lookIn_ns hns
  exact ⟨od, ha, hz.1, by unfold PySem.W.notCls; rw [hd] <;> rfl, by rw [hz.2]; exact ho⟩
theorem call_isH (T : ExcC X.K C) (hz : Zc cls d oe) (hf : ∃ vs, oe.data = .fields vs) : CallR (X.suite a ((a, oe) :: pn)) (.builtin "isinstance") (rIsH X.K a cls d C) := by
  intro pins s σ H xs us Q I r h
  obtain ⟨c, u, b, dd, fs, rfl, ec, ed, ea, k, e, q⟩ := h
  subst ec
  subst ed
  obtain ⟨u1, u2, rfl, r1, r2⟩ := vals2 r
  have e2 := k.eq r2
  subst e2
  obtain rfl : u1 = Value.ref a := r1
  obtain ⟨od, J⟩ := held_inst I hz hf ea
  exact PySem.W.kia_one (PySem.W.bk_kitx (ox := oe) (od := some od) T.hg T.hk T.hs T.hd T.ha T.hn T.ht T.hm) I.kIn J e (fun z => nomatch z) fun tk => ⟨.bl b, H, I.tok tk, rfl, q⟩
theorem call_isH2 (T : ExcC X.K C) (hz : Zc cls d oe) (hf : ∃ vs, oe.data = .fields vs) : CallR (X.suite a ((a, oe) :: pn)) (.builtin "isinstance") (rIsH2 X.K a cls d C) := by
  intro pins s σ H xs us Q I r h
  obtain ⟨tp, cs, ws, b, dd, fs, rfl, ec, ed, ea, hT, k, e, q⟩ := h
  subst ec
  subst ed
  obtain ⟨u1, u2, rfl, r1, r2⟩ := vals2 r
  cases (show u2 = Value.ref tp from r2)
  obtain rfl : u1 = Value.ref a := r1
  obtain ⟨od, J⟩ := held_inst I hz hf ea
  obtain ⟨_, its, rv, o, h1, h2, n, h3⟩ := (show ObjOk X.prog X.w H s.heap tp (.tup cs) from I.hok tp _ hT)
  have e3 := ClsV.all k rv
  subst e3
  obtain ⟨oc, od2, dt, sl⟩ := o
  simp only at h2 h3
  subst h2 h3
  exact PySem.W.kia_tup (PySem.W.bk_kitx (ox := oe) (od := some od) T.hg T.hk T.hs T.hd T.ha T.hn T.ht T.hm) I.kIn J h1 e (fun z => nomatch z) fun tk => ⟨.bl b, H, I.tok tk, rfl, q⟩
end
section
variable {K : PySem.W.Frag} {a C : Addr} {cls : Value} {d : Option Addr} {H : Hp} {Q : VK}
theorem r_isH {dd : Addr} {fs : List (Str × V)} {D : Addr} {b : Bool} (ec : cls = .ref C) (ed : d = some dd) (ea : H dd = some (.xd fs)) (e : PySem.W.kitOne K (.ref C) (.ref D) = some b) (q : Q (.bl b) H) : rIsH K a cls d C [.ref a, .ref D] H Q :=
  ⟨_, _, b, dd, fs, rfl, ec, ed, ea, .own D, e, q⟩
theorem r_isHB {dd : Addr} {fs : List (Str × V)} {T : String} {b : Bool} (ec : cls = .ref C) (ed : d = some dd) (ea : H dd = some (.xd fs)) (e : PySem.W.kitOne K (.ref C) (.type T) = some b) (q : Q (.bl b) H) : rIsH K a cls d C [.ref a, .ty T] H Q :=
  ⟨_, _, b, dd, fs, rfl, ec, ed, ea, .ty T, e, q⟩
theorem r_isH2 {dd tp : Addr} {fs : List (Str × V)} {D1 D2 : Addr} {b c : Bool} (ec : cls = .ref C) (ed : d = some dd) (ea : H dd = some (.xd fs)) (et : H tp = some (.tup [.ref D1, .ref D2])) (e : PySem.W.kitOne K (.ref C) (.ref D1) = some b) (e2 : PySem.W.kitOne K (.ref C) (.ref D2) = some c) (q : Q (.bl (b || c)) H) : rIsH2 K a cls d C [.ref a, .ref tp] H Q := by
  refine ⟨tp, _, [.ref D1, .ref D2], _, dd, fs, rfl, ec, ed, ea, et, .cons (.own D1) (.cons (.own D2) .nil), ?_, q⟩
  cases b with
  | true => exact kitAny_cons e (fun z => nomatch z) (fun _ => rfl)
  | false => exact kitAny_cons e (fun _ => by cases c with
      | true => exact kitAny_cons e2 (fun z => nomatch z) (fun _ => rfl)
      | false => exact kitAny_cons e2 (fun _ => kitAny_nil) (fun z => nomatch z)) (fun z => nomatch z)
theorem kit_own {D : Addr} {b : Bool} (self : PySem.W.subIn K (.ref C) (.ref C) = some true) (hdct : PySem.W.hasDictIn K D = true) (ht : PySem.W.typeIn K (.ref D) = some (.type "type")) (h : PySem.W.subIn K (.ref C) (.ref D) = some b) : PySem.W.kitOne K (.ref C) (.ref D) = some b := by
  obtain ⟨cd, hc, _⟩ := PySem.W.any_some hdct
  unfold PySem.W.kitOne
  by_cases e : C = D
  · subst e
    rw [self] at h
    obtain rfl := Option.some.inj h
    rw [if_pos (beq_self_eq_true _)]
  · rw [if_neg (fun z => e (by injection (beq_iff_eq.mp z)))]
    show (if ((PySem.W.clsIn K D).isSome && PySem.W.typeIn K (.ref D) == some (.type "type")) = true then PySem.W.subIn K (.ref C) (.ref D) else none) = some b
    rw [if_pos (by rw [hc, ht]; rfl)]
    exact h
end
theorem call_list_ofK {X : Cx} {K : PySem.W.Frag} (h : X.K = K) : CallR X (.type "list") (fun xs H Q => ∃ p ys, xs = [.ref p] ∧ (SqL K H p ys ∨ SqT K H p ys) ∧ ∀ l, H l = none → Q (.ref l) (upd H l (.lst ys))) := by
  subst h
  exact call_list_of
theorem call_len_seqK {X : Cx} {K : PySem.W.Frag} (h : X.K = K) : CallR X (.builtin "len") (fun xs H Q => ∃ p ys, xs = [.ref p] ∧ (SqL K H p ys ∨ SqT K H p ys) ∧ Q (.int ys.length) H) := by
  subst h
  exact call_len_seq
/-- all that is asked of an own exception class -/
structure ExcA (K : PySem.W.Frag) (b : Bs) (nm : Str) (C f : Addr) : Prop where
  ox : OexT K b C
  i : PySem.W.findIn K (.ref C) "__init__" = some (some (.ref f))
  t : PySem.W.typeIn K (.ref f) = some (.type "function")
  nf : PySem.W.findIn K (.ref C) nm = some none
  xf : XfC K C
  xc : ExcC K C
/-! ## 26a. comprehensions that lay new things -/
section
variable {K : PySem.W.Frag} {σ : L2.St} {H : Hp} {Q : VK} {j : Nat} {vs : List Nat} {te tl : TE} {a : Addr} {xs : List V}
theorem lcNewR (n : Nat) (c : Nat → HO) (hl : n ≤ 1000) (hw : ∀ x, wipe ((wipe σ vs).set j (some x)) vs = wipe σ vs)
    (ht : ∀ (i : Nat) (H1 : Hp) (Q' : VK), i < n → Same H H1 → (∀ t H3, H1 t = none → Same H1 H3 → H3 t = some (c i) → Q' (.ref t) H3) → te ((wipe σ vs).set j (some (.int (0 + (i : Int))))) H1 Q')
    (q : ∀ D H' (ts : List Addr), H D = none → Same H H' → H' D = some (.lst (ts.map V.ref)) → ts.length = n → (∀ k t, ts[k]? = some t → H' t = some (c k)) → (D :: ts).Nodup → (∀ t ∈ ts, H t = none) → Q (.ref D) H') :
    tLc (iRng1 (tCons (tC (.int n)) tNil)) (gName j) tYes te vs σ H Q := by
  refine ⟨_, rfl, by omega, by omega, fun D hD => ?_⟩
  rw [Int.toNat_natCast]
  refine lc_new (g := gName j) (te := te) (vs := vs) (σ := σ) (Q := Q) walk_range c hD (by omega) (fun _ _ => trivial) (fun i x H1 H2 Q' R' hi sm y k => ?_) fun H' ts s e l all nd fr => q D H' ts hD s e l all nd fr
  obtain ⟨rfl, rfl⟩ := y
  refine ⟨hw _, r_yes ?_⟩
  exact ht i H2 Q' hi sm k
theorem lcNewL (c : Nat → HO) (hv : ∀ QQ : VK, QQ (.ref a) H → tl σ H QQ) (hs : SqL K H a xs) (hl : xs.length ≤ 10000) (hw : ∀ x, wipe ((wipe σ vs).set j (some x)) vs = wipe σ vs)
    (ht : ∀ (i : Nat) (y : V) (H1 : Hp) (Q' : VK), xs[i]? = some y → Same H H1 → (∀ t H3, H1 t = none → Same H1 H3 → H3 t = some (c i) → Q' (.ref t) H3) → te ((wipe σ vs).set j (some y)) H1 Q')
    (q : ∀ D H' (ts : List Addr), H D = none → Same H H' → H' D = some (.lst (ts.map V.ref)) → ts.length = xs.length → (∀ k t, ts[k]? = some t → H' t = some (c k)) → (D :: ts).Nodup → (∀ t ∈ ts, H t = none) → Q (.ref D) H') :
    tLc (iList K tl) (gName j) tYes te vs σ H Q := by
  refine hv _ ⟨a, rfl, ⟨xs, hs⟩, fun D hD => ?_⟩
  refine lc_new (g := gName j) (te := te) (vs := vs) (σ := σ) (Q := Q) walk_list c hD hl (fun _ s => s.seq hs) (fun i x H1 H2 Q' R' hi sm y k => ?_) fun H' ts s e l all nd fr => q D H' ts hD s e l all nd fr
  obtain ⟨rfl, hx⟩ := y
  exact ⟨hw _, r_yes (ht i x H2 Q' hx sm k)⟩
end
/-! ## 27. a count -/
def countV (x : V) : Bool := match x with
  | .int i => decide (0 ≤ i)
  | _ => false
/-- a thing of which isinstance(.., int) is known -/
def WC (K : PySem.W.Frag) (H : Hp) (x : V) : Prop := (∃ i, x = .int i) ∨ (∃ b, x = .bl b) ∨ (IsA K H x "int" false ∧ (∀ l h, wholeV x l h = false) ∧ countV x = false)
theorem WC.wd {K : PySem.W.Frag} {H : Hp} {x : V} (h : WC K H x) : WD K H x := by
  rcases h with h | h | ⟨h1, h2, _⟩
  · exact .inl h
  · exact .inr (.inl h)
  · exact .inr (.inr ⟨h1, h2⟩)
def spCount (K : PySem.W.Frag) : Sp := fun vs H Q _ => ∃ x : V, vs = [x] ∧ WC K H x ∧ Q (.bl (countV x)) H
def spCheckN (K : PySem.W.Frag) (C : Addr) : Sp := fun vs H Q E => ∃ (x : V) (lo hi : Int), vs = [x, .int lo, .int hi] ∧ WD K H x ∧ ((wholeV x lo hi = true ∧ Q .non H) ∨ (wholeV x lo hi = false ∧ Refuse C x H E))
def spCheckC (K : PySem.W.Frag) (C : Addr) : Sp := fun vs H Q E => ∃ x : V, vs = [x] ∧ WC K H x ∧ ((countV x = true ∧ Q .non H) ∨ (countV x = false ∧ Refuse C x H E))
theorem whole_int {i lo hi : Int} (h0 : lo ≤ i) (h1 : i ≤ hi) : wholeV (.int i) lo hi = true := by
  show (decide (lo ≤ i) && decide (i ≤ hi)) = true
  rw [decide_eq_true h0, decide_eq_true h1]
  rfl
theorem count_int {i : Int} (h0 : 0 ≤ i) : countV (.int i) = true := decide_eq_true h0
end Bk

namespace Bk
open PySem PySem.Spec PyProof.Rows L2
/-! ## 28. return [tag, e.f, isinstance(e, G) and not isinstance(e, (B1, B2))] -/
def tHit (K : PySem.W.Frag) (i : Nat) (C G B1 B2 : Addr) (tag nm : Str) (a : Addr) (cls : Value) (d : Option Addr) : TS :=
  tRet (tLstB (tCons (tC (.str tag)) (tCons (tXf a cls d C nm (tVar i)) (tCons (tAndV (tCB (rIsH K a cls d C) (tCons (tVar i) (tCons (tC (.ref G)) tNil)))
    (tNotV (tCB (rIsH2 K a cls d C) (tCons (tVar i) (tCons (tTup (tCons (tC (.ref B1)) (tCons (tC (.ref B2)) tNil))) tNil))))) tNil))))
theorem caught_lst {K : PySem.W.Frag} {C d G B1 B2 : Addr} {i : Nat} {σ : L2.St} {H' : Hp} {D : Ends} {l : List ClA} {v : V} {tag nm : Str} (e : PySem.W.exmOne K (.ref C) (.ref C) = some true) (hi : i < σ.length) (ed : H' d = some (.xd [(nm, v)]))
    (kG : PySem.W.kitOne K (.ref C) (.ref G) = some true) (k1 : PySem.W.kitOne K (.ref C) (.ref B1) = some false) (k2 : PySem.W.kitOne K (.ref C) (.ref B2) = some false)
    (q : ∀ p H2, H' p = none → p ≠ sysModules → Same H' H2 → H2 p = some (.lst [.str tag, v, .bl true]) → D.rt (.ref p) H2) :
    wAM K D ((.ref C, i, fun a cls d => tHit K i C G B1 B2 tag nm a cls d) :: l) (.ref C) (some d) σ H' := by
  refine w_hit e fun a na => ?_
  show tHit K i C G B1 B2 tag nm a (.ref C) (some d) (offI i D) (σ.set i (some (.ref a))) H'
  have hv : (σ.set i (some (V.ref a)))[i]? = some (some (.ref a)) := List.getElem?_set_self hi
  refine r_ret (r_lstB (r_cons (r_c (r_cons ?_))))
  refine ⟨.ref a, hv, rfl, rfl, d, _, v, rfl, ed, by rw [List.lookup_cons, beq_self_eq_true], ?_⟩
  refine r_cons (r_andV (r_cb (r_cons (r_var hv (r_cons (r_c (r_nil (r_isH rfl rfl ed kG ⟨true, rfl, iteT ?_⟩))))))))
  refine r_notV (r_cb (r_cons (r_var hv (r_cons (r_tup (r_cons (r_c (r_cons (r_c (r_nil (newT fun tp H2 nt st et => ?_)))))))))))
  refine r_nil (r_isH2 rfl rfl (st _ _ ed) et k1 k2 ⟨_, rfl, r_nil (newLB fun p H3 np ns s3 e3 => q p H3 (st.free np) ns (st.trans s3) e3)⟩)
theorem r_disp1 {σ : L2.St} {H : Hp} {Q : VK} {k : Key} {v : V} (q : ∀ p H', H p = none → Same H H' → H' p = some (.dK [(k, v)]) → Q (.ref p) H') : tDisp [(tC (kV k), tC v)] σ H Q := by
  intro p np
  refine ⟨upd_same, [(k, v)], rfl, (by show 1 ≤ 15; decide), ?_⟩
  refine q p _ np (fun b o e => ?_) upd_same
  rw [upd_ne (ne_of_none e np), upd_ne (ne_of_none e np)]
  exact e
/-! ## 29. things of a known depth -/
section
variable {b : Bool} {K : PySem.W.Frag} {H H' : Hp} {v : V} {a : Addr} {xs : List V}
def ItD (b : Bool) (K : PySem.W.Frag) (H : Hp) (m k : Nat) (v : V) : Prop := ∃ d, Dq b K H v d ∧ smQ d = true ∧ d.bulk ≤ m ∧ d.depth ≤ k
theorem ItD.q {m k : Nat} (h : ItD b K H m k v) (l : k ≤ 20) : ItQ b K H m v := let ⟨d, h1, h2, h3, h4⟩ := h; ⟨d, h1, h2, h3, by omega⟩
theorem ItD.mono {m k M L : Nat} (h : ItD b K H m k v) (l : m ≤ M) (l2 : k ≤ L) : ItD b K H M L v := let ⟨d, h1, h2, h3, h4⟩ := h; ⟨d, h1, h2, by omega, by omega⟩
theorem itds {m k : Nat} : ∀ {xs : List V}, (∀ y ∈ xs, ItD b K H m k y) → ∃ ds, DqAll b K H xs ds ∧ smQL ds = true ∧ PyData.bulkAll ds ≤ (m + 1) * xs.length ∧ PyData.depthAll ds ≤ k
  | [], _ => ⟨[], .nil, rfl, Nat.le_refl _, Nat.zero_le _⟩
  | y :: ys, h => by
    obtain ⟨d, h1, h2, h3, h4⟩ := h y List.mem_cons_self
    obtain ⟨ds, g1, g2, g3, g4⟩ := itds fun z hz => h z (List.mem_cons_of_mem _ hz)
    refine ⟨d :: ds, .cons h1 g1, by simp only [smQL, h2, g2, Bool.and_true], ?_, ?_⟩
    · simp only [PyData.bulkAll, List.length_cons, Nat.mul_succ]
      omega
    · simp only [PyData.depthAll]
      omega
theorem itd_lst {m k M : Nat} (h : SqL K H a xs) (n1 : b = true → a ≠ sysModules) (i : ∀ y ∈ xs, ItD b K H m k y) (l : (m + 1) * xs.length ≤ M) : ItD b K H M (k + 1) (.ref a) := by
  obtain ⟨ds, g1, g2, g3, g4⟩ := itds i
  exact ⟨_, .lst n1 h g1, by simpa only [smQ] using g2, by simp only [PyData.bulk]; omega, by simp only [PyData.depth]; omega⟩
theorem itd_tup {m k M : Nat} (h : SqT K H a xs) (i : ∀ y ∈ xs, ItD b K H m k y) (l : (m + 1) * xs.length ≤ M) : ItD b K H M (k + 1) (.ref a) := by
  obtain ⟨ds, g1, g2, g3, g4⟩ := itds i
  exact ⟨_, .tup h g1, by simpa only [smQ] using g2, by simp only [PyData.bulk]; omega, by simp only [PyData.depth]; omega⟩
theorem itd_sc (h : smS v = true) : ItD b K H 100 0 v := let ⟨h1, h2, h3, h4⟩ := dqS h; ⟨_, h1, h2, h3, by omega⟩
/-- a dict of scalars, by keys that are scalars -/
theorem itd_dK {kvs : List (Key × V)} (e : H a = some (.dK kvs)) (h : ∀ q ∈ kvs, smS (kV q.1) = true ∧ smS q.2 = true) (l : kvs.length ≤ 5) : ItD true K H 2000 1 (.ref a) := by
  have go : ∀ {l : List (Key × V)}, (∀ q ∈ l, smS (kV q.1) = true ∧ smS q.2 = true) → ∃ ps : List (PyData × PyData), DqAll true K H (l.map fun q => kV q.1) (ps.map (·.1)) ∧ DqAll true K H (l.map (·.2)) (ps.map (·.2)) ∧ smQK ps = true ∧ PyData.bulkKv ps ≤ 202 * l.length ∧ PyData.depthKv ps = 0 := by
    intro l
    induction l with
    | nil => exact fun _ => ⟨[], .nil, .nil, rfl, Nat.le_refl _, rfl⟩
    | cons q r ih =>
      intro h
      obtain ⟨h1, h2⟩ := h q List.mem_cons_self
      obtain ⟨a1, a2, a3, a4⟩ := dqS (b := true) (K := K) (H := H) h1
      obtain ⟨b1, b2, b3, b4⟩ := dqS (b := true) (K := K) (H := H) h2
      obtain ⟨ps, g1, g2, g3, g4, g5⟩ := ih fun z hz => h z (List.mem_cons_of_mem _ hz)
      refine ⟨(datS (kV q.1), datS q.2) :: ps, .cons a1 g1, .cons b1 g2, by simp only [smQK, a2, b2, g3, Bool.and_true], ?_, ?_⟩
      · simp only [PyData.bulkKv, List.length_cons]
        omega
      · simp only [PyData.depthKv, a4, b4, g5]
        rfl
  obtain ⟨ps, g1, g2, g3, g4, g5⟩ := go h
  exact ⟨.dict ps, .dK rfl e g1 g2, by simpa only [smQ] using g3, by simp only [PyData.bulk]; omega, by simp only [PyData.depth, g5]; omega⟩
end
section
variable {b : Bool} {K : PySem.W.Frag} {H H' : Hp} {v : V} {a : Addr} {xs : List V}
theorem dqSs : ∀ {xs : List V}, xs.all smS = true → DqAll b K H xs (xs.map datS) ∧ smQL (xs.map datS) = true ∧ PyData.bulkAll (xs.map datS) ≤ 101 * xs.length ∧ PyData.depthAll (xs.map datS) = 0
  | [], _ => ⟨.nil, rfl, Nat.le_refl _, rfl⟩
  | y :: ys, h => by
    rw [List.all_cons, Bool.and_eq_true] at h
    obtain ⟨h1, h2, h3, h4⟩ := dqS (b := b) (K := K) (H := H) h.1
    obtain ⟨g1, g2, g3, g4⟩ := dqSs h.2
    rw [List.map_cons]
    refine ⟨.cons h1 g1, by simp only [smQL, h2, g2, Bool.and_true], ?_, ?_⟩
    · simp only [PyData.bulkAll, List.length_cons]
      omega
    · simp only [PyData.depthAll, h4, g4]
      rfl
/-- a list of scalars: its text hangs on them alone -/
theorem shq_lsc (h : SqL K H a xs) (i : xs.all smS = true) (l : xs.length ≤ 3000) : Shq K H (.ref a) (PyData.list (xs.map datS)).shown := by
  obtain ⟨g1, g2, g3, g4⟩ := dqSs (b := false) (K := K) (H := H) i
  exact shq_of (b := false) (.lst (fun z => Bool.noConfusion z) h g1) (by simpa only [smQ] using g2) (by simp only [PyData.bulk]; omega) (by simp only [PyData.depth]; omega)
theorem shq_tsc (h : SqT K H a xs) (i : xs.all smS = true) (l : xs.length ≤ 3000) : Shq K H (.ref a) (PyData.tuple (xs.map datS)).shown := by
  obtain ⟨g1, g2, g3, g4⟩ := dqSs (b := false) (K := K) (H := H) i
  exact shq_of (b := false) (.tup h g1) (by simpa only [smQ] using g2) (by simp only [PyData.bulk]; omega) (by simp only [PyData.depth]; omega)
end
/-! ## 30. odd things -/
/-- a thing that is no number of any use; fp: its lists; m: how many things a list of it has at most -/
inductive OddV (H : Hp) (m : Nat) : List Addr → V → Prop
  | sc {v : V} (h : smS v = true) (hw : ∀ lo hi, 0 ≤ lo → wholeV v lo hi = false) (hc : countV v = false) : OddV H m [] v
  | tup {a : Addr} {xs : List V} (e : H a = some (.tup xs)) (h : ∀ y ∈ xs, smS y = true) (l : xs.length ≤ 5) : OddV H m [] (.ref a)
  | dK {a : Addr} {kvs : List (Key × V)} (e : H a = some (.dK kvs)) (h : ∀ q ∈ kvs, smS (kV q.1) = true ∧ smS q.2 = true) (l : kvs.length ≤ 5) : OddV H m [] (.ref a)
  | lst {a : Addr} {xs : List V} {fp : List Addr} (e : H a = some (.lst xs)) (ns : a ≠ sysModules) (l : xs.length ≤ m) (h : ∀ y ∈ xs, smS y = true ∨ ∃ c ∈ fp, y = .ref c) (na : a ∉ fp) (hf : ∀ c ∈ fp, c ≠ sysModules ∧ ∃ ys, H c = some (.lst ys) ∧ (∀ y ∈ ys, smS y = true) ∧ ys.length ≤ 5) : OddV H m (a :: fp) (.ref a)
section
variable {K : PySem.W.Frag} {H H' : Hp} {m n : Nat} {fp : List Addr} {v : V} {bx : Addr}
/-- what may change -/
theorem OddV.keep (o : OddV H m fp v) (k : ∀ b ∈ fp, H' b = H b) (t : ∀ b xs, H b = some (.tup xs) → H' b = some (.tup xs)) (d : ∀ b kvs, H b = some (.dK kvs) → H' b = some (.dK kvs)) (l : m ≤ n) : OddV H' n fp v := by
  cases o with
  | sc h hw hc => exact .sc h hw hc
  | tup e h l => exact .tup (t _ _ e) h l
  | dK e h l => exact .dK (d _ _ e) h l
  | lst e ns l1 h na hf =>
    exact .lst (by rw [k _ List.mem_cons_self]; exact e) ns (by omega) h na fun c hc => by
      obtain ⟨h1, ys, h2, h3⟩ := hf c hc
      exact ⟨h1, ys, by rw [k _ (List.mem_cons_of_mem _ hc)]; exact h2, h3⟩
/-- the lists among them stand -/
theorem OddV.there (o : OddV H m fp v) : ∀ b ∈ fp, ∃ xs, H b = some (.lst xs) := by
  cases o with
  | sc h hw hc => exact fun b z => nomatch z
  | tup e h l => exact fun b z => nomatch z
  | dK e h l => exact fun b z => nomatch z
  | lst e ns l1 h na hf =>
    intro b hb
    rcases List.mem_cons.mp hb with z | z
    · exact ⟨_, by rw [z]; exact e⟩
    · obtain ⟨_, ys, h2, _⟩ := hf b z
      exact ⟨ys, h2⟩
theorem OddV.same (o : OddV H m fp v) (s : Same H H') : OddV H' m fp v := o.keep (fun b hb => by
    obtain ⟨xs, e⟩ := o.there b hb
    rw [e]; exact s _ _ e) (fun b xs e => s _ _ e) (fun b kvs e => s _ _ e) (Nat.le_refl _)
/-- what stands at bx, a list that is none of these, may change -/
theorem OddV.but {xs : List V} (o : OddV H m fp v) (eb : H bx = some (.lst xs)) (n : bx ∉ fp) (s : But bx H H') : OddV H' m fp v := o.keep (fun b hb => by
    obtain ⟨xs, e⟩ := o.there b hb
    rw [e]; exact s _ _ (fun z => n (z ▸ hb)) e) (fun b xs e => s _ _ (fun z => by rw [z, eb] at e; exact nomatch e) e) (fun b kvs e => s _ _ (fun z => by rw [z, eb] at e; exact nomatch e) e) (Nat.le_refl _)
theorem OddV.wc (o : OddV H m fp v) : WC K H v ∧ countV v = false ∧ ∀ lo hi, 0 ≤ lo → wholeV v lo hi = false := by
  cases o with
  | @sc v h hw hc =>
    refine ⟨?_, hc, hw⟩
    cases v with
    | int i => exact .inl ⟨i, rfl⟩
    | bl b => exact .inr (.inl ⟨b, rfl⟩)
    | non => exact .inr (.inr ⟨isa_non, fun _ _ => rfl, rfl⟩)
    | str z => exact .inr (.inr ⟨isa_str, fun _ _ => rfl, rfl⟩)
    | _ => exact nomatch h
  | tup e h l => exact ⟨.inr (.inr ⟨isa_tup e, fun _ _ => rfl, rfl⟩), rfl, fun _ _ _ => rfl⟩
  | dK e h l => exact ⟨.inr (.inr ⟨isa_dK e, fun _ _ => rfl, rfl⟩), rfl, fun _ _ _ => rfl⟩
  | lst e ns l1 h na hf => exact ⟨.inr (.inr ⟨isa_lst e, fun _ _ => rfl, rfl⟩), rfl, fun _ _ _ => rfl⟩
theorem OddV.it (o : OddV H m fp v) : ItQ true K H (2000 + 700 * m) v := by
  cases o with
  | sc h hw hc => exact ((itd_sc h).q (by decide)).mono (by omega)
  | tup e h l => exact ((itd_tup (m := 100) (k := 0) (M := 2000) (sqT e) (fun y hy => itd_sc (h y hy)) (by omega)).q (by decide)).mono (by omega)
  | dK e h l => exact ((itd_dK e h l).q (by decide)).mono (by omega)
  | lst e ns l1 h na hf =>
    refine ((itd_lst (m := 600) (k := 1) (M := 2000 + 700 * m) (sqL e) (fun _ => ns) (fun y hy => ?_) (by
      have := Nat.mul_le_mul_left 601 l1
      omega)).q (by decide)).mono (by omega)
    rcases h y hy with z | ⟨c, hc, rfl⟩
    · exact (itd_sc z).mono (by omega) (by omega)
    · obtain ⟨n1, ys, h2, h3, h4⟩ := hf c hc
      exact (itd_lst (m := 100) (k := 0) (M := 600) (sqL h2) (fun _ => n1) (fun y hy => itd_sc (h3 y hy)) (by omega)).mono (by omega) (by omega)
/-- a list among them grows by a scalar -/
theorem OddV.grow {a : Addr} {xs : List V} {y : V} (o : OddV H m fp v) (ea : H a = some (.lst xs)) (hy : smS y = true) (h : v = .ref a ∨ a ∉ fp) : OddV (upd H a (.lst (xs ++ [y]))) (m + 1) fp v := by
  rcases h with rfl | h
  · cases o with
    | sc h hw hc => exact nomatch h
    | tup e h l => rw [ea] at e; exact nomatch e
    | dK e h l => rw [ea] at e; exact nomatch e
    | @lst _ xs2 fp2 e ns l1 h na hf =>
      rw [ea] at e
      obtain rfl : xs = xs2 := by injection (Option.some.inj e)
      refine .lst upd_same ns (by rw [List.length_append]; exact Nat.succ_le_succ l1) (fun z hz => ?_) na fun c hc => ?_
      · rcases List.mem_append.mp hz with z1 | z1
        · exact h z z1
        · rw [List.mem_singleton.mp z1]; exact .inl hy
      · obtain ⟨n1, ys, h2, h3⟩ := hf c hc
        exact ⟨n1, ys, by rw [upd_ne (fun q => na (by rw [← q]; exact hc))]; exact h2, h3⟩
  · refine o.keep (fun b hb => upd_ne fun z => h (z ▸ hb)) (fun b ys e => ?_) (fun b kvs e => ?_) (Nat.le_succ _)
    · rw [upd_ne (fun z => by rw [z, ea] at e; exact nomatch e)]; exact e
    · rw [upd_ne (fun z => by rw [z, ea] at e; exact nomatch e)]; exact e
/-- isinstance(v, list) -/
theorem OddV.isl (o : OddV H m fp v) : (IsA K H v "list" false ∧ fp = []) ∨ ∃ a xs, v = .ref a ∧ H a = some (.lst xs) ∧ a ∈ fp ∧ xs.length ≤ m := by
  cases o with
  | @sc v h hw hc =>
    refine .inl ⟨?_, rfl⟩
    cases v with
    | int i => exact isa_int
    | bl b => exact isa_bl
    | non => exact isa_non
    | str z => exact isa_str
    | _ => exact nomatch h
  | tup e h l => exact .inl ⟨isa_tup e, rfl⟩
  | dK e h l => exact .inl ⟨isa_dK e, rfl⟩
  | lst e ns l1 h na hf => exact .inr ⟨_, _, rfl, e, List.mem_cons_self, l1⟩
end
end Bk

namespace Bk
open PySem PySem.Spec PySem.Calls PyProof.Rows L2
/-! ## 31. own exceptions made with keywords, as values -/
section
variable {M : Model} {prog : Program} {w : World} {A : Around} {E : Value → Shared → Prop} {R : Result → Shared → Prop} {h : Heap} {g : Array GenState} {d : Drawn} {t : Nat} {os : OsState}
variable {nm q : Str} {C N : Addr} {bs bm bmB : List Value} {hdct : Bool} {sn : List Str} {sub : List Value} {ab : Bool} {col : Option Bool} {dd : Option Addr} {k0 k1 k2 k3 k5 : Option Value} {B newId i0 IB initId : String} {rest : List Value}
variable {kw : List (Str × Value)}
theorem checkTypeK {Q : Unit → Shared → Prop} (hC : h.get? C = some (excClassObj nm q C N bs bm hdct sn sub ab col dd k0 k1 k2 k3 k5 newId)) (hq : Q () ⟨h, g, d, t, os⟩) : wpAny M A (checkBuiltinCall "type.__call__" ⟨.ref C :: rest, kw⟩) Q E ⟨h, g, d, t, os⟩ := by
  have f3 := tc_sub
  have hT : (⟨h, g, d, t, os⟩ : Shared).TypeIs (.ref C) "type" := ⟨_, hC, rfl⟩
  simp only [checkBuiltinCall, tc_kind, tc_split]
  repeat (any_goals (first | assumption | with_reducible refine wpAny_loadPart_at hC ?_ | with_reducible refine wpAny_onRaise ?_ | with_reducible refine wpAny_map ?_ | wp_step))
theorem checkNewK (F : ExcBaseFacts B newId i0 bmB) (hB : bm.contains (.type B) = true) {Q : Unit → Shared → Prop} (hC : h.get? C = some (excClassObj nm q C N bs bm hdct sn sub ab col dd k0 k1 k2 k3 k5 newId)) (hq : Q () ⟨h, g, d, t, os⟩) :
    wpAny M A (checkBuiltinCall newId ⟨.ref C :: rest, kw⟩) Q E ⟨h, g, d, t, os⟩ := by
  have cB : (Value.ref C :: bm).contains (.type B) = true := by rw [List.contains_cons, hB, Bool.or_true]
  have star := F.noStar
  simp only [checkBuiltinCall, F.newKind, F.newSplit, F.newRow]
  repeat (first | refine wpAny_loadPart_at hC ?_ | (refine wpAny_isSubtype_exc hC ?_; rw [cB]) | refine wpAny_staticBase_exc hC ?_ | refine wpAny_madeBy_exc hC ?_ | simp only [bne_self_eq_false, Bool.false_eq_true, if_false] | wp_step)
  exact hq
theorem newK (F : ExcBaseFacts B newId i0 bmB) (hB : bm.contains (.type B) = true) (hA : bm.contains (.type "AttributeError") = false) (hN : bm.contains (.type "NameError") = false) (hC : h.get? C = some (excClassObj nm q C N bs bm hdct sn sub ab col dd k0 k1 k2 k3 k5 newId)) (hrest : rest.length ≤ sizeLine)
    (hq : R (.ok (.ret (.ref (h.objs.size + 1)))) ⟨(h.push (PySem.W.kdv_tup rest)).push (PySem.HandSPX.excO C h.objs.size), g, d, t, os⟩) : codeAny (model prog w) A (.builtin newId ⟨.ref C :: rest, kw⟩) R ⟨h, g, d, t, os⟩ := by
  have hends := F.ends
  have cB : (Value.ref C :: bm).contains (.type B) = true := by rw [List.contains_cons, hB, Bool.or_true]
  have cA : (Value.ref C :: bm).contains (.type "AttributeError") = false := by rw [List.contains_cons, hA]; rfl
  have cN : (Value.ref C :: bm).contains (.type "NameError") = false := by rw [List.contains_cons, hN]; rfl
  refine codeAny_builtinAt F.entry ?_
  unfold Builtin.«BaseException.__new__»
  refine PySem.wpAt_bind ?_
  show PySem.wpAt _ _ _ (stack >>= _) _ _ _
  refine PySem.wpAt_bind (PySem.wpAt_stack fun p below => PySem.wpAt_of_wpAny ?_)
  wp_walk
  refine PySem.wpAt_of_wpAny ?_
  rw [F.owner]
  repeat (first | with_reducible refine wpAny_madeHere_exc F.canon hC ?_ | with_reducible refine wpAny_loadPart_at hC ?_ | (with_reducible refine wpAny_isSubtype_exc hC ?_; first | rw [cB] | rw [cA] | rw [cN]) | wp_step)
  show R _ _
  rw [Heap.size_push]
  exact hq
theorem typeCallK (F : ExcBaseFacts B newId i0 bmB) (hB : bm.contains (.type B) = true) (hA : bm.contains (.type "AttributeError") = false) (hN : bm.contains (.type "NameError") = false) {fI : Addr} {Q : Fin → Shared → Prop} (hC : h.get? C = some (excClassObj nm q C N bs bm hdct sn sub ab col dd k0 k1 k2 k3 k5 newId))
    (hi : PySem.W.Looks (model prog w) h (typeLookup (.ref C) "__init__") (some (.ref fI))) (hb : ∀ self, PySem.W.Looks (model prog w) h (bindSpecial (.ref fI) self) (.ref fI, [self])) (hrest : rest.length ≤ sizeLine)
    (hq : codeAny (model prog w) A (.call (.ref fI) ⟨.ref (h.objs.size + 1) :: rest, kw⟩) (fun r s' => match r with | .ok (.ret v) => v = .none ∧ Q (.done (.ret (.ref (h.objs.size + 1)))) s' | .ok _ => False | .error e => E e s') ⟨(h.push (PySem.W.kdv_tup rest)).push (PySem.HandSPX.excO C h.objs.size), g, d, t, os⟩) :
    wpAny (model prog w) A (Builtin.«type.__call__» ⟨.ref C :: rest, kw⟩) Q E ⟨h, g, d, t, os⟩ := by
  repeat (first | with_reducible refine wpAny_loadPart_at hC ?_ | with_reducible refine wpAny_madeBy_exc hC ?_ | wp_step)
  refine codeAny_call_builtin_code (Code.quiet_builtin _ F.quiet) (checkNewK F hB hC ?_)
  refine newK F hB hA hN hC hrest ?_
  show wpAny _ _ _ _ _ _
  have k : ∀ c o, h.get? c = some o → ((h.push (PySem.W.kdv_tup rest)).push (PySem.HandSPX.excO C h.objs.size)).get? c = some o := fun c o e => Heap.get?_push_of_some _ (Heap.get?_push_of_some _ e)
  have hC1 := k _ _ hC
  have hget : ((h.push (PySem.W.kdv_tup rest)).push (PySem.HandSPX.excO C h.objs.size)).get? (h.objs.size + 1) = some (PySem.HandSPX.excO C h.objs.size) := by heap_get
  have cC : (Value.ref C :: bm).contains (.ref C) = true := by simp
  have i1 := hi.keeps k
  have b1 := (hb (.ref (h.objs.size + 1))).keeps k
  unfold isInstance
  repeat (first | with_reducible refine wpAny_loadPart_at hget ?_ | (with_reducible refine wpAny_isSubtype_exc hC1 ?_; rw [cC]) | wp_step)
  show wpAny _ _ (typeLookup (.ref C) _) _ _ _
  refine i1.at (wpAny_holding (wpAny_bind (b1.at (wpAny_bind (wpAny_call (codeAny_mono hq fun r s' z => ?_))))))
  rcases r with e | (v | _ | _ | _) <;> first | exact z | exact z.elim | skip
  obtain ⟨rfl, z⟩ := z
  first
    | exact wpAny_pure (wpAny_pure z)
    | (wp_walk; exact z)
theorem callK (F : ExcBaseFacts B newId i0 bmB) (hB : bm.contains (.type B) = true) (hA : bm.contains (.type "AttributeError") = false) (hN : bm.contains (.type "NameError") = false) {fI : Addr} (hC : h.get? C = some (excClassObj nm q C N bs bm hdct sn sub ab col dd k0 k1 k2 k3 k5 newId))
    (hi : PySem.W.Looks (model prog w) h (typeLookup (.ref C) "__init__") (some (.ref fI))) (hb : ∀ self, PySem.W.Looks (model prog w) h (bindSpecial (.ref fI) self) (.ref fI, [self])) (hrest : rest.length ≤ sizeLine)
    (hq : codeAny (model prog w) (A.under (.builtin "type.__call__" ⟨.ref C :: rest, kw⟩)) (.call (.ref fI) ⟨.ref (h.objs.size + 1) :: rest, kw⟩) (PySem.W.InitBack (h.objs.size + 1) R) ⟨(h.push (PySem.W.kdv_tup rest)).push (PySem.HandSPX.excO C h.objs.size), g, d, t, os⟩) :
    codeAny (model prog w) A (.call (.ref C) ⟨rest, kw⟩) R ⟨h, g, d, t, os⟩ := by
  have f1 := PySem.tc_lookup
  have f2 := PySem.tc_bind (.ref C)
  have hTy : (⟨h, g, d, t, os⟩ : Shared).TypeIs (.ref C) "type" := ⟨_, hC, rfl⟩
  refine codeAny_of_tree ?_
  show wpAny _ _ (callAny (.ref C) _) _ _ _
  repeat (any_goals (first | assumption | with_reducible refine wpAny_loadPart_at hC ?_ | wp_step))
  refine ⟨rfl, codeAny_call_builtin_at (Code.quiet_builtin _ (by decide +kernel)) entry_typeCall (checkTypeK hC (typeCallK F hB hA hN hC hi hb hrest ?_))⟩
  refine codeAny_mono hq fun r s' z => ?_
  rcases r with e | (v | _ | _ | _) <;> exact z
end
end Bk

namespace Bk
open PySem PySem.Spec PySem.Calls PyProof.Rows L2
/-! ## 32. own exceptions as values -/
section
open Builtin Builtin.ObjectAttr
variable {prog : Program} {w : World} {A : Around} {E : Value → Shared → Prop} {R : Result → Shared → Prop} {hp : Heap} {g : Array GenState} {d : Drawn} {t : Nat} {os : OsState}
/-- a further field -/
theorem osaT2 {K : PySem.W.Frag} {b : Bs} {name : Str} {tk : Tok} {v : Value} {x C dx : Addr} {fv : Array Value} {cd : ClassData} {m0 : Str → Option Value} {nl : List Str} (X : K.In hp) (hx : hp.get? x = some { cls := .ref C, dict := some dx, data := .fields fv }) (hns : hp.Ns1 dx m0) (hw : Within m0 nl) (hz : nl.length ≤ 1000) (hcd : PySem.W.clsIn K C = some cd)
    (hm : Tail b cd.mro) (hh : cd.hasDict = true) (ha : PySem.W.findIn K (.ref C) name = some none) (hq : ∀ h' tk', (∀ c o, c ≠ dx → hp.get? c = some o → h'.get? c = some o) → h'.Ns1 dx (fun y => if y = name then some v else m0 y) → R (.ok (.ret .none)) ⟨h', g, d, tk', os⟩) :
    codeAny (model prog w) A (.call (.builtin "object.__setattr__") ⟨[.ref x, .str name tk, v], []⟩) R ⟨hp, g, d, t, os⟩ := by
  obtain ⟨oD, _, _, hoD, _, _⟩ := hns.count hw
  have I : PySem.W.InstAt hp x { cls := .ref C, dict := some dx, data := .fields fv } C (some oD) := ⟨hx, rfl, rfl, hoD⟩
  have SF := F.store_object
  have hob : cd.mro.contains (.type "object") = true := (hm.has "object").trans b.obj
  have isO : PySem.W.Looks (model prog w) hp (isInstance (.ref x) (.type "object")) true :=
    I.type.andThen (PySem.W.looks_mroIn X (by unfold PySem.W.mroIn; rw [hcd, Option.bind_some, if_neg (by rw [hm.ne]; decide), hob]))
  have lineL : PySem.W.Looks (model prog w) hp (mroOf (.ref C)) cd.mro := (PySem.W.looks_clsIn X hcd).andThen .now
  have noTaker : PySem.W.Looks (model prog w) hp (storeTaker? none) none := .now
  have clsL : PySem.W.Looks (model prog w) hp (classData C) cd := PySem.W.looks_clsIn X hcd
  refine codeAny_call_builtin SF.slot.plain SF.entry (@PySem.W.check_slot (model prog w) _ _ ⟨hp, g, d, t, os⟩ "object.__setattr__" "object" "__setattr__" (.ref x) [.str name tk, v] [] _ SF.kind SF.split isO (SF.args (.ref x) (.str name tk) v) ?_)
  rw [PySem.W.osa_eq, refuse_eq]
  refine wpAny_bind (wpAny_bind (I.type.at (wpAny_bind (lineL.at ?_))))
  rw [hm.pass]
  refine wpAny_pure (wpAny_bind (I.type.at (wpAny_bind ((PySem.W.looks_findIn X ha).at (wpAny_bind (noTaker.at ?_))))))
  show wpAny _ _ (storeInOwnDict (.ref x) (.ref C) (.str name tk) name v false) _ _ _
  obtain ⟨nm, bs, mro, ns, qn, hd, sn, sb, ab, col, del⟩ := cd
  dsimp only at hh
  subst hh
  unfold storeInOwnDict ownDictForStores
  repeat (first | with_reducible refine PySem.OEX.store_in_old hns hw hz ?_ | with_reducible refine wpAny_loadPart_at hx ?_ | with_reducible refine clsL.at ?_ | wp_step)
  exact fun h' tk' hn' hs => hq h' tk' (fun c o hc ho => (hs.2 c hc).trans ho) hn'
end
section
variable {X : Cx} {pins : List (Addr × Obj)} {σ : L2.St} {H : Hp} {s : Shared} {a C dx : Addr} {f : Str} {y : V} {u : Value} {b : Bs} {fs : List (Str × V)} {Q : Unit → Shared → Prop} {E : Value → Shared → Prop} {A : Around}
theorem ost_oldT (T : OexT X.K b C) (I : Inv X pins σ H s) (e : H a = some (exo a C (some dx))) (ed : H dx = some (exd dx fs)) (hl : fs.length ≤ 900) (hno : PySem.W.findIn X.K (.ref C) f = some none) (ry : RelV y u)
    (h : ∀ s', Inv X pins σ (upd H dx (exd dx ((f, y) :: fs))) s' → Q () s') : wpAny (model X.prog X.w) A (setAttr (.ref a) f u) Q E s := by
  obtain ⟨nm, q, N, bs, bm, sn, sub, ab, col, dd, k0, k1, k2, k3, k5, hC, hbm⟩ := T.cls
  obtain ⟨t1, ho⟩ := exo_at I.hok e
  obtain ⟨mA, hns, rel⟩ := exd_at I.hok ed
  have hw := within_of rel
  obtain ⟨hp, g, d, t, os⟩ := s
  obtain ⟨oD, _, _, hoD, _, _⟩ := hns.count hw
  have hcl : PySem.W.clsIn X.K C = some { name := nm, bases := bs, mro := .ref C :: bm, ns := N, qualname := q, hasDict := true, slotNames := sn, subclasses := sub, abstract := ab, collection := col, hasDel := false } := by
    unfold PySem.W.clsIn
    rw [hC] <;> rfl
  refine PySem.W.set_plain I.kIn (ox := { cls := .ref C, dict := some dx, data := .fields #[.ref t1, .none, .none, .none, .bool false, .none] }) (od := some oD) ⟨ho, rfl, rfl, hoD⟩ T.sa ?_
  refine osaT2 I.kIn ho hns hw (by rw [List.length_map]; omega) hcl (.own C hbm) rfl hno fun h' tk' k hn => ?_
  have hd : ∃ o, h'.get? dx = some o := by
    obtain ⟨o, _, _, e', _⟩ := hn
    exact ⟨o, e'⟩
  exact h _ (I.write (t' := tk') (x := dx) (e := dx) (o := exd dx ((f, y) :: fs)) (by rw [ed]; exact True.intro) (.inl rfl) k hd (exd_ok hn (relO_put ry rel)))
end
/-- self.f = e, a further one -/
def tOsO (K : PySem.W.Frag) (f : Str) (to te : TE) : TS := fun D σ H => te σ H fun y H1 => to σ H1 fun x H2 => ∃ (b : Bs) (a C dx : Addr) (fs : List (Str × V)), x = .ref a ∧ OexT K b C ∧ PySem.W.findIn K (.ref C) f = some none ∧
  H2 a = some (exo a C (some dx)) ∧ H2 dx = some (exd dx fs) ∧ fs.length ≤ 900 ∧ D.nx σ (upd H2 dx (exd dx ((f, y) :: fs)))
theorem ps_osO {X : Cx} {o e : Expr} {to te : TE} {f : Str} {p' pos : Pos} (ho : PE X o to) (he : PE X e te) (hs : swapsWith e (some (.Attribute o f p')) pos.line X.env = pure false := by rfl) : PS X (.Assign [.Attribute o f p'] e pos) (tOsO X.K f to te) := by
  refine ⟨fun pins s σ H D I h => plainObj_wpAny_Assign_Attribute (thn (he.run pins s σ H _ I h) fun v s1 ⟨y, H1, I1, r1, q1⟩ => thn (ho.run pins s1 σ H1 _ I1 q1) fun u s2 ⟨x, H2, I2, r2, b, a, C, dx, fs, ex, T, hno, ea, ed, hl, q⟩ => ?_) hs⟩
  subst ex
  obtain rfl : u = Value.ref a := r2
  exact ost_oldT T I2 ea ed hl hno r1 fun s' J => ⟨σ, _, J, q⟩
/-- C(..), C an own exception class: a value -/
structure CalO (P : Program) (w : World) (K : PySem.W.Frag) (mg : Str → Option Value) (base : Heap) (k n : Nat) (ks : List Str) (C : Addr) (x : Str) (sp : Sp) (gV : List V → List V → List V) : Prop where
  ex : ∃ (b : Bs) (fI : Addr) (fd : FuncData) (ps : List Str) (g : List Value → List Value → List Value), OexT K b C ∧ PySem.W.findIn K (.ref C) "__init__" = some (some (.ref fI)) ∧ PySem.W.typeIn K (.ref fI) = some (.type "function") ∧ FnOk P w K mg base CX0 k fI fd ps sp ∧ KBn K fd ps (n + 1) ks g gV ∧ mg x = some (.ref C)
theorem kbn_of {K : PySem.W.Frag} {fd : FuncData} {ps : List Str} {m : Nat} (b : Binds K fd ps []) (h : ps.length = m) : KBn K fd ps m [] (fun us _ => us) (fun vs _ => vs) :=
  ⟨fun s us ws X l1 l2 => by
    have z := b s us X (by rw [List.append_nil, l1, h])
    rw [List.append_nil] at z
    exact z, fun r1 _ => r1⟩
def tMkO1 (C : Addr) (n m : Nat) (sp : Sp) (gV : List V → List V → List V) (t tk : TA) : TE := fun σ H Q => t σ H fun vs H1 => tk σ H1 fun zs H2 => vs.length = n ∧ zs.length = m ∧ n ≤ 1000 ∧ ∀ a, H2 a = none →
  sp (gV (.ref a :: vs) zs) (upd H2 a (exo a C none)) (fun v H3 => v = .non ∧ Q (.ref a) H3) (fun _ _ _ => False)
section
variable {X : Cx} {k j n : Nat} {ks : List Str} {C : Addr} {x : Str} {sp : Sp} {gV : List V → List V → List V} {t tk : TA} {e : Expr} {es : List Expr} {kws : List Keyword} {p pos : Pos}
theorem run_oeK {b : Bs} {fI : Addr} {fd : FuncData} {ps : List Str} {g : List Value → List Value → List Value} {pins : List (Addr × Obj)} {σ : L2.St} {H : Hp} {s : Shared} {Q : VK} {us ws : List Value} {vs zs : List V} (T : OexT X.K b C) (iC : PySem.W.findIn X.K (.ref C) "__init__" = some (some (.ref fI))) (tI : PySem.W.typeIn X.K (.ref fI) = some (.type "function"))
    (F1 : FnOk X.prog X.w X.K X.mg X.base CX0 k fI fd ps sp) (hr : Room (k + 1) X.A) (hb : KBn X.K fd ps (n + 1) ks g gV) (I1 : Inv X pins σ H s) (r1 : Vals vs us) (rz : Vals zs ws) (l1 : vs.length = n) (l2 : zs.length = ks.length) (hn : n ≤ 1000)
    (q1 : ∀ a, H a = none → sp (gV (.ref a :: vs) zs) (upd H a (exo a C none)) (fun v H3 => v = .non ∧ Q (.ref a) H3) (fun _ _ _ => False)) : wpAny (model X.prog X.w) X.A (call (.ref C) us (ks.zip ws)) (EP X pins σ Q) X.xe s := by
  obtain ⟨nm, q, N, bs, bm, sn, sub, ab, col, dd, k0, k1, k2, k3, k5, hC, hbm⟩ := T.cls
  obtain ⟨hp, g1, dr, tk, os⟩ := s
  have hsz : hp.objs.size ≤ hp.objs.size + 1 := Nat.le_succ _
  have hq := q1 (hp.objs.size + 1) (I1.hok.fresh hsz)
  have hget : ((hp.push (PySem.W.kdv_tup us)).push (PySem.HandSPX.excO C hp.objs.size)).get? (hp.objs.size + 1) = some (PySem.HandSPX.excO C hp.objs.size) := by heap_get
  have kk : ∀ c o, hp.get? c = some o → ((hp.push (PySem.W.kdv_tup us)).push (PySem.HandSPX.excO C hp.objs.size)).get? c = some o := fun c o z => Heap.get?_push_of_some _ (Heap.get?_push_of_some _ z)
  have I2 : Inv X pins σ (upd H (hp.objs.size + 1) (exo (hp.objs.size + 1) C none)) ⟨(hp.push (PySem.W.kdv_tup us)).push (PySem.HandSPX.excO C hp.objs.size), g1, dr, tk, os⟩ :=
    I1.laid (t' := tk) (a := hp.objs.size + 1) (o := exo (hp.objs.size + 1) C none) (h' := (hp.push (PySem.W.kdv_tup us)).push (PySem.HandSPX.excO C hp.objs.size)) kk hsz (exo_ok hget)
  have rr1 : Vals (V.ref (hp.objs.size + 1) :: vs) (Value.ref (hp.objs.size + 1) :: us) := .cons rfl r1
  have e1 : (Value.ref (hp.objs.size + 1) :: us).length = n + 1 := rr1.length.symm.trans (congrArg Nat.succ l1)
  have e2 : ws.length = ks.length := rz.length.symm.trans l2
  have hus : us.length ≤ sizeLine := by rw [← Paired.length r1, l1, sizeLine_eq]; omega
  obtain ⟨i0, bmB, bf⟩ := b.f
  refine wpAny_call (callK bf ((hbm.has _).trans b.hB) ((hbm.has _).trans b.hA) ((hbm.has _).trans b.hN) (I1.kIn _ _ hC) (PySem.W.looks_findIn I1.kIn iC) (fun self => PySem.W.bind_fn I1.kIn self tI) hus
    (codeAny_mono (F1.run _ X.stack _ _ ⟨Value.ref (hp.objs.size + 1) :: us, ks.zip ws⟩ (g (Value.ref (hp.objs.size + 1) :: us) ws) _ _ (fun _ _ _ => False) (hr.make C us (ks.zip ws)) (I2.env0.make C us (ks.zip ws)) (hb.to _ (Value.ref (hp.objs.size + 1) :: us) ws I2.kIn e1 e2) (hb.rel rr1 rz) hq) fun r s' hq' => ?_))
  match r, hq' with
  | .error er, hq' => exact (hq' : False).elim
  | .ok (.ret u), hq' =>
    obtain ⟨v, H2, I3, rv, ev, q2⟩ := I2.after hq'
    subst ev
    exact ⟨rv, .ref (hp.objs.size + 1), H2, I3, rfl, q2⟩
theorem pe_oeP (c : CalO X.prog X.w X.K X.mg X.base k n [] C x sp gV) (hr : Room j X.A) (hk : k + 1 ≤ j) (hg : Gl X x) (ha : PA X (e :: es) t)
    (hdb : (x == ("__debug__" : Str)) = false := by decide) (he : starEach (e :: es) X.env = (false, eval e X.env) :: starEach es X.env := by rfl) (hpl : (backTo pos (starEach es X.env)).any (·.1) = false := by rfl) :
    PE X (.Call (.Name x p) (e :: es) [] pos) (tMkO1 C n 0 sp gV t tNil) := by
  obtain ⟨b, fI, fd, ps, g, T, iC, tI, F1, hb, hm⟩ := c.ex
  refine ⟨fun pins s σ H Q I h => ?_⟩
  refine wpAny_Call_Name_kw (ld_glob I hg hm ?_ hdb)
  refine PySem.W.callWith_K (h₀ := X.base) I.ok.mod.kin T.kC (thn (ha.run pos pins s σ H _ I h) fun us s1 ⟨vs, H1, I1, r1, l1, l2, hn, q1⟩ => ⟨I1.kIn, ?_⟩) he hpl
  exact run_oeK (ws := []) (zs := []) T iC tI F1 (hr.mono hk) hb I1 r1 .nil l1 rfl hn q1
theorem pe_oe0 (c : CalO X.prog X.w X.K X.mg X.base k 0 [] C x sp gV) (hr : Room j X.A) (hk : k + 1 ≤ j) (hg : Gl X x) (hdb : (x == ("__debug__" : Str)) = false := by decide) :
    PE X (.Call (.Name x p) [] [] pos) (tMkO1 C 0 0 sp gV tNil tNil) := by
  obtain ⟨b, fI, fd, ps, g, T, iC, tI, F1, hb, hm⟩ := c.ex
  refine ⟨fun pins s σ H Q I h => ?_⟩
  obtain ⟨_, _, hn, q1⟩ := h
  refine wpAny_Call_Name_kw (ld_glob I hg hm ?_ hdb)
  exact PySem.W.callWith_K0 I.kIn T.kC (run_oeK (us := []) (vs := []) (ws := []) (zs := []) T iC tI F1 (hr.mono hk) hb I .nil .nil rfl rfl hn q1)
theorem pe_oeK (c : CalO X.prog X.w X.K X.mg X.base k 0 ks C x sp gV) (hr : Room j X.A) (hk : k + 1 ≤ j) (hg : Gl X x) (hkw : PK X kws tk)
    (hall : (backToKw pos (keywordEach kws X.env)).all (·.1.isSome) = true := by rfl) (hks : (backToKw pos (keywordEach kws X.env)).filterMap (·.1) = ks := by rfl)
    (hdb : (x == ("__debug__" : Str)) = false := by decide) (hpl : ((backTo pos (starEach [] X.env)).any (·.1) || (backToKw pos (keywordEach kws X.env)).any (·.1.isNone)) = false := by rfl) :
    PE X (.Call (.Name x p) [] kws pos) (tMkO1 C 0 ks.length sp gV tNil tk) := by
  obtain ⟨b, fI, fd, ps, g, T, iC, tI, F1, hb, hm⟩ := c.ex
  refine ⟨fun pins s σ H Q I h => ?_⟩
  refine wpAny_Call_Name_kw (ld_glob I hg hm ?_ hdb)
  refine PySem.W.callWith_KW0 (h₀ := X.base) I.ok.mod.kin T.kC hall ?_ hpl
  refine thn (hkw.run pos pins s σ H _ I h) fun ws s2 ⟨zs, H2, I2, rz, _, l2, hn, q2⟩ => ⟨I2.kIn, ?_⟩
  rw [hks]
  exact run_oeK (us := []) (vs := []) T iC tI F1 (hr.mono hk) hb I2 .nil rz rfl l2 hn q2
end
section
variable {σ : L2.St} {H : Hp} {Q : VK} {C : Addr} {n m : Nat} {sp : Sp} {gV : List V → List V → List V} {t tk : TA}
theorem r_mkO1 (q : t σ H fun vs H1 => tk σ H1 fun zs H2 => vs.length = n ∧ zs.length = m ∧ n ≤ 1000 ∧ ∀ a, H2 a = none → sp (gV (.ref a :: vs) zs) (upd H2 a (exo a C none)) (fun v H3 => v = .non ∧ Q (.ref a) H3) (fun _ _ _ => False)) : tMkO1 C n m sp gV t tk σ H Q := q
end
/-- at a: an exception of the class at D; its own dict, if it has one, holds fs -/
def XVo (H : Hp) (a D : Addr) (d : Option Addr) (fs : List (Str × V)) : Prop := H a = some (exo a D d) ∧ match d with
  | none => fs = []
  | some dx => H dx = some (exd dx fs)
def rIsV (K : PySem.W.Frag) : List V → Hp → VK → Prop := fun xs H Q => ∃ (a D : Addr) (d : Option Addr) (fs : List (Str × V)) (c : V) (u : Value) (b : Bool), xs = [.ref a, c] ∧ XVo H a D d fs ∧ ExcC K D ∧ ClsV c u ∧ PySem.W.kitOne K (.ref D) u = some b ∧ Q (.bl b) H
theorem call_isV {X : Cx} : CallR X (.builtin "isinstance") (rIsV X.K) := by
  intro pins s σ H xs us Q I r h
  obtain ⟨a, D, d, fs, c, u, b, rfl, xv, C, k, e, q⟩ := h
  obtain ⟨u1, u2, rfl, r1, r2⟩ := vals2 r
  have e2 := k.eq r2
  subst e2
  obtain rfl : u1 = Value.ref a := r1
  obtain ⟨ho, hd⟩ := xv
  match d, ho, hd with
  | none, ho, _ =>
    obtain ⟨t1, g⟩ := exo_at I.hok ho
    exact PySem.W.kia_one (PySem.W.bk_kitx (od := none) C.hg C.hk C.hs C.hd C.ha C.hn C.ht C.hm) I.kIn ⟨g, rfl, rfl, trivial⟩ e (fun z => nomatch z) fun tk => ⟨.bl b, H, I.tok tk, rfl, q⟩
  | some dx, ho, hd =>
    obtain ⟨ox, od, mA, J, _, _⟩ := xv_inst I (show XV H a D dx fs from ⟨ho, hd⟩)
    exact PySem.W.kia_one (PySem.W.bk_kitx (ox := ox) (od := some od) C.hg C.hk C.hs C.hd C.ha C.hn C.ht C.hm) I.kIn J e (fun z => nomatch z) fun tk => ⟨.bl b, H, I.tok tk, rfl, q⟩
def tXv (K : PySem.W.Frag) (f : Str) (te : TE) : TE := fun σ H Q => te σ H fun x H1 => ∃ (a D dx : Addr) (fs : List (Str × V)) (v : V), x = .ref a ∧ XV H1 a D dx fs ∧ XfC K D ∧ PySem.W.findIn K (.ref D) f = some none ∧ fs.lookup f = some v ∧ Q v H1
theorem pe_xv {X : Cx} {e : Expr} {te : TE} {pos : Pos} {n : Str} (he : PE X e te) (hb : attributeBase e n X.env (eval e X.env) = eval e X.env := by rfl) : PE X (.Attribute e n pos) (tXv X.K n te) := by
  refine ⟨fun pins s σ H Q I h => attr_of hb (thn (he.run pins s σ H _ I h) fun u s1 ⟨x, H1, I1, rx, a, D, dx, fs, v, ex, xv, T, hno, l, q⟩ => ?_)⟩
  subst ex
  obtain rfl : u = Value.ref a := rx
  obtain ⟨ox, od, mA, J, hl, hr⟩ := xv_inst I1 xv
  obtain ⟨u, hu, ru⟩ := RelO.some_of (v := v) (o := mA n) (by rw [← l]; exact hr n)
  exact HandSPX.exc_get I1.kIn J T.ga T.gg T.exC (PySem.W.findObj_own T.hdC hno rfl (by rw [hl, hu])) (handed_of ru) ⟨v, H1, I1.tok _, ru, q⟩
theorem r_dispV {σ : L2.St} {H : Hp} {Q : VK} {k : Key} {v : V} {i : Nat} (hv : σ[i]? = some (some v)) (q : ∀ p H', H p = none → Same H H' → H' p = some (.dK [(k, v)]) → Q (.ref p) H') : tDisp [(tC (kV k), tVar i)] σ H Q := by
  intro p np
  refine ⟨v, hv, upd_same, [(k, v)], rfl, (by show 1 ≤ 15; decide), ?_⟩
  refine q p _ np (fun b o e => ?_) upd_same
  rw [upd_ne (ne_of_none e np), upd_ne (ne_of_none e np)]
  exact e
end Bk

namespace Bk
open PySem PySem.Spec PyProof.Rows L2
/-! ## 33. l.remove(x) of data -/
def rRemD (K : PySem.W.Frag) : V → List V → Hp → VK → Prop := fun x vs H Q => ∃ (l : Addr) (xs : List V) (ds : List PyData) (y : V) (d : PyData) (j : Nat), x = .ref l ∧ vs = [y] ∧ H l = some (.lst xs) ∧ DpAll K H xs ds ∧ Dp K H y d ∧
  PyData.plainAll ds = true ∧ d.plain = true ∧ d.depth ≤ 60 ∧ SeqAt.dataPlace ds d = some j ∧ Q .non (upd H l (.lst (xs.eraseIdx j)))
theorem mt_removeD {X : Cx} (hu : X.A.units + 64 < cLine) : MtM X "list.remove" (rRemD X.K) := by
  intro pins s σ H x vs v us Q I rx rv h
  obtain ⟨l, xs, ds, y, d, j, rfl, rfl, hH, hxs, hy, pa, pd, hd, hp, q⟩ := h
  cases rx
  obtain ⟨u, rfl, ru⟩ := rv.one
  obtain ⟨z, its, n, r, hl, e⟩ := I.lstM hH
  obtain ⟨as, h4⟩ := Dp.readsAll I ds _ its hxs r
  obtain ⟨bs, r1⟩ := Dp.reads I d y u hy ru
  have hpl : s.heap.IsList l its.toArray := ⟨_, e, rfl, n, rfl⟩
  refine SeqAt.remove_list_data hpl (show ReadsAll s.heap its.toArray.toList ds as from h4) r1 pa pd ?_ hp (by rw [List.size_toArray, ← hl]; exact z) ?_
  · have h2 : min (PyData.depthAll ds) d.depth ≤ d.depth := Nat.min_le_right _ _
    omega
  · refine ⟨.non, _, I.lset (t' := s.toks) (its' := its.eraseIdx j) hH e ?_ (r.eraseIdx j) ?_, rfl, q⟩
    · show its.toArray.eraseIdxIfInBounds j = (its.eraseIdx j).toArray
      rw [List.eraseIdxIfInBounds_toArray]
    · have := List.length_eraseIdx_le xs j
      omega
end Bk

namespace Bk
open PySem PySem.Spec PyProof.Rows L2
/-! ## 34. a list of asks, tuples of a name and a number -/
def askD (p : Str × Nat) : PyData := .tuple [.str p.1, .int p.2]
structure AL (H : Hp) (l : Addr) (ts : List Addr) (as : List (Str × Nat)) : Prop where
  at_ : H l = some (.lst (ts.map V.ref))
  len : ts.length = as.length
  row : ∀ (k : Nat) (t : Addr) (p : Str × Nat), ts[k]? = some t → as[k]? = some p → H t = some (.tup [.str p.1, .int p.2])
theorem eqv_ask (q p : Str × Nat) : PyData.eqv (askD q) (askD p) = decide (q = p) := by
  obtain ⟨a, i⟩ := q
  obtain ⟨b, j⟩ := p
  simp only [askD, PyData.eqv, PyData.eqvAll, Bool.and_true]
  by_cases h : a = b
  · subst h
    by_cases h2 : i = j
    · subst h2
      rw [beq_self_eq_true, beq_self_eq_true, decide_eq_true rfl]
      rfl
    · rw [beq_self_eq_true, decide_eq_false (fun z => h2 (Prod.mk.inj z).2), Bool.true_and]
      exact beq_eq_false_iff_ne.mpr fun z => h2 (by omega)
  · rw [decide_eq_false (fun z => h (Prod.mk.inj z).1), beq_eq_false_iff_ne.mpr h, Bool.false_and]
theorem in_ask (as : List (Str × Nat)) (p : Str × Nat) : ((as.map askD).any fun z => PyData.eqv z (askD p)) = decide (p ∈ as) := by
  rw [List.any_map]
  induction as with
  | nil => exact (decide_eq_false (fun z => nomatch z)).symm
  | cons q r ih =>
    rw [List.any_cons, ih]
    show (PyData.eqv (askD q) (askD p) || _) = _
    rw [eqv_ask]
    by_cases h : q = p
    · subst h
      rw [decide_eq_true rfl, decide_eq_true List.mem_cons_self, Bool.true_or]
    · rw [decide_eq_false h, Bool.false_or]
      exact decide_eq_decide.mpr ⟨List.mem_cons_of_mem _, fun z => (List.mem_cons.mp z).elim (fun w => absurd w.symm h) id⟩
theorem place_ask (as : List (Str × Nat)) (p : Str × Nat) : SeqAt.dataPlace (as.map askD) (askD p) = as.findIdx? (fun q => decide (q = p)) := by
  unfold SeqAt.dataPlace
  rw [List.findIdx?_map]
  congr 1
  funext q
  exact eqv_ask q p
theorem plain_ask (as : List (Str × Nat)) : PyData.plainAll (as.map askD) = true := by
  induction as with
  | nil => rfl
  | cons q r ih => rw [List.map_cons]; simp only [PyData.plainAll, askD, PyData.plain, ih, Bool.and_true]
def asOk (as : List (Str × Nat)) : Prop := ∀ p ∈ as, PyData.strOk p.1 = true
theorem lay_ask {as : List (Str × Nat)} (h : asOk as) : PyData.canLayAll0 (as.map askD) = true ∧ PyData.depthAll (as.map askD) ≤ 1 := by
  induction as with
  | nil => exact ⟨rfl, Nat.zero_le _⟩
  | cons q r ih =>
    have ih := ih fun p hp => h p (List.mem_cons_of_mem _ hp)
    rw [List.map_cons]
    refine ⟨by simp only [PyData.canLayAll0, askD, PyData.canLay0, ih.1, h q List.mem_cons_self, Bool.and_true], ?_⟩
    have h2 := ih.2
    simp only [PyData.depthAll, askD, PyData.depth]
    omega
theorem sh_ask {as : List (Str × Nat)} (ok : asOk as) : SeqAt.shaped (.list (as.map askD)) = true := by
  have h := (lay_ask ok).2
  unfold SeqAt.shaped
  simp only [PyData.canLay0, (lay_ask ok).1, PyData.depth, Bool.true_and, decide_eq_true_eq]
  exact decide_eq_true (Nat.le_trans (Nat.succ_le_succ h) (show 2 ≤ 64 by decide))
theorem sh_ask1 {p : Str × Nat} (h : PyData.strOk p.1 = true) : SeqAt.shaped (askD p) = true := by
  unfold SeqAt.shaped
  simp only [askD, PyData.canLay0, PyData.canLayAll0, PyData.depth, PyData.depthAll, h, Bool.true_and]
  decide
section
variable {K : PySem.W.Frag} {H H' : Hp} {l : Addr} {ts : List Addr} {as : List (Str × Nat)}
theorem dp_ask {t : Addr} {p : Str × Nat} (e : H t = some (.tup [.str p.1, .int p.2])) : Dp K H (.ref t) (askD p) := .tup (sqT e) (.cons (.str _) (.cons (.int _) .nil))
theorem dps_of {ts : List Addr} {as : List (Str × Nat)} (hl : ts.length = as.length) (hr : ∀ (k : Nat) (t : Addr) (p : Str × Nat), ts[k]? = some t → as[k]? = some p → H t = some (.tup [.str p.1, .int p.2])) : DpAll K H (ts.map V.ref) (as.map askD) := by
  induction ts generalizing as with
  | nil =>
    cases as with
    | nil => exact .nil
    | cons _ _ => exact nomatch hl
  | cons t r ih =>
    cases as with
    | nil => exact nomatch hl
    | cons p q =>
      refine .cons (dp_ask (hr 0 t p rfl rfl)) (ih (Nat.succ.inj hl) fun k u v h1 h2 => hr (k + 1) u v h1 h2)
theorem AL.dps (a : AL H l ts as) : DpAll K H (ts.map V.ref) (as.map askD) := dps_of a.len a.row
theorem AL.dp (a : AL H l ts as) : Dp K H (.ref l) (.list (as.map askD)) := .lst (sqL a.at_) a.dps
theorem AL.keep (a : AL H l ts as) (kl : H' l = H l) (kt : ∀ t ∈ ts, H' t = H t) : AL H' l ts as :=
  ⟨by rw [kl]; exact a.at_, a.len, fun k t p h1 h2 => by rw [kt t (List.mem_of_getElem? h1)]; exact a.row k t p h1 h2⟩
theorem AL.same (a : AL H l ts as) (s : Same H H') : AL H' l ts as := ⟨s _ _ a.at_, a.len, fun k t p h1 h2 => s _ _ (a.row k t p h1 h2)⟩
theorem AL.tup (a : AL H l ts as) : ∀ t ∈ ts, ∃ xs, H t = some (.tup xs) := fun t ht => by
  obtain ⟨k, hk⟩ := List.getElem?_of_mem ht
  have h : k < as.length := by rw [← a.len]; exact (List.getElem?_eq_some_iff.mp hk).1
  exact ⟨_, a.row k t _ hk (List.getElem?_eq_getElem h)⟩
/-- x in l -/
theorem AL.mem (a : AL H l ts as) {x : V} {p : Str × Nat} {Q : VK} (ok : asOk as) (hp : PyData.strOk p.1 = true) (h : Dp K H x (askD p)) (q : Q (.bl (decide (p ∈ as))) H) : rInD K x (.ref l) H Q :=
  ⟨_, _, h, a.dp, sh_ask1 hp, sh_ask ok, by rw [in_ask]; exact q⟩
/-- l.append(t) -/
theorem AL.push (a : AL H l ts as) {t : Addr} {p : Str × Nat} (e : H t = some (.tup [.str p.1, .int p.2])) : AL (upd H l (.lst (ts.map V.ref ++ [.ref t]))) l (ts ++ [t]) (as ++ [p]) := by
  have ne : ∀ {u xs}, H u = some (.tup xs) → u ≠ l := fun e z => by rw [z, a.at_] at e; exact nomatch e
  refine ⟨by rw [upd_same, List.map_append]; rfl, by rw [List.length_append, List.length_append, a.len]; rfl, fun k u v h1 h2 => ?_⟩
  by_cases hk : k < ts.length
  · rw [List.getElem?_append_left hk] at h1
    rw [List.getElem?_append_left (by rw [← a.len]; exact hk)] at h2
    have z := a.row k u v h1 h2
    rw [upd_ne (ne z)]
    exact z
  · rw [List.getElem?_append_right (by omega)] at h1
    rw [List.getElem?_append_right (by rw [← a.len]; omega), ← a.len] at h2
    have k0 : k - ts.length = 0 := by
      have := (List.getElem?_eq_some_iff.mp h1).1
      simp at this
      omega
    rw [k0] at h1 h2
    obtain rfl : t = u := Option.some.inj h1
    obtain rfl : p = v := Option.some.inj h2
    rw [upd_ne (ne e)]
    exact e
theorem map_erase {α β : Type} (f : α → β) : ∀ (l : List α) (j : Nat), (l.map f).eraseIdx j = (l.eraseIdx j).map f
  | [], _ => rfl
  | _ :: _, 0 => rfl
  | x :: r, j + 1 => by
    show f x :: (r.map f).eraseIdx j = f x :: (r.eraseIdx j).map f
    rw [map_erase f r j]
/-- l.remove(x) -/
theorem AL.cut (a : AL H l ts as) (j : Nat) : AL (upd H l (.lst ((ts.map V.ref).eraseIdx j))) l (ts.eraseIdx j) (as.eraseIdx j) := by
  have ne : ∀ {u xs}, H u = some (.tup xs) → u ≠ l := fun e z => by rw [z, a.at_] at e; exact nomatch e
  refine ⟨by rw [upd_same, map_erase], by rw [List.length_eraseIdx, List.length_eraseIdx, a.len], fun k u v h1 h2 => ?_⟩
  rw [List.getElem?_eraseIdx] at h1 h2
  split at h1
  · rename_i hk
    rw [if_pos hk] at h2
    have z := a.row k u v h1 h2
    rw [upd_ne (ne z)]
    exact z
  · rename_i hk
    rw [if_neg hk] at h2
    have z := a.row (k + 1) u v h1 h2
    rw [upd_ne (ne z)]
    exact z
end
end Bk

namespace Bk
open PySem PySem.Spec PyProof.Rows L2
/-! ## 34. l.count(x) of data, a text times a number -/
def rCntD (K : PySem.W.Frag) : V → List V → Hp → VK → Prop := fun x vs H Q => ∃ (l : Addr) (xs : List V) (ds : List PyData) (y : V) (d : PyData), x = .ref l ∧ vs = [y] ∧ H l = some (.lst xs) ∧ DpAll K H xs ds ∧ Dp K H y d ∧
  PyData.plainAll ds = true ∧ d.plain = true ∧ d.depth ≤ 60 ∧ Q (.int (ds.countP (fun z => PyData.eqv z d) : Nat)) H
theorem mt_countD {X : Cx} (hu : X.A.units + 64 < cLine) : MtR X "list.count" (rCntD X.K) := by
  intro pins s σ H x vs v us Q I rx rv h
  obtain ⟨l, xs, ds, y, d, rfl, rfl, hH, hxs, hy, pa, pd, hd, q⟩ := h
  cases rx
  obtain ⟨u, rfl, ru⟩ := rv.one
  obtain ⟨z, its, n, r, hl, e⟩ := I.lstM hH
  obtain ⟨as, h4⟩ := Dp.readsAll I ds _ its hxs r
  obtain ⟨bs, r1⟩ := Dp.reads I d y u hy ru
  have hpl : s.heap.IsList l its.toArray := ⟨_, e, rfl, n, rfl⟩
  refine SeqAt.count_list_data hpl (show ReadsAll s.heap its.toArray.toList ds as from h4) r1 pa pd ?_ ?_
  · have h2 : min (PyData.depthAll ds) d.depth ≤ d.depth := Nat.min_le_right _ _
    omega
  · exact ⟨.int (ds.countP (fun z => PyData.eqv z d) : Nat), H, I.tok _, ⟨_, rfl⟩, q⟩
theorem op_mul01 {X : Cx} : OpR X (binaryOp .Mult) (fun x y H Q => ∃ (z : Str) (k : Int), x = .str z ∧ y = .int k ∧ (k = 0 ∨ k = 1) ∧ Q (.str (if k = 0 then Str.empty else z)) H) := by
  intro pins s σ H x y v u Q I rx ry h
  obtain ⟨z, k, rfl, rfl, hk, q⟩ := h
  obtain ⟨t, rfl⟩ := rx
  obtain ⟨t2, rfl⟩ := ry
  rcases hk with rfl | rfl
  · refine P.mul_str (by decide) (fun h => absurd (by decide) h) (fun h => absurd (by decide) h) ?_
    rw [if_pos (by decide)]
    exact ⟨by decide, V.str Str.empty, H, I.tok _, ⟨_, rfl⟩, q⟩
  · refine P.mul_str (by decide) (fun _ h => ?_) (fun _ h => ?_) ?_
    · simp at h
    · simp at h
    · rw [if_neg (by decide), if_pos (by rfl)]
      exact ⟨.str z, H, I, ⟨_, rfl⟩, q⟩
theorem op_eqDK {X : Cx} {K : PySem.W.Frag} (h : X.K = K) (hu : X.A.units + 64 < cLine) : OpR X (compareOp .Eq) (rEqD K) := by
  subst h
  exact op_eqD hu
theorem op_neDK {X : Cx} {K : PySem.W.Frag} (h : X.K = K) (hu : X.A.units + 64 < cLine) : OpR X (compareOp .NotEq) (rNeD K) := by
  subst h
  exact op_neD hu
/-- len of an own object -/
def rLenO (C : Addr) (sp : Sp) : List V → Hp → VK → Prop := fun xs H Q => ∃ (a dx : Addr) (fs : List (Str × V)), xs = [.ref a] ∧ H a = some (.ins C dx fs) ∧ sp [.ref a] H (fun v H' => ∃ n : Nat, v = .int n ∧ (n : Int) < 2 ^ 63 ∧ Q v H') E0
theorem call_lenO {X : Cx} {k j : Nat} {C : Addr} {sp : Sp} (c : CalM X.prog X.w X.K X.mg X.base CX0 k C "__len__" sp) (hr : Room j X.A) (hk : k + 1 ≤ j) : CallR X (.builtin "len") (rLenO C sp) := by
  obtain ⟨f, fd, ps, hm, F, hb⟩ := c.ex
  intro pins s σ H xs us Q I r h
  obtain ⟨a, dx, fs, rfl, e, h⟩ := h
  obtain ⟨u, rfl, ru⟩ := r.one
  obtain rfl : u = Value.ref a := ru
  have w := I.hok a _ e
  unfold L2.ObjOk at w
  obtain ⟨w1, w2, w3, w4, mA, w5, w6, w7⟩ := w
  obtain ⟨m, fr⟩ := I.fr
  obtain ⟨od, hod⟩ : ∃ od, s.heap.get? dx = some od := by
    obtain ⟨es, ep, h1, h2⟩ := w5
    exact ⟨_, h2.1⟩
  refine PySem.W.len_K (C := C) (f := f) (ox := PySem.W.instObj C dx) (od := some od) fr I.ok.mod.kin ⟨w4, rfl, rfl, hod⟩ hm.at_ hm.fn ?_
  have hrr : Room k X.A.in1 := ⟨hr.hd, by have := hr.dp; show X.A.depth + 3 * k + 5 < _; omega, by have := hr.un; show X.A.units + 1 + 16 * k + 200 < _; omega⟩
  have hl : [Value.ref a].length = ps.length := by
    have e1 := F.len _ _ _ _ h
    exact e1
  have bb := hb s [Value.ref a] I.kIn (by rw [List.append_nil]; exact hl)
  rw [List.append_nil] at bb
  refine wpAny_call (codeAny_mono (F.run X.A.in1 X.stack s H ⟨[.ref a], []⟩ [.ref a] [.ref a] _ E0 hrr I.env0.in1 bb (.cons rfl .nil) h) fun rr s3 z => ?_)
  match rr, z with
  | .ok (.ret u), z =>
    obtain ⟨v, H', I3, rv, n, rfl, hn, q⟩ := I.after z
    obtain ⟨t, rfl⟩ := rv
    exact ⟨⟨by omega, hn⟩, V.int n, H', I3.tok _, ⟨_, rfl⟩, q⟩
  | .error u, z => exact z.elim
end Bk

namespace Bk
open PySem PySem.Spec PyProof.Rows L2
/-! ## 35. names, dicts by names -/
def allW (f l : Nat) (z : Str) : Bool := z.cps.toList.all fun c => decide (f ≤ c) && decide (c ≤ l)
def spAllW : Sp := fun vs H Q _ => ∃ (z F L : Str) (f l : Nat), vs = [.str z, .str F, .str L] ∧ F.cps.toList = [f] ∧ L.cps.toList = [l] ∧ z.length ≤ 1000 ∧ ∀ H', Same H H' → Q (.bl (allW f l z)) H'
def nameOk (z : Str) : Bool := decide (1 ≤ z.length ∧ z.length ≤ 8) && allW 97 122 z
def spName (K : PySem.W.Frag) : Sp := fun vs H Q _ => ∃ x : V, vs = [x] ∧ ((∃ z : Str, x = .str z ∧ z.length ≤ 1000 ∧ ∀ H', Same H H' → Q (.bl (nameOk z)) H') ∨ (IsA K H x "str" false ∧ Q (.bl false) H))
theorem str_of_name {x : Str} (h : nameOk x = true) : PyData.strOk x = true := by
  have h2 := (Bool.and_eq_true_iff.mp h).2
  unfold PyData.strOk
  rw [← Array.all_toList]
  refine List.all_eq_true.mpr fun c hc => decide_eq_true ?_
  have := List.all_eq_true.mp h2 c hc
  rw [Bool.and_eq_true] at this
  have := of_decide_eq_true this.2
  omega
theorem len_of_name {x : Str} (h : nameOk x = true) : 1 ≤ x.length ∧ x.length ≤ 8 := of_decide_eq_true (Bool.and_eq_true_iff.mp h).1
theorem nd_le {α : Type} [DecidableEq α] : ∀ {l m : List α}, l.Nodup → (∀ x ∈ l, x ∈ m) → l.length ≤ m.length
  | [], _, _, _ => Nat.zero_le _
  | a :: r, m, h, s => by
    have h2 := List.nodup_cons.mp h
    have z := nd_le (l := r) (m := m.erase a) h2.2 fun x hx => (List.mem_erase_of_ne (fun e => h2.1 (by rw [← e]; exact hx))).mpr (s x (List.mem_cons_of_mem _ hx))
    have ha := s a List.mem_cons_self
    rw [List.length_erase_of_mem ha] at z
    have : 0 < m.length := List.length_pos_of_mem ha
    rw [List.length_cons]
    omega
theorem inV_str {x : Str} {row : List Str} : inV (.str x) (row.map V.str) = decide (x ∈ row) := by
  unfold inV
  rw [List.any_map]
  induction row with
  | nil => exact (decide_eq_false (fun z => nomatch z)).symm
  | cons y r ih =>
    rw [List.any_cons, ih]
    show (decide (_ = _) || _) = _
    by_cases h : x = y
    · subst h
      rw [decide_eq_true rfl, Bool.true_or, decide_eq_true List.mem_cons_self]
    · rw [decide_eq_false (fun z => h (by first | exact z.symm | (injection z with z; first | exact z | exact z.symm))), Bool.false_or]
      exact decide_eq_decide.mpr ⟨List.mem_cons_of_mem _, fun z => (List.mem_cons.mp z).elim (fun w => absurd w h) id⟩
theorem rng_get {α : Type} (d : α) (l : List α) : (List.range l.length).map (fun i => l.getD i d) = l := by
  refine List.ext_getElem (by rw [List.length_map, List.length_range]) fun i h1 h2 => ?_
  rw [List.getElem_map, List.getElem_range, List.getD_eq_getElem?_getD, List.getElem?_eq_getElem h2]
  rfl
theorem rng_fm {α β : Type} (d : α) (l : List α) (f : α → Option β) : (List.range l.length).filterMap (fun i => f (l.getD i d)) = l.filterMap f := by
  conv => rhs; rw [← rng_get d l]
  rw [List.filterMap_map]
  rfl
section
variable {K : PySem.W.Frag} {σ : L2.St} {H : Hp} {Q : VK} {j : Nat} {vs : List Nat} {tt : TT} {te tl : TE} {a : Addr} {xs : List V}
theorem lcLF (p : Nat → Option V) (hv : ∀ QQ : VK, QQ (.ref a) H → tl σ H QQ) (hs : SqL K H a xs) (hl : xs.length ≤ 10000) (hw : ∀ x, wipe ((wipe σ vs).set j (some x)) vs = wipe σ vs)
    (ht : ∀ (i : Nat) (y : V) (H1 : Hp) (Q' : VK) (R' : Hp → Prop), xs[i]? = some y → Same H H1 → (∀ v, p i = some v → ∀ H3, Same H1 H3 → Q' v H3) → (p i = none → ∀ H3, Same H1 H3 → R' H3) →
      tt ((wipe σ vs).set j (some y)) H1 fun b H4 => if b = true then te ((wipe σ vs).set j (some y)) H4 Q' else R' H4)
    (q : ∀ D H', H D = none → Same H H' → H' D = some (.lst ((List.range xs.length).filterMap p)) → Q (.ref D) H') : tLc (iList K tl) (gName j) tt te vs σ H Q := by
  refine hv _ ⟨a, rfl, ⟨xs, hs⟩, fun D hD => ?_⟩
  refine lc_by (g := gName j) (tt := tt) (te := te) (vs := vs) (σ := σ) (Q := Q) walk_list p hD hl (fun _ s => s.seq hs) (fun i x H1 H2 Q' R' hi sm y h1 h2 => ?_) fun H' s e => q D H' hD s e
  obtain ⟨rfl, hx⟩ := y
  exact ⟨hw _, ht i x _ Q' R' hx sm h1 h2⟩
end
theorem units65 {k : Nat} {A : Around} (r : Room k A) : A.units + 65 < cLine := by
  have := r.un
  omega
theorem putF_old {f : Str} {v u : V} : ∀ {fs : List (Str × V)}, fs.lookup f = some u → (putF f v fs).length = fs.length
  | [], h => nomatch h
  | (g, w) :: r, h => by
    unfold putF
    split
    · rfl
    · rename_i hg
      rw [List.lookup_cons] at h
      have hb : (f == g) = false := beq_eq_false_iff_ne.mpr fun z => hg (by first | exact z | exact z.symm)
      rw [hb] at h
      rw [List.length_cons, List.length_cons, putF_old h]
theorem fm_flt {α β : Type} (c : α → Prop) [DecidablePred c] (g : α → β) : ∀ l : List α, l.filterMap (fun z => if c z then none else some (g z)) = (l.filter fun z => decide (¬ c z)).map g
  | [] => rfl
  | a :: r => by
    rw [List.filterMap_cons, List.filter_cons]
    by_cases h : c a
    · rw [if_pos h, decide_eq_false (fun z => z h), fm_flt c g r]
      simp
    · rw [if_neg h, decide_eq_true h, if_pos rfl, List.map_cons, fm_flt c g r]
theorem r_while {c : TT} {tb : TS} {D : Ends} {σ : L2.St} {H : Hp} (W : Nat → L2.St → Hp → Prop) (h0 : ∃ m, W m σ H) (hs : ∀ m σ H, W m σ H → c σ H fun b H1 => if b = true then ∃ N : L2.St → Hp → Prop, (∀ σ' H', N σ' H' → ∃ m', m' < m ∧ W m' σ' H') ∧ tb { D with nx := N, ct := N, bk := D.nx } σ H1 else D.nx σ H1) : tWhile c tb D σ H := ⟨W, h0, hs⟩
theorem units1 {k : Nat} {A : Around} (r : Room k A) : A.units + 1 < cLine := by
  have := r.un
  omega
theorem r_dget {te ti : TE} {σ : L2.St} {H : Hp} {Q : VK} (h : te σ H fun x H1 => ti σ H1 fun y H2 => ∃ (a : Addr) (v : V), x = .ref a ∧ DGet H2 a y (some v) ∧ Q v H2) : tDGet te ti σ H Q := h
section
variable {K : PySem.W.Frag} {σ : L2.St} {H : Hp} {Q : VK} {j : Nat} {vs : List Nat} {tt : TT} {te tl : TE} {d : Addr} {kvs : List (Key × V)}
theorem lcKeys (p : Nat → Option V) (hd : H d = some (.dK kvs)) (hl : kvs.length ≤ 10000) (hw : ∀ x, wipe ((wipe σ vs).set j (some x)) vs = wipe σ vs)
    (hv : ∀ (od : Obj) (QQ : VK), QQ (.ref d) (upd H d (.frz od (.dK kvs))) → tl σ (upd H d (.frz od (.dK kvs))) QQ)
    (ht : ∀ (i : Nat) (k : Key) (y : V) (od : Obj) (H1 : Hp) (Q' : VK) (R' : Hp → Prop), kvs[i]? = some (k, y) → H1 d = some (.frz od (.dK kvs)) → (∀ b u, b ≠ d → H b = some u → H1 b = some u) → (∀ v, p i = some v → ∀ H3, Same H1 H3 → Q' v H3) → (p i = none → ∀ H3, Same H1 H3 → R' H3) →
      tt ((wipe σ vs).set j (some (kV k))) H1 fun b H4 => if b = true then te ((wipe σ vs).set j (some (kV k))) H4 Q' else R' H4)
    (q : ∀ D H', H D = none → Same H H' → H' D = some (.lst ((List.range kvs.length).filterMap p)) → Q (.ref D) H') : tLockE (tLc (iKeys tl) (gName j) tt te vs) σ H Q := by
  refine ⟨d, .dK kvs, hd, trivial, fun od => ?_⟩
  have f0 : ∀ b u, b ≠ d → H b = some u → upd H d (.frz od (.dK kvs)) b = some u := fun b u nb eb => by rw [upd_ne nb]; exact eb
  have e0 : upd H d (.frz od (.dK kvs)) d = some (.frz od (.dK kvs)) := upd_same
  have z0 : ∀ {D : Addr}, upd H d (.frz od (.dK kvs)) D = none → H D = none ∧ D ≠ d := fun {D} z => by
    by_cases h : D = d
    · rw [h, upd_same] at z; exact nomatch z
    · rw [upd_ne h] at z; exact ⟨z, h⟩
  refine hv od _ ⟨d, od, rfl, .inl ⟨kvs, e0, fun D hD => ?_⟩⟩
  refine lc_by (g := gName j) (tt := tt) (te := te) (vs := vs) (σ := σ) (Q := fun v H' => H' d = some (.frz od (.dK kvs)) ∧ Q v (upd H' d (.dK kvs))) walk_keys p hD hl (fun H' s => s _ _ e0) (fun i x H1 H2 Q' R' hi sm y h1 h2 => ?_) fun H' s e => ?_
  · obtain ⟨rfl, k, v, hk, rfl⟩ := y
    exact ⟨hw _, ht i k v od H2 Q' R' hk (sm _ _ e0) (fun b u nb eb => sm _ _ (f0 b u nb eb)) h1 h2⟩
  · obtain ⟨hD1, hD2⟩ := z0 hD
    refine ⟨s _ _ e0, q D _ hD1 (fun b u eb => ?_) (by rw [upd_ne hD2]; exact e)⟩
    by_cases h : b = d
    · rw [h, upd_same, ← hd, ← h]
      exact eb
    · rw [upd_ne h]
      exact s _ _ (f0 b u h eb)
end
theorem eqv_nil {ds : List PyData} : PyData.eqv (.list ds) (.list []) = decide (ds = []) := by
  cases ds with
  | nil => rfl
  | cons a r => rfl
section
variable {σ : L2.St} {H : Hp} {Q : VK} {i j : Nat} {a b : Addr} {z x : Str} {kvs lvs : List (Key × V)} {y : V}
theorem r_dgT (hv : σ[i]? = some (some (.ref a))) (e : Rd H a (.dK kvs)) (hx : valV kvs (.inr z : Key) = some y) (q : Q y H) : tDGet (tVar i) (tC (.str z)) σ H Q := ⟨_, hv, a, y, rfl, .inl ⟨kvs, .inr z, e, rfl, hx.symm⟩, q⟩
theorem r_dg2 (hv : σ[i]? = some (some (.ref a))) (e : Rd H a (.dK kvs)) (hx : valV kvs (.inr z : Key) = some (.ref b)) (e2 : Rd H b (.dK lvs)) (hj : σ[j]? = some (some (.str x))) (h2 : valV lvs (.inr x : Key) = some y) (q : Q y H) :
    tDGet (tDGet (tVar i) (tC (.str z))) (tVar j) σ H Q := r_dgT hv e hx ⟨_, hj, b, y, rfl, .inl ⟨lvs, .inr x, e2, rfl, h2.symm⟩, q⟩
end
theorem ne_ct {H : Hp} {a b : Addr} {u w : HO} (h : H a = some u) (h2 : H b = some w) (n : u ≠ w) : a ≠ b := fun z => n (by rw [z, h2] at h; exact (Option.some.inj h).symm)
theorem r_dget2 {td ty tx : TE} {σ : L2.St} {H : Hp} {Q : VK} (h : td σ H fun x H1 => ∃ a, x = .ref a ∧ IsD H1 a ∧ ty σ H1 fun y H2 => tx σ H2 fun z H3 => ∃ o, DGet H3 a y o ∧ Q (o.getD z) H3) : tDGet2 td ty tx σ H Q := h
theorem r_dgV {σ : L2.St} {H : Hp} {Q : VK} {i j : Nat} {a : Addr} {x : Str} {kvs : List (Key × V)} {y : V} (hv : σ[i]? = some (some (.ref a))) (hj : σ[j]? = some (some (.str x))) (e : Rd H a (.dK kvs)) (hx : valV kvs (.inr x : Key) = some y) (q : Q y H) : tDGet (tVar i) (tVar j) σ H Q := ⟨_, hv, _, hj, a, y, rfl, .inl ⟨kvs, .inr x, e, rfl, hx.symm⟩, q⟩
def lowS (z : Str) : Prop := ∀ c ∈ z.cps.toList, 97 ≤ c ∧ c ≤ 122
theorem nameOk_of {z : Str} (h : lowS z) (l1 : 1 ≤ z.length) (l2 : z.length ≤ 8) : nameOk z = true := by
  unfold nameOk
  rw [decide_eq_true ⟨l1, l2⟩, Bool.true_and]
  unfold allW
  refine List.all_eq_true.mpr fun c hc => ?_
  obtain ⟨a, b⟩ := h c hc
  rw [decide_eq_true a, decide_eq_true b]
  rfl
theorem low_app {x y : Str} (hx : lowS x) (hy : lowS y) : lowS (x ++ y) := fun c hc => by
  have w : (x ++ y).cps.toList = x.cps.toList ++ y.cps.toList := Array.toList_append
  rw [w] at hc
  exact (List.mem_append.mp hc).elim (hx c) (hy c)
theorem low_cut {z : Str} {lo hi : Option Int} (h : lowS z) : lowS (cutS z lo hi) := fun c hc => by
  unfold cutS at hc
  exact h c (List.mem_of_mem_drop (List.mem_of_mem_take hc))
theorem cut_pre {z : Str} {m : Int} (h : 0 ≤ m) : (cutS z none (some m)).length = min m.toNat z.length := by
  unfold cutS HT.sIx
  show (List.toArray _).size = _
  rw [List.size_toArray, List.length_take]
  simp only [if_neg (show ¬ m < 0 by omega), Nat.sub_zero, List.drop_zero]
  rw [Array.length_toList]
  show min (min m.toNat z.length) z.length = _
  omega
theorem cut_suf {z : Str} {m : Int} (h : 0 ≤ m) : (cutS z (some m) none).length = z.length - min m.toNat z.length := by
  unfold cutS HT.sIx
  show (List.toArray _).size = _
  rw [List.size_toArray, List.length_take, List.length_drop]
  simp only [if_neg (show ¬ m < 0 by omega)]
  rw [Array.length_toList]
  show min (z.length - min m.toNat z.length) (z.length - min m.toNat z.length) = _
  omega
def one1 (z : Str) : Prop := lowS z ∧ z.length = 1
theorem glue_low : ∀ (ys : List Str) (acc : Array Nat), (∀ y ∈ ys, one1 y) → (∀ c ∈ acc.toList, 97 ≤ c ∧ c ≤ 122) →
    (∀ c ∈ (ys.foldl (fun (acc : Array Nat) (p : Str) => acc ++ (Str.ofString "").cps ++ p.cps) acc).toList, 97 ≤ c ∧ c ≤ 122) ∧ (ys.foldl (fun (acc : Array Nat) (p : Str) => acc ++ (Str.ofString "").cps ++ p.cps) acc).size = acc.size + ys.length
  | [], acc, _, h => ⟨h, rfl⟩
  | y :: r, acc, hy, h => by
    obtain ⟨y1, y2⟩ := hy y List.mem_cons_self
    have e : (Str.ofString "").cps = #[] := by decide +kernel
    have y2 : y.cps.size = 1 := y2
    have z := glue_low r (acc ++ (Str.ofString "").cps ++ y.cps) (fun b hb => hy b (List.mem_cons_of_mem _ hb)) fun c hc => by
      rw [e, Array.append_empty, Array.toList_append] at hc
      exact (List.mem_append.mp hc).elim (h c) (y1 c)
    refine ⟨z.1, z.2.trans ?_⟩
    rw [e, Array.append_empty, Array.size_append, y2, List.length_cons]
    omega
theorem join_low {ys : List Str} (h : ∀ y ∈ ys, one1 y) (h0 : 0 < ys.length) : lowS (Txt.join (Str.ofString "") ys) ∧ (Txt.join (Str.ofString "") ys).length = ys.length := by
  cases ys with
  | nil => exact absurd h0 (by decide)
  | cons y r =>
    obtain ⟨y1, y2⟩ := h y List.mem_cons_self
    have z := glue_low r y.cps (fun b hb => h b (List.mem_cons_of_mem _ hb)) y1
    refine ⟨z.1, z.2.trans ?_⟩
    have y2 : y.cps.size = 1 := y2
    rw [y2, List.length_cons]
    omega
theorem strs_of {R : Str → Prop} : ∀ {xs : List V}, (∀ v ∈ xs, ∃ y, v = .str y ∧ R y) → ∃ ys : List Str, xs = ys.map V.str ∧ ys.length = xs.length ∧ ∀ y ∈ ys, R y
  | [], _ => ⟨[], rfl, rfl, fun _ z => nomatch z⟩
  | v :: r, h => by
    obtain ⟨y, rfl, hy⟩ := h v List.mem_cons_self
    obtain ⟨ys, rfl, l, hs⟩ := strs_of (xs := r) fun u hu => h u (List.mem_cons_of_mem _ hu)
    exact ⟨y :: ys, rfl, by rw [List.length_cons, l, List.length_cons], fun z hz => (List.mem_cons.mp hz).elim (fun w => by rw [w]; exact hy) (hs z)⟩
theorem sum1 : ∀ {ys : List Str}, (∀ y ∈ ys, one1 y) → (ys.map fun x => x.length).sum = ys.length
  | [], _ => rfl
  | y :: r, h => by
    rw [List.map_cons, List.sum_cons, (h y List.mem_cons_self).2, sum1 fun z hz => h z (List.mem_cons_of_mem _ hz), List.length_cons]
    omega
theorem signs_low : ∀ c ∈ (Str.ofString "abcdefghijklmnopqrstuvwxyz").cps.toList, 97 ≤ c ∧ c ≤ 122 := by decide +kernel
theorem z_low : lowS (Str.ofString "z") ∧ (Str.ofString "z").length = 1 := by
  constructor
  · unfold lowS
    decide +kernel
  · decide +kernel
theorem e_low : lowS Str.empty := fun c hc => nomatch hc
theorem sign_ok {c : Nat} (h : 97 ≤ c ∧ c ≤ 122) : one1 ⟨#[c]⟩ := ⟨fun d hd => by
  have w : d = c := List.mem_singleton.mp hd
  rw [w]
  exact h, rfl⟩
theorem low_of {z : Str} (h : nameOk z = true) : lowS z := fun c hc => by
  have h2 := (Bool.and_eq_true_iff.mp h).2
  have := List.all_eq_true.mp h2 c hc
  rw [Bool.and_eq_true] at this
  exact ⟨of_decide_eq_true this.1, of_decide_eq_true this.2⟩
theorem a_low : lowS (Str.ofString "a") ∧ (Str.ofString "a").length = 1 := by
  constructor
  · unfold lowS
    decide +kernel
  · decide +kernel
/-! ## 36. a dict by an order of names -/
def dicF (G : List Str) (f : Str → V) : List (Key × V) := G.map fun x => (.inr x, f x)
theorem dicF_get {f : Str → V} {x : Str} : ∀ {G : List Str}, valV (dicF G f) (.inr x : Key) = if x ∈ G then some (f x) else none
  | [] => rfl
  | a :: r => by
    have ih := dicF_get (f := f) (x := x) (G := r)
    by_cases c : a = x
    · rw [if_pos (by rw [c]; exact List.mem_cons_self)]
      refine (valV_pos (p := ((.inr a : Key), f a)) (by rw [c])).trans ?_
      rw [c]
    · refine (valV_neg (p := ((.inr a : Key), f a)) (fun z => c (by injection z))).trans ?_
      show valV (dicF r f) (.inr x) = _
      rw [ih]
      by_cases d : x ∈ r
      · rw [if_pos d, if_pos (List.mem_cons_of_mem _ d)]
      · rw [if_neg d, if_neg (fun z => (List.mem_cons.mp z).elim (fun w => c w.symm) d)]
theorem dicF_len {G : List Str} {f : Str → V} : (dicF G f).length = G.length := List.length_map _
theorem dicF_any {G : List Str} {f : Str → V} {x : Str} : ((dicF G f).any fun kv => decide (kv.1 = (.inr x : Key))) = decide (x ∈ G) := by
  rw [valV_any, dicF_get]
  by_cases c : x ∈ G
  · rw [if_pos c, decide_eq_true c]; rfl
  · rw [if_neg c, decide_eq_false c]; rfl
theorem dicF_put {G : List Str} {f : Str → V} {x : Str} {v : V} : putK (dicF G f) (.inr x : Key) v = dicF (if x ∈ G then G else G ++ [x]) (fun y => if y = x then v else f y) := by
  unfold putK
  rw [dicF_any]
  by_cases c : x ∈ G
  · rw [if_pos (decide_eq_true c), if_pos c]
    unfold dicF
    rw [List.map_map]
    refine List.map_congr_left fun y _ => ?_
    show (if (.inr y : Key) = .inr x then ((.inr y : Key), v) else (.inr y, f y)) = (.inr y, if y = x then v else f y)
    by_cases d : y = x
    · rw [if_pos (by rw [d]), if_pos d]
    · rw [if_neg (fun z => d (by injection z)), if_neg d]
  · rw [if_neg (by rw [decide_eq_false c]; exact Bool.false_ne_true), if_neg c]
    unfold dicF
    rw [List.map_append]
    congr 1
    · refine List.map_congr_left fun y hy => ?_
      show ((.inr y : Key), f y) = (.inr y, if y = x then v else f y)
      rw [if_neg (fun z => c (by rw [← z]; exact hy))]
    · show [((.inr x : Key), v)] = [(.inr x, if x = x then v else f x)]
      rw [if_pos rfl]
theorem dicF_drop {f : Str → V} {x : Str} : ∀ {G : List Str}, dropK (dicF G f) (.inr x : Key) = dicF (G.filter fun y => decide (y ≠ x)) f
  | [] => rfl
  | a :: r => by
    have ih := dicF_drop (f := f) (x := x) (G := r)
    by_cases c : a = x
    · rw [List.filter_cons_of_neg (by simpa using c)]
      exact (dropK_pos (p := ((.inr a : Key), f a)) (by rw [c])).trans ih
    · rw [List.filter_cons_of_pos (by simpa using c)]
      refine (dropK_neg (p := ((.inr a : Key), f a)) (fun z => c (by injection z))).trans ?_
      show (_ :: dropK (dicF r f) (.inr x)) = _
      rw [ih]
      rfl
theorem dicF_congr {G : List Str} {f g : Str → V} (h : ∀ x ∈ G, f x = g x) : dicF G f = dicF G g := List.map_congr_left fun x hx => by rw [h x hx]
end Bk

namespace Bk
open PySem PySem.Spec PyProof.Rows L2
theorem op_in_seqK {X : Cx} {K : PySem.W.Frag} (h : X.K = K) : OpR X (compareOp .In) (rIn K false) := by
  subst h
  exact op_in_seq
/-! ## 36. dicts walked by their values; dict comprehensions -/
section
variable {K : PySem.W.Frag} {σ : L2.St} {H : Hp} {Q : VK} {vs : List Nat} {g : TG} {tt : TT} {te tl : TE} {d : Addr} {kvs : List (Key × V)}
theorem lcVals (p : Nat → Option V) (hd : H d = some (.dK kvs)) (hl : kvs.length ≤ 10000)
    (hv : ∀ (od : Obj) (QQ : VK), QQ (.ref d) (upd H d (.frz od (.dK kvs))) → tl σ (upd H d (.frz od (.dK kvs))) QQ)
    (ht : ∀ (i : Nat) (k : Key) (y : V) (od : Obj) (H1 : Hp) (Q' : VK) (R' : Hp → Prop), kvs[i]? = some (k, y) → H1 d = some (.frz od (.dK kvs)) → (∀ b u, b ≠ d → H b = some u → H1 b = some u) → (∀ v, p i = some v → ∀ H3, Same H1 H3 → Q' v H3) → (p i = none → ∀ H3, Same H1 H3 → R' H3) →
      g y (wipe σ vs) H1 fun σ2 H2 => wipe σ2 vs = wipe σ vs ∧ tt σ2 H2 fun b H4 => if b = true then te σ2 H4 Q' else R' H4)
    (q : ∀ D H', H D = none → Same H H' → H' D = some (.lst ((List.range kvs.length).filterMap p)) → Q (.ref D) H') : tLockE (tLc (iVals tl) g tt te vs) σ H Q := by
  refine ⟨d, .dK kvs, hd, trivial, fun od => ?_⟩
  have f0 : ∀ b u, b ≠ d → H b = some u → upd H d (.frz od (.dK kvs)) b = some u := fun b u nb eb => by rw [upd_ne nb]; exact eb
  have e0 : upd H d (.frz od (.dK kvs)) d = some (.frz od (.dK kvs)) := upd_same
  have z0 : ∀ {D : Addr}, upd H d (.frz od (.dK kvs)) D = none → H D = none ∧ D ≠ d := fun {D} z => by
    by_cases h : D = d
    · rw [h, upd_same] at z; exact nomatch z
    · rw [upd_ne h] at z; exact ⟨z, h⟩
  refine hv od _ ⟨d, od, kvs, rfl, e0, fun D hD => ?_⟩
  refine lc_by (g := g) (tt := tt) (te := te) (vs := vs) (σ := σ) (Q := fun v H' => H' d = some (.frz od (.dK kvs)) ∧ Q v (upd H' d (.dK kvs))) walk_values p hD hl (fun H' s => s _ _ e0) (fun i x H1 H2 Q' R' hi sm y h1 h2 => ?_) fun H' s e => ?_
  · obtain ⟨rfl, k, hk⟩ := y
    exact ht i k x od H2 Q' R' hk (sm _ _ e0) (fun b u nb eb => sm _ _ (f0 b u nb eb)) h1 h2
  · obtain ⟨hD1, hD2⟩ := z0 hD
    refine ⟨s _ _ e0, q D _ hD1 (fun b u eb => ?_) (by rw [upd_ne hD2]; exact e)⟩
    by_cases h : b = d
    · rw [h, upd_same, ← hd, ← h]
      exact eb
    · rw [upd_ne h]
      exact s _ _ (f0 b u h eb)
theorem lcKeysS {tt : TT} {te tl : TE} {D : Ends} {i j : Nat} (p : Nat → Option V) (hd : H d = some (.dK kvs)) (hl : kvs.length ≤ 10000) (hw : ∀ x, wipe ((wipe σ vs).set j (some x)) vs = wipe σ vs)
    (hv : ∀ (od : Obj) (QQ : VK), QQ (.ref d) (upd H d (.frz od (.dK kvs))) → tl σ (upd H d (.frz od (.dK kvs))) QQ)
    (ht : ∀ (i : Nat) (k : Key) (y : V) (od : Obj) (H1 : Hp) (Q' : VK) (R' : Hp → Prop), kvs[i]? = some (k, y) → H1 d = some (.frz od (.dK kvs)) → (∀ b u, b ≠ d → H b = some u → H1 b = some u) → (∀ v, p i = some v → ∀ H3, Same H1 H3 → Q' v H3) → (p i = none → ∀ H3, Same H1 H3 → R' H3) →
      tt ((wipe σ vs).set j (some (kV k))) H1 fun b H4 => if b = true then te ((wipe σ vs).set j (some (kV k))) H4 Q' else R' H4)
    (q : ∀ L H', H L = none → Same H H' → H' L = some (.lst ((List.range kvs.length).filterMap p)) → D.nx (σ.set i (some (.ref L))) H') : tLock (tAsg (tLc (iKeys tl) (gName j) tt te vs) (gName i)) D σ H := by
  have z : tLockE (tLc (iKeys tl) (gName j) tt te vs) σ H fun v H' => D.nx (σ.set i (some v)) H' := lcKeys p hd hl hw hv ht q
  obtain ⟨d2, u, h1, h2, h3⟩ := z
  refine ⟨d2, u, h1, h2, fun od => ?_⟩
  exact h3 od
/-- a dict comprehension over a dict's keys: each name gets v -/
theorem dcKeys {j : Nat} {G : List Str} {f : Str → V} {v : V} (nd : G.Nodup) (hl : G.length ≤ 10000) (hw : ∀ x, wipe ((wipe σ vs).set j (some x)) vs = wipe σ vs)
    (hd : H d = some (.dK (dicF G f)))
    (hv : ∀ (od : Obj) (QQ : VK), QQ (.ref d) (upd H d (.frz od (.dK (dicF G f)))) → tl σ (upd H d (.frz od (.dK (dicF G f)))) QQ)
    (hk : ∀ (x : Str) (H1 : Hp) (QQ : VK), QQ (.str x) H1 → te ((wipe σ vs).set j (some (.str x))) H1 QQ)
    (hz : ∀ (x : Str) (H1 : Hp) (QQ : VK), QQ v H1 → tv ((wipe σ vs).set j (some (.str x))) H1 QQ)
    (q : ∀ D H', H D = none → Same H H' → H' D = some (.dK (dicF G fun _ => v)) → Q (.ref D) H') : tLockE (tDc (iKeys tl) (gName j) tYes te tv vs) σ H Q := by
  refine ⟨d, .dK (dicF G f), hd, trivial, fun od => ?_⟩
  have f0 : ∀ b u, b ≠ d → H b = some u → upd H d (.frz od (.dK (dicF G f))) b = some u := fun b u nb eb => by rw [upd_ne nb]; exact eb
  have e0 : upd H d (.frz od (.dK (dicF G f))) d = some (.frz od (.dK (dicF G f))) := upd_same
  have z0 : ∀ {D : Addr}, upd H d (.frz od (.dK (dicF G f))) D = none → H D = none ∧ D ≠ d := fun {D} z => by
    by_cases h : D = d
    · rw [h, upd_same] at z; exact nomatch z
    · rw [upd_ne h] at z; exact ⟨z, h⟩
  refine hv od _ ⟨d, od, rfl, .inl ⟨_, e0, fun D hD => ?_⟩⟩
  obtain ⟨hD1, hD2⟩ := z0 hD
  refine ⟨fun i m H' => m = G.length - i ∧ i ≤ G.length ∧ H' d = some (.frz od (.dK (dicF G f))) ∧ (∀ b u, b ≠ d → b ≠ D → H b = some u → H' b = some u) ∧ H' D = some (.dK (dicF (G.take i) fun _ => v)), ⟨_, rfl, Nat.zero_le _, by rw [upd_ne hD2.symm]; exact e0, fun b u n1 n2 eb => by rw [upd_ne n2]; exact f0 _ _ n1 eb, upd_same⟩, fun i m H' hW => ?_⟩
  obtain ⟨rfl, hi, ed, fr, eD⟩ := hW
  by_cases hc : i < G.length
  · refine .inr ⟨(walk_keys (d := d) (o := od) (kvs := dicF G f)).goes i H' (by rw [dicF_len]; exact hc) ed, fun H2 => ∃ m', m' < G.length - i ∧ m' = G.length - (i + 1) ∧ i + 1 ≤ G.length ∧ H2 d = some (.frz od (.dK (dicF G f))) ∧ (∀ b u, b ≠ d → b ≠ D → H b = some u → H2 b = some u) ∧ H2 D = some (.dK (dicF (G.take (i + 1)) fun _ => v)), fun H2 h => ?_, fun x H2 y => ?_⟩
    · obtain ⟨m', a, b⟩ := h
      exact ⟨m', a, b⟩
    · obtain ⟨rfl, k, w, hk2, rfl⟩ := (walk_keys (d := d) (o := od) (kvs := dicF G f)).yields i _ x H2 (by rw [dicF_len]; exact hc) ed y
      have hg : k = .inr G[i] := by
        unfold dicF at hk2
        rw [List.getElem?_map, List.getElem?_eq_getElem hc] at hk2
        exact (Prod.mk.inj (Option.some.inj hk2)).1.symm
      subst hg
      refine ⟨hw _, ?_⟩
      refine hk _ _ _ (hz _ _ _ ⟨_, .inr G[i], rfl, eD, ?_, _, Nat.sub_lt_sub_left hc (Nat.lt_succ_self i), rfl, hc, ?_, fun b u n1 n2 eb => ?_, ?_⟩)
      · rw [dicF_len, List.length_take, sizeLine_eq]; omega
      · rw [upd_ne hD2.symm]; exact ed
      · rw [upd_ne n2]; exact fr _ _ n1 n2 eb
      · have hn : G[i] ∉ G.take i := fun z => by
          obtain ⟨k, hk3, e3⟩ := List.getElem_of_mem z
          rw [List.getElem_take] at e3
          have hk4 : k < i := by rw [List.length_take] at hk3; omega
          exact absurd ((List.getElem_inj nd).mp e3) (Nat.ne_of_lt hk4)
        rw [upd_same, dicF_put, if_neg hn, List.take_succ_eq_append_getElem hc]
        refine congrArg (fun l => some (HO.dK l)) (dicF_congr fun x _ => ?_)
        by_cases hx : x = G[i]
        · rw [if_pos hx]
        · rw [if_neg hx]
  · have hi2 : i = (dicF G f).length := by rw [dicF_len]; omega
    refine .inl ⟨by rw [hi2]; exact (walk_keys (d := d) (o := od) (kvs := dicF G f)).stops H' ed, ed, q D _ hD1 (fun b u eb => ?_) ?_⟩
    · by_cases h : b = d
      · rw [h, upd_same, ← hd, ← h]
        exact eb
      · rw [upd_ne h]
        exact fr _ _ h (fun z => by rw [z, hD1] at eb; exact nomatch eb) eb
    · rw [upd_ne hD2, eD, List.take_of_length_le (by omega)]
end
end Bk

namespace Bk
open PySem PySem.Spec PyProof.Rows L2
/-! ## 37. a comprehension over a list of names, some left out as drawn -/
section
variable {K : PySem.W.Frag} {σ : L2.St} {H H0 : Hp} {Q : VK} {j : Nat} {vs : List Nat} {tt : TT} {te tl : TE} {a bx : Addr} {M : List Str} {m : Nat} {q : Str}
theorem lcFltD (hb : Box bx m H) (ea : H a = some (.lst (M.map V.str))) (na : a ≠ bx) (hl : M.length ≤ 1000) (hw : ∀ x, wipe ((wipe σ vs).set j (some x)) vs = wipe σ vs)
    (hv : ∀ QQ : VK, QQ (.ref a) H → tl σ H0 QQ)
    (hte : ∀ (x : Str) (H1 : Hp) (QQ : VK), QQ (.str x) H1 → te ((wipe σ vs).set j (some (.str x))) H1 QQ)
    (ht : ∀ (x : Str) (k : Nat) (H1 : Hp) (Q' : Bool → Hp → Prop), x ∈ M → k < m + M.length → Box bx k H1 → (∀ b H2, (x = q → b = true) → Box bx (k + 1) H2 → But bx H1 H2 → Q' b H2) → tt ((wipe σ vs).set j (some (.str x))) H1 Q')
    (hq : ∀ (D : Addr) (H' : Hp) (ys : List Str), H D = none → But bx H H' → Box bx (m + M.length) H' → H' D = some (.lst (ys.map V.str)) → ys.length ≤ M.length → (∀ y ∈ ys, y ∈ M) → (q ∈ M → q ∈ ys) → Q (.ref D) H') : tLc (iList K tl) (gName j) tt te vs σ H0 Q := by
  refine hv _ ⟨a, rfl, ⟨_, sqL ea⟩, fun D hD => ?_⟩
  have nD : D ≠ bx := hb.ne hD
  have nDa : D ≠ a := (ne_of_none ea hD).symm
  refine lc_it (g := gName j) (tt := tt) (te := te) (vs := vs) (σ := σ) (walk_list (K := K) (a := a) (xs := M.map V.str)) (fun i G => But bx H G ∧ Box bx (m + i) G ∧ ∃ ys : List Str, G D = some (.lst (ys.map V.str)) ∧ ys.length ≤ i ∧ (∀ y ∈ ys, y ∈ M) ∧ ∀ k, k < i → M[k]? = some q → q ∈ ys)
    ⟨.of (same_upd hD), hb.same (same_upd hD), [], upd_same, Nat.le_refl _, (fun _ z => (nomatch z)), fun k hk => absurd hk (Nat.not_lt_zero _)⟩ (fun i G hi ⟨bt, _⟩ => sqL (bt _ _ na ea)) (fun i x H1 H2 hi ⟨bt, hB, ys, e, l, hp, hk⟩ y => ?_) fun G ⟨bt, hB, ys, e, l, hp, hk⟩ => ?_
  · obtain ⟨rfl, hx⟩ := y
    rw [List.getElem?_map] at hx
    cases hm : M[i]? with
    | none => rw [hm] at hx; exact nomatch hx
    | some z =>
      rw [hm] at hx
      obtain rfl := Option.some.inj hx
      rw [List.length_map] at hi
      refine ⟨hw _, ht z (m + i) _ _ (List.mem_of_getElem? hm) (by omega) hB fun b H3 hbq hB3 b3 => ?_⟩
      have e3 := b3 _ _ nD e
      have bt3 := bt.trans b3
      cases b with
      | false =>
        refine ⟨bt3, hB3, ys, e3, by omega, hp, fun k hk2 hkq => ?_⟩
        by_cases c : k = i
        · rw [c, hm] at hkq
          exact absurd (hbq (Option.some.inj hkq)) Bool.false_ne_true
        · exact hk k (by omega) hkq
      | true =>
        rw [if_pos rfl]
        refine hte z H3 _ ⟨_, e3, by rw [List.length_map, sizeLine_eq]; omega, ?_⟩
        refine ⟨fun b o nb eb => by rw [upd_ne (ne_of_none eb hD)]; exact bt3 _ _ nb eb, ?_, ys ++ [z], by rw [upd_same, List.map_append]; rfl, by rw [List.length_append]; exact Nat.succ_le_succ l, fun y hy => ?_, fun k hk2 hkq => ?_⟩
        · obtain ⟨x1, y1, z1, eB, r⟩ := hB3
          exact ⟨x1, y1, z1, by rw [upd_ne nD.symm]; exact eB, r⟩
        · rcases List.mem_append.mp hy with w | w
          · exact hp y w
          · rw [List.mem_singleton.mp w]; exact List.mem_of_getElem? hm
        · by_cases c : k = i
          · rw [c, hm] at hkq
            rw [Option.some.inj hkq]
            exact List.mem_append_right _ (List.mem_singleton.mpr rfl)
          · exact List.mem_append_left _ (hk k (by omega) hkq)
  · rw [List.length_map] at hB l hk
    refine hq D G ys hD bt hB e l hp fun h => ?_
    obtain ⟨k, hk1, hk2⟩ := List.getElem_of_mem h
    exact hk k hk1 (by rw [List.getElem?_eq_getElem hk1, hk2])
theorem lcFltN (hb : Box bx m H0) (hl : M.length ≤ 1000) (hw : ∀ x, wipe ((wipe σ vs).set j (some x)) vs = wipe σ vs)
    (hv : ∀ QQ : VK, (∀ a H, H0 a = none → Same H0 H → H a = some (.lst (M.map V.str)) → QQ (.ref a) H) → tl σ H0 QQ)
    (hte : ∀ (x : Str) (H1 : Hp) (QQ : VK), QQ (.str x) H1 → te ((wipe σ vs).set j (some (.str x))) H1 QQ)
    (ht : ∀ (x : Str) (k : Nat) (H1 : Hp) (Q' : Bool → Hp → Prop), x ∈ M → k < m + M.length → Box bx k H1 → (∀ b H2, (x = q → b = true) → Box bx (k + 1) H2 → But bx H1 H2 → Q' b H2) → tt ((wipe σ vs).set j (some (.str x))) H1 Q')
    (hq : ∀ (D : Addr) (H' : Hp) (ys : List Str), H0 D = none → But bx H0 H' → Box bx (m + M.length) H' → H' D = some (.lst (ys.map V.str)) → ys.length ≤ M.length → (∀ y ∈ ys, y ∈ M) → (q ∈ M → q ∈ ys) → Q (.ref D) H') : tLc (iList K tl) (gName j) tt te vs σ H0 Q := by
  refine hv _ fun a H na s ea => ?_
  have z : tLc (iList K (fun _ H' QQ => QQ (.ref a) H')) (gName j) tt te vs σ H Q := lcFltD (q := q) (hb.same s) ea (hb.ne na) hl hw (fun QQ z => z) hte ht fun D H' ys nD b hB e l h1 h2 => hq D H' ys (s.free nD) (fun c o nb eb => b c o nb (s _ _ eb)) hB e l h1 h2
  exact z
end
/-! ## 38. a list of names as data -/
def strD (l : List Str) : PyData := .list (l.map PyData.str)
theorem lay_strs : ∀ {l : List Str}, (∀ x ∈ l, PyData.strOk x = true) → PyData.canLayAll0 (l.map PyData.str) = true ∧ PyData.depthAll (l.map PyData.str) = 0
  | [], _ => ⟨rfl, rfl⟩
  | a :: r, h => by
    obtain ⟨h1, h2⟩ := lay_strs (l := r) fun x hx => h x (List.mem_cons_of_mem _ hx)
    constructor
    · show (PyData.canLay0 (.str a) && PyData.canLayAll0 _) = true
      rw [h1]
      simp only [PyData.canLay0, h a List.mem_cons_self, Bool.true_and]
    · show max (PyData.depth (.str a)) (PyData.depthAll _) = 0
      rw [h2]
      rfl
theorem sh_strs {l : List Str} (h : ∀ x ∈ l, PyData.strOk x = true) : SeqAt.shaped (strD l) = true := by
  unfold SeqAt.shaped strD
  simp only [PyData.canLay0, (lay_strs h).1, PyData.depth, (lay_strs h).2, Bool.true_and]
  decide
theorem dps_strs {K : PySem.W.Frag} {H : Hp} : ∀ l : List Str, DpAll K H (l.map V.str) (l.map PyData.str)
  | [] => .nil
  | a :: r => .cons (.str _) (dps_strs r)
theorem dp_strs {K : PySem.W.Frag} {H : Hp} {a : Addr} {l : List Str} (h : SqL K H a (l.map V.str)) : Dp K H (.ref a) (strD l) := .lst h (dps_strs l)
theorem sh_nil : SeqAt.shaped (.list []) = true := by decide +kernel
end Bk

namespace Bk
open PySem PySem.Spec PyProof.Rows L2
/-! ## 39. dicts made of pairs -/
theorem dicF_merge {f : Str → V} : ∀ {M G : List Str}, (G ++ M).Nodup → mergeK (dicF G f) (dicF M f) = dicF (G ++ M) f
  | [], G, _ => by rw [List.append_nil]; rfl
  | a :: r, G, h => by
    have ha : a ∉ G := fun z => (List.nodup_append.mp h).2.2 a z a List.mem_cons_self rfl
    have e : putK (dicF G f) (.inr a : Key) (f a) = dicF (G ++ [a]) f := by
      rw [dicF_put, if_neg ha]
      refine dicF_congr fun y _ => ?_
      by_cases c : y = a
      · rw [if_pos c, c]
      · rw [if_neg c]
    show mergeK (putK (dicF G f) (.inr a : Key) (f a)) (dicF r f) = _
    rw [e]
    have h2 : ((G ++ [a]) ++ r).Nodup := by rw [List.append_assoc]; exact h
    rw [dicF_merge h2, List.append_assoc]
    rfl
theorem dicF_new {f : Str → V} {M : List Str} (h : M.Nodup) : mergeK [] (dicF M f) = dicF M f := dicF_merge (G := []) h
theorem paired_dic {R : Addr → Key × V → Prop} {f : Str → V} : ∀ {M : List Str} {ts : List Addr}, ts.length = M.length → (∀ (k : Nat) t x, ts[k]? = some t → M[k]? = some x → R t (.inr x, f x)) → Paired R ts (dicF M f)
  | [], [], _, _ => .nil
  | x :: M, t :: ts, l, h => .cons (h 0 t x rfl rfl) (paired_dic (Nat.succ.inj l) fun k t x a b => h (k + 1) t x a b)
theorem by_name {α : Type} (d : α) {M : List Str} (nd : M.Nodup) {cs : List α} : ∃ f : Str → α, ∀ (k : Nat) x c, M[k]? = some x → cs[k]? = some c → f x = c :=
  ⟨fun x => cs.getD (M.idxOf x) d, fun k x c hx hc => by
    obtain ⟨hk, e⟩ := List.getElem?_eq_some_iff.mp hx
    have : M.idxOf x = k := by rw [← e]; exact List.Nodup.idxOf_getElem nd k hk
    show cs.getD (M.idxOf x) d = c
    rw [this, List.getD_eq_getElem?_getD, hc]
    rfl⟩
section
variable {J : It} {G : Hp → Prop} {Y : Nat → Hp → V → Hp → Prop} {te : TE} {vs : List Nat} {σ : L2.St} {H : Hp} {D : Addr} {Q : VK} {M : List Str} {j : Nat}
/-- each turn lays a pair of a name and a new thing -/
theorem lc_prs (w : Walk J M.length G Y) (o : Str → HO) (hD : H D = none) (hn : M.length ≤ 10000) (hG : ∀ H', Same H H' → G H') (hw : ∀ x, wipe ((wipe σ vs).set j (some x)) vs = wipe σ vs)
    (hY : ∀ i H1 x H2, i < M.length → Y i H1 x H2 → H2 = H1 ∧ ∃ z, M[i]? = some z ∧ x = .str z)
    (hs : ∀ (z : Str) (H1 : Hp) (Q' : VK), z ∈ M → Same H H1 → (∀ t c H3, H1 t = none → H1 c = none → t ≠ c → Same H1 H3 → H3 t = some (.tup [.str z, .ref c]) → H3 c = some (o z) → Q' (.ref t) H3) → te ((wipe σ vs).set j (some (.str z))) H1 Q')
    (q : ∀ H' (ts cs : List Addr), Same H H' → H' D = some (.lst (ts.map V.ref)) → ts.length = M.length → cs.length = M.length → (∀ (k : Nat) t c x, ts[k]? = some t → cs[k]? = some c → M[k]? = some x → H' t = some (.tup [.str x, .ref c]) ∧ H' c = some (o x)) → cs.Nodup → (∀ c ∈ cs, H c = none) → D ∉ cs → Q (.ref D) H') :
    ∃ W : Nat → Nat → Hp → Prop, (∃ m, W 0 m (upd H D (.lst []))) ∧ ∀ i m H, W i m H →
      (J.stop i H ∧ Q (.ref D) H) ∨ (J.go i H ∧ ∃ Nx : Hp → Prop, (∀ H', Nx H' → ∃ m', m' < m ∧ W (i + 1) m' H') ∧ ∀ x H', J.yld i H x H' → gName j x (wipe σ vs) H' fun σ2 H2 => wipe σ2 vs = wipe σ vs ∧ tYes σ2 H2 fun b H3 =>
        if b = true then te σ2 H3 fun y H4 => ∃ acc, H4 D = some (.lst acc) ∧ acc.length < sizeLine ∧ Nx (upd H4 D (.lst (acc ++ [y]))) else Nx H3) := by
  refine lc_it w (fun i G => Same H G ∧ ∃ ts cs : List Addr, G D = some (.lst (ts.map V.ref)) ∧ ts.length = i ∧ cs.length = i ∧ (∀ (k : Nat) t c x, ts[k]? = some t → cs[k]? = some c → M[k]? = some x → G t = some (.tup [.str x, .ref c]) ∧ G c = some (o x)) ∧ cs.Nodup ∧ (∀ c ∈ cs, H c = none ∧ G c ≠ none) ∧ D ∉ cs)
    ⟨same_upd hD, [], [], upd_same, rfl, rfl, (fun _ _ _ _ z => nomatch z), List.nodup_nil, (fun _ z => nomatch z), fun z => nomatch z⟩ (fun i G _ z => hG G z.1) (fun i x H1 H2 hi ⟨sm, ts, cs, e, l1, l2, all, nd, fr, nD⟩ y => ?_) fun G ⟨sm, ts, cs, e, l1, l2, all, nd, fr, nD⟩ => q G ts cs sm e l1 l2 all nd (fun c hc => (fr c hc).1) nD
  obtain ⟨rfl, z, hz, rfl⟩ := hY i H1 x H2 hi y
  refine ⟨hw _, ?_⟩
  refine hs z H2 _ (List.mem_of_getElem? hz) sm fun t c H3 nt nc tc s3 et ec => ?_
  have tD : t ≠ D := fun w => by rw [w, e] at nt; exact nomatch nt
  have cD : c ≠ D := fun w => by rw [w, e] at nc; exact nomatch nc
  have ccs : c ∉ cs := fun w => (fr c w).2 nc
  refine ⟨_, s3 _ _ e, by rw [List.length_map, l1]; exact Nat.lt_of_lt_of_le hi (Nat.le_trans hn (by decide)), sameBut (sm.trans s3) hD, ts ++ [t], cs ++ [c], ?_, by rw [List.length_append, l1]; rfl, by rw [List.length_append, l2]; rfl, fun k u v x hk hv hx => ?_, ?_, fun u hu => ?_, fun w => ?_⟩
  · rw [upd_same, List.map_append]
    rfl
  · have hlt : k < ts.length + 1 := by
      have := (List.getElem?_eq_some_iff.mp hk).1
      rw [List.length_append] at this
      exact this
    by_cases hk2 : k < ts.length
    · rw [List.getElem?_append_left hk2] at hk
      rw [List.getElem?_append_left (by omega)] at hv
      obtain ⟨a1, a2⟩ := all k u v x hk hv hx
      have nu : u ≠ D := fun w => by rw [w, e] at a1; exact nomatch a1
      have nv : v ≠ D := fun w => nD (by rw [← w]; exact List.mem_of_getElem? hv)
      exact ⟨by rw [upd_ne nu]; exact s3 _ _ a1, by rw [upd_ne nv]; exact s3 _ _ a2⟩
    · have e3 : k = i := by omega
      subst e3
      rw [List.getElem?_append_right (by omega), l1, Nat.sub_self] at hk
      rw [List.getElem?_append_right (by omega), l2, Nat.sub_self] at hv
      obtain rfl := Option.some.inj hk
      obtain rfl := Option.some.inj hv
      rw [hz] at hx
      obtain rfl := Option.some.inj hx
      exact ⟨by rw [upd_ne tD]; exact et, by rw [upd_ne cD]; exact ec⟩
  · refine List.nodup_append.mpr ⟨nd, (by simp), fun a ha b hb w => ?_⟩
    rw [List.mem_singleton.mp hb] at w
    exact ccs (by rw [← w]; exact ha)
  · rcases List.mem_append.mp hu with w | w
    · obtain ⟨a1, a2⟩ := fr u w
      refine ⟨a1, ?_⟩
      rw [upd_ne (fun z => nD (by rw [← z]; exact w))]
      cases h : H2 u with
      | none => exact absurd h a2
      | some r => rw [s3 _ _ h]; exact fun z => nomatch z
    · rw [List.mem_singleton.mp w]
      refine ⟨sm.free nc, ?_⟩
      rw [upd_ne cD, ec]
      exact fun z => nomatch z
  · rcases List.mem_append.mp w with w | w
    · exact nD w
    · exact cD (List.mem_singleton.mp w).symm
end
/-- dict(..) of such a list -/
theorem r_dictP {K : PySem.W.Frag} {H : Hp} {Q : VK} {M : List Str} {D : Addr} {ts cs : List Addr} {o : Str → HO} (nd : M.Nodup) (eD : H D = some (.lst (ts.map V.ref))) (lt : ts.length = M.length) (lc : cs.length = M.length)
    (hp : ∀ (k : Nat) t c x, ts[k]? = some t → cs[k]? = some c → M[k]? = some x → H t = some (.tup [.str x, .ref c]) ∧ H c = some (o x)) (cn : cs.Nodup)
    (q : ∀ p (f : Str → Addr) H', H p = none → Same H H' → H' p = some (.dK (dicF M fun x => .ref (f x))) → (∀ x ∈ M, H' (f x) = some (o x) ∧ f x ∈ cs) → (∀ x ∈ M, ∀ y ∈ M, f x = f y → x = y) → Q (.ref p) H') :
    ∃ (a : Addr) (ps : List Addr) (kvs : List (Key × V)), [V.ref D] = [.ref a] ∧ SqL K H a (ps.map V.ref) ∧ Paired (fun p kv => SqT K H p [kV kv.1, kv.2]) ps kvs ∧ ∀ p, H p = none → Q (.ref p) (upd H p (.dK (mergeK [] kvs))) := by
  obtain ⟨f, hf⟩ := by_name (D : Addr) nd (cs := cs)
  have at2 : ∀ {k : Nat} {x : Str}, M[k]? = some x → cs[k]? = some (f x) := fun {k x} hx => by
    obtain ⟨hk, _⟩ := List.getElem?_eq_some_iff.mp hx
    have h2 : cs[k]? = some cs[k] := List.getElem?_eq_getElem (by omega)
    rw [h2, hf k x _ hx h2]
  refine ⟨D, ts, dicF M fun x => .ref (f x), rfl, sqL eD, paired_dic lt fun k t x ht hx => ?_, fun p np => ?_⟩
  · exact sqT (hp k t (f x) x ht (at2 hx) hx).1
  · rw [dicF_new nd]
    refine q p f _ np (same_upd np) upd_same (fun x hx => ?_) fun x hx y hy e => ?_
    · obtain ⟨k, hk⟩ := List.getElem?_of_mem hx
      have h2 := at2 hk
      obtain ⟨hk2, _⟩ := List.getElem?_eq_some_iff.mp hk
      have e := (hp k _ _ x (List.getElem?_eq_getElem (by omega : k < ts.length)) h2 hk).2
      exact ⟨by rw [upd_ne (ne_of_none e np)]; exact e, List.mem_of_getElem? h2⟩
    · obtain ⟨k, hk⟩ := List.getElem?_of_mem hx
      obtain ⟨l, hl⟩ := List.getElem?_of_mem hy
      have h1 := at2 hk
      have h2 := at2 hl
      rw [e] at h1
      obtain ⟨k1, k2⟩ := List.getElem?_eq_some_iff.mp h1
      obtain ⟨l1, l2⟩ := List.getElem?_eq_some_iff.mp h2
      have := (List.getElem_inj cn).mp (k2.trans l2.symm)
      subst this
      rw [hk] at hl
      exact Option.some.inj hl
/-! ## 40. a dict of pairs of a name and a drawn number -/
section
variable {K : PySem.W.Frag} {σ : L2.St} {H : Hp} {Q : VK} {j : Nat} {vs : List Nat} {te tl : TE} {a bx : Addr} {M : List Str} {m : Nat}
theorem lcMood (hb : Box bx m H) (ea : H a = some (.lst (M.map V.str))) (na : a ≠ bx) (hl : M.length ≤ 1000) (hw : ∀ x, wipe ((wipe σ vs).set j (some x)) vs = wipe σ vs)
    (hv : ∀ QQ : VK, QQ (.ref a) H → tl σ H QQ)
    (ht : ∀ (x : Str) (k : Nat) (H1 : Hp) (Q' : VK), x ∈ M → k < m + M.length → Box bx k H1 → (∀ t (v : Int) H2, H1 t = none → Box bx (k + 1) H2 → But bx H1 H2 → H2 t = some (.tup [.str x, .int v]) → Q' (.ref t) H2) → te ((wipe σ vs).set j (some (.str x))) H1 Q')
    (hq : ∀ (D : Addr) (H' : Hp) (ts : List Addr) (ns : List Int), H D = none → But bx H H' → Box bx (m + M.length) H' → H' D = some (.lst (ts.map V.ref)) → ts.length = M.length → ns.length = M.length → (∀ (k : Nat) t x v, ts[k]? = some t → M[k]? = some x → ns[k]? = some v → H' t = some (.tup [.str x, .int v])) → Q (.ref D) H') : tLc (iList K tl) (gName j) tYes te vs σ H Q := by
  refine hv _ ⟨a, rfl, ⟨_, sqL ea⟩, fun D hD => ?_⟩
  have nD : D ≠ bx := hb.ne hD
  refine lc_it (g := gName j) (tt := tYes) (te := te) (vs := vs) (σ := σ) (walk_list (K := K) (a := a) (xs := M.map V.str)) (fun i G => But bx H G ∧ Box bx (m + i) G ∧ ∃ (ts : List Addr) (ns : List Int), G D = some (.lst (ts.map V.ref)) ∧ ts.length = i ∧ ns.length = i ∧ ∀ (k : Nat) t x v, ts[k]? = some t → M[k]? = some x → ns[k]? = some v → G t = some (.tup [.str x, .int v]))
    ⟨.of (same_upd hD), hb.same (same_upd hD), [], [], upd_same, rfl, rfl, (fun _ _ _ _ z => nomatch z)⟩ (fun i G hi ⟨bt, _⟩ => sqL (bt _ _ na ea)) (fun i x H1 H2 hi ⟨bt, hB, ts, ns, e, l1, l2, all⟩ y => ?_) fun G ⟨bt, hB, ts, ns, e, l1, l2, all⟩ => ?_
  · obtain ⟨rfl, hx⟩ := y
    rw [List.getElem?_map] at hx
    cases hm : M[i]? with
    | none => rw [hm] at hx; exact nomatch hx
    | some z =>
      rw [hm] at hx
      obtain rfl := Option.some.inj hx
      rw [List.length_map] at hi
      refine ⟨hw _, ?_⟩
      refine ht z (m + i) _ _ (List.mem_of_getElem? hm) (by omega) hB fun t v H3 nt hB3 b3 et => ?_
      have tD : t ≠ D := fun w => by rw [w, e] at nt; exact nomatch nt
      refine ⟨_, b3 _ _ nD e, by rw [List.length_map, sizeLine_eq]; omega, fun b o nb eb => ?_, ?_, ts ++ [t], ns ++ [v], by rw [upd_same, List.map_append]; rfl, by rw [List.length_append, l1]; rfl, by rw [List.length_append, l2]; rfl, fun k u x v2 hk hx hv2 => ?_⟩
      · rw [upd_ne (ne_of_none eb hD)]
        exact (bt.trans b3) _ _ nb eb
      · obtain ⟨x1, y1, z1, eB, r⟩ := hB3
        exact ⟨x1, y1, z1, by rw [upd_ne nD.symm]; exact eB, r⟩
      · have hlt : k < ts.length + 1 := by
          have := (List.getElem?_eq_some_iff.mp hk).1
          rw [List.length_append] at this
          exact this
        by_cases hk2 : k < ts.length
        · rw [List.getElem?_append_left hk2] at hk
          rw [List.getElem?_append_left (by omega)] at hv2
          have a1 := all k u x v2 hk hx hv2
          have nu : u ≠ D := fun w => by rw [w, e] at a1; exact nomatch a1
          have nub : u ≠ bx := fun w => by
            obtain ⟨x1, y1, z1, eB, r⟩ := hB
            rw [w, eB] at a1
            exact nomatch a1
          rw [upd_ne nu]
          exact b3 _ _ nub a1
        · have e3 : k = i := by omega
          subst e3
          rw [List.getElem?_append_right (by omega), l1, Nat.sub_self] at hk
          rw [List.getElem?_append_right (by omega), l2, Nat.sub_self] at hv2
          obtain rfl := Option.some.inj hk
          obtain rfl := Option.some.inj hv2
          rw [hm] at hx
          obtain rfl := Option.some.inj hx
          rw [upd_ne tD]
          exact et
  · rw [List.length_map] at hB l1 l2
    exact hq D G ts ns hD bt hB e l1 l2 all
end
theorem r_dictN {K : PySem.W.Frag} {H : Hp} {Q : VK} {M : List Str} {D : Addr} {ts : List Addr} {ns : List Int} (nd : M.Nodup) (eD : H D = some (.lst (ts.map V.ref))) (lt : ts.length = M.length) (ln : ns.length = M.length)
    (hp : ∀ (k : Nat) t x v, ts[k]? = some t → M[k]? = some x → ns[k]? = some v → H t = some (.tup [.str x, .int v]))
    (q : ∀ p (f : Str → Int) H', H p = none → Same H H' → H' p = some (.dK (dicF M fun x => .int (f x))) → Q (.ref p) H') :
    ∃ (a : Addr) (ps : List Addr) (kvs : List (Key × V)), [V.ref D] = [.ref a] ∧ SqL K H a (ps.map V.ref) ∧ Paired (fun p kv => SqT K H p [kV kv.1, kv.2]) ps kvs ∧ ∀ p, H p = none → Q (.ref p) (upd H p (.dK (mergeK [] kvs))) := by
  obtain ⟨f, hf⟩ := by_name (0 : Int) nd (cs := ns)
  refine ⟨D, ts, dicF M fun x => .int (f x), rfl, sqL eD, paired_dic lt fun k t x ht hx => ?_, fun p np => ?_⟩
  · obtain ⟨hk, _⟩ := List.getElem?_eq_some_iff.mp hx
    have h2 : ns[k]? = some ns[k] := List.getElem?_eq_getElem (by omega)
    have e := hp k t x _ ht hx h2
    rw [← hf k x _ hx h2] at e
    exact sqT e
  · rw [dicF_new nd]
    exact q p f _ np (same_upd np) upd_same
end Bk

namespace Bk
open PySem PySem.Spec PyProof.Rows L2
/-! ## 41. C(k = e, ..) -/
structure CalCK (P : Program) (w : World) (K : PySem.W.Frag) (mg : Str → Option Value) (base : Heap) (CX : CXT) (k : Nat) (ks : List Str) (C : Addr) (x : Str) (sp : Sp) (gV : List V → List V → List V) : Prop where
  ex : ∃ (f : Addr) (fd : FuncData) (ps : List Str) (g : List Value → List Value → List Value), Mk K C f ∧ FnOk P w K mg base CX k f fd ps sp ∧ KBn K fd ps 1 ks g gV ∧ mg x = some (.ref C)
def tMkK (C : Addr) (j : Nat) (sp : Sp) (gV : List V → List V → List V) (E : L2.St → XK) (tk : TA) : TE := fun σ H Q => tk σ H fun zs H1 => zs.length = j ∧ ∀ x dx, H1 x = none → H1 dx = none → dx ≠ x →
  sp (gV [.ref x] zs) (upd (upd H1 dx (.own x)) x (.ins C dx [])) (fun v H2 => v = .non ∧ Q (.ref x) H2) (E σ)
section
variable {X : Cx} {CX : CXT} {k j n : Nat} {ks : List Str} {f C : Addr} {fd : FuncData} {ps : List Str} {sp : Sp} {E : L2.St → XK} {x m : Str} {p pos apos : Pos} {e o : Expr} {es : List Expr} {kws : List Keyword} {ta : TE} {t tk : TA} {gV : List V → List V → List V} {g : List Value → List Value → List Value}
theorem run_mkNS {pins : List (Addr × Obj)} {σ : L2.St} {H : Hp} {s : Shared} {Q : VK} {ws : List Value} {zs : List V} (M : Mk X.K C f) (F : FnOk X.prog X.w X.K X.mg X.base CX k f fd ps sp) (hr : Room (k + 1) X.A) (hb : KBn X.K fd ps 1 ks g gV)
    (hx : PassesAt CX X σ (E σ)) (I : Inv X pins σ H s) (rz : Vals zs ws) (l2 : zs.length = ks.length)
    (h : ∀ x dx, H x = none → H dx = none → dx ≠ x → sp (gV [.ref x] zs) (upd (upd H dx (.own x)) x (.ins C dx [])) (fun v H2 => v = .non ∧ Q (.ref x) H2) (E σ)) :
    wpAny (model X.prog X.w) X.A (call (.ref C) [] (ks.zip ws)) (EP X pins σ Q) X.xe s := by
  have hq := h (s.heap.objs.size + 1) s.heap.objs.size (I.hok.fresh (Nat.le_succ _)) (I.hok.fresh (Nat.le_refl _)) (Nat.ne_of_lt (Nat.lt_succ_self _))
  have I2 := Inv.made (C := C) I
  have r2 : Vals [V.ref (s.heap.objs.size + 1)] [Value.ref (s.heap.objs.size + 1)] := .cons rfl .nil
  refine wpAny_call (make_map (f := f) I.kIn M.makes M.init (beq_iff_eq.mp M.fn) (codeAny_mono (F.run _ X.stack _ _ ⟨[Value.ref (s.heap.objs.size + 1)], ks.zip ws⟩ (g [Value.ref (s.heap.objs.size + 1)] ws) _ _ (E σ) (hr.make C [] (ks.zip ws))
    (I2.env0.make C [] (ks.zip ws)) (hb.to { s with heap := _ } [Value.ref (s.heap.objs.size + 1)] ws I2.kIn rfl (rz.length.symm.trans l2)) (hb.rel r2 rz) hq) fun r s' hq' => ?_))
  cases r with
  | error e => exact hx pins _ _ e s' I2 hq'
  | ok fl =>
    cases fl with
    | ret u =>
      obtain ⟨v, H', I3, rv, ev, q3⟩ := I2.after hq'
      subst ev
      exact ⟨rv, ⟨V.ref (s.heap.objs.size + 1), H', I3, rfl, q3⟩⟩
    | next => exact False.elim hq'
    | brk => exact False.elim hq'
    | cont => exact False.elim hq'
theorem pe_mkK (c : CalCK X.prog X.w X.K X.mg X.base CX k ks C x sp gV) (hr : Room j X.A) (hk : k + 1 ≤ j) (hg : Gl X x) (hx : ∀ σ, PassesAt CX X σ (E σ)) (hkw : PK X kws tk)
    (hall : (backToKw pos (keywordEach kws X.env)).all (·.1.isSome) = true := by rfl) (hks : (backToKw pos (keywordEach kws X.env)).filterMap (·.1) = ks := by rfl)
    (hpl : ((backTo pos (starEach [] X.env)).any (·.1) || (backToKw pos (keywordEach kws X.env)).any (·.1.isNone)) = false := by rfl)
    (hdb : (x == ("__debug__" : Str)) = false := by decide) : PE X (.Call (.Name x p) [] kws pos) (tMkK C ks.length sp gV E tk) := by
  obtain ⟨f, fd, ps, g, M, F, hb, hm⟩ := c.ex
  refine ⟨fun pins s σ H Q I h => ?_⟩
  refine wpAny_Call_Name_kw (ld_glob I hg hm ?_ hdb)
  refine PySem.W.callWith_KW0 (first := []) (h₀ := X.base) I.ok.mod.kin M.kp hall ?_ hpl
  refine thn (hkw.run pos pins s σ H _ I h) fun ws s2 ⟨zs, H2, I2, rz, l2, q2⟩ => ⟨I2.kIn, ?_⟩
  rw [hks]
  exact run_mkNS M F (hr.mono hk) hb (hx σ) I2 rz l2 q2
end
theorem sl_listK {X : Cx} {K : PySem.W.Frag} (h : X.K = K) : SlR X (rSlL K) := by
  subst h
  exact sl_list
/-- for over a list or a tuple, whichever it is -/
theorem r_forA {K : PySem.W.Frag} {a : Addr} {xs : List V} {g : TG} {tb : TS} {D : Ends} {σ : L2.St} {H : Hp} (hq : SqL K H a xs ∨ SqT K H a xs) (Pv : Nat → L2.St → Hp → Prop) (h0 : Pv 0 σ H) (hG : ∀ i σ G, i ≤ xs.length → Pv i σ G → Same H G)
    (hs : ∀ i x σ G, xs[i]? = some x → Pv i σ G → g x σ G fun σ2 H2 => tb { D with nx := Pv (i + 1), ct := Pv (i + 1), bk := D.nx } σ2 H2) (hd : ∀ σ G, Pv xs.length σ G → D.nx σ G) :
    ∃ a' xs', V.ref a = .ref a' ∧ ((SqL K H a' xs' ∧ (∃ W : Nat → Nat → L2.St → Hp → Prop, (∃ m, W 0 m σ H) ∧ ∀ i m σ H, W i m σ H →
      ((Itl K a').stop i H ∧ D.nx σ H) ∨ ((Itl K a').go i H ∧ ∃ N : L2.St → Hp → Prop, (∀ σ' H', N σ' H' → ∃ m', m' < m ∧ W (i + 1) m' σ' H') ∧ ∀ x H', (Itl K a').yld i H x H' → g x σ H' fun σ2 H2 => tb { D with nx := N, ct := N, bk := D.nx } σ2 H2))) ∨
      (SqT K H a' xs' ∧ (∃ W : Nat → Nat → L2.St → Hp → Prop, (∃ m, W 0 m σ H) ∧ ∀ i m σ H, W i m σ H →
      ((Itt K a').stop i H ∧ D.nx σ H) ∨ ((Itt K a').go i H ∧ ∃ N : L2.St → Hp → Prop, (∀ σ' H', N σ' H' → ∃ m', m' < m ∧ W (i + 1) m' σ' H') ∧ ∀ x H', (Itt K a').yld i H x H' → g x σ H' fun σ2 H2 => tb { D with nx := N, ct := N, bk := D.nx } σ2 H2)))) := by
  rcases hq with hq | hq
  · exact ⟨a, xs, rfl, .inl ⟨hq, for_it walk_list Pv h0 (fun i σ G hi h => (hG i σ G hi h).seq hq) (fun i x σ G G' hi h y => by obtain ⟨rfl, y⟩ := y; exact hs i x σ _ y h) hd⟩⟩
  · exact ⟨a, xs, rfl, .inr ⟨hq, for_it walk_tup Pv h0 (fun i σ G hi h => seqT (hG i σ G hi h) hq) (fun i x σ G G' hi h y => by obtain ⟨rfl, y⟩ := y; exact hs i x σ _ y h) hd⟩⟩
end Bk

namespace Bk
open PySem PySem.Spec PyProof.Rows L2
/-! ## 42. what a locked dict leaves behind -/
section
variable {H H' : Hp} {d bx : Addr} {kvs : List (Key × V)} {od : Obj}
theorem unlock_same (hd : H d = some (.dK kvs)) (s : Same (upd H d (.frz od (.dK kvs))) H') : Same H (upd H' d (.dK kvs)) := fun b u eb => by
  by_cases h : b = d
  · rw [h, upd_same, ← hd, ← h]
    exact eb
  · rw [upd_ne h]
    exact s _ _ (by rw [upd_ne h]; exact eb)
theorem unlock_but (hd : H d = some (.dK kvs)) (s : But bx (upd H d (.frz od (.dK kvs))) H') : But bx H (upd H' d (.dK kvs)) := fun b u nb eb => by
  by_cases h : b = d
  · rw [h, upd_same, ← hd, ← h]
    exact eb
  · rw [upd_ne h]
    exact s _ _ nb (by rw [upd_ne h]; exact eb)
theorem lock_but : But d H (upd H d (.frz od (.dK kvs))) := fun b u nb eb => by rw [upd_ne nb]; exact eb
theorem lock_none {D : Addr} (z : upd H d (.frz od (.dK kvs)) D = none) : H D = none ∧ D ≠ d := by
  by_cases h : D = d
  · rw [h, upd_same] at z; exact nomatch z
  · rw [upd_ne h] at z; exact ⟨z, h⟩
theorem lockS {t : TE} {D : Ends} {i : Nat} {σ : L2.St} (h : tLockE t σ H fun v H' => D.nx (σ.set i (some v)) H') : tLock (tAsg t (gName i)) D σ H := by
  obtain ⟨d2, u, h1, h2, h3⟩ := h
  exact ⟨d2, u, h1, h2, fun od => h3 od⟩
end
/-! ## 43. comprehensions over a locked dict that lay new things -/
section
variable {K : PySem.W.Frag} {σ : L2.St} {H : Hp} {Q : VK} {j : Nat} {vs : List Nat} {g : TG} {tt : TT} {te tl : TE} {d bx : Addr} {kvs : List (Key × V)}
theorem lcNewV (c : Nat → HO) (hd : H d = some (.dK kvs)) (hl : kvs.length ≤ 10000) (hw : ∀ x, wipe ((wipe σ vs).set j (some x)) vs = wipe σ vs)
    (hv : ∀ (od : Obj) (QQ : VK), QQ (.ref d) (upd H d (.frz od (.dK kvs))) → tl σ (upd H d (.frz od (.dK kvs))) QQ)
    (ht : ∀ (i : Nat) (k : Key) (y : V) (od : Obj) (H1 : Hp) (Q' : VK), kvs[i]? = some (k, y) → H1 d = some (.frz od (.dK kvs)) → (∀ b u, b ≠ d → H b = some u → H1 b = some u) → (∀ t H3, H1 t = none → Same H1 H3 → H3 t = some (c i) → Q' (.ref t) H3) → te ((wipe σ vs).set j (some y)) H1 Q')
    (q : ∀ D H' (ts : List Addr), H D = none → Same H H' → H' D = some (.lst (ts.map V.ref)) → ts.length = kvs.length → (∀ k t, ts[k]? = some t → H' t = some (c k)) → Q (.ref D) H') : tLockE (tLc (iVals tl) (gName j) tYes te vs) σ H Q := by
  refine ⟨d, .dK kvs, hd, trivial, fun od => ?_⟩
  have e0 : upd H d (.frz od (.dK kvs)) d = some (.frz od (.dK kvs)) := upd_same
  refine hv od _ ⟨d, od, kvs, rfl, e0, fun D hD => ?_⟩
  obtain ⟨hD1, hD2⟩ := lock_none hD
  refine lc_new (g := gName j) (te := te) (vs := vs) (σ := σ) (Q := fun v H' => H' d = some (.frz od (.dK kvs)) ∧ Q v (upd H' d (.dK kvs))) walk_values c hD hl (fun H' s => s _ _ e0) (fun i x H1 H2 Q' R' hi sm y h => ?_) fun H' ts s e l all nd fr => ?_
  · obtain ⟨rfl, k, hk⟩ := y
    exact ⟨hw _, r_yes (ht i k x od H2 Q' hk (sm _ _ e0) (fun b u nb eb => sm _ _ (lock_but _ _ nb eb)) h)⟩
  · refine ⟨s _ _ e0, q D _ ts hD1 (unlock_same hd s) (by rw [upd_ne hD2]; exact e) l fun k t hk => ?_⟩
    rw [upd_ne (lock_none (fr t (List.mem_of_getElem? hk))).2]
    exact all k t hk
theorem lcNewK (c : Nat → HO) (hd : H d = some (.dK kvs)) (hl : kvs.length ≤ 10000) (hw : ∀ x, wipe ((wipe σ vs).set j (some x)) vs = wipe σ vs)
    (hv : ∀ (od : Obj) (QQ : VK), QQ (.ref d) (upd H d (.frz od (.dK kvs))) → tl σ (upd H d (.frz od (.dK kvs))) QQ)
    (ht : ∀ (i : Nat) (k : Key) (y : V) (od : Obj) (H1 : Hp) (Q' : VK), kvs[i]? = some (k, y) → H1 d = some (.frz od (.dK kvs)) → (∀ b u, b ≠ d → H b = some u → H1 b = some u) → (∀ t H3, H1 t = none → Same H1 H3 → H3 t = some (c i) → Q' (.ref t) H3) → te ((wipe σ vs).set j (some (kV k))) H1 Q')
    (q : ∀ D H' (ts : List Addr), H D = none → Same H H' → H' D = some (.lst (ts.map V.ref)) → ts.length = kvs.length → (∀ k t, ts[k]? = some t → H' t = some (c k)) → Q (.ref D) H') : tLockE (tLc (iKeys tl) (gName j) tYes te vs) σ H Q := by
  refine ⟨d, .dK kvs, hd, trivial, fun od => ?_⟩
  have e0 : upd H d (.frz od (.dK kvs)) d = some (.frz od (.dK kvs)) := upd_same
  refine hv od _ ⟨d, od, rfl, .inl ⟨kvs, e0, fun D hD => ?_⟩⟩
  obtain ⟨hD1, hD2⟩ := lock_none hD
  refine lc_new (g := gName j) (te := te) (vs := vs) (σ := σ) (Q := fun v H' => H' d = some (.frz od (.dK kvs)) ∧ Q v (upd H' d (.dK kvs))) walk_keys c hD hl (fun H' s => s _ _ e0) (fun i x H1 H2 Q' R' hi sm y h => ?_) fun H' ts s e l all nd fr => ?_
  · obtain ⟨rfl, k, v, hk, rfl⟩ := y
    exact ⟨hw _, r_yes (ht i k v od H2 Q' hk (sm _ _ e0) (fun b u nb eb => sm _ _ (lock_but _ _ nb eb)) h)⟩
  · refine ⟨s _ _ e0, q D _ ts hD1 (unlock_same hd s) (by rw [upd_ne hD2]; exact e) l fun k t hk => ?_⟩
    rw [upd_ne (lock_none (fr t (List.mem_of_getElem? hk))).2]
    exact all k t hk
/-- tuples stay -/
def TS (H H' : Hp) : Prop := ∀ a xs, H a = some (.tup xs) → H' a = some (.tup xs)
theorem Same.ts {H H' : Hp} (s : Same H H') : TS H H' := fun _ _ e => s _ _ e
theorem TS.trans {A B C : Hp} (a : TS A B) (b : TS B C) : TS A C := fun x xs e => b x xs (a x xs e)
section
variable {J : It} {n : Nat} {G : Hp → Prop} {Y : Nat → Hp → V → Hp → Prop} {D : Addr}
/-- each turn gives a thing of which Pr tells, by tuples -/
theorem lc_any (w : Walk J n G Y) (Pr : Nat → V → Hp → Prop) (st : ∀ i v H1 H2, TS H1 H2 → Pr i v H1 → Pr i v H2) (hD : H D = none) (hn : n ≤ 10000) (hG : ∀ H', Same H H' → G H')
    (hY : ∀ i H1 x H2, i < n → Y i H1 x H2 → Same H1 H2)
    (hs : ∀ i x H1 H2 (Q' : VK) (R' : Hp → Prop), i < n → Same H H1 → Y i H1 x H2 → (∀ v H3, Same H2 H3 → Pr i v H3 → Q' v H3) → g x (wipe σ vs) H2 fun τ H3 => wipe τ vs = wipe σ vs ∧ tYes τ H3 fun b H4 => if b = true then te τ H4 Q' else R' H4)
    (q : ∀ H' (xs : List V), Same H H' → H' D = some (.lst xs) → xs.length = n → (∀ k v, xs[k]? = some v → Pr k v H') → Q (.ref D) H') :
    ∃ W : Nat → Nat → Hp → Prop, (∃ m, W 0 m (upd H D (.lst []))) ∧ ∀ i m H, W i m H →
      (J.stop i H ∧ Q (.ref D) H) ∨ (J.go i H ∧ ∃ Nx : Hp → Prop, (∀ H', Nx H' → ∃ m', m' < m ∧ W (i + 1) m' H') ∧ ∀ x H', J.yld i H x H' → g x (wipe σ vs) H' fun σ2 H2 => wipe σ2 vs = wipe σ vs ∧ tYes σ2 H2 fun b H3 =>
        if b = true then te σ2 H3 fun y H4 => ∃ acc, H4 D = some (.lst acc) ∧ acc.length < sizeLine ∧ Nx (upd H4 D (.lst (acc ++ [y]))) else Nx H3) := by
  refine lc_it w (fun i G => Same H G ∧ ∃ xs : List V, G D = some (.lst xs) ∧ xs.length = i ∧ (∀ k v, xs[k]? = some v → Pr k v G))
    ⟨same_upd hD, [], upd_same, rfl, fun _ _ z => nomatch z⟩ (fun i G _ z => hG G z.1) (fun i x H1 H2 hi ⟨sm, xs, e, l, all⟩ y => ?_) fun G ⟨sm, xs, e, l, all⟩ => q G xs sm e l all
  have s12 := hY i H1 x H2 hi y
  refine hs i x H1 H2 _ _ hi sm y fun v H3 s3 pv => ?_
  have e3 := s3 _ _ (s12 _ _ e)
  have tD : TS H3 (upd H3 D (.lst (xs ++ [v]))) := fun a ys ea => by
    rw [upd_ne (fun z => by rw [z, e3] at ea; exact nomatch ea)]
    exact ea
  refine ⟨_, e3, by rw [l]; exact Nat.lt_of_lt_of_le hi (Nat.le_trans hn (by decide)), sameBut (sm.trans (s12.trans s3)) hD, xs ++ [v], upd_same, by rw [List.length_append, l]; rfl, fun k u hk => ?_⟩
  by_cases hk2 : k < xs.length
  · rw [List.getElem?_append_left hk2] at hk
    exact st _ _ _ _ (((Same.ts s12).trans (Same.ts s3)).trans tD) (all k u hk)
  · have e4 : k = i := by
      have := (List.getElem?_eq_some_iff.mp hk).1
      rw [List.length_append, List.length_singleton] at this
      omega
    subst e4
    rw [List.getElem?_append_right (by omega), l, Nat.sub_self] at hk
    obtain rfl := Option.some.inj hk
    exact st _ _ _ _ tD pv
end
theorem lcAnyK (Pr : Nat → V → Hp → Prop) (st : ∀ i v H1 H2, TS H1 H2 → Pr i v H1 → Pr i v H2) (hd : H d = some (.dK kvs)) (hl : kvs.length ≤ 10000) (hw : ∀ x, wipe ((wipe σ vs).set j (some x)) vs = wipe σ vs)
    (hv : ∀ (od : Obj) (QQ : VK), QQ (.ref d) (upd H d (.frz od (.dK kvs))) → tl σ (upd H d (.frz od (.dK kvs))) QQ)
    (ht : ∀ (i : Nat) (k : Key) (y : V) (od : Obj) (H1 : Hp) (Q' : VK), kvs[i]? = some (k, y) → H1 d = some (.frz od (.dK kvs)) → (∀ b u, b ≠ d → H b = some u → H1 b = some u) → (∀ v H3, Same H1 H3 → Pr i v H3 → Q' v H3) → te ((wipe σ vs).set j (some (kV k))) H1 Q')
    (q : ∀ D H' (xs : List V), H D = none → Same H H' → H' D = some (.lst xs) → xs.length = kvs.length → (∀ k v, xs[k]? = some v → Pr k v H') → Q (.ref D) H') : tLockE (tLc (iKeys tl) (gName j) tYes te vs) σ H Q := by
  refine ⟨d, .dK kvs, hd, trivial, fun od => ?_⟩
  have e0 : upd H d (.frz od (.dK kvs)) d = some (.frz od (.dK kvs)) := upd_same
  refine hv od _ ⟨d, od, rfl, .inl ⟨kvs, e0, fun D hD => ?_⟩⟩
  obtain ⟨hD1, hD2⟩ := lock_none hD
  refine lc_any (g := gName j) (te := te) (vs := vs) (σ := σ) (Q := fun v H' => H' d = some (.frz od (.dK kvs)) ∧ Q v (upd H' d (.dK kvs))) walk_keys Pr st hD hl (fun H' s => s _ _ e0) (fun i H1 x H2 _ y => by rw [y.1]; exact Same.refl _) (fun i x H1 H2 Q' R' hi sm y h => ?_) fun H' xs s e l all => ?_
  · obtain ⟨rfl, k, v, hk, rfl⟩ := y
    exact ⟨hw _, r_yes (ht i k v od H2 Q' hk (sm _ _ e0) (fun b u nb eb => sm _ _ (lock_but _ _ nb eb)) h)⟩
  · refine ⟨s _ _ e0, q D _ xs hD1 (unlock_same hd s) (by rw [upd_ne hD2]; exact e) l fun k t hk => st _ _ _ _ (fun a ys ea => ?_) (all k t hk)⟩
    rw [upd_ne (fun z => by rw [z, s _ _ e0] at ea; exact nomatch ea)]
    exact ea
theorem lcAnyV (Pr : Nat → V → Hp → Prop) (st : ∀ i v H1 H2, TS H1 H2 → Pr i v H1 → Pr i v H2) (hd : H d = some (.dK kvs)) (hl : kvs.length ≤ 10000) (hw : ∀ x, wipe ((wipe σ vs).set j (some x)) vs = wipe σ vs)
    (hv : ∀ (od : Obj) (QQ : VK), QQ (.ref d) (upd H d (.frz od (.dK kvs))) → tl σ (upd H d (.frz od (.dK kvs))) QQ)
    (ht : ∀ (i : Nat) (k : Key) (y : V) (od : Obj) (H1 : Hp) (Q' : VK), kvs[i]? = some (k, y) → H1 d = some (.frz od (.dK kvs)) → (∀ b u, b ≠ d → H b = some u → H1 b = some u) → (∀ v H3, Same H1 H3 → Pr i v H3 → Q' v H3) → te ((wipe σ vs).set j (some y)) H1 Q')
    (q : ∀ D H' (xs : List V), H D = none → Same H H' → H' D = some (.lst xs) → xs.length = kvs.length → (∀ k v, xs[k]? = some v → Pr k v H') → Q (.ref D) H') : tLockE (tLc (iVals tl) (gName j) tYes te vs) σ H Q := by
  refine ⟨d, .dK kvs, hd, trivial, fun od => ?_⟩
  have e0 : upd H d (.frz od (.dK kvs)) d = some (.frz od (.dK kvs)) := upd_same
  refine hv od _ ⟨d, od, kvs, rfl, e0, fun D hD => ?_⟩
  obtain ⟨hD1, hD2⟩ := lock_none hD
  refine lc_any (g := gName j) (te := te) (vs := vs) (σ := σ) (Q := fun v H' => H' d = some (.frz od (.dK kvs)) ∧ Q v (upd H' d (.dK kvs))) walk_values Pr st hD hl (fun H' s => s _ _ e0) (fun i H1 x H2 _ y => by rw [y.1]; exact Same.refl _) (fun i x H1 H2 Q' R' hi sm y h => ?_) fun H' xs s e l all => ?_
  · obtain ⟨rfl, k, hk⟩ := y
    exact ⟨hw _, r_yes (ht i k x od H2 Q' hk (sm _ _ e0) (fun b u nb eb => sm _ _ (lock_but _ _ nb eb)) h)⟩
  · refine ⟨s _ _ e0, q D _ xs hD1 (unlock_same hd s) (by rw [upd_ne hD2]; exact e) l fun k t hk => st _ _ _ _ (fun a ys ea => ?_) (all k t hk)⟩
    rw [upd_ne (fun z => by rw [z, s _ _ e0] at ea; exact nomatch ea)]
    exact ea
/-- over items; what stands in the list is known ahead -/
theorem lcItems (p : Nat → Option V) (hd : H d = some (.dK kvs)) (hl : kvs.length ≤ 10000)
    (hv : ∀ (od : Obj) (QQ : VK), QQ (.ref d) (upd H d (.frz od (.dK kvs))) → tl σ (upd H d (.frz od (.dK kvs))) QQ)
    (ht : ∀ (i : Nat) (k : Key) (y : V) (T : Addr) (od : Obj) (H1 : Hp) (Q' : VK) (R' : Hp → Prop), kvs[i]? = some (k, y) → H1 T = some (.tup [kV k, y]) → H1 d = some (.frz od (.dK kvs)) → (∀ b u, b ≠ d → H b = some u → H1 b = some u) → (∀ v, p i = some v → ∀ H3, Same H1 H3 → Q' v H3) → (p i = none → ∀ H3, Same H1 H3 → R' H3) →
      g (.ref T) (wipe σ vs) H1 fun σ2 H2 => wipe σ2 vs = wipe σ vs ∧ tt σ2 H2 fun b H4 => if b = true then te σ2 H4 Q' else R' H4)
    (q : ∀ D H', H D = none → Same H H' → H' D = some (.lst ((List.range kvs.length).filterMap p)) → Q (.ref D) H') : tLockE (tLc (iItems tl) g tt te vs) σ H Q := by
  refine ⟨d, .dK kvs, hd, trivial, fun od => ?_⟩
  have e0 : upd H d (.frz od (.dK kvs)) d = some (.frz od (.dK kvs)) := upd_same
  refine hv od _ ⟨d, od, kvs, rfl, e0, fun D hD => ?_⟩
  obtain ⟨hD1, hD2⟩ := lock_none hD
  refine lc_by (g := g) (tt := tt) (te := te) (vs := vs) (σ := σ) (Q := fun v H' => H' d = some (.frz od (.dK kvs)) ∧ Q v (upd H' d (.dK kvs))) walk_items p hD hl (fun H' s => s _ _ e0) (fun i x H1 H2 Q' R' hi sm y h1 h2 => ?_) fun H' s e => ?_
  · obtain ⟨T, a, b, rfl, nT, rfl, ha, hb⟩ := y
    have ha : kvs[i]?.map (fun kv => kV kv.1) = some a := ha
    have hb : kvs[i]?.map Prod.snd = some b := hb
    cases hk : kvs[i]? with
    | none => rw [hk] at ha; exact nomatch ha
    | some kv =>
      rw [hk] at ha hb
      obtain rfl := Option.some.inj ha
      obtain rfl := Option.some.inj hb
      have sT : Same H1 (upd H1 T (.tup [kV kv.1, kv.2])) := same_upd nT
      exact ht i kv.1 kv.2 T od _ Q' R' hk upd_same (sT _ _ (sm _ _ e0)) (fun b u nb eb => sT _ _ (sm _ _ (lock_but _ _ nb eb))) (fun v hv H3 s3 => h1 v hv H3 (sT.trans s3)) fun hn H3 s3 => h2 hn H3 (sT.trans s3)
  · exact ⟨s _ _ e0, q D _ hD1 (unlock_same hd s) (by rw [upd_ne hD2]; exact e)⟩
end
section
variable {J : It} {G : Hp → Prop} {Y : Nat → Hp → V → Hp → Prop} {g : TG} {te tl : TE} {vs : List Nat} {σ : L2.St} {H : Hp} {D d : Addr} {Q : VK} {M : List Str}
/-- each turn lays a pair of a name and a new thing -/
theorem lc_prsG (w : Walk J M.length G Y) (o : Str → HO) (hD : H D = none) (hn : M.length ≤ 10000) (hG : ∀ H', Same H H' → G H')
    (hY : ∀ i H1 x H2, i < M.length → Y i H1 x H2 → Same H1 H2)
    (hs : ∀ i x (H1 H2 : Hp) (Q' : VK) (R' : Hp → Prop), i < M.length → Same H H1 → Y i H1 x H2 → (∀ z t c H3, M[i]? = some z → H2 t = none → H2 c = none → t ≠ c → Same H2 H3 → H3 t = some (.tup [.str z, .ref c]) → H3 c = some (o z) → Q' (.ref t) H3) →
      g x (wipe σ vs) H2 fun τ H3 => wipe τ vs = wipe σ vs ∧ tYes τ H3 fun b H4 => if b = true then te τ H4 Q' else R' H4)
    (q : ∀ H' (ts cs : List Addr), Same H H' → H' D = some (.lst (ts.map V.ref)) → ts.length = M.length → cs.length = M.length → (∀ (k : Nat) t c x, ts[k]? = some t → cs[k]? = some c → M[k]? = some x → H' t = some (.tup [.str x, .ref c]) ∧ H' c = some (o x)) → cs.Nodup → (∀ c ∈ cs, H c = none) → D ∉ cs → Q (.ref D) H') :
    ∃ W : Nat → Nat → Hp → Prop, (∃ m, W 0 m (upd H D (.lst []))) ∧ ∀ i m H, W i m H →
      (J.stop i H ∧ Q (.ref D) H) ∨ (J.go i H ∧ ∃ Nx : Hp → Prop, (∀ H', Nx H' → ∃ m', m' < m ∧ W (i + 1) m' H') ∧ ∀ x H', J.yld i H x H' → g x (wipe σ vs) H' fun σ2 H2 => wipe σ2 vs = wipe σ vs ∧ tYes σ2 H2 fun b H3 =>
        if b = true then te σ2 H3 fun y H4 => ∃ acc, H4 D = some (.lst acc) ∧ acc.length < sizeLine ∧ Nx (upd H4 D (.lst (acc ++ [y]))) else Nx H3) := by
  refine lc_it w (fun i G => Same H G ∧ ∃ ts cs : List Addr, G D = some (.lst (ts.map V.ref)) ∧ ts.length = i ∧ cs.length = i ∧ (∀ (k : Nat) t c x, ts[k]? = some t → cs[k]? = some c → M[k]? = some x → G t = some (.tup [.str x, .ref c]) ∧ G c = some (o x)) ∧ cs.Nodup ∧ (∀ c ∈ cs, H c = none ∧ G c ≠ none) ∧ D ∉ cs)
    ⟨same_upd hD, [], [], upd_same, rfl, rfl, (fun _ _ _ _ z => nomatch z), List.nodup_nil, (fun _ z => nomatch z), fun z => nomatch z⟩ (fun i G _ z => hG G z.1) (fun i x H1 H2 hi ⟨sm, ts, cs, e, l1, l2, all, nd, fr, nD⟩ y => ?_) fun G ⟨sm, ts, cs, e, l1, l2, all, nd, fr, nD⟩ => q G ts cs sm e l1 l2 all nd (fun c hc => (fr c hc).1) nD
  have s12 := hY i H1 x H2 hi y
  refine hs i x H1 H2 _ _ hi sm y fun z t c H3 hz nt nc tc s3 et ec => ?_
  have sm2 := sm.trans s12
  replace e := s12 _ _ e
  replace all : ∀ (k : Nat) t c x, ts[k]? = some t → cs[k]? = some c → M[k]? = some x → H2 t = some (.tup [.str x, .ref c]) ∧ H2 c = some (o x) := fun k t c x h1 h2 h3 => ⟨s12 _ _ (all k t c x h1 h2 h3).1, s12 _ _ (all k t c x h1 h2 h3).2⟩
  replace fr : ∀ c ∈ cs, H c = none ∧ H2 c ≠ none := fun c hc => ⟨(fr c hc).1, fun w => by
    cases h : H1 c with
    | none => exact (fr c hc).2 h
    | some r => rw [s12 _ _ h] at w; exact nomatch w⟩
  have tD : t ≠ D := fun w => by rw [w, e] at nt; exact nomatch nt
  have cD : c ≠ D := fun w => by rw [w, e] at nc; exact nomatch nc
  have ccs : c ∉ cs := fun w => (fr c w).2 nc
  refine ⟨_, s3 _ _ e, by rw [List.length_map, l1]; exact Nat.lt_of_lt_of_le hi (Nat.le_trans hn (by decide)), sameBut (sm2.trans s3) hD, ts ++ [t], cs ++ [c], ?_, by rw [List.length_append, l1]; rfl, by rw [List.length_append, l2]; rfl, fun k u v x hk hv hx => ?_, ?_, fun u hu => ?_, fun w => ?_⟩
  · rw [upd_same, List.map_append]
    rfl
  · have hlt : k < ts.length + 1 := by
      have := (List.getElem?_eq_some_iff.mp hk).1
      rw [List.length_append] at this
      exact this
    by_cases hk2 : k < ts.length
    · rw [List.getElem?_append_left hk2] at hk
      rw [List.getElem?_append_left (by omega)] at hv
      obtain ⟨a1, a2⟩ := all k u v x hk hv hx
      have nu : u ≠ D := fun w => by rw [w, e] at a1; exact nomatch a1
      have nv : v ≠ D := fun w => nD (by rw [← w]; exact List.mem_of_getElem? hv)
      exact ⟨by rw [upd_ne nu]; exact s3 _ _ a1, by rw [upd_ne nv]; exact s3 _ _ a2⟩
    · have e3 : k = i := by omega
      subst e3
      rw [List.getElem?_append_right (by omega), l1, Nat.sub_self] at hk
      rw [List.getElem?_append_right (by omega), l2, Nat.sub_self] at hv
      obtain rfl := Option.some.inj hk
      obtain rfl := Option.some.inj hv
      rw [hz] at hx
      obtain rfl := Option.some.inj hx
      exact ⟨by rw [upd_ne tD]; exact et, by rw [upd_ne cD]; exact ec⟩
  · refine List.nodup_append.mpr ⟨nd, (by simp), fun a ha b hb w => ?_⟩
    rw [List.mem_singleton.mp hb] at w
    exact ccs (by rw [← w]; exact ha)
  · rcases List.mem_append.mp hu with w | w
    · obtain ⟨a1, a2⟩ := fr u w
      refine ⟨a1, ?_⟩
      rw [upd_ne (fun z => nD (by rw [← z]; exact w))]
      cases h : H2 u with
      | none => exact absurd h a2
      | some r => rw [s3 _ _ h]; exact fun z => nomatch z
    · rw [List.mem_singleton.mp w]
      refine ⟨sm2.free nc, ?_⟩
      rw [upd_ne cD, ec]
      exact fun z => nomatch z
  · rcases List.mem_append.mp w with w | w
    · exact nD w
    · exact cD (List.mem_singleton.mp w).symm
/-- over the items of a locked dict by names -/
theorem lcPrsI {f : Str → V} (o : Str → HO) (hl : M.length ≤ 10000) (hd : H d = some (.dK (dicF M f)))
    (hv : ∀ (od : Obj) (QQ : VK), QQ (.ref d) (upd H d (.frz od (.dK (dicF M f)))) → tl σ (upd H d (.frz od (.dK (dicF M f)))) QQ)
    (ht : ∀ (z : Str) (T : Addr) (od : Obj) (H1 : Hp) (Q' : VK) (R' : Hp → Prop), z ∈ M → H1 T = some (.tup [.str z, f z]) → H1 d = some (.frz od (.dK (dicF M f))) → (∀ b u, b ≠ d → H b = some u → H1 b = some u) → (∀ t c H3, H1 t = none → H1 c = none → t ≠ c → Same H1 H3 → H3 t = some (.tup [.str z, .ref c]) → H3 c = some (o z) → Q' (.ref t) H3) →
      g (.ref T) (wipe σ vs) H1 fun τ H3 => wipe τ vs = wipe σ vs ∧ tYes τ H3 fun b H4 => if b = true then te τ H4 Q' else R' H4)
    (q : ∀ D H' (ts cs : List Addr), H D = none → Same H H' → H' D = some (.lst (ts.map V.ref)) → ts.length = M.length → cs.length = M.length → (∀ (k : Nat) t c x, ts[k]? = some t → cs[k]? = some c → M[k]? = some x → H' t = some (.tup [.str x, .ref c]) ∧ H' c = some (o x)) → cs.Nodup → (∀ c ∈ cs, H c = none) → Q (.ref D) H') : tLockE (tLc (iItems tl) g tYes te vs) σ H Q := by
  refine ⟨d, .dK (dicF M f), hd, trivial, fun od => ?_⟩
  have e0 : upd H d (.frz od (.dK (dicF M f))) d = some (.frz od (.dK (dicF M f))) := upd_same
  refine hv od _ ⟨d, od, _, rfl, e0, fun D hD => ?_⟩
  obtain ⟨hD1, hD2⟩ := lock_none hD
  have wl : Walk (Iti d od (dicF M f)) M.length (fun H => H d = some (.frz od (.dK (dicF M f)))) (YPair (fun i => (dicF M f)[i]?.map fun kv => kV kv.1) (fun i => (dicF M f)[i]?.map Prod.snd)) := by
    have w := walk_items (d := d) (o := od) (kvs := dicF M f)
    rwa [dicF_len] at w
  refine lc_prsG (g := g) (te := te) (vs := vs) (σ := σ) (Q := fun v H' => H' d = some (.frz od (.dK (dicF M f))) ∧ Q v (upd H' d (.dK (dicF M f)))) wl o hD hl (fun H' s => s _ _ e0) (fun i H1 x H2 _ y => ?_) (fun i x H1 H2 Q' R' hi sm y h => ?_) fun H' ts cs s e l1 l2 all nd fr nD => ?_
  · obtain ⟨T, a, b, rfl, nT, rfl, ha, hb⟩ := y
    exact same_upd nT
  · obtain ⟨T, a, b, rfl, nT, rfl, ha, hb⟩ := y
    have ha : (M.map fun x => ((Sum.inr x : Key), f x))[i]?.map (fun kv => kV kv.1) = some a := ha
    have hb : (M.map fun x => ((Sum.inr x : Key), f x))[i]?.map Prod.snd = some b := hb
    rw [List.getElem?_map, List.getElem?_eq_getElem hi] at ha hb
    obtain rfl := Option.some.inj ha
    obtain rfl := Option.some.inj hb
    have sT : Same H1 (upd H1 T (.tup [.str M[i], f M[i]])) := same_upd nT
    exact ht M[i] T od _ Q' R' (List.getElem_mem hi) upd_same (sT _ _ (sm _ _ e0)) (fun b u nb eb => sT _ _ (sm _ _ (lock_but _ _ nb eb))) fun t c H3 n1 n2 tc s3 et ec => h _ t c H3 (List.getElem?_eq_getElem hi) n1 n2 tc s3 et ec
  · refine ⟨s _ _ e0, q D _ ts cs hD1 (unlock_same hd s) (by rw [upd_ne hD2]; exact e) l1 l2 (fun k t c x h1 h2 h3 => ?_) nd fun c hc => (lock_none (fr c hc)).1⟩
    obtain ⟨a1, a2⟩ := all k t c x h1 h2 h3
    have nt : t ≠ d := fun z => by rw [z, s _ _ e0] at a1; exact nomatch a1
    exact ⟨by rw [upd_ne nt]; exact a1, by rw [upd_ne (lock_none (fr c (List.mem_of_getElem? h2))).2]; exact a2⟩
end
/-! ## 44. a comprehension over a locked dict by names, some left out as drawn -/
section
variable {K : PySem.W.Frag} {σ : L2.St} {H : Hp} {Q : VK} {j m : Nat} {vs : List Nat} {tt : TT} {te tl : TE} {d bx : Addr} {M : List Str} {f : Str → V}
theorem lcFltK (hb : Box bx m H) (hl : M.length ≤ 1000) (hw : ∀ x, wipe ((wipe σ vs).set j (some x)) vs = wipe σ vs) (hd : H d = some (.dK (dicF M f)))
    (hv : ∀ (od : Obj) (QQ : VK), QQ (.ref d) (upd H d (.frz od (.dK (dicF M f)))) → tl σ (upd H d (.frz od (.dK (dicF M f)))) QQ)
    (hte : ∀ (x : Str) (H1 : Hp) (QQ : VK), QQ (.str x) H1 → te ((wipe σ vs).set j (some (.str x))) H1 QQ)
    (ht : ∀ (x : Str) (k : Nat) (H1 : Hp) (Q' : Bool → Hp → Prop), x ∈ M → k < m + M.length → Box bx k H1 → (∀ b H2, Box bx (k + 1) H2 → But bx H1 H2 → Q' b H2) → tt ((wipe σ vs).set j (some (.str x))) H1 Q')
    (hq : ∀ (D : Addr) (H' : Hp) (ys : List Str), H D = none → But bx H H' → Box bx (m + M.length) H' → H' D = some (.lst (ys.map V.str)) → ys.length ≤ M.length → (∀ y ∈ ys, y ∈ M) → Q (.ref D) H') : tLockE (tLc (iKeys tl) (gName j) tt te vs) σ H Q := by
  refine ⟨d, .dK (dicF M f), hd, trivial, fun od => ?_⟩
  have e0 : upd H d (.frz od (.dK (dicF M f))) d = some (.frz od (.dK (dicF M f))) := upd_same
  have nbd : bx ≠ d := by
    rintro rfl
    obtain ⟨x, y, z, e, _⟩ := hb
    rw [hd] at e
    exact nomatch e
  refine hv od _ ⟨d, od, rfl, .inl ⟨_, e0, fun D hD => ?_⟩⟩
  obtain ⟨hD1, hD2⟩ := lock_none hD
  have hbL : Box bx m (upd H d (.frz od (.dK (dicF M f)))) := by
    obtain ⟨x, y, z, e, r⟩ := hb
    exact ⟨x, y, z, by rw [upd_ne nbd]; exact e, r⟩
  have nD : D ≠ bx := hbL.ne hD
  generalize hHL : upd H d (.frz od (.dK (dicF M f))) = HL at e0 hD hbL ⊢
  refine lc_it (g := gName j) (tt := tt) (te := te) (vs := vs) (σ := σ) (walk_keys (d := d) (o := od) (kvs := dicF M f)) (fun i G => But bx HL G ∧ Box bx (m + i) G ∧ ∃ ys : List Str, G D = some (.lst (ys.map V.str)) ∧ ys.length ≤ i ∧ ∀ y ∈ ys, y ∈ M)
    ⟨.of (same_upd hD), hbL.same (same_upd hD), [], upd_same, Nat.le_refl _, fun _ z => nomatch z⟩ (fun i G hi ⟨bt, _⟩ => bt _ _ nbd.symm e0) (fun i x H1 H2 hi ⟨bt, hB, ys, e, l, hp⟩ y => ?_) fun G ⟨bt, hB, ys, e, l, hp⟩ => ?_
  · obtain ⟨rfl, k, v, hk, rfl⟩ := y
    rw [dicF_len] at hi
    unfold dicF at hk
    rw [List.getElem?_map, List.getElem?_eq_getElem hi] at hk
    obtain ⟨rfl, _⟩ := Prod.mk.inj (Option.some.inj hk)
    refine ⟨hw _, ht M[i] (m + i) _ _ (List.getElem_mem hi) (by omega) hB fun b H3 hB3 b3 => ?_⟩
    have e3 := b3 _ _ nD e
    have bt3 := bt.trans b3
    cases b with
    | false => exact ⟨bt3, hB3, ys, e3, by omega, hp⟩
    | true =>
      rw [if_pos rfl]
      refine hte M[i] H3 _ ⟨_, e3, by rw [List.length_map, sizeLine_eq]; omega, ?_⟩
      refine ⟨fun b o nb eb => by rw [upd_ne (ne_of_none eb hD)]; exact bt3 _ _ nb eb, ?_, ys ++ [M[i]], by rw [upd_same, List.map_append]; rfl, by rw [List.length_append]; exact Nat.succ_le_succ l, fun y hy => ?_⟩
      · obtain ⟨x1, y1, z1, eB, r⟩ := hB3
        exact ⟨x1, y1, z1, by rw [upd_ne nD.symm]; exact eB, r⟩
      · rcases List.mem_append.mp hy with w | w
        · exact hp y w
        · rw [List.mem_singleton.mp w]; exact List.getElem_mem hi
  · rw [dicF_len] at hB l
    refine ⟨bt _ _ nbd.symm e0, hq D _ ys hD1 (unlock_but hd (by rw [hHL]; exact bt)) ?_ (by rw [upd_ne hD2]; exact e) l hp⟩
    obtain ⟨x1, y1, z1, eB, r⟩ := hB
    exact ⟨x1, y1, z1, by rw [upd_ne nbd]; exact eB, r⟩
end
end Bk

namespace Bk
open PySem PySem.Spec PyProof.Rows L2
/-! ## 45. no thing of ours stands where the modules' dict does -/
theorem nsm {X : Cx} {pins : List (Addr × Obj)} {σ : L2.St} {H : Hp} {s : Shared} {o : Obj} (k : X.K.lookup sysModules = some o) (I : Inv X pins σ H s) {a : Addr} {u : HO} (e : H a = some u) : a ≠ sysModules := by
  rintro rfl
  have h := I.mod.kin _ _ k
  rw [(I.bs _ _ h).2] at e
  exact nomatch e
/-- repr of a thing with dicts among lists, wherever these stand -/
theorem call_repr_shz {X : Cx} {j : Nat} (k : ∃ o : Obj, X.K.lookup sysModules = some o) (ga : X.A.guards = some []) (hr : Room j X.A) : CallR X (.builtin "repr") (fun xs H Q => ∃ v z, xs = [v] ∧ ((∀ a u, H a = some u → a ≠ sysModules) → Shq X.K H v z) ∧ Q (.str z) H) := by
  intro pins s σ H xs us Q I r h
  obtain ⟨o, k⟩ := k
  obtain ⟨v, z, e, hz, q⟩ := h
  exact call_repr_shq ga hr pins s σ H xs us Q I r ⟨v, z, e, hz fun a u e => nsm k I e, q⟩
/-! ## 46. != of what is data or plain -/
def rNeS (K : PySem.W.Frag) : R2 := fun x y H Q => rNe x y H Q ∨ rNeD K x y H Q
theorem op_neS {X : Cx} (hu : X.A.units + 64 < cLine) : OpR X (compareOp .NotEq) (rNeS X.K) := OpR.or op_ne (op_neD hu)
/-! ## 47. slices of a list or a tuple -/
def rSlQ (K : PySem.W.Frag) : V → Option Int → Option Int → Hp → VK → Prop := fun x lo hi H Q => rSlL K x lo hi H Q ∨ rSlA K x lo hi H Q
theorem sl_seqA {X : Cx} : SlR X (rSlQ X.K) := SlR.or sl_list sl_tupA
/-! ## 48. a comprehension over a list or a tuple -/
def SqA (K : PySem.W.Frag) (H : Hp) (a : Addr) (xs : List V) : Prop := SqL K H a xs ∨ SqT K H a xs
theorem SqA.same {K : PySem.W.Frag} {H H' : Hp} {a : Addr} {xs : List V} (h : SqA K H a xs) (s : Same H H') : SqA K H' a xs := h.elim (fun z => .inl (Same.seq s z)) fun z => .inr (seqT s z)
section
variable {K : PySem.W.Frag} {σ : L2.St} {H : Hp} {Q : VK} {g : TG} {tt : TT} {te tl : TE} {vs : List Nat} {a : Addr} {xs : List V}
theorem lcQ (p : Nat → Option V) (hs : SqA K H a xs) (hl : xs.length ≤ 10000) (hv : ∀ QQ : VK, QQ (.ref a) H → tl σ H QQ)
    (ht : ∀ i x (H1 : Hp) (Q' : VK) (R' : Hp → Prop), xs[i]? = some x → Same H H1 → (∀ v, p i = some v → ∀ H3, Same H1 H3 → Q' v H3) → (p i = none → ∀ H3, Same H1 H3 → R' H3) →
      g x (wipe σ vs) H1 fun τ H3 => wipe τ vs = wipe σ vs ∧ tt τ H3 fun b H4 => if b = true then te τ H4 Q' else R' H4)
    (q : ∀ D H', H D = none → Same H H' → H' D = some (.lst ((List.range xs.length).filterMap p)) → Q (.ref D) H') : tLc (iSeqA K tl) g tt te vs σ H Q := by
  refine hv _ ⟨a, xs, rfl, ?_⟩
  rcases hs with hs | hs
  · refine .inl ⟨hs, fun D hD => ?_⟩
    exact lc_by (walk_list (xs := xs)) p hD hl (fun H' s => Same.seq s hs) (fun i x H1 H2 Q' R' hi sm y h1 h2 => by
      obtain ⟨rfl, hx⟩ := y
      exact ht i x _ Q' R' hx sm h1 h2) fun H' s e => q D H' hD s e
  · refine .inr ⟨hs, fun D hD => ?_⟩
    exact lc_by (walk_tup (xs := xs)) p hD hl (fun H' s => seqT s hs) (fun i x H1 H2 Q' R' hi sm y h1 h2 => by
      obtain ⟨rfl, hx⟩ := y
      exact ht i x _ Q' R' hx sm h1 h2) fun H' s e => q D H' hD s e
/-- over enumerate of a list or a tuple -/
theorem lcEnumA {ta : TA} (p : Nat → Option V) (hs : SqA K H a xs) (hl : xs.length ≤ 10000) (hv : ∀ QQ : List V → Hp → Prop, QQ [.ref a] H → ta σ H QQ)
    (ht : ∀ i x T (H1 : Hp) (Q' : VK) (R' : Hp → Prop), xs[i]? = some x → Same H H1 → H1 T = some (.tup [.int (i : Nat), x]) → (∀ v, p i = some v → ∀ H3, Same H1 H3 → Q' v H3) → (p i = none → ∀ H3, Same H1 H3 → R' H3) →
      g (.ref T) (wipe σ vs) H1 fun τ H3 => wipe τ vs = wipe σ vs ∧ tt τ H3 fun b H4 => if b = true then te τ H4 Q' else R' H4)
    (q : ∀ D H', H D = none → Same H H' → H' D = some (.lst ((List.range xs.length).filterMap p)) → Q (.ref D) H') : tLc (iEnumA K ta) g tt te vs σ H Q := by
  refine hv _ ⟨a, xs, rfl, ?_⟩
  rcases hs with hs | hs
  · refine .inl ⟨hs, fun D hD => ?_⟩
    refine lc_by (walk_enum (xs := xs)) p hD hl (fun H' s => Same.seq s hs) (fun i x H1 H2 Q' R' hi sm y h1 h2 => ?_) fun H' s e => q D H' hD s e
    obtain ⟨T, b, c, rfl, nT, rfl, hb, hc⟩ := y
    obtain rfl := Option.some.inj hb
    have sT : Same H1 (upd H1 T (.tup [.int (i : Nat), c])) := same_upd nT
    exact ht i c T _ Q' R' hc (sm.trans sT) upd_same (fun v hv H3 s3 => h1 v hv H3 (sT.trans s3)) fun hn H3 s3 => h2 hn H3 (sT.trans s3)
  · refine .inr ⟨hs, fun D hD => ?_⟩
    refine lc_by (walk_enumT (xs := xs)) p hD hl (fun H' s => seqT s hs) (fun i x H1 H2 Q' R' hi sm y h1 h2 => ?_) fun H' s e => q D H' hD s e
    obtain ⟨T, b, c, rfl, nT, rfl, hb, hc⟩ := y
    obtain rfl := Option.some.inj hb
    have sT : Same H1 (upd H1 T (.tup [.int (i : Nat), c])) := same_upd nT
    exact ht i c T _ Q' R' hc (sm.trans sT) upd_same (fun v hv H3 s3 => h1 v hv H3 (sT.trans s3)) fun hn H3 s3 => h2 hn H3 (sT.trans s3)
end
end Bk

namespace Bk
open PySem PySem.Spec PyProof.Rows L2 HT
/-! ## 49. xs[i:j] = ys, j beyond the end too -/
section
variable {prog : Program} {w : World} {A : Around} {E : Value → Shared → Prop} {s : Shared}
theorem cut_bounds {i j m : Nat} (h : i ≤ j) (l : i ≤ m) : sliceBounds (some (i : Int)) (some (j : Int)) none m = ((i : Int), ((min j m : Nat) : Int), 1) := by
  have a : ¬ (i : Int) < 0 := by omega
  have b : ¬ (j : Int) < 0 := by omega
  have c : max 0 (min (i : Int) m) = i := by omega
  have d : max 0 (min (j : Int) m) = ((min j m : Nat) : Int) := by omega
  show (_, _, _) = (_, _, _)
  simp [a, b]
  exact ⟨c, d⟩
theorem store_cut {p q z : Addr} {xs ys : Array Value} {m m2 : Nat} {u v : Value} {i j : Nat} {Q : Unit → Shared → Prop}
    (ep : s.heap.get? p = some { cls := .type "list", data := .seq xs m }) (eq : s.heap.get? q = some { cls := .type "list", data := .seq ys m2 }) (npq : p ≠ q) (hz : s.heap.IsSliceOf z u v .none)
    (pi : IsPart u (some (i : Int))) (pj : IsPart v (some (j : Int))) (ij : i ≤ j) (im : i ≤ xs.size) (sz : xs.size + ys.size ≤ sizeLine)
    (k : Q () { s with heap := s.heap.update p (Obj.mapSeq fun zs => zs.extract 0 i ++ ys ++ zs.extract (min j xs.size) zs.size) }) : wpAny (model prog w) A (setItem (.ref p) (.ref z) (.ref q)) Q E s := by
  have lp : s.heap.IsList p xs := PySem.IsL.isList ep
  have lq : s.heap.IsList q ys := PySem.IsL.isList eq
  obtain ⟨oz, h1, h2, h3⟩ := id hz
  have tz : s.TypeIs (.ref z) "slice" := ⟨oz, h1, h2⟩
  have ns : Builtin.List.listSameRef (.ref p) (.ref q) = false := beq_eq_false_iff_ne.mpr npq
  have n0 : ¬ ((rawPart none == rawInt 0) = true) := fun h => Bool.false_ne_true h
  have mx : (max (i : Int) ((min j xs.size : Nat) : Int)).toNat = min j xs.size := by omega
  have zz : ((fun zs : Array Value => zs.extract 0 i ++ ys ++ zs.extract (min j xs.size) zs.size) xs).size ≤ sizeLine + 1 := by
    simp only [Array.size_append, Array.size_extract]; omega
  unfold setItem
  (try with_reducible refine wpAny_holding ?_); (first | refine wpAny_bind (wpAny_pure ?_) | skip)
  refine wpAny_bind (wpAny_sequenceKey lp.typeIs (by decide) ?_); refine wpAny_bind (wpAny_callSpecial?_slot (name := Str.ofString "__setitem__") lp.typeIs slot_list_setitem (wpAny_call_entry slot_list_setitem lp.typeIs entry_list_setitem ?_ (args_list_setitem _ _ _)))
  show wpAny _ _ (Builtin.List.listSubscript? (.ref z) >>= _) _ _ s; refine wpAny_bind ?_; unfold Builtin.List.listSubscript?
  refine wpAny_bind (wpAny_specialOf tz slice_no_index ?_); simp only [Option.isNone_none, if_true]; refine wpAny_pure ?_
  show wpAny _ _ (typeOf (.ref z) >>= _) _ _ s; refine wpAny_bind (wpAny_typeOf tz ?_)
  (first | rw [if_neg (by decide)] | refine PySem.W.KFB.if_not (by decide) ?_); rw [listSliceParts_eq]
  refine wpAny_bind (wpAny_bind (wpAny_field h1 h3 (x := .none) rfl (wpAny_bind (wpAny_listPart .none ?_)))); rw [if_neg n0]
  refine wpAny_bind (wpAny_field h1 h3 (x := u) rfl (wpAny_bind (wpAny_listPart pi ?_))); refine wpAny_bind (wpAny_field h1 h3 (x := v) rfl (wpAny_bind (wpAny_listPart pj (wpAny_pure ?_))))
  (first | simp only [ns, Bool.false_eq_true, if_false] | refine PySem.W.KFB.if_not ns ?_ | (dsimp only; rw [if_neg (by rw [ns]; exact Bool.false_ne_true)]))
  refine wpAny_bind (m := Builtin.List.listAllItems (.ref q) "must assign iterable to extended slice") ?_; unfold Builtin.List.listAllItems; refine wpAny_bind (wpAny_typeOf lq.typeIs ?_)
  (first | refine PySem.W.KFB.if_so (by decide) ?_ | rw [if_pos (by decide)] | simp only [beq_self_eq_true, Bool.true_or, if_true]); unfold Builtin.List.listItems
  refine wpAny_bind (wpAny_seqItems eq rfl (wpAny_pure ?_)); refine wpAny_bind (wpAny_bind (wpAny_seqItems ep rfl (wpAny_pure ?_)))
  refine wpAny_bind (wpAny_of_eq ((sliceIndices_raw (some (i : Int)) (some (j : Int)) none xs.size (by simp)).trans (congrArg (pure : Int × Int × Int → Sem (Int × Int × Int)) (cut_bounds ij im))) ?_)
  show wpAny _ _ (if ((1 : Int) == 1) = true then _ else _) _ _ s; rw [if_pos (by decide)]; refine wpAny_bind (wpAny_rule ?_)
  (first | simp only [notLongL sz, Bool.false_eq_true, if_false] | refine PySem.W.KFB.if_not (notLongL sz) ?_); (first | refine wpAny_bind (wpAny_pure ?_) | skip)
  show wpAny _ _ (updateSeq p (fun zs => zs.extract 0 ((i : Int)).toNat ++ ys ++ zs.extract (max (i : Int) ((min j xs.size : Nat) : Int)).toNat zs.size) >>= _) _ _ s; rw [mx, Int.toNat_natCast]
  refine wpAny_bind (wpAny_updateSeq (hz := Nat.le_trans (Nat.le_add_right _ _) sz) (_hz' := zz) ep rfl ?_); refine wpAny_bind (wpAny_letGo ?_)
  (first | exact wpAny_bind (wpAny_pure (wpAny_pure ⟨.none, rfl, wpAny_pure k⟩)) | exact wpAny_pure ⟨.none, rfl, wpAny_pure k⟩)
end
section
variable {X : Cx}
theorem put_cut {pins : List (Addr × Obj)} {s : Shared} {σ : L2.St} {H : Hp} {p q z : Addr} {xs ys : List V} {i j : Nat} {u v : Value} {Q : Unit → Shared → Prop} (I : Inv X pins σ H s)
    (ep : H p = some (.lst xs)) (eq : H q = some (.lst ys)) (npq : p ≠ q) (hz : s.heap.IsSliceOf z u v .none) (pu : IsPart u (some (i : Int))) (pv : IsPart v (some (j : Int))) (ij : i ≤ j) (im : i ≤ xs.length) (sz : xs.length + ys.length ≤ sizeLine)
    (k : ∀ s', Inv X pins σ (upd H p (.lst (xs.take i ++ ys ++ xs.drop j))) s' → Q () s') : wpAny (model X.prog X.w) X.A (setItem (.ref p) (.ref z) (.ref q)) Q X.xe s := by
  obtain ⟨_, us, n, r, l1, e1⟩ := I.lstM ep
  obtain ⟨_, vs, n2, r2, l2, e2⟩ := I.lstM eq
  have len := r.length
  have len2 := r2.length
  refine store_cut (i := i) (j := j) e1 e2 npq hz pu pv ij (by rw [List.size_toArray, ← len]; exact im) (by rw [List.size_toArray, List.size_toArray, ← len, ← len2]; exact sz) (k _ ?_)
  refine I.lset (its' := us.take i ++ vs ++ us.drop (min j us.length)) (t' := s.toks) ep e1 (by rw [List.size_toArray]; exact splice_eq us vs i (min j us.length)) ?_ ?_
  · have d : xs.drop j = xs.drop (min j us.length) := by
      rw [← len]
      by_cases h : j ≤ xs.length
      · rw [Nat.min_eq_left h]
      · rw [Nat.min_eq_right (by omega), List.drop_of_length_le (by omega), List.drop_of_length_le (Nat.le_refl _)]
    rw [d]
    exact Vals.append (Vals.append (r.take _) r2) (r.drop _)
  · rw [List.length_append, List.length_append, List.length_take, List.length_drop]
    omega
/-- xs[i:j] = .. as a target -/
def gCut (to : TE) (tl th : TO) : TG := fun v σ H Q => to σ H fun o H1 => tl σ H1 fun a H2 => th σ H2 fun c H3 => ∃ (p q : Addr) (xs ys : List V) (i j : Nat), o = .ref p ∧ v = .ref q ∧ a = some (i : Int) ∧ c = some (j : Int) ∧ H3 p = some (.lst xs) ∧ H3 q = some (.lst ys) ∧ p ≠ q ∧ i ≤ j ∧ i ≤ xs.length ∧ xs.length + ys.length ≤ sizeLine ∧ Q σ (upd H3 p (.lst (xs.take i ++ ys ++ xs.drop j)))
theorem pg_cut {o : Expr} {lo hi : Option Expr} {to : TE} {tl th : TO} {pos p2 : Pos} (ho : PE X o to) (hl : PO X lo tl) (hh : PO X hi th)
    (ha : ∀ v, assign (.Subscript o (.Slice lo hi none p2) pos) X.env v = (do
      let ov ← holding [v] (eval o X.env)
      let iv ← holding [v, ov] (eval (.Slice lo hi none p2) X.env)
      standAt pos
      holding [v, ov, iv] (setItem ov iv v)
      release [iv, v, ov] []) := by intro _; rfl) : PG X (.Subscript o (.Slice lo hi none p2) pos) (gCut to tl th) := by
  refine ⟨fun pins s σ H v u Q I r h => ?_⟩
  rw [ha]
  refine wpAny_bind (wpAny_holding (thn (ho.run pins s σ H _ I h) fun ov s1 ⟨x, H1, I1, r1, q1⟩ => ?_))
  refine wpAny_bind (wpAny_holding ?_)
  refine wpAny_Slice (thn (hl.run pins s1 σ H1 _ I1 q1) fun vl s2 ⟨l, H2, I2, pl, q2⟩ => thn (hh.run pins s2 σ H2 _ I2 q2) fun vu s3 ⟨c, H3, I3, pu, q3⟩ => ?_)
  rw [evalPart_none]
  refine wpAny_pure ?_
  have I4 : Inv X pins σ H3 { s3 with heap := s3.heap.push { cls := .type "slice", data := .fields #[vl, vu, .none] } } := I3.kept (t' := s3.toks) fun b ob q => Heap.get?_push_of_some _ q
  obtain ⟨p, q, xs, ys, i, j, rfl, rfl, rfl, rfl, ep, eq, npq, ij, im, sz, fin⟩ := q3
  cases (show ov = Value.ref p from r1)
  cases (show u = Value.ref q from r)
  refine wpAny_bind (wpAny_standAt (wpAny_bind (wpAny_holding (put_cut I4 ep eq npq (Heap.IsSliceOf.new ..) pl pu ij im sz fun s' I5 => ?_))))
  exact wpAny_release ⟨σ, _, I5, fin⟩
end
end Bk

namespace Bk
open PySem PySem.Spec PyProof.Rows L2
/-! ## 50. the text of a list whose things have dicts among them, wherever lists stand -/
inductive EachQ (K : PySem.W.Frag) (H : Hp) : List V → List PyData → Prop
  | nil : EachQ K H [] []
  | cons {b : Bool} {v : V} {vs : List V} {d : PyData} {ds : List PyData} : Dq b K H v d → EachQ K H vs ds → EachQ K H (v :: vs) (d :: ds)
def ShL (K : PySem.W.Frag) (H : Hp) (v : V) (z : Str) : Prop := ∃ p vs ds, v = .ref p ∧ vs ≠ [] ∧ SqL K H p vs ∧ EachQ K H vs ds ∧ (PyData.list ds).showable = true ∧ (PyData.list ds).shown.length ≤ sizeLine ∧ (PyData.list ds).depth ≤ 60 ∧ z = (PyData.list ds).shown
theorem shl_of {K : PySem.W.Frag} {H : Hp} {p : Addr} {vs : List V} {ds : List PyData} (hl : SqL K H p vs) (nv : vs ≠ []) (he : EachQ K H vs ds) (s : smQ (PyData.list ds) = true) (l : (PyData.list ds).bulk ≤ 390000) (e : (PyData.list ds).depth ≤ 60) : ShL K H (.ref p) (PyData.list ds).shown := by
  obtain ⟨h1, h2⟩ := smQ_ok _ s
  have h3 := PyData.shown_le_bulk 40 (by decide) _ h2
  exact ⟨p, vs, ds, rfl, nv, hl, he, h1, by rw [sizeLine_eq]; omega, e, rfl⟩
section
variable {X : Cx} {pins : List (Addr × Obj)} {σ : L2.St} {H : Hp} {s : Shared}
theorem each_reads (I : Inv X pins σ H s) : ∀ {ds : List PyData} {vs : List V} {us : List Value}, EachQ X.K H vs ds → Vals vs us → PyData.showableAll ds = true → (∀ t ∈ PyData.shownAll ds, t.length ≤ sizeLine) →
    ∃ as bs, ReadsAll s.heap us ds as ∧ ReadAtMost s.heap (PyData.depthAll ds) bs ∧ ReprAllK X.prog X.w bs s.heap (PyData.depthAll ds) us (PyData.shownAll ds)
  | _, _, _, .nil, r, _, _ => by
    cases r
    exact ⟨_, [], ReadsAll.nil, (fun _ h => nomatch h), by simp only [PyData.shownAll]; exact .nil⟩
  | d :: ds, _, _, .cons (b := b) h1 h2, r, hs, hz => by
    cases r with
    | cons r1 r2 =>
      obtain ⟨as, q1, n1⟩ := Dq.reads I h1 r1
      obtain ⟨g1, g2⟩ := Bool.and_eq_true_iff.mp (show (d.showable && PyData.showableAll ds) = true by simpa only [PyData.showableAll] using hs)
      have z1 : d.shown.length ≤ sizeLine := hz _ (by simp only [PyData.shownAll]; exact List.mem_cons_self ..)
      have hsm : d.hasDict = true → sysModules ∉ as := fun hh => by
        cases b with
        | true => exact n1 rfl
        | false => rw [dq_flat d _ h1] at hh; exact nomatch hh
      obtain ⟨b1, m1, k1⟩ := ReprK.of_reads (prog := X.prog) (w := X.w) q1 g1 hsm z1
      obtain ⟨as2, b2, q2, m2, k2⟩ := each_reads I h2 r2 g2 fun t ht => hz t (by simp only [PyData.shownAll]; exact List.mem_cons_of_mem _ ht)
      have l1 : d.depth ≤ PyData.depthAll (d :: ds) := by simp only [PyData.depthAll]; omega
      have l2 : PyData.depthAll ds ≤ PyData.depthAll (d :: ds) := by simp only [PyData.depthAll]; omega
      refine ⟨_, b1 ++ b2, ReadsAll.cons q1 q2, (m1.mono l1).append (m2.mono l2), ?_⟩
      simp only [PyData.shownAll]
      exact .cons ((k1.more fun c hc => List.mem_append_left _ hc).level_le l1) (k2.more_le (fun c hc => List.mem_append_right _ hc) l2)
theorem call_repr_shl {j : Nat} (ga : X.A.guards = some []) (hr : Room j X.A) : CallR X (.builtin "repr") (fun xs H Q => ∃ v z, xs = [v] ∧ ShL X.K H v z ∧ Q (.str z) H) := by
  intro pins s σ H xs us Q I r h
  obtain ⟨v, z, rfl, ⟨p, vs, ds, rfl, nv, hl, he, h1, h2, h3, rfl⟩, q⟩ := h
  obtain ⟨u, rfl, rv⟩ := vals1 r
  obtain rfl : u = Value.ref p := rv
  have hu := hr.units
  have hz : (listText (PyData.shownAll ds)).length ≤ sizeLine := by simpa only [PyData.shown] using h2
  have fin : ∀ h' u tk, (∀ b o, s.heap.get? b = some o → h'.get? b = some o) → EP X pins σ Q (.str (PyData.list ds).shown u) { s with heap := h', toks := tk } := fun h' u tk hk => ⟨.str _, H, I.kept hk, ⟨_, rfl⟩, q⟩
  simp only [PyData.depth] at h3
  obtain ⟨its, rv, ⟨o, n, ho, hc, _, hd⟩, _⟩ := I.list hl
  obtain ⟨as, bs, qr, qm, qk⟩ := each_reads I he rv (by simpa only [PyData.showable] using h1) fun t ht => Nat.le_trans (listText_mem_le ht) hz
  have na : p ∉ bs := not_mem_of_deeper (.list ho hc hd qr) (by simp only [PyData.depth]; omega) qm
  cases its with
  | nil =>
    cases rv
    exact absurd rfl nv
  | cons y its =>
    refine call_repr_slot (T := "list") (by omega) ⟨o, ho, hc⟩ PySem.F.slot_list_repr.toG ?_
    refine call_list_reprK ho hc hd na (by simpa using qk.length_eq) (fun i y e => qk.item i y (by simpa using e)) (g := []) ga (fun b _ => Clear.nil b) (by show X.A.units + 1 + _ < cLine; omega) (fun _ _ e => e) (fun h' u tk hk => ⟨_, _, rfl, ?_⟩) hz
    have f := fin h' u tk hk
    simp only [PyData.shown] at f
    exact f
theorem call_repr_any {j : Nat} (ga : X.A.guards = some []) (hr : Room j X.A) : CallR X (.builtin "repr") (fun xs H Q => ∃ v z, xs = [v] ∧ (Shq X.K H v z ∨ ShL X.K H v z) ∧ Q (.str z) H) := by
  intro pins s σ H xs us Q I r h
  obtain ⟨v, z, e, hz | hz, q⟩ := h
  · exact call_repr_shq ga hr pins s σ H xs us Q I r ⟨v, z, e, hz, q⟩
  · exact call_repr_shl ga hr pins s σ H xs us Q I r ⟨v, z, e, hz, q⟩
end
end Bk

open PySem PySem.Spec PyProof.Rows L2 Bk
local macro_rules | `(tactic| walk_at "go1") => `(tactic| with_reducible first
  | refine r_seq ?_ | refine r_asg ?_ | refine r_name ?_ | refine r_if ?_ | refine r_ret ?_ | refine r_next ?_ | refine r_drop ?_
  | refine r_op ?_ | refine r_un ?_ | refine r_c ?_ | refine r_I0 ?_ | refine r_lstB ?_ | refine r_mth ?_ | refine r_mthK ?_ | refine r_mkS ?_ | refine r_fld ?_ | refine r_par ?_ | refine r_U ?_ | refine r_nil ?_ | refine r_cons ?_ | refine r_call ?_ | refine r_callN ?_ | refine r_for ?_ | refine r_iList ?_ | refine r_iTup ?_ | refine r_iRng1 ?_ | refine r_iRng2 ?_ | refine r_mkV ?_ | refine r_dnewK ?_ | refine r_cb ?_
  | refine r_test ?_ | refine r_tB ?_ | refine r_isb ?_ | refine r_isv ?_ | refine r_not ?_ | refine r_and ?_ | refine r_or ?_ | refine r_andV ?_ | refine r_orV ?_ | refine r_notV ?_ | refine r_chain ?_ | refine r_ifE ?_
  | refine r_lst ?_ | refine r_tup ?_ | refine r_gSub ?_ | refine r_bm ?_
  | (apply r_var; focus (with_unfolding_all rfl))
  | refine iteT ?_ | refine iteF ?_ | refine iteNF ?_ | refine iteNT ?_ | refine r_m1 ?_ | refine r_sl ?_ | refine r_noPart ?_ | refine r_part ?_ | refine r_isi ?_
  | (refine r_eq ?_ ?_; focus (with_unfolding_all (first | rfl | decide))) | (refine r_ne ?_ ?_; focus (with_unfolding_all (first | rfl | decide))))
local macro_rules | `(tactic| walk_at "go") => `(tactic| repeat (walk_at "go1"))
namespace K28
open PySem PySem.Spec PyProof.Rows L2 Bk


def topS (i : Nat) : Stmt := PySem.Challenge.pw_guestsalone_k28_whole_first_broken.main.body.getD i (.Pass ⟨0, 0, 0, 0⟩)
abbrev s_wall : Stmt := topS 0
abbrev s_GuestError_init : Stmt := inClass (topS 2) 0
abbrev s_Missing_init : Stmt := inClass (topS 3) 0
abbrev s_Barred_init : Stmt := inClass (topS 4) 0
abbrev s_NoNumber_init : Stmt := inClass (topS 5) 0
abbrev s_NoName_init : Stmt := inClass (topS 6) 0
abbrev s_NoLog_init : Stmt := inClass (topS 7) 0
abbrev s_NoShare_init : Stmt := inClass (topS 8) 0
abbrev s_Doubled_init : Stmt := inClass (topS 9) 0
abbrev s_TooMuch_init : Stmt := inClass (topS 10) 0
abbrev s_NoGuest_init : Stmt := inClass (topS 11) 0
abbrev s_Full_init : Stmt := inClass (topS 12) 0
abbrev s_is_whole : Stmt := topS 14
abbrev s_is_name : Stmt := topS 15
abbrev s_all_within : Stmt := topS 16
abbrev s_check_number : Stmt := topS 18
abbrev s_check_name : Stmt := topS 19
abbrev s_check_guest : Stmt := topS 20
abbrev s_Shares_init : Stmt := inClass (topS 26) 0
abbrev s_Shares_come : Stmt := inClass (topS 26) 1
abbrev s_Shares_go : Stmt := inClass (topS 26) 2
abbrev s_Shares_change : Stmt := inClass (topS 26) 3
abbrev s_Shares_deal : Stmt := inClass (topS 26) 4
abbrev s_Shares_length : Stmt := inClass (topS 26) 5
abbrev s_Shares_names : Stmt := inClass (topS 26) 6
abbrev s_Shares_promise : Stmt := inClass (topS 26) 7
abbrev s_Shares_ceiling : Stmt := inClass (topS 26) 8
abbrev s_Shares_counting : Stmt := inClass (topS 26) 9
abbrev s_Shares_used : Stmt := inClass (topS 26) 10
abbrev s_Shares_passed : Stmt := inClass (topS 26) 11
abbrev s_Shares_promised : Stmt := inClass (topS 26) 12
abbrev s_Shares_dealt : Stmt := inClass (topS 26) 13
abbrev s_Shares_twin : Stmt := inClass (topS 26) 14
abbrev s_Shares_check_share : Stmt := inClass (topS 26) 15
abbrev s_Shares_check_promised : Stmt := inClass (topS 26) 16
abbrev s_Shares_by_promise : Stmt := inClass (topS 26) 17
abbrev s_Shares_by_ceiling : Stmt := inClass (topS 26) 18
abbrev s_Shares_begin_stretch : Stmt := inClass (topS 26) 19
abbrev s_first_broken : Stmt := topS 27
abbrev s_may_come : Stmt := topS 28
abbrev s_is_list : Stmt := topS 29
abbrev s_is_names : Stmt := topS 30
abbrev s_is_one_of : Stmt := topS 31
abbrev s_is_broken : Stmt := topS 32
abbrev s_cell_L : Stmt := topS 34
abbrev s_box_L : Stmt := topS 35
abbrev s_take_L : Stmt := topS 36
abbrev s_names_L : Stmt := topS 37
abbrev s_length_L : Stmt := topS 38
abbrev s_share_L : Stmt := topS 39
abbrev s_guests_L : Stmt := topS 40
abbrev s_ready_L : Stmt := topS 41
abbrev s_dealt_L : Stmt := topS 42
abbrev s_breaks_L : Stmt := topS 43
abbrev s_due_L : Stmt := topS 44
abbrev s_right_L : Stmt := topS 45
abbrev s_law : Stmt := topS 46
theorem sc_wall : FnScope ["k"] ["k"] (defScope s_wall) := ⟨rfl, rfl, rfl, by decide +kernel, rfl, by decide +kernel, by decide +kernel⟩
theorem sc_GuestError_init : FnScope ["self", "text"] ["self", "text"] (defScope s_GuestError_init) := ⟨rfl, rfl, rfl, by decide +kernel, rfl, by decide +kernel, by decide +kernel⟩
theorem sc_Missing_init : FnScope ["self", "text"] ["self", "text"] (defScope s_Missing_init) := ⟨rfl, rfl, rfl, by decide +kernel, rfl, by decide +kernel, by decide +kernel⟩
theorem sc_Barred_init : FnScope ["self", "text"] ["self", "text"] (defScope s_Barred_init) := ⟨rfl, rfl, rfl, by decide +kernel, rfl, by decide +kernel, by decide +kernel⟩
theorem sc_NoNumber_init : FnScope ["self", "found"] ["self", "found"] (defScope s_NoNumber_init) := ⟨rfl, rfl, rfl, by decide +kernel, rfl, by decide +kernel, by decide +kernel⟩
theorem sc_NoName_init : FnScope ["self", "found"] ["self", "found"] (defScope s_NoName_init) := ⟨rfl, rfl, rfl, by decide +kernel, rfl, by decide +kernel, by decide +kernel⟩
theorem sc_NoLog_init : FnScope ["self", "found"] ["self", "found"] (defScope s_NoLog_init) := ⟨rfl, rfl, rfl, by decide +kernel, rfl, by decide +kernel, by decide +kernel⟩
theorem sc_NoShare_init : FnScope ["self", "found"] ["self", "found"] (defScope s_NoShare_init) := ⟨rfl, rfl, rfl, by decide +kernel, rfl, by decide +kernel, by decide +kernel⟩
theorem sc_Doubled_init : FnScope ["self", "found"] ["self", "found"] (defScope s_Doubled_init) := ⟨rfl, rfl, rfl, by decide +kernel, rfl, by decide +kernel, by decide +kernel⟩
theorem sc_TooMuch_init : FnScope ["self", "many"] ["self", "many"] (defScope s_TooMuch_init) := ⟨rfl, rfl, rfl, by decide +kernel, rfl, by decide +kernel, by decide +kernel⟩
theorem sc_NoGuest_init : FnScope ["self", "found"] ["self", "found"] (defScope s_NoGuest_init) := ⟨rfl, rfl, rfl, by decide +kernel, rfl, by decide +kernel, by decide +kernel⟩
theorem sc_Full_init : FnScope ["self", "many"] ["self", "many"] (defScope s_Full_init) := ⟨rfl, rfl, rfl, by decide +kernel, rfl, by decide +kernel, by decide +kernel⟩
theorem sc_is_whole : FnScope ["thing", "low", "high"] ["thing", "low", "high"] (defScope s_is_whole) := ⟨rfl, rfl, rfl, by decide +kernel, rfl, by decide +kernel, by decide +kernel⟩
theorem sc_is_name : FnScope ["thing"] ["thing"] (defScope s_is_name) := ⟨rfl, rfl, rfl, by decide +kernel, rfl, by decide +kernel, by decide +kernel⟩
theorem sc_all_within : FnScope ["text", "first", "last", "sign"] ["text", "first", "last"] (defScope s_all_within) := ⟨rfl, rfl, rfl, by decide +kernel, rfl, by decide +kernel, by decide +kernel⟩
theorem sc_check_number : FnScope ["thing", "low", "high"] ["thing", "low", "high"] (defScope s_check_number) := ⟨rfl, rfl, rfl, by decide +kernel, rfl, by decide +kernel, by decide +kernel⟩
theorem sc_check_name : FnScope ["thing"] ["thing"] (defScope s_check_name) := ⟨rfl, rfl, rfl, by decide +kernel, rfl, by decide +kernel, by decide +kernel⟩
theorem sc_check_guest : FnScope ["thing", "guests"] ["thing", "guests"] (defScope s_check_guest) := ⟨rfl, rfl, rfl, by decide +kernel, rfl, by decide +kernel, by decide +kernel⟩
theorem sc_Shares_init : FnScope ["self", "length"] ["self", "length"] (defScope s_Shares_init) := ⟨rfl, rfl, rfl, by decide +kernel, rfl, by decide +kernel, by decide +kernel⟩
theorem sc_Shares_come : FnScope ["self", "name", "promise", "ceiling"] ["self", "name", "promise", "ceiling"] (defScope s_Shares_come) := ⟨rfl, rfl, rfl, by decide +kernel, rfl, by decide +kernel, by decide +kernel⟩
theorem sc_Shares_go : FnScope ["self", "name"] ["self", "name"] (defScope s_Shares_go) := ⟨rfl, rfl, rfl, by decide +kernel, rfl, by decide +kernel, by decide +kernel⟩
theorem sc_Shares_change : FnScope ["self", "name", "promise", "ceiling"] ["self", "name", "promise", "ceiling"] (defScope s_Shares_change) := ⟨rfl, rfl, rfl, by decide +kernel, rfl, by decide +kernel, by decide +kernel⟩
theorem sc_Shares_deal : FnScope ["self", "ready", "name", "among", "chosen"] ["self", "ready"] (defScope s_Shares_deal) := ⟨rfl, rfl, rfl, by decide +kernel, rfl, by decide +kernel, by decide +kernel⟩
theorem sc_Shares_length : FnScope ["self"] ["self"] (defScope s_Shares_length) := ⟨rfl, rfl, rfl, by decide +kernel, rfl, by decide +kernel, by decide +kernel⟩
theorem sc_Shares_names : FnScope ["self"] ["self"] (defScope s_Shares_names) := ⟨rfl, rfl, rfl, by decide +kernel, rfl, by decide +kernel, by decide +kernel⟩
theorem sc_Shares_promise : FnScope ["self", "name"] ["self", "name"] (defScope s_Shares_promise) := ⟨rfl, rfl, rfl, by decide +kernel, rfl, by decide +kernel, by decide +kernel⟩
theorem sc_Shares_ceiling : FnScope ["self", "name"] ["self", "name"] (defScope s_Shares_ceiling) := ⟨rfl, rfl, rfl, by decide +kernel, rfl, by decide +kernel, by decide +kernel⟩
theorem sc_Shares_counting : FnScope ["self", "name"] ["self", "name"] (defScope s_Shares_counting) := ⟨rfl, rfl, rfl, by decide +kernel, rfl, by decide +kernel, by decide +kernel⟩
theorem sc_Shares_used : FnScope ["self", "name"] ["self", "name"] (defScope s_Shares_used) := ⟨rfl, rfl, rfl, by decide +kernel, rfl, by decide +kernel, by decide +kernel⟩
theorem sc_Shares_passed : FnScope ["self"] ["self"] (defScope s_Shares_passed) := ⟨rfl, rfl, rfl, by decide +kernel, rfl, by decide +kernel, by decide +kernel⟩
theorem sc_Shares_promised : FnScope ["self", "promise", "_"] ["self"] (defScope s_Shares_promised) := ⟨rfl, rfl, rfl, by decide +kernel, rfl, by decide +kernel, by decide +kernel⟩
theorem sc_Shares_dealt : FnScope ["self"] ["self"] (defScope s_Shares_dealt) := ⟨rfl, rfl, rfl, by decide +kernel, rfl, by decide +kernel, by decide +kernel⟩
theorem sc_Shares_twin : FnScope ["self"] ["self"] (defScope s_Shares_twin) := ⟨rfl, rfl, rfl, by decide +kernel, rfl, by decide +kernel, by decide +kernel⟩
theorem sc_Shares_check_share : FnScope ["self", "promise", "ceiling"] ["self", "promise", "ceiling"] (defScope s_Shares_check_share) := ⟨rfl, rfl, rfl, by decide +kernel, rfl, by decide +kernel, by decide +kernel⟩
theorem sc_Shares_check_promised : FnScope ["self", "many"] ["self", "many"] (defScope s_Shares_check_promised) := ⟨rfl, rfl, rfl, by decide +kernel, rfl, by decide +kernel, by decide +kernel⟩
theorem sc_Shares_by_promise : FnScope ["self", "among", "chosen", "name", "used", "promise"] ["self", "among"] (defScope s_Shares_by_promise) := ⟨rfl, rfl, rfl, by decide +kernel, rfl, by decide +kernel, by decide +kernel⟩
theorem sc_Shares_by_ceiling : FnScope ["self", "among", "chosen", "name"] ["self", "among"] (defScope s_Shares_by_ceiling) := ⟨rfl, rfl, rfl, by decide +kernel, rfl, by decide +kernel, by decide +kernel⟩
theorem sc_Shares_begin_stretch : FnScope ["self", "name"] ["self"] (defScope s_Shares_begin_stretch) := ⟨rfl, rfl, rfl, by decide +kernel, rfl, by decide +kernel, by decide +kernel⟩
theorem sc_first_broken : FnScope ["length", "guests", "ready", "dealt", "name", "first", "behind", "share", "names"] ["length", "guests", "ready", "dealt"] (defScope s_first_broken) := ⟨rfl, rfl, rfl, by decide +kernel, rfl, by decide +kernel, by decide +kernel⟩
theorem sc_may_come : FnScope ["length", "guests", "shares", "name", "share"] ["length", "guests"] (defScope s_may_come) := ⟨rfl, rfl, rfl, by decide +kernel, rfl, by decide +kernel, by decide +kernel⟩
theorem sc_is_list : FnScope ["thing", "most"] ["thing", "most"] (defScope s_is_list) := ⟨rfl, rfl, rfl, by decide +kernel, rfl, by decide +kernel, by decide +kernel⟩
theorem sc_is_names : FnScope ["thing", "guests", "name"] ["thing", "guests"] (defScope s_is_names) := ⟨rfl, rfl, rfl, by decide +kernel, rfl, by decide +kernel, by decide +kernel⟩
theorem sc_is_one_of : FnScope ["thing", "guests"] ["thing", "guests"] (defScope s_is_one_of) := ⟨rfl, rfl, rfl, by decide +kernel, rfl, by decide +kernel, by decide +kernel⟩
theorem sc_is_broken : FnScope ["name", "share", "ready", "dealt", "whole", "promise", "ceiling", "was_ready", "got", "names", "at", "who"] ["name", "share", "ready", "dealt", "whole"] (defScope s_is_broken) := ⟨rfl, rfl, rfl, by decide +kernel, rfl, by decide +kernel, by decide +kernel⟩
theorem sc_cell_L : FnScope ["_law_script", "_law_k"] ["_law_script", "_law_k"] (defScope s_cell_L) := ⟨rfl, rfl, rfl, by decide +kernel, rfl, by decide +kernel, by decide +kernel⟩
theorem sc_box_L : FnScope ["_law_cell_here"] ["_law_cell_here"] (defScope s_box_L) := ⟨rfl, rfl, rfl, by decide +kernel, rfl, by decide +kernel, by decide +kernel⟩
theorem sc_take_L : FnScope ["_law_box_here", "_law_size", "_law_digit", "_law_one", "_law_two"] ["_law_box_here", "_law_size"] (defScope s_take_L) := ⟨rfl, rfl, rfl, by decide +kernel, rfl, by decide +kernel, by decide +kernel⟩
theorem sc_names_L : FnScope ["_law_box_here", "_law_size", "_law_small", "_law_stem", "_law_place", "_law_shift", "_law_tails", "_law_some", "_law_k", "_law_turn"] ["_law_box_here", "_law_size"] (defScope s_names_L) := ⟨rfl, rfl, rfl, by decide +kernel, rfl, by decide +kernel, by decide +kernel⟩
theorem sc_length_L : FnScope ["_law_box_here"] ["_law_box_here"] (defScope s_length_L) := ⟨rfl, rfl, rfl, by decide +kernel, rfl, by decide +kernel, by decide +kernel⟩
theorem sc_share_L : FnScope ["_law_box_here", "_law_size", "_law_free", "_law_promise", "_law_low"] ["_law_box_here", "_law_size", "_law_free"] (defScope s_share_L) := ⟨rfl, rfl, rfl, by decide +kernel, rfl, by decide +kernel, by decide +kernel⟩
theorem sc_guests_L : FnScope ["_law_box_here", "_law_size", "_law_names_here", "_law_free", "_law_some", "_law_label"] ["_law_box_here", "_law_size"] (defScope s_guests_L) := ⟨rfl, rfl, rfl, by decide +kernel, rfl, by decide +kernel, by decide +kernel⟩
theorem sc_ready_L : FnScope ["_law_box_here", "_law_some", "_law_turns", "_law_always", "_law_rows", "_law_turn", "_law_label"] ["_law_box_here", "_law_some", "_law_turns"] (defScope s_ready_L) := ⟨rfl, rfl, rfl, by decide +kernel, rfl, by decide +kernel, by decide +kernel⟩
theorem sc_dealt_L : FnScope ["_law_size", "_law_some", "_law_those", "_law_shares", "_law_label", "_law_share_here", "_law_row"] ["_law_size", "_law_some", "_law_those"] (defScope s_dealt_L) := ⟨rfl, rfl, rfl, by decide +kernel, rfl, by decide +kernel, by decide +kernel⟩
theorem sc_breaks_L : FnScope ["_law_size", "_law_share_here", "_law_label", "_law_those", "_law_given", "_law_got", "_law_always", "_law_turn"] ["_law_size", "_law_share_here", "_law_label", "_law_those", "_law_given"] (defScope s_breaks_L) := ⟨rfl, rfl, rfl, by decide +kernel, rfl, by decide +kernel, by decide +kernel⟩
theorem sc_due_L : FnScope ["_law_size", "_law_some", "_law_those", "_law_given", "_law_number", "_law_begin", "_law_rows", "_law_turns", "_law_label"] ["_law_size", "_law_some", "_law_those", "_law_given"] (defScope s_due_L) := ⟨rfl, rfl, rfl, by decide +kernel, rfl, by decide +kernel, by decide +kernel⟩
theorem sc_right_L : FnScope ["_law_size", "_law_some", "_law_those", "_law_given", "_law_due_here", "_law_kept", "_law_handed", "_law_row"] ["_law_size", "_law_some", "_law_those", "_law_given"] (defScope s_right_L) := ⟨rfl, rfl, rfl, by decide +kernel, rfl, by decide +kernel, by decide +kernel⟩
theorem sc_law : FnScope ["_law_script", "_law_k", "_law_box_here", "_law_size", "_law_some", "_law_turns", "_law_those", "_law_given", "_law_names_here", "_law_turn", "_law_place", "_law_label", "_law_row"] ["_law_script"] (defScope s_law) := ⟨rfl, rfl, rfl, by decide +kernel, rfl, by decide +kernel, by decide +kernel⟩
structure Ad where
  CG : Addr
  fG : Addr
  CK : Addr
  fK : Addr
  CB : Addr
  fB : Addr
  CM : Addr
  fM : Addr
  CN : Addr
  fN : Addr
  CD : Addr
  fD : Addr
  CT : Addr
  fT : Addr
  CA : Addr
  fA : Addr
  CF : Addr
  fF : Addr
  CH : Addr
  fH : Addr
  CL : Addr
  fL : Addr
  CS : Addr
structure Txt (K : PySem.W.Frag) (mg : Str → Option Value) (A : Ad) : Prop where
  m_isinstance : mg "isinstance" = none
  m_int : mg "int" = none
  m_bool : mg "bool" = none
  m_str : mg "str" = none
  m_list : mg "list" = none
  m_tuple : mg "tuple" = none
  m_dict : mg "dict" = none
  m_len : mg "len" = none
  m_max : mg "max" = none
  m_min : mg "min" = none
  m_range : mg "range" = none
  m_all : mg "all" = none
  m_sum : mg "sum" = none
  m_repr : mg "repr" = none
  m_enumerate : mg "enumerate" = none
  c_MOST_DEALT : ∃ u, mg "MOST_DEALT" = some u ∧ RelV (.int 400) u
  m_ValueError : mg "ValueError" = none
  m_LookupError : mg "LookupError" = none
  m_KeyError : mg "KeyError" = none
  c_MOST_GUESTS : ∃ u, mg "MOST_GUESTS" = some u ∧ RelV (.int 6) u
  c_SHORTEST : ∃ u, mg "SHORTEST" = some u ∧ RelV (.int 4) u
  c_LONGEST : ∃ u, mg "LONGEST" = some u ∧ RelV (.int 60) u
  g_GuestError : mg "GuestError" = some (.ref A.CG)
  rd_GuestError : PySem.W.readsIn K A.CG (.type "type") = true
  ga_GuestError : PySem.W.specialIn K (.ref A.CG) "__getattribute__" = some (some (.builtin "type.__getattribute__"))
  at_GuestError : PySem.W.findCls K (.ref A.CG) (.type "type") "__init__" = some (.val (.ref A.fG))
  g_Missing : mg "Missing" = some (.ref A.CK)
  rd_Missing : PySem.W.readsIn K A.CK (.type "type") = true
  ga_Missing : PySem.W.specialIn K (.ref A.CK) "__getattribute__" = some (some (.builtin "type.__getattribute__"))
  at_Missing : PySem.W.findCls K (.ref A.CK) (.type "type") "__init__" = some (.val (.ref A.fK))
  g_Barred : mg "Barred" = some (.ref A.CB)
  rd_Barred : PySem.W.readsIn K A.CB (.type "type") = true
  ga_Barred : PySem.W.specialIn K (.ref A.CB) "__getattribute__" = some (some (.builtin "type.__getattribute__"))
  at_Barred : PySem.W.findCls K (.ref A.CB) (.type "type") "__init__" = some (.val (.ref A.fB))
  vV : PySem.W.findCls K (.type "ValueError") (.type "type") "__init__" = some (.val (.builtin "ValueError.__init__"))
  vL : PySem.W.findCls K (.type "LookupError") (.type "type") "__init__" = some (.val (.builtin "LookupError.__init__"))
  vK : PySem.W.findCls K (.type "KeyError") (.type "type") "__init__" = some (.val (.builtin "KeyError.__init__"))
  g_NoNumber : mg "NoNumber" = some (.ref A.CM)
  xM : ExcA K .ve "found" A.CM A.fM
  g_NoName : mg "NoName" = some (.ref A.CN)
  xN : ExcA K .ve "found" A.CN A.fN
  g_Doubled : mg "Doubled" = some (.ref A.CD)
  xD : ExcA K .ve "found" A.CD A.fD
  g_TooMuch : mg "TooMuch" = some (.ref A.CT)
  xT : ExcA K .ve "many" A.CT A.fT
  g_NoGuest : mg "NoGuest" = some (.ref A.CA)
  xA : ExcA K .ke "found" A.CA A.fA
  g_Full : mg "Full" = some (.ref A.CF)
  xF : ExcA K .le "many" A.CF A.fF
  g_NoShare : mg "NoShare" = some (.ref A.CH)
  xH : ExcA K .ve "found" A.CH A.fH
  g_NoLog : mg "NoLog" = some (.ref A.CL)
  xL : ExcA K .ve "found" A.CL A.fL
  g_Shares : mg "Shares" = some (.ref A.CS)
  cl_Shares : Cls K A.CS
  na_length : NoAttr K A.CS "_length"
  na_told : NoAttr K A.CS "_told"
  na_counts : NoAttr K A.CS "_counts"
  na_used : NoAttr K A.CS "_used"
  na_passed : NoAttr K A.CS "_passed"
  na_dealt : NoAttr K A.CS "_dealt"
section
variable {K : PySem.W.Frag} {mg : Str → Option Value} {A : Ad}
theorem Txt.nf_NoNumber (T : Txt K mg A) : PySem.W.findIn K (.ref A.CM) "found" = some none := T.xM.nf
theorem Txt.ox_NoNumber (T : Txt K mg A) : OexT K .ve A.CM := T.xM.ox
theorem Txt.i_NoNumber (T : Txt K mg A) : PySem.W.findIn K (.ref A.CM) "__init__" = some (some (.ref A.fM)) := T.xM.i
theorem Txt.t_NoNumber (T : Txt K mg A) : PySem.W.typeIn K (.ref A.fM) = some (.type "function") := T.xM.t
theorem Txt.nf_NoName (T : Txt K mg A) : PySem.W.findIn K (.ref A.CN) "found" = some none := T.xN.nf
theorem Txt.ox_NoName (T : Txt K mg A) : OexT K .ve A.CN := T.xN.ox
theorem Txt.i_NoName (T : Txt K mg A) : PySem.W.findIn K (.ref A.CN) "__init__" = some (some (.ref A.fN)) := T.xN.i
theorem Txt.t_NoName (T : Txt K mg A) : PySem.W.typeIn K (.ref A.fN) = some (.type "function") := T.xN.t
theorem Txt.nf_Doubled (T : Txt K mg A) : PySem.W.findIn K (.ref A.CD) "found" = some none := T.xD.nf
theorem Txt.ox_Doubled (T : Txt K mg A) : OexT K .ve A.CD := T.xD.ox
theorem Txt.i_Doubled (T : Txt K mg A) : PySem.W.findIn K (.ref A.CD) "__init__" = some (some (.ref A.fD)) := T.xD.i
theorem Txt.t_Doubled (T : Txt K mg A) : PySem.W.typeIn K (.ref A.fD) = some (.type "function") := T.xD.t
theorem Txt.nf_TooMuch (T : Txt K mg A) : PySem.W.findIn K (.ref A.CT) "many" = some none := T.xT.nf
theorem Txt.ox_TooMuch (T : Txt K mg A) : OexT K .ve A.CT := T.xT.ox
theorem Txt.i_TooMuch (T : Txt K mg A) : PySem.W.findIn K (.ref A.CT) "__init__" = some (some (.ref A.fT)) := T.xT.i
theorem Txt.t_TooMuch (T : Txt K mg A) : PySem.W.typeIn K (.ref A.fT) = some (.type "function") := T.xT.t
theorem Txt.nf_NoGuest (T : Txt K mg A) : PySem.W.findIn K (.ref A.CA) "found" = some none := T.xA.nf
theorem Txt.ox_NoGuest (T : Txt K mg A) : OexT K .ke A.CA := T.xA.ox
theorem Txt.i_NoGuest (T : Txt K mg A) : PySem.W.findIn K (.ref A.CA) "__init__" = some (some (.ref A.fA)) := T.xA.i
theorem Txt.t_NoGuest (T : Txt K mg A) : PySem.W.typeIn K (.ref A.fA) = some (.type "function") := T.xA.t
theorem Txt.nf_NoShare (T : Txt K mg A) : PySem.W.findIn K (.ref A.CH) "found" = some none := T.xH.nf
theorem Txt.ox_NoShare (T : Txt K mg A) : OexT K .ve A.CH := T.xH.ox
theorem Txt.i_NoShare (T : Txt K mg A) : PySem.W.findIn K (.ref A.CH) "__init__" = some (some (.ref A.fH)) := T.xH.i
theorem Txt.t_NoShare (T : Txt K mg A) : PySem.W.typeIn K (.ref A.fH) = some (.type "function") := T.xH.t
theorem Txt.nf_NoLog (T : Txt K mg A) : PySem.W.findIn K (.ref A.CL) "found" = some none := T.xL.nf
theorem Txt.ox_NoLog (T : Txt K mg A) : OexT K .ve A.CL := T.xL.ox
theorem Txt.i_NoLog (T : Txt K mg A) : PySem.W.findIn K (.ref A.CL) "__init__" = some (some (.ref A.fL)) := T.xL.i
theorem Txt.t_NoLog (T : Txt K mg A) : PySem.W.typeIn K (.ref A.fL) = some (.type "function") := T.xL.t
theorem Txt.nf_Full (T : Txt K mg A) : PySem.W.findIn K (.ref A.CF) "many" = some none := T.xF.nf
theorem Txt.ox_Full (T : Txt K mg A) : OexT K .le A.CF := T.xF.ox
theorem Txt.i_Full (T : Txt K mg A) : PySem.W.findIn K (.ref A.CF) "__init__" = some (some (.ref A.fF)) := T.xF.i
theorem Txt.t_Full (T : Txt K mg A) : PySem.W.typeIn K (.ref A.fF) = some (.type "function") := T.xF.t
end
def spWh : Sp := fun vs H Q _ => ∃ x lo hi : Int, vs = [.int x, .int lo, .int hi] ∧ Q (.bl (decide (lo ≤ x ∧ x ≤ hi))) H
def spCkN : Sp := fun vs H Q _ => ∃ x lo hi : Int, vs = [.int x, .int lo, .int hi] ∧ lo ≤ x ∧ x ≤ hi ∧ Q .non H
def spCkName : Sp := fun vs H Q _ => ∃ z : Str, vs = [.str z] ∧ nameOk z = true ∧ ∀ H', Same H H' → Q .non H'
/-- the name is a key of the dict at d -/
def spCkGuest : Sp := fun vs H Q _ => ∃ (z : Str) (d : Addr) (G : List Str) (f : Str → V), vs = [.str z, .ref d] ∧ nameOk z = true ∧ H d = some (.dK (dicF G f)) ∧ z ∈ G ∧ ∀ H', Same H H' → Q .non H'
/-! ### Shares -/
structure Sa where
  o : Addr
  dt : Addr
  dc : Addr
  du : Addr
  dl : Addr
def Sa.own (S : Sa) (b : Addr) : Prop := b = S.o ∨ b = S.dt ∨ b = S.dc ∨ b = S.du ∨ b = S.dl
/-- what is not this one's own stays, and stays no own of it -/
def Keep (S : Sa) (H : Hp) (S' : Sa) (H' : Hp) : Prop := ∀ b u, H b = some u → ¬ S.own b → H' b = some u ∧ ¬ S'.own b
theorem Keep.same {S : Sa} {H H' : Hp} (s : Same H H') : Keep S H S H' := fun b u e n => ⟨s _ _ e, n⟩
theorem Keep.trans {S S1 S2 : Sa} {H H1 H2 : Hp} (a : Keep S H S1 H1) (b : Keep S1 H1 S2 H2) : Keep S H S2 H2 := fun c u e n => b c u (a c u e n).1 (a c u e n).2
/-- a Shares by its values: the length, the guests, promise and ceiling as told, as they count, turns used, turns passed, all dealt -/
structure Ps where
  L : Nat
  G : List Str
  pr : Str → Nat
  ce : Str → Nat
  cp : Str → Nat
  cc : Str → Nat
  us : Str → Nat
  ps : Nat
  dl : List V
def total (G : List Str) (f : Str → Nat) : Nat := (G.map f).sum
structure Ps.Ok (P : Ps) : Prop where
  l4 : 4 ≤ P.L
  l60 : P.L ≤ 60
  nm : ∀ x ∈ P.G, nameOk x = true
  nd : P.G.Nodup
  six : P.G.length ≤ 6
  pc : ∀ x ∈ P.G, P.pr x ≤ P.ce x ∧ 1 ≤ P.ce x ∧ P.ce x ≤ P.L
  cl : ∀ x ∈ P.G, P.cp x ≤ P.cc x ∧ P.cc x ≤ P.L
  fit : total P.G P.pr ≤ P.L
  fitc : total P.G P.cp ≤ P.L
  ps : P.ps < P.L
  zero : P.ps = 0 → ∀ x ∈ P.G, P.cp x = P.pr x ∧ P.cc x = P.ce x ∧ P.us x = 0
  u60 : ∀ x ∈ P.G, P.us x ≤ P.ps
  d480 : P.dl.length ≤ 480
/-- pairs lie in a dict's values -/
def Prs (H : Hp) (d : Addr) (G : List Str) (f g : Str → Nat) : Prop := ∃ tt : Str → Addr, H d = some (.dK (dicF G fun x => .ref (tt x))) ∧ ∀ x ∈ G, H (tt x) = some (.tup [.int (f x), .int (g x)])
theorem Prs.same {H H' : Hp} {d : Addr} {G : List Str} {f g : Str → Nat} (h : Prs H d G f g) (s : Same H H') : Prs H' d G f g := by
  obtain ⟨tt, e, ht⟩ := h
  exact ⟨tt, s _ _ e, fun x hx => s _ _ (ht x hx)⟩
structure Sh (C : Addr) (H : Hp) (S : Sa) (P : Ps) : Prop where
  ob : ∃ dx fs, H S.o = some (.ins C dx fs) ∧ fs.lookup ("_length" : Str) = some (.int P.L) ∧ fs.lookup ("_told" : Str) = some (.ref S.dt) ∧ fs.lookup ("_counts" : Str) = some (.ref S.dc) ∧ fs.lookup ("_used" : Str) = some (.ref S.du) ∧
    fs.lookup ("_passed" : Str) = some (.int P.ps) ∧ fs.lookup ("_dealt" : Str) = some (.ref S.dl) ∧ fs.length ≤ 6 ∧ ∀ m : Str, (m == ("_length" : Str)) = false → (m == ("_told" : Str)) = false → (m == ("_counts" : Str)) = false → (m == ("_used" : Str)) = false → (m == ("_passed" : Str)) = false → (m == ("_dealt" : Str)) = false → fs.lookup m = none
  told : Prs H S.dt P.G P.pr P.ce
  cts : Prs H S.dc P.G P.cp P.cc
  used : H S.du = some (.dK (dicF P.G fun x => .int (P.us x)))
  dlt : H S.dl = some (.lst P.dl)
  n1 : S.dt ≠ S.dc
  n2 : S.dt ≠ S.du
  n3 : S.dc ≠ S.du
  ok : P.Ok
theorem Sh.same {C : Addr} {H H' : Hp} {S : Sa} {P : Ps} (h : Sh C H S P) (s : Same H H') : Sh C H' S P := by
  obtain ⟨dx, fs, e, r⟩ := h.ob
  exact ⟨⟨dx, fs, s _ _ e, r⟩, h.told.same s, h.cts.same s, s _ _ h.used, s _ _ h.dlt, h.n1, h.n2, h.n3, h.ok⟩
def spInitS (A : Ad) : Sp := fun vs H Q _ => ∃ (x dx : Addr) (l : Nat), vs = [.ref x, .int l] ∧ 4 ≤ l ∧ l ≤ 60 ∧ H x = some (.ins A.CS dx []) ∧ ∀ (S : Sa) H', S.o = x → But x H H' → (∀ b, S.own b → b = x ∨ H b = none) → Sh A.CS H' S ⟨l, [], fun _ => 0, fun _ => 0, fun _ => 0, fun _ => 0, fun _ => 0, 0, []⟩ → Q .non H'
def spLength (A : Ad) : Sp := fun vs H Q _ => ∃ (S : Sa) (P : Ps), vs = [.ref S.o] ∧ Sh A.CS H S P ∧ Q (.int P.L) H
def spNames (A : Ad) : Sp := fun vs H Q _ => ∃ (S : Sa) (P : Ps), vs = [.ref S.o] ∧ Sh A.CS H S P ∧ ∀ p H', H p = none → Same H H' → H' p = some (.lst (P.G.map V.str)) → Q (.ref p) H'
def spDealt (A : Ad) : Sp := fun vs H Q _ => ∃ (S : Sa) (P : Ps), vs = [.ref S.o] ∧ Sh A.CS H S P ∧ ∀ p H', H p = none → Same H H' → H' p = some (.lst P.dl) → Q (.ref p) H'
def spPromise (A : Ad) : Sp := fun vs H Q _ => ∃ (S : Sa) (P : Ps) (x : Str), vs = [.ref S.o, .str x] ∧ Sh A.CS H S P ∧ x ∈ P.G ∧ ∀ H', Same H H' → Q (.int (P.pr x)) H'
def spPromised (A : Ad) : Sp := fun vs H Q _ => ∃ (S : Sa) (P : Ps), vs = [.ref S.o] ∧ Sh A.CS H S P ∧ ∀ H', Same H H' → Q (.int (total P.G P.pr)) H'
def spCkShare (A : Ad) : Sp := fun vs H Q _ => ∃ (S : Sa) (P : Ps) (p c : Nat), vs = [.ref S.o, .int p, .int c] ∧ Sh A.CS H S P ∧ p ≤ c ∧ 1 ≤ c ∧ c ≤ P.L ∧ Q .non H
def spCkPromised (A : Ad) : Sp := fun vs H Q _ => ∃ (S : Sa) (P : Ps) (m : Int), vs = [.ref S.o, .int m] ∧ Sh A.CS H S P ∧ m ≤ P.L ∧ Q .non H
def setF (f : Str → Nat) (x : Str) (v : Nat) : Str → Nat := fun y => if y = x then v else f y
def Ps.come (P : Ps) (x : Str) (p c : Nat) : Ps := { P with G := P.G ++ [x], pr := setF P.pr x p, ce := setF P.ce x c, cp := setF P.cp x (if P.ps = 0 then p else 0), cc := setF P.cc x c, us := setF P.us x 0 }
def Ps.go (P : Ps) (x : Str) : Ps := { P with G := P.G.filter fun y => decide (y ≠ x) }
def Ps.change (P : Ps) (x : Str) (p c : Nat) : Ps := { P with pr := setF P.pr x p, ce := setF P.ce x c, cp := if P.ps = 0 then setF P.cp x p else P.cp, cc := if P.ps = 0 then setF P.cc x c else P.cc }
def Ps.deal (P : Ps) (v : V) (y : Option Str) : Ps :=
  { P with us := (fun x => if P.ps + 1 = P.L then 0 else if y = some x then P.us x + 1 else P.us x), dl := P.dl ++ [v], ps := if P.ps + 1 = P.L then 0 else P.ps + 1, cp := if P.ps + 1 = P.L then P.pr else P.cp, cc := if P.ps + 1 = P.L then P.ce else P.cc }
def nameV : Option Str → V
  | none => .non
  | some x => .str x
/-- who may get a turn -/
def Chosen (P : Ps) (R : List Str) : Option Str → Prop
  | none => ∀ x ∈ P.G, x ∈ R → P.cp x ≤ P.us x ∧ P.cc x ≤ P.us x
  | some y => y ∈ P.G ∧ y ∈ R ∧ (P.us y < P.cp y ∨ ((∀ x ∈ P.G, x ∈ R → P.cp x ≤ P.us x) ∧ P.us y < P.cc y))
def spCome (A : Ad) : Sp := fun vs H Q _ => ∃ (S : Sa) (P : Ps) (x : Str) (p c : Nat), vs = [.ref S.o, .str x, .int p, .int c] ∧ Sh A.CS H S P ∧ nameOk x = true ∧ x ∉ P.G ∧ P.G.length < 6 ∧ p ≤ c ∧ 1 ≤ c ∧ c ≤ P.L ∧ total P.G P.pr + p ≤ P.L ∧
  ∀ H', Keep S H S H' → Sh A.CS H' S (P.come x p c) → Q .non H'
def spGo (A : Ad) : Sp := fun vs H Q _ => ∃ (S : Sa) (P : Ps) (x : Str), vs = [.ref S.o, .str x] ∧ Sh A.CS H S P ∧ x ∈ P.G ∧ ∀ H', Keep S H S H' → Sh A.CS H' S (P.go x) → Q .non H'
def spChange (A : Ad) : Sp := fun vs H Q _ => ∃ (S : Sa) (P : Ps) (x : Str) (p c : Nat), vs = [.ref S.o, .str x, .int p, .int c] ∧ Sh A.CS H S P ∧ x ∈ P.G ∧ p ≤ c ∧ 1 ≤ c ∧ c ≤ P.L ∧ total P.G P.pr + p ≤ P.L + P.pr x ∧
  ∀ H', Keep S H S H' → Sh A.CS H' S (P.change x p c) → Q .non H'
def spDeal (A : Ad) : Sp := fun vs H Q _ => ∃ (S : Sa) (P : Ps) (r : Addr) (R : List Str), vs = [.ref S.o, .ref r] ∧ Sh A.CS H S P ∧ H r = some (.lst (R.map V.str)) ∧ R.length ≤ 6 ∧ (∀ x ∈ R, x ∈ P.G) ∧ P.dl.length < 480 ∧
  ∀ (S' : Sa) y H', Chosen P R y → S'.o = S.o → Keep S H S' H' → Sh A.CS H' S' (P.deal (nameV y) y) → Q (nameV y) H'
/-- whom a choosing among the names of R gives -/
def spChoose (A : Ad) (ok : Ps → Str → Bool) : Sp := fun vs H Q _ => ∃ (S : Sa) (P : Ps) (r : Addr) (R : List Str), vs = [.ref S.o, .ref r] ∧ Sh A.CS H S P ∧ H r = some (.lst (R.map V.str)) ∧ R.length ≤ 6 ∧ (∀ x ∈ R, x ∈ P.G) ∧
  ∀ y, (y = none → ∀ x ∈ R, ok P x = false) → (∀ x, y = some x → x ∈ R ∧ ok P x = true) → Q (nameV y) H
def spBegin (A : Ad) : Sp := fun vs H Q _ => ∃ (S : Sa) (dx : Addr) (fs : List (Str × V)) (G : List Str) (f g : Str → Nat), vs = [.ref S.o] ∧ H S.o = some (.ins A.CS dx fs) ∧ fs.lookup ("_told" : Str) = some (.ref S.dt) ∧ fs.length ≤ 6 ∧ Prs H S.dt G f g ∧ G.Nodup ∧ G.length ≤ 6 ∧
  (∃ u, fs.lookup ("_counts" : Str) = some u) ∧ (∃ u, fs.lookup ("_used" : Str) = some u) ∧ (∃ u, fs.lookup ("_passed" : Str) = some u) ∧
  ∀ (c u : Addr) H' fs', H c = none → H u = none → c ≠ u → But S.o H H' → H' S.o = some (.ins A.CS dx fs') → fs'.lookup ("_counts" : Str) = some (.ref c) → fs'.lookup ("_used" : Str) = some (.ref u) → fs'.lookup ("_passed" : Str) = some (.int 0) →
    (∀ m : Str, (m == ("_counts" : Str)) = false → (m == ("_used" : Str)) = false → (m == ("_passed" : Str)) = false → fs'.lookup m = fs.lookup m) → fs'.length ≤ 6 → Prs H' c G f g → H' u = some (.dK (dicF G fun _ => .int 0)) → Q .non H'
end K28

namespace K28
open PySem PySem.Spec PyProof.Rows L2 Bk


section
variable {P : Program} {w : World} {K : PySem.W.Frag} {mg : Str → Option Value} {base : Heap} {A : Ad}
theorem ok_allW {f : Addr} {fd : FuncData} (F : Fun K "_all_within" "_all_within" s_all_within f fd) (T : Txt K mg A) : FnOk P w K mg base CX0 1 f fd ["text", "first", "last"] spAllW := by
  refine F.ok sc_all_within (fun vs H Q E h => ?_) (fun cdv A' outer s H vs Q E hr h => ⟨_, (pss_one (ps_ret (pe_callB (cr_all rfl) (by rfl) T.m_all (by decide +kernel) (pa_cons (pe_lc (own := [("sign", 3)]) rfl sc_all_within.nd (pi_str (pv 0)) (blkOk_by (N := ["text", "first", "last", "sign"]) (sc := defScope s_all_within) (by decide +kernel)) (fun _ _ _ _ _ => (pg_name (i := 3) sc_all_within.nd rfl (.inl rfl))) (fun _ _ _ _ _ => pts_nil) (fun _ _ _ _ _ => (pe_chain op_le_str op_le_str (pv 1) (pv 3) (pv 2)))) pa_nil)))), ?_⟩)
  · obtain ⟨z, F, L, f, l, rfl, _⟩ := h
    rfl
  · obtain ⟨z, F, L, f, l, rfl, hf, hl, hz, q⟩ := h
    refine r_ret (r_allStr (fun c => decide (f ≤ c) && decide (c ≤ l)) rfl (by omega) (fun _ => rfl) (fun c H' Q' _ _ k => ?_) q)
    walk_at "go"
    refine ⟨_, _, rfl, rfl, ?_⟩
    walk_at "go"
    rw [hf, sign_tl, lt1]
    have k' := k H' (Same.refl _)
    by_cases h1 : c < f
    · rw [decide_eq_true h1]
      rw [decide_eq_false (by omega : ¬ f ≤ c)] at k'
      exact k'
    · rw [decide_eq_false h1]
      rw [decide_eq_true (by omega : f ≤ c), Bool.true_and] at k'
      walk_at "go"
      refine ⟨_, _, rfl, rfl, ?_⟩
      rw [hl, sign_tl, lt1, show (!decide (l < c)) = decide (c ≤ l) by by_cases h2 : l < c <;> simp [h2] <;> omega]
      exact k'
theorem ok_name {f : Addr} {fd : FuncData} (F : Fun K "is_name" "is_name" s_is_name f fd) (T : Txt K mg A) (c_all_within : CalD P w K mg base CX0 1 "_all_within" spAllW []) : FnOk P w K mg base CX0 2 f fd ["thing"] (spName K) := by
  refine F.ok sc_is_name (fun vs H Q E h => ?_) (fun cdv A' outer s H vs Q E hr h => ⟨_, (pss_one (ps_ret (pe_and (pe_callB call_is (by rfl) T.m_isinstance (by decide +kernel) (pa_cons (pv 0) (pa_cons (pe_bltn (v := .ty "str") (by rfl) T.m_str (by decide +kernel) rfl) pa_nil))) (pe_and (pe_chain op_le op_le pe_int (pe_callB call_len_str (by rfl) T.m_len (by decide +kernel) (pa_cons (pv 0) pa_nil)) pe_int) (pe_one (pe_cal c_all_within hr (by decide) (by rfl) (pa_cons (pv 0) (pa_cons pe_str (pa_cons pe_str pa_nil))))))))), ?_⟩)
  · obtain ⟨x, rfl, _⟩ := h
    rfl
  · obtain ⟨x, rfl, hx⟩ := h
    walk_at "go"
    rcases hx with ⟨z, rfl, hz, q⟩ | ⟨hx, q⟩
    · refine r_is (isa_str (b := true)) ?_
      walk_at "go"
      refine ⟨z, rfl, Nat.le_trans hz (by decide), ?_⟩
      walk_at "go"
      unfold nameOk at q
      refine ite2 (fun e => ?_) (fun e => ?_)
      · walk_at "go"
        refine ite2 (fun e2 => ?_) (fun e2 => ?_)
        · walk_at "go"
          have e1 := of_decide_eq_true e
          have e3 := of_decide_eq_true e2
          rw [decide_eq_true (by omega : 1 ≤ z.length ∧ z.length ≤ 8), Bool.true_and] at q
          exact ⟨z, _, _, 97, 122, rfl, rfl, rfl, hz, q⟩
        · have e3 := of_decide_eq_false (Bool.eq_false_iff.mpr e2)
          rw [decide_eq_false (by omega : ¬ (1 ≤ z.length ∧ z.length ≤ 8)), Bool.false_and] at q
          walk_at "go"
          exact q _ (Same.refl _)
      · have e3 := of_decide_eq_false (Bool.eq_false_iff.mpr e)
        rw [decide_eq_false (by omega : ¬ (1 ≤ z.length ∧ z.length ≤ 8)), Bool.false_and] at q
        walk_at "go"
        exact q _ (Same.refl _)
    · refine r_is hx ?_
      walk_at "go"
      exact q
theorem ok_ckn {f : Addr} {fd fdN : FuncData} (F : Fun K "check_name" "check_name" s_check_name f fd) (T : Txt K mg A) (c_is_name : CalD P w K mg base CX0 2 "is_name" (spName K) [])
    (c_NoName_init : Own P w K mg base CX0 2 A.fN fdN ["self", "found"] (spInitN "found" A.CN)) : FnOk P w K mg base (L2.CX P w) 4 f fd ["thing"] spCkName := by
  refine F.okX sc_check_name (fun vs H Q E h => ?_) (fun cdv A' outer s H vs Q E hr h => ⟨_, (pss_one (ps_if (pt_not (pt_val (pe_cal c_is_name hr (by decide) (by rfl) (pa_cons (pv 0) pa_nil)))) (pss_one (ps_raise rfl (takes_of rfl rfl rfl rfl) (pmk_oexT T.ox_NoName T.i_NoName T.t_NoName c_NoName_init.ok (hr.mono (by decide)) c_NoName_init.bd .nil pass0 (by rfl) T.g_NoName (pa_cons (pv 0) pa_nil)))) pss_nil)), ?_⟩)
  · obtain ⟨z, rfl, _⟩ := h
    rfl
  · obtain ⟨z, rfl, hz, q⟩ := h
    walk_at "go"
    refine ⟨_, rfl, .inl ⟨z, rfl, by have := (len_of_name hz).2; omega, fun H1 s1 => ?_⟩⟩
    rw [hz]
    walk_at "go"
    exact q _ s1
theorem ok_whole {f : Addr} {fd : FuncData} (F : Fun K "is_whole" "is_whole" s_is_whole f fd) (T : Txt K mg A) : FnOk P w K mg base CX0 1 f fd ["thing", "low", "high"] spWh := by
  refine F.ok sc_is_whole (fun vs H Q E h => ?_) (fun cdv A' outer s H vs Q E hr h => ⟨_, (pss_one (ps_ret (pe_and (pe_callB call_is (by rfl) T.m_isinstance (by decide +kernel) (pa_cons (pv 0) (pa_cons (pe_bltn (v := .ty "int") (by rfl) T.m_int (by decide +kernel) rfl) pa_nil))) (pe_and (pe_not (pe_callB call_is (by rfl) T.m_isinstance (by decide +kernel) (pa_cons (pv 0) (pa_cons (pe_bltn (v := .ty "bool") (by rfl) T.m_bool (by decide +kernel) rfl) pa_nil)))) (pe_one (pe_chain op_le op_le (pv 1) (pv 0) (pv 2))))))), ?_⟩)
  · obtain ⟨x, lo, hi, rfl, _⟩ := h
    rfl
  · obtain ⟨x, lo, hi, rfl, q⟩ := h
    walk_at "go"
    refine r_is (isa_int (b := true)) ?_
    walk_at "go"
    refine r_is (isa_int (b := false)) ?_
    rw [Bool.decide_and] at q
    walk_at "go"
    refine ite2 (fun e => ?_) (fun e => ?_)
    · walk_at "go"
      rw [e, Bool.true_and] at q
      exact q
    · rw [Bool.eq_false_iff.mpr e, Bool.false_and] at q
      exact q
theorem ok_cknum {f : Addr} {fd fdM : FuncData} (F : Fun K "check_number" "check_number" s_check_number f fd) (T : Txt K mg A) (c_is_whole : CalD P w K mg base CX0 1 "is_whole" spWh [])
    (c_NoNumber_init : Own P w K mg base CX0 2 A.fM fdM ["self", "found"] (spInitN "found" A.CM)) : FnOk P w K mg base (L2.CX P w) 4 f fd ["thing", "low", "high"] spCkN := by
  refine F.okX sc_check_number (fun vs H Q E h => ?_) (fun cdv A' outer s H vs Q E hr h => ⟨_, (pss_one (ps_if (pt_not (pt_val (pe_cal c_is_whole hr (by decide) (by rfl) (pa_cons (pv 0) (pa_cons (pv 1) (pa_cons (pv 2) pa_nil)))))) (pss_one (ps_raise rfl (takes_of rfl rfl rfl rfl) (pmk_oexT T.ox_NoNumber T.i_NoNumber T.t_NoNumber c_NoNumber_init.ok (hr.mono (by decide)) c_NoNumber_init.bd .nil pass0 (by rfl) T.g_NoNumber (pa_cons (pv 0) pa_nil)))) pss_nil)), ?_⟩)
  · obtain ⟨x, lo, hi, rfl, _⟩ := h
    rfl
  · obtain ⟨x, lo, hi, rfl, h1, h2, q⟩ := h
    walk_at "go"
    refine ⟨x, lo, hi, rfl, ?_⟩
    rw [decide_eq_true ⟨h1, h2⟩]
    walk_at "go"
    exact q
theorem ok_ckg {f : Addr} {fd fdA : FuncData} (F : Fun K "check_guest" "check_guest" s_check_guest f fd) (T : Txt K mg A) (c_is_name : CalD P w K mg base CX0 2 "is_name" (spName K) [])
    (c_NoGuest_init : Own P w K mg base CX0 2 A.fA fdA ["self", "found"] (spInitN "found" A.CA)) : FnOk P w K mg base (L2.CX P w) 4 f fd ["thing", "guests"] spCkGuest := by
  refine F.okX sc_check_guest (fun vs H Q E h => ?_) (fun cdv A' outer s H vs Q E hr h => have hu := units1 hr; ⟨_, (pss_one (ps_if (PW.pt (pw_or (pt_not (pt_val (pe_cal c_is_name hr (by decide) (by rfl) (pa_cons (pv 0) pa_nil)))) (pw_or1 (pt_cmp (pc_dnotin hu (pv 0) (pv 1)))))) (pss_one (ps_raise rfl (takes_of rfl rfl rfl rfl) (pmk_oexT T.ox_NoGuest T.i_NoGuest T.t_NoGuest c_NoGuest_init.ok (hr.mono (by decide)) c_NoGuest_init.bd .nil pass0 (by rfl) T.g_NoGuest (pa_cons (pv 0) pa_nil)))) pss_nil)), ?_⟩)
  · obtain ⟨z, d, G, f, rfl, _⟩ := h
    rfl
  · obtain ⟨z, d, G, f, rfl, hz, e, hG, q⟩ := h
    walk_at "go"
    refine ⟨_, rfl, .inl ⟨z, rfl, by have := (len_of_name hz).2; omega, fun H1 s1 => ?_⟩⟩
    rw [hz]
    walk_at "go"
    refine ⟨_, rfl, _, rfl, d, some (f z), rfl, .inl ⟨_, .inr z, .inl (s1 _ _ e), rfl, (by rw [dicF_get, if_pos hG])⟩, _, rfl, ?_⟩
    walk_at "go"
    exact q _ s1

theorem ok_init {f : Addr} {fd : FuncData} (F : Fun K "__init__" "Shares.__init__" s_Shares_init f fd) (T : Txt K mg A) (c_check_number : CalX P w K mg base 4 "check_number" spCkN) : FnOk P w K mg base (L2.CX P w) 5 f fd ["self", "length"] (spInitS A) := by
  refine F.okX sc_Shares_init (fun vs H Q E h => ?_) (fun cdv A' outer s H vs Q E hr h => ⟨_, (pss_cons (ps_expr (pe_calX c_check_number hr (by decide) (by rfl) (takes_of rfl rfl rfl rfl) (pa_cons (pv 1) (pa_cons (C8.pe_gc (by rfl) T.c_SHORTEST) (pa_cons (C8.pe_gc (by rfl) T.c_LONGEST) pa_nil)))))
    (pss_cons (ps_fld (pv 0) (pv 1) rfl)
    (pss_cons (ps_fld (pv 0) pe_dnewK rfl)
    (pss_cons (ps_fld (pv 0) pe_dnewK rfl)
    (pss_cons (ps_fld (pv 0) pe_dnewK rfl)
    (pss_cons (ps_fld (pv 0) pe_int rfl)
    (pss_one (ps_fld (pv 0) (pe_lstB pa_nil) rfl)))))))), ?_⟩)
  · obtain ⟨x, dx, l, rfl, _⟩ := h
    rfl
  · obtain ⟨x, dx, l, rfl, h4, h60, e, q⟩ := h
    walk_at "go"
    refine ⟨l, 4, 60, rfl, by omega, by omega, ?_⟩
    walk_at "go"
    refine ⟨_, rfl, _, rfl, x, A.CS, dx, _, rfl, e, T.cl_Shares, T.na_length, by decide, ?_⟩
    have b1 : But x H (upd H x (.ins A.CS dx [("_length", .int l)])) := fun b u nb eb => by rw [upd_ne nb]; exact eb
    have o1 : upd H x (.ins A.CS dx [("_length", .int l)]) x = some (.ins A.CS dx [("_length", .int l)]) := upd_same
    show tSeq _ _ _ _ (upd H x (.ins A.CS dx [("_length", .int l)]))
    generalize upd H x (.ins A.CS dx [("_length", .int l)]) = H1 at b1 o1 ⊢
    walk_at "go"
    intro dt n1
    have s1 : Same H1 (upd H1 dt (.dK [])) := same_upd n1
    have e1 : upd H1 dt (.dK []) dt = some (.dK []) := upd_same
    generalize upd H1 dt (.dK []) = H2 at s1 e1 ⊢
    walk_at "go"
    refine ⟨x, A.CS, dx, _, rfl, s1 _ _ o1, T.cl_Shares, T.na_told, Nat.le_of_ble_eq_true rfl, ?_⟩
    have x1 : dt ≠ x := (ne_of_none o1 n1).symm
    have b2 : But x H (upd H2 x (.ins A.CS dx [("_length", .int l), ("_told", .ref dt)])) := fun b u nb eb => by rw [upd_ne nb]; exact s1 _ _ (b1 _ _ nb eb)
    have o2 : upd H2 x (.ins A.CS dx [("_length", .int l), ("_told", .ref dt)]) x = some (.ins A.CS dx [("_length", .int l), ("_told", .ref dt)]) := upd_same
    have e1 : upd H2 x (.ins A.CS dx [("_length", .int l), ("_told", .ref dt)]) dt = some (.dK []) := by rw [upd_ne x1]; exact e1
    show tSeq _ _ _ _ (upd H2 x (.ins A.CS dx [("_length", .int l), ("_told", .ref dt)]))
    generalize upd H2 x (.ins A.CS dx [("_length", .int l), ("_told", .ref dt)]) = H3 at b2 o2 e1 ⊢
    walk_at "go"
    intro dc n2
    have s2 : Same H3 (upd H3 dc (.dK [])) := same_upd n2
    have e2 : upd H3 dc (.dK []) dc = some (.dK []) := upd_same
    generalize upd H3 dc (.dK []) = H4 at s2 e2 ⊢
    walk_at "go"
    refine ⟨x, A.CS, dx, _, rfl, s2 _ _ o2, T.cl_Shares, T.na_counts, Nat.le_of_ble_eq_true rfl, ?_⟩
    have x2 : dc ≠ x := (ne_of_none o2 n2).symm
    have y12 : dt ≠ dc := ne_of_none e1 n2
    have b3 : But x H (upd H4 x (.ins A.CS dx [("_length", .int l), ("_told", .ref dt), ("_counts", .ref dc)])) := fun b u nb eb => by rw [upd_ne nb]; exact s2 _ _ (b2 _ _ nb eb)
    have o3 : upd H4 x (.ins A.CS dx [("_length", .int l), ("_told", .ref dt), ("_counts", .ref dc)]) x = some (.ins A.CS dx [("_length", .int l), ("_told", .ref dt), ("_counts", .ref dc)]) := upd_same
    have e1 : upd H4 x (.ins A.CS dx [("_length", .int l), ("_told", .ref dt), ("_counts", .ref dc)]) dt = some (.dK []) := by rw [upd_ne x1]; exact s2 _ _ e1
    have e2 : upd H4 x (.ins A.CS dx [("_length", .int l), ("_told", .ref dt), ("_counts", .ref dc)]) dc = some (.dK []) := by rw [upd_ne x2]; exact e2
    show tSeq _ _ _ _ (upd H4 x (.ins A.CS dx [("_length", .int l), ("_told", .ref dt), ("_counts", .ref dc)]))
    generalize upd H4 x (.ins A.CS dx [("_length", .int l), ("_told", .ref dt), ("_counts", .ref dc)]) = H5 at b3 o3 e1 e2 ⊢
    walk_at "go"
    intro du n3
    have s3 : Same H5 (upd H5 du (.dK [])) := same_upd n3
    have e3 : upd H5 du (.dK []) du = some (.dK []) := upd_same
    generalize upd H5 du (.dK []) = H6 at s3 e3 ⊢
    walk_at "go"
    refine ⟨x, A.CS, dx, _, rfl, s3 _ _ o3, T.cl_Shares, T.na_used, Nat.le_of_ble_eq_true rfl, ?_⟩
    have x3 : du ≠ x := (ne_of_none o3 n3).symm
    have y13 : dt ≠ du := ne_of_none e1 n3
    have y23 : dc ≠ du := ne_of_none e2 n3
    have b4 : But x H (upd H6 x (.ins A.CS dx [("_length", .int l), ("_told", .ref dt), ("_counts", .ref dc), ("_used", .ref du)])) := fun b u nb eb => by rw [upd_ne nb]; exact s3 _ _ (b3 _ _ nb eb)
    have o4 : upd H6 x (.ins A.CS dx [("_length", .int l), ("_told", .ref dt), ("_counts", .ref dc), ("_used", .ref du)]) x = some (.ins A.CS dx [("_length", .int l), ("_told", .ref dt), ("_counts", .ref dc), ("_used", .ref du)]) := upd_same
    have e1 : upd H6 x (.ins A.CS dx [("_length", .int l), ("_told", .ref dt), ("_counts", .ref dc), ("_used", .ref du)]) dt = some (.dK []) := by rw [upd_ne x1]; exact s3 _ _ e1
    have e2 : upd H6 x (.ins A.CS dx [("_length", .int l), ("_told", .ref dt), ("_counts", .ref dc), ("_used", .ref du)]) dc = some (.dK []) := by rw [upd_ne x2]; exact s3 _ _ e2
    have e3 : upd H6 x (.ins A.CS dx [("_length", .int l), ("_told", .ref dt), ("_counts", .ref dc), ("_used", .ref du)]) du = some (.dK []) := by rw [upd_ne x3]; exact e3
    show tSeq _ _ _ _ (upd H6 x (.ins A.CS dx [("_length", .int l), ("_told", .ref dt), ("_counts", .ref dc), ("_used", .ref du)]))
    generalize upd H6 x (.ins A.CS dx [("_length", .int l), ("_told", .ref dt), ("_counts", .ref dc), ("_used", .ref du)]) = H7 at b4 o4 e1 e2 e3 ⊢
    walk_at "go"
    refine ⟨_, rfl, x, A.CS, dx, _, rfl, o4, T.cl_Shares, T.na_passed, Nat.le_of_ble_eq_true rfl, ?_⟩
    have b5 : But x H (upd H7 x (.ins A.CS dx [("_length", .int l), ("_told", .ref dt), ("_counts", .ref dc), ("_used", .ref du), ("_passed", .int 0)])) := fun b u nb eb => by rw [upd_ne nb]; exact b4 _ _ nb eb
    have o5 : upd H7 x (.ins A.CS dx [("_length", .int l), ("_told", .ref dt), ("_counts", .ref dc), ("_used", .ref du), ("_passed", .int 0)]) x = some (.ins A.CS dx [("_length", .int l), ("_told", .ref dt), ("_counts", .ref dc), ("_used", .ref du), ("_passed", .int 0)]) := upd_same
    have e1 : upd H7 x (.ins A.CS dx [("_length", .int l), ("_told", .ref dt), ("_counts", .ref dc), ("_used", .ref du), ("_passed", .int 0)]) dt = some (.dK []) := by rw [upd_ne x1]; exact e1
    have e2 : upd H7 x (.ins A.CS dx [("_length", .int l), ("_told", .ref dt), ("_counts", .ref dc), ("_used", .ref du), ("_passed", .int 0)]) dc = some (.dK []) := by rw [upd_ne x2]; exact e2
    have e3 : upd H7 x (.ins A.CS dx [("_length", .int l), ("_told", .ref dt), ("_counts", .ref dc), ("_used", .ref du), ("_passed", .int 0)]) du = some (.dK []) := by rw [upd_ne x3]; exact e3
    show sFld K (tVar 0) (tLstB tNil) "_dealt" _ _ (upd H7 x (.ins A.CS dx [("_length", .int l), ("_told", .ref dt), ("_counts", .ref dc), ("_used", .ref du), ("_passed", .int 0)]))
    generalize upd H7 x (.ins A.CS dx [("_length", .int l), ("_told", .ref dt), ("_counts", .ref dc), ("_used", .ref du), ("_passed", .int 0)]) = H8 at b5 o5 e1 e2 e3 ⊢
    refine r_lstB (r_nil (newLB fun ll H9 n9 g9 s9 e9 => ?_))
    walk_at "go"
    refine ⟨x, A.CS, dx, _, rfl, s9 _ _ o5, T.cl_Shares, T.na_dealt, Nat.le_of_ble_eq_true rfl, ?_⟩
    have x9 : ll ≠ x := (ne_of_none o5 n9).symm
    have hN : ∀ {b : Addr} {H' : Hp}, But x H H' → b ≠ x → H' b = none → H b = none := fun {b H'} bb nb z => by
      cases w : H b with
      | none => rfl
      | some u => rw [bb _ _ nb w] at z; exact nomatch z
    refine q ⟨x, dt, dc, du, ll⟩ _ rfl (fun b u nb eb => by rw [upd_ne nb]; exact s9 _ _ (b5 _ _ nb eb)) (fun b hb => ?_) ⟨⟨dx, _, upd_same, rfl, rfl, rfl, rfl, rfl, rfl, Nat.le_of_ble_eq_true rfl, fun m h1 h2 h3 h4 h5 h6 => ?_⟩, ⟨fun _ => 0, by rw [upd_ne x1]; exact s9 _ _ e1, fun y hy => (nomatch hy)⟩, ⟨fun _ => 0, by rw [upd_ne x2]; exact s9 _ _ e2, fun y hy => (nomatch hy)⟩, by rw [upd_ne x3]; exact s9 _ _ e3, by rw [upd_ne x9]; exact e9, y12, y13, y23, ⟨h4, h60, fun y hy => (nomatch hy), List.nodup_nil, Nat.zero_le _, fun y hy => (nomatch hy), fun y hy => (nomatch hy), Nat.zero_le _, Nat.zero_le _, by show 0 < l; omega, fun _ y hy => (nomatch hy), fun y hy => (nomatch hy), Nat.zero_le _⟩⟩
    · rcases hb with h | h | h | h | h
      · exact .inl h
      · exact .inr (by rw [h]; exact hN b1 x1 n1)
      · exact .inr (by rw [h]; exact hN b2 x2 n2)
      · exact .inr (by rw [h]; exact hN b3 x3 n3)
      · exact .inr (by rw [h]; exact hN b5 x9 n9)
    · show List.lookup m [(("_length" : Str), V.int l), ("_told", .ref dt), ("_counts", .ref dc), ("_used", .ref du), ("_passed", .int 0), ("_dealt", .ref ll)] = none
      rw [List.lookup_cons, h1, List.lookup_cons, h2, List.lookup_cons, h3, List.lookup_cons, h4, List.lookup_cons, h5, List.lookup_cons, h6]
      rfl
theorem ok_length {f : Addr} {fd : FuncData} (F : Fun K "length" "Shares.length" s_Shares_length f fd) (T : Txt K mg A) : FnOk P w K mg base CX0 1 f fd ["self"] (spLength A) := by
  refine F.ok sc_Shares_length (fun vs H Q E h => ?_) (fun cdv A' outer s H vs Q E hr h => ⟨_, (pss_one (ps_ret (pe_fld (pv 0) rfl))), ?_⟩)
  · obtain ⟨S, P, rfl, _⟩ := h
    rfl
  · obtain ⟨S, P, rfl, hS, q⟩ := h
    obtain ⟨dx, fs, e, fL, fT, fC, fU, fP, fD, fn⟩ := hS.ob
    walk_at "go"
    exact ⟨_, rfl, S.o, A.CS, dx, fs, _, rfl, e, T.cl_Shares, T.na_length, fL, q⟩
theorem ok_names {f : Addr} {fd : FuncData} (F : Fun K "names" "Shares.names" s_Shares_names f fd) (T : Txt K mg A) : FnOk P w K mg base CX0 1 f fd ["self"] (spNames A) := by
  refine F.ok sc_Shares_names (fun vs H Q E h => ?_) (fun cdv A' outer s H vs Q E hr h => ⟨_, (pss_one (ps_ret (pe_callTy (call_listD rfl) (by rfl) T.m_list (by decide +kernel) (pa_cons (pe_fld (pv 0) rfl) pa_nil)))), ?_⟩)
  · obtain ⟨S, P, rfl, _⟩ := h
    rfl
  · obtain ⟨S, P, rfl, hS, q⟩ := h
    obtain ⟨dx, fs, e, fL, fT, fC, fU, fP, fD, fn⟩ := hS.ob
    obtain ⟨tt, et, ht⟩ := hS.told
    walk_at "go"
    refine ⟨_, rfl, S.o, A.CS, dx, fs, _, rfl, e, T.cl_Shares, T.na_told, fT, ?_⟩
    walk_at "go"
    refine ⟨S.dt, _, rfl, .inl et, fun l1 nl1 => ?_⟩
    have hm : (dicF P.G fun x => .ref (tt x)).map (fun kv => kV kv.1) = P.G.map V.str := by
      unfold dicF
      rw [List.map_map]
      rfl
    rw [hm]
    exact q l1 _ nl1 (same_upd nl1) upd_same
theorem ok_dealt {f : Addr} {fd : FuncData} (F : Fun K "dealt" "Shares.dealt" s_Shares_dealt f fd) (T : Txt K mg A) : FnOk P w K mg base CX0 1 f fd ["self"] (spDealt A) := by
  refine F.ok sc_Shares_dealt (fun vs H Q E h => ?_) (fun cdv A' outer s H vs Q E hr h => ⟨_, (pss_one (ps_ret (pe_callTy call_list_of (by rfl) T.m_list (by decide +kernel) (pa_cons (pe_fld (pv 0) rfl) pa_nil)))), ?_⟩)
  · obtain ⟨S, P, rfl, _⟩ := h
    rfl
  · obtain ⟨S, P, rfl, hS, q⟩ := h
    obtain ⟨dx, fs, e, fL, fT, fC, fU, fP, fD, fn⟩ := hS.ob
    walk_at "go"
    refine ⟨_, rfl, S.o, A.CS, dx, fs, _, rfl, e, T.cl_Shares, T.na_dealt, fD, ?_⟩
    walk_at "go"
    refine ⟨S.dl, _, rfl, .inl (sqL hS.dlt), fun l1 nl1 => ?_⟩
    exact q l1 _ nl1 (same_upd nl1) upd_same
theorem ok_promise {f : Addr} {fd : FuncData} (F : Fun K "promise" "Shares.promise" s_Shares_promise f fd) (T : Txt K mg A) (c_check_guest : CalX P w K mg base 4 "check_guest" spCkGuest) : FnOk P w K mg base (L2.CX P w) 5 f fd ["self", "name"] (spPromise A) := by
  refine F.okX sc_Shares_promise (fun vs H Q E h => ?_) (fun cdv A' outer s H vs Q E hr h => have hu := units1 hr; ⟨_, (pss_cons (ps_expr (pe_calX c_check_guest hr (by decide) (by rfl) (takes_of rfl rfl rfl rfl) (pa_cons (pv 1) (pa_cons (pe_fld (pv 0) rfl) pa_nil))))
    (pss_one (ps_ret (pe_ix ix_tup (pe_dget hu (pe_fld (pv 0) rfl) (pv 1) (fun _ _ => rfl)) pe_int (fun _ _ => rfl))))), ?_⟩)
  · obtain ⟨S, P, x, rfl, _⟩ := h
    rfl
  · obtain ⟨S, P, x, rfl, hS, hx, q⟩ := h
    obtain ⟨dx, fs, e, fL, fT, fC, fU, fP, fD, fn⟩ := hS.ob
    obtain ⟨tt, et, ht⟩ := hS.told
    walk_at "go"
    refine ⟨_, rfl, S.o, A.CS, dx, fs, _, rfl, e, T.cl_Shares, T.na_told, fT, ?_⟩
    walk_at "go"
    refine ⟨x, S.dt, P.G, _, rfl, hS.ok.nm x hx, et, hx, fun H1 s1 => ?_⟩
    walk_at "go"
    refine ⟨_, rfl, S.o, A.CS, dx, fs, _, rfl, s1 _ _ e, T.cl_Shares, T.na_told, fT, ?_⟩
    walk_at "go"
    refine ⟨S.dt, _, rfl, .inl ⟨_, .inr x, .inl (s1 _ _ et), rfl, (by rw [dicF_get, if_pos hx])⟩, ?_⟩
    walk_at "go"
    refine r_ixT (sqT (s1 _ _ (ht x hx))) (v := .int (P.pr x)) rfl ?_
    exact q _ s1
theorem ok_promised {f : Addr} {fd : FuncData} (F : Fun K "promised" "Shares.promised" s_Shares_promised f fd) (T : Txt K mg A) : FnOk P w K mg base CX0 1 f fd ["self"] (spPromised A) := by
  refine F.ok sc_Shares_promised (fun vs H Q E h => ?_) (fun cdv A' outer s H vs Q E hr h => ⟨_, (pss_one (ps_ret (pe_callB (cr_sum rfl) (by rfl) T.m_sum (by decide +kernel) (pa_cons (pe_lock (pe_lc (own := [("promise", 1), ("_", 2)]) rfl sc_Shares_promised.nd (pi_values (pe_fld (pv 0) rfl)) (blkOk_by (N := ["self", "promise", "_"]) (sc := defScope s_Shares_promised) (by decide +kernel)) (fun _ _ _ _ _ => (pg_tupK (K := K) (n := 2) rfl rfl (pgs_cons (pg_name (i := 1) sc_Shares_promised.nd rfl (.inl rfl)) (pgs_cons (pg_name (i := 2) sc_Shares_promised.nd rfl (.inl rfl)) pgs_nil)))) (fun _ _ _ _ _ => pts_nil) (fun _ _ _ _ _ => (pv 1)))) pa_nil)))), ?_⟩)
  · obtain ⟨S, P, rfl, _⟩ := h
    rfl
  · obtain ⟨S, P, rfl, hS, q⟩ := h
    obtain ⟨dx, fs, e, fL, fT, fC, fU, fP, fD, fn⟩ := hS.ob
    obtain ⟨tt, et, ht⟩ := hS.told
    walk_at "go"
    refine lcVals (fun i => some (V.int (P.pr (P.G.getD i "")))) et (by rw [dicF_len]; have := hS.ok.six; omega) (fun od QQ z => ?_) (fun i k y od H1 Q' R' hk ed fr h1 h2 => ?_) fun D H1 nD s1 e1 => ?_
    · refine ⟨_, rfl, S.o, A.CS, dx, fs, _, rfl, ?_, T.cl_Shares, T.na_told, fT, z⟩
      rw [upd_ne (ne_ct e et (fun z => nomatch z))]
      exact e
    · have hi : i < P.G.length := by
        have z := (List.getElem?_eq_some_iff.mp hk).1
        rwa [dicF_len] at z
      unfold dicF at hk
      rw [List.getElem?_map, List.getElem?_eq_getElem hi] at hk
      obtain ⟨_, rfl⟩ := Prod.mk.inj (Option.some.inj hk)
      have hm := ht P.G[i] (List.getElem_mem hi)
      have em := fr _ _ (ne_ct hm et (fun z => nomatch z)) hm
      have hg : P.G.getD i "" = P.G[i] := by
        rw [List.getD_eq_getElem?_getD, List.getElem?_eq_getElem hi]
        rfl
      rw [hg] at h1
      refine ⟨_, _, rfl, sqT em, rfl, ?_⟩
      walk_at "go"
      refine ⟨_, _, rfl, _, _, rfl, rfl, rfl, ?_⟩
      exact ⟨_, rfl, h1 _ rfl _ (Same.refl _)⟩
    · walk_at "go"
      have hm : ((List.range (dicF P.G fun x => V.ref (tt x)).length).filterMap fun i => some (V.int (P.pr (P.G.getD i "")))) = (P.G.map fun x => ((P.pr x : Nat) : Int)).map V.int := by
        rw [dicF_len]
        have z := rng_fm (Str.ofString "") P.G (fun x => some (V.int (P.pr x)))
        refine z.trans ?_
        rw [List.filterMap_eq_map', List.map_map]
        rfl
      rw [hm] at e1
      refine ⟨D, _, rfl, sqL e1, ?_⟩
      have ht : (P.G.map fun x => ((P.pr x : Nat) : Int)).sum = ((total P.G P.pr : Nat) : Int) := by
        unfold total
        induction P.G with
        | nil => rfl
        | cons a r ih => simp only [List.map_cons, List.sum_cons, ih, Int.natCast_add]
      rw [ht]
      exact q _ s1
end
end K28

namespace K28
open PySem PySem.Spec PyProof.Rows L2 Bk


/-! ### the numbers -/
theorem total_app {G : List Str} {f : Str → Nat} {x : Str} : total (G ++ [x]) f = total G f + f x := by
  unfold total
  rw [List.map_append, List.sum_append]
  rfl
theorem total_congr {G : List Str} {f g : Str → Nat} (h : ∀ x ∈ G, f x = g x) : total G f = total G g := by
  unfold total
  rw [List.map_congr_left h]
theorem total_le {f g : Str → Nat} : ∀ {G : List Str}, (∀ x ∈ G, f x ≤ g x) → total G f ≤ total G g
  | [], _ => Nat.le_refl _
  | a :: r, h => Nat.add_le_add (h a List.mem_cons_self) (total_le (G := r) fun x hx => h x (List.mem_cons_of_mem _ hx))
theorem total_drop {f : Str → Nat} {p : Str → Bool} : ∀ {G : List Str}, total (G.filter p) f ≤ total G f
  | [] => Nat.le_refl _
  | a :: r => by
    have ih := total_drop (f := f) (p := p) (G := r)
    by_cases c : p a = true
    · rw [List.filter_cons_of_pos c]
      exact Nat.add_le_add_left ih _
    · rw [List.filter_cons_of_neg c]
      exact Nat.le_trans ih (Nat.le_add_left _ _)
theorem total_out {G : List Str} {f : Str → Nat} {x : Str} {v : Nat} (h : x ∉ G) : total G (setF f x v) = total G f := total_congr fun y hy => if_neg fun z => h (by rw [← z]; exact hy)
theorem total_set {f : Str → Nat} {x : Str} {v : Nat} : ∀ {G : List Str}, G.Nodup → x ∈ G → total G (setF f x v) + f x = total G f + v
  | [], _, h => nomatch h
  | a :: r, nd, h => by
    have n2 := List.nodup_cons.mp nd
    show setF f x v a + total r (setF f x v) + f x = f a + total r f + v
    by_cases c : a = x
    · subst c
      rw [total_out n2.1]
      unfold setF
      rw [if_pos rfl]
      omega
    · have ih := total_set (f := f) (v := v) (G := r) n2.2 ((List.mem_cons.mp h).resolve_left fun z => c z.symm)
      unfold setF at ih ⊢
      rw [if_neg c]
      omega
theorem total_mem {f : Str → Nat} {x : Str} : ∀ {G : List Str}, x ∈ G → f x ≤ total G f
  | [], h => nomatch h
  | a :: r, h => by
    show f x ≤ f a + total r f
    rcases List.mem_cons.mp h with rfl | h
    · omega
    · have := total_mem (f := f) (G := r) h
      omega
theorem setF_same {f : Str → Nat} {x : Str} {v : Nat} : setF f x v x = v := if_pos rfl
theorem setF_ne {f : Str → Nat} {x y : Str} {v : Nat} (h : y ≠ x) : setF f x v y = f y := if_neg h
theorem Ps.Ok.come {P : Ps} (h : P.Ok) {x : Str} {p c : Nat} (nx : nameOk x = true) (hx : x ∉ P.G) (h6 : P.G.length < 6) (pc : p ≤ c) (c1 : 1 ≤ c) (cl : c ≤ P.L) (ft : total P.G P.pr + p ≤ P.L) : (P.come x p c).Ok := by
  have ne : ∀ y ∈ P.G, y ≠ x := fun y hy z => hx (by rw [← z]; exact hy)
  have sp : ∀ {y : Str}, y ∈ P.G ++ [x] → (y ∈ P.G ∧ y ≠ x) ∨ y = x := fun {y} hy => (List.mem_append.mp hy).elim (fun z => .inl ⟨z, ne y z⟩) fun z => .inr (List.mem_singleton.mp z)
  refine ⟨h.l4, h.l60, fun y hy => ?_, ?_, ?_, fun y hy => ?_, fun y hy => ?_, ?_, ?_, h.ps, fun hz y hy => ?_, fun y hy => ?_, h.d480⟩
  · rcases sp hy with ⟨z, _⟩ | rfl
    · exact h.nm y z
    · exact nx
  · exact List.nodup_append.mpr ⟨h.nd, List.pairwise_singleton _ _, fun a ha b hb => by
      rw [List.mem_singleton.mp hb]
      exact ne a ha⟩
  · show (P.G ++ [x]).length ≤ 6
    rw [List.length_append]
    exact h6
  · show setF P.pr x p y ≤ setF P.ce x c y ∧ 1 ≤ setF P.ce x c y ∧ setF P.ce x c y ≤ P.L
    rcases sp hy with ⟨z, n⟩ | rfl
    · rw [setF_ne n, setF_ne n]; exact h.pc y z
    · rw [setF_same, setF_same]; exact ⟨pc, c1, cl⟩
  · show setF P.cp x (if P.ps = 0 then p else 0) y ≤ setF P.cc x c y ∧ setF P.cc x c y ≤ P.L
    rcases sp hy with ⟨z, n⟩ | rfl
    · rw [setF_ne n, setF_ne n]; exact h.cl y z
    · rw [setF_same, setF_same]
      refine ⟨?_, cl⟩
      split
      · exact pc
      · exact Nat.zero_le _
  · show total (P.G ++ [x]) (setF P.pr x p) ≤ P.L
    rw [total_app, setF_same, total_out hx]
    exact ft
  · show total (P.G ++ [x]) (setF P.cp x (if P.ps = 0 then p else 0)) ≤ P.L
    rw [total_app, setF_same, total_out hx]
    by_cases z : P.ps = 0
    · rw [if_pos z, total_congr fun y hy => (h.zero z y hy).1]
      exact ft
    · rw [if_neg z]
      exact h.fitc
  · show setF P.cp x (if P.ps = 0 then p else 0) y = setF P.pr x p y ∧ setF P.cc x c y = setF P.ce x c y ∧ setF P.us x 0 y = 0
    have hz : P.ps = 0 := hz
    rcases sp hy with ⟨z, n⟩ | rfl
    · rw [setF_ne n, setF_ne n, setF_ne n, setF_ne n, setF_ne n]; exact h.zero hz y z
    · rw [setF_same, setF_same, setF_same, setF_same, setF_same]; exact ⟨if_pos hz, rfl, rfl⟩
  · show setF P.us x 0 y ≤ P.ps
    rcases sp hy with ⟨z, n⟩ | rfl
    · rw [setF_ne n]; exact h.u60 y z
    · rw [setF_same]; exact Nat.zero_le _
theorem Ps.Ok.go {P : Ps} (h : P.Ok) {x : Str} : (P.go x).Ok := by
  have m : ∀ {y : Str}, y ∈ (P.go x).G → y ∈ P.G := fun hy => (List.mem_filter.mp hy).1
  exact ⟨h.l4, h.l60, fun y hy => h.nm y (m hy), h.nd.filter _, Nat.le_trans (List.length_filter_le _ _) h.six, fun y hy => h.pc y (m hy), fun y hy => h.cl y (m hy), Nat.le_trans total_drop h.fit, Nat.le_trans total_drop h.fitc, h.ps, fun z y hy => h.zero z y (m hy), fun y hy => h.u60 y (m hy), h.d480⟩
theorem Ps.Ok.change {P : Ps} (h : P.Ok) {x : Str} {p c : Nat} (hx : x ∈ P.G) (pc : p ≤ c) (c1 : 1 ≤ c) (cl : c ≤ P.L) (ft : total P.G P.pr + p ≤ P.L + P.pr x) : (P.change x p c).Ok := by
  have ft2 : total P.G (setF P.pr x p) ≤ P.L := by
    have := total_set (f := P.pr) (v := p) h.nd hx
    omega
  refine ⟨h.l4, h.l60, h.nm, h.nd, h.six, fun y hy => ?_, fun y hy => ?_, ft2, ?_, h.ps, fun hz y hy => ?_, h.u60, h.d480⟩
  · show setF P.pr x p y ≤ setF P.ce x c y ∧ 1 ≤ setF P.ce x c y ∧ setF P.ce x c y ≤ P.L
    by_cases n : y = x
    · subst n; rw [setF_same, setF_same]; exact ⟨pc, c1, cl⟩
    · rw [setF_ne n, setF_ne n]; exact h.pc y hy
  · show (if P.ps = 0 then setF P.cp x p else P.cp) y ≤ (if P.ps = 0 then setF P.cc x c else P.cc) y ∧ (if P.ps = 0 then setF P.cc x c else P.cc) y ≤ P.L
    by_cases z : P.ps = 0
    · rw [if_pos z, if_pos z]
      by_cases n : y = x
      · subst n; rw [setF_same, setF_same]; exact ⟨pc, cl⟩
      · rw [setF_ne n, setF_ne n]; exact h.cl y hy
    · rw [if_neg z, if_neg z]; exact h.cl y hy
  · show total P.G (if P.ps = 0 then setF P.cp x p else P.cp) ≤ P.L
    by_cases z : P.ps = 0
    · rw [if_pos z, total_congr (g := setF P.pr x p) fun y hy => ?_]
      · exact ft2
      · unfold setF
        rw [(h.zero z y hy).1]
    · rw [if_neg z]; exact h.fitc
  · have hz : P.ps = 0 := hz
    show (if P.ps = 0 then setF P.cp x p else P.cp) y = setF P.pr x p y ∧ (if P.ps = 0 then setF P.cc x c else P.cc) y = setF P.ce x c y ∧ P.us y = 0
    obtain ⟨a, b, d⟩ := h.zero hz y hy
    rw [if_pos hz, if_pos hz]
    unfold setF
    rw [a, b]
    exact ⟨rfl, rfl, d⟩
/-! ### the dicts of pairs -/
theorem Prs.keep {H H' : Hp} {d : Addr} {G : List Str} {f g : Str → Nat} (h : Prs H d G f g) (b : ∀ u, H d = some u → H' d = some u) (t : ∀ a xs, H a = some (.tup xs) → H' a = some (.tup xs)) : Prs H' d G f g := by
  obtain ⟨tt, e, ht⟩ := h
  exact ⟨tt, b _ e, fun x hx => t _ _ (ht x hx)⟩
theorem r_ifn {b : Bool} {σ : L2.St} {H : Hp} {k : VK} {i : Nat} {v w : V} (hv : σ[i]? = some (some v)) (h : k (if b = true then v else w) H) : if b = true then tVar i σ H k else tC w σ H k := by
  cases b
  · exact h
  · exact ⟨_, hv, h⟩
theorem upd_tup {H : Hp} {d : Addr} {u w : HO} (e : H d = some u) (n : ∀ xs, u ≠ .tup xs) (a : Addr) (xs : List V) (h : H a = some (.tup xs)) : upd H d w a = some (.tup xs) := by
  rw [upd_ne fun z => n xs (by rw [z, e] at h; exact Option.some.inj h)]
  exact h
theorem Prs.put {H : Hp} {d t : Addr} {G : List Str} {f g : Str → Nat} {x : Str} {p c : Nat} (h : Prs H d G f g) (ht : H t = some (.tup [.int p, .int c])) :
    ∃ kvs : List (Key × V), H d = some (.dK kvs) ∧ kvs.length = G.length ∧ Prs (upd H d (.dK (putK kvs (.inr x) (.ref t)))) d (if x ∈ G then G else G ++ [x]) (setF f x p) (setF g x c) := by
  obtain ⟨tt, e, h2⟩ := h
  refine ⟨_, e, dicF_len, fun y => if y = x then t else tt y, ?_, fun y hy => ?_⟩
  · rw [upd_same, dicF_put]
    refine congrArg (fun l => some (HO.dK l)) (dicF_congr fun y _ => ?_)
    show (if y = x then V.ref t else V.ref (tt y)) = V.ref (if y = x then t else tt y)
    by_cases n : y = x
    · rw [if_pos n, if_pos n]
    · rw [if_neg n, if_neg n]
  · show upd H d _ (if y = x then t else tt y) = _
    by_cases n : y = x
    · subst n
      rw [if_pos rfl, setF_same, setF_same]
      exact upd_tup e (fun _ z => nomatch z) _ _ ht
    · rw [if_neg n, setF_ne n, setF_ne n]
      refine upd_tup e (fun _ z => nomatch z) _ _ (h2 y ?_)
      by_cases hx : x ∈ G
      · rw [if_pos hx] at hy; exact hy
      · rw [if_neg hx] at hy; exact (List.mem_append.mp hy).elim id fun z => absurd (List.mem_singleton.mp z) n
theorem Prs.drop {H : Hp} {d : Addr} {G : List Str} {f g : Str → Nat} {x : Str} (h : Prs H d G f g) (hx : x ∈ G) :
    ∃ kvs : List (Key × V), H d = some (.dK kvs) ∧ (valV kvs (.inr x)).isSome = true ∧ Prs (upd H d (.dK (dropK kvs (.inr x)))) d (G.filter fun y => decide (y ≠ x)) f g := by
  obtain ⟨tt, e, h2⟩ := h
  refine ⟨_, e, by rw [dicF_get, if_pos hx]; rfl, tt, ?_, fun y hy => ?_⟩
  · rw [upd_same, dicF_drop]
  · exact upd_tup e (fun _ z => nomatch z) _ _ (h2 y (List.mem_filter.mp hy).1)
section
variable {P : Program} {w : World} {K : PySem.W.Frag} {mg : Str → Option Value} {base : Heap} {A : Ad}
theorem ok_ckshare {f : Addr} {fd : FuncData} (F : Fun K "_check_share" "Shares._check_share" s_Shares_check_share f fd) (T : Txt K mg A) (c_check_number : CalX P w K mg base 4 "check_number" spCkN) : FnOk P w K mg base (L2.CX P w) 5 f fd ["self", "promise", "ceiling"] (spCkShare A) := by
  refine F.okX sc_Shares_check_share (fun vs H Q E h => ?_) (fun cdv A' outer s H vs Q E hr h => ⟨_, (pss_cons (ps_expr (pe_calX c_check_number hr (by decide) (by rfl) (takes_of rfl rfl rfl rfl) (pa_cons (pv 1) (pa_cons pe_int (pa_cons (pe_fld (pv 0) rfl) pa_nil)))))
    (pss_one (ps_expr (pe_calX c_check_number hr (by decide) (by rfl) (takes_of rfl rfl rfl rfl) (pa_cons (pv 2) (pa_cons (pe_callB (call_max2 rfl) (by rfl) T.m_max (by decide +kernel) (pa_cons pe_int (pa_cons (pv 1) pa_nil))) (pa_cons (pe_fld (pv 0) rfl) pa_nil))))))), ?_⟩)
  · obtain ⟨S, P, p, c, rfl, _⟩ := h
    rfl
  · obtain ⟨S, P, p, c, rfl, hS, pc, c1, cl, q⟩ := h
    obtain ⟨dx, fs, e, fL, fT, fC, fU, fP, fD, fn⟩ := hS.ob
    have fx : ∀ {σ : L2.St} {Q : VK}, σ[0]? = some (some (.ref S.o)) → Q (.int P.L) H → tFld K (tVar 0) "_length" σ H Q := fun {σ Q} hv q => ⟨_, hv, S.o, A.CS, dx, fs, _, rfl, e, T.cl_Shares, T.na_length, fL, q⟩
    walk_at "go"
    refine fx rfl ?_
    walk_at "go"
    refine ⟨p, 0, P.L, rfl, by omega, by omega, ?_⟩
    walk_at "go"
    refine ⟨1, p, rfl, ?_⟩
    walk_at "go"
    refine fx rfl ?_
    walk_at "go"
    refine ⟨c, _, P.L, rfl, by split <;> omega, by omega, ?_⟩
    walk_at "go"
    exact q
theorem ok_ckpromised {f : Addr} {fd fdT : FuncData} (F : Fun K "_check_promised" "Shares._check_promised" s_Shares_check_promised f fd) (T : Txt K mg A) (c_TooMuch_init : Own P w K mg base CX0 2 A.fT fdT ["self", "many"] (spInitN "many" A.CT)) : FnOk P w K mg base (L2.CX P w) 4 f fd ["self", "many"] (spCkPromised A) := by
  refine F.okX sc_Shares_check_promised (fun vs H Q E h => ?_) (fun cdv A' outer s H vs Q E hr h => ⟨_, (pss_one (ps_if (pt_cmpR op_gt (pv 1) (pe_fld (pv 0) rfl) (nomark _)) (pss_one (ps_raise rfl (takes_of rfl rfl rfl rfl) (pmk_oexT T.ox_TooMuch T.i_TooMuch T.t_TooMuch c_TooMuch_init.ok (hr.mono (by decide)) c_TooMuch_init.bd .nil pass0 (by rfl) T.g_TooMuch (pa_cons (pv 1) pa_nil)))) pss_nil)), ?_⟩)
  · obtain ⟨S, P, m, rfl, _⟩ := h
    rfl
  · obtain ⟨S, P, m, rfl, hS, hm, q⟩ := h
    obtain ⟨dx, fs, e, fL, fT, fC, fU, fP, fD, fn⟩ := hS.ob
    have fx : ∀ {σ : L2.St} {Q : VK}, σ[0]? = some (some (.ref S.o)) → Q (.int P.L) H → tFld K (tVar 0) "_length" σ H Q := fun {σ Q} hv q => ⟨_, hv, S.o, A.CS, dx, fs, _, rfl, e, T.cl_Shares, T.na_length, fL, q⟩
    walk_at "go"
    refine fx rfl ?_
    walk_at "go"
    rw [decide_eq_false (by omega : ¬ (P.L : Int) < m)]
    walk_at "go"
    exact q
theorem ok_come {f : Addr} {fd fdD fdF : FuncData} (F : Fun K "come" "Shares.come" s_Shares_come f fd) (T : Txt K mg A) (c_check_name : CalX P w K mg base 4 "check_name" spCkName)
    (c_Shares_check_share : CalM P w K mg base (L2.CX P w) 5 A.CS "_check_share" (spCkShare A)) (c_Shares_promised : CalM P w K mg base CX0 1 A.CS "promised" (spPromised A)) (c_Shares_check_promised : CalM P w K mg base (L2.CX P w) 4 A.CS "_check_promised" (spCkPromised A))
    (c_Doubled_init : Own P w K mg base CX0 2 A.fD fdD ["self", "found"] (spInitN "found" A.CD)) (c_Full_init : Own P w K mg base CX0 2 A.fF fdF ["self", "many"] (spInitN "many" A.CF)) : FnOk P w K mg base (L2.CX P w) 6 f fd ["self", "name", "promise", "ceiling"] (spCome A) := by
  refine F.okX sc_Shares_come (fun vs H Q E h => ?_) (fun cdv A' outer s H vs Q E hr h => have hu := units1 hr; ⟨_, (pss_cons (ps_expr (pe_calX c_check_name hr (by decide) (by rfl) (takes_of rfl rfl rfl rfl) (pa_cons (pv 1) pa_nil)))
    (pss_cons (ps_expr (pe_mth (pv 0) T.cl_Shares c_Shares_check_share hr (by decide) (psX (takes_of rfl rfl rfl rfl)) (pa_cons (pv 2) (pa_cons (pv 3) pa_nil))))
    (pss_cons (ps_if (pt_cmp (pc_din hu (pv 1) (pe_fld (pv 0) rfl))) (pss_one (ps_raise rfl (takes_of rfl rfl rfl rfl) (pmk_oexT T.ox_Doubled T.i_Doubled T.t_Doubled c_Doubled_init.ok (hr.mono (by decide)) c_Doubled_init.bd .nil pass0 (by rfl) T.g_Doubled (pa_cons (pv 1) pa_nil)))) pss_nil)
    (pss_cons (ps_if (pt_cmpR op_eq (pe_callB call_lenD (by rfl) T.m_len (by decide +kernel) (pa_cons (pe_fld (pv 0) rfl) pa_nil)) (C8.pe_gc (by rfl) T.c_MOST_GUESTS) (nomark _)) (pss_one (ps_raise rfl (takes_of rfl rfl rfl rfl) (pmk_oexT T.ox_Full T.i_Full T.t_Full c_Full_init.ok (hr.mono (by decide)) c_Full_init.bd .nil pass0 (by rfl) T.g_Full (pa_cons (C8.pe_gc (by rfl) T.c_MOST_GUESTS) pa_nil)))) pss_nil)
    (pss_cons (ps_expr (pe_mth (pv 0) T.cl_Shares c_Shares_check_promised hr (by decide) (psX (takes_of rfl rfl rfl rfl)) (pa_cons (pe_op op_add (pe_mth0 (pv 0) T.cl_Shares c_Shares_promised hr (by decide) ps0) (pv 2)) pa_nil)))
    (pss_cons (ps_asg (pe_tup (pa_cons (pv 2) (pa_cons (pv 3) pa_nil))) (pg_sub (pe_fld (pv 0) rfl) (pv 1) (set_dict hu)))
    (pss_cons (ps_asg (pe_tup (pa_cons (pe_ifExp (pt_cmpR op_eq (pe_fld (pv 0) rfl) pe_int (nomark _)) (pv 2) pe_int) (pa_cons (pv 3) pa_nil))) (pg_sub (pe_fld (pv 0) rfl) (pv 1) (set_dict hu)))
    (pss_one (ps_asg pe_int (pg_sub (pe_fld (pv 0) rfl) (pv 1) (set_dict hu))))))))))), ?_⟩)
  · obtain ⟨S, P, x, p, c, rfl, _⟩ := h
    rfl
  · obtain ⟨S, P, x, p, c, rfl, hS, nx, hx, h6, pc, c1, cl, ft, q⟩ := h
    obtain ⟨dx, fs, e, fL, fT, fC, fU, fP, fD, fn⟩ := hS.ob
    obtain ⟨tt, et, ht⟩ := hS.told
    obtain ⟨tc, ec, hc⟩ := hS.cts
    walk_at "go"
    refine ⟨x, rfl, nx, fun H1 s1 => ?_⟩
    walk_at "go"
    refine ⟨S.o, dx, fs, rfl, s1 _ _ e, fn.2 _ (by decide +kernel) (by decide +kernel) (by decide +kernel) (by decide +kernel) (by decide +kernel) (by decide +kernel), ?_⟩
    walk_at "go"
    refine ⟨S, P, p, c, rfl, hS.same s1, pc, c1, cl, ?_⟩
    walk_at "go"
    refine ⟨_, rfl, _, rfl, S.o, A.CS, dx, fs, _, rfl, s1 _ _ e, T.cl_Shares, T.na_told, fT, S.dt, none, rfl, .inl ⟨_, .inr x, .inl (s1 _ _ et), rfl, (by rw [dicF_get, if_neg hx])⟩, _, rfl, ?_⟩
    rw [show (none : Option V).isSome = false from rfl]
    walk_at "go"
    refine ⟨_, rfl, S.o, A.CS, dx, fs, _, rfl, s1 _ _ e, T.cl_Shares, T.na_told, fT, ?_⟩
    walk_at "go"
    refine ⟨S.dt, _, rfl, s1 _ _ et, ?_⟩
    walk_at "go"
    rw [decide_eq_false (by rw [dicF_len]; intro z; injection z with z; omega)]
    walk_at "go"
    refine ⟨S.o, dx, fs, rfl, s1 _ _ e, fn.2 _ (by decide +kernel) (by decide +kernel) (by decide +kernel) (by decide +kernel) (by decide +kernel) (by decide +kernel), ?_⟩
    walk_at "go"
    refine ⟨S.o, dx, fs, rfl, s1 _ _ e, fn.2 _ (by decide +kernel) (by decide +kernel) (by decide +kernel) (by decide +kernel) (by decide +kernel) (by decide +kernel), ?_⟩
    walk_at "go"
    refine ⟨S, P, rfl, hS.same s1, fun H2 s2 => ?_⟩
    walk_at "go"
    refine ⟨S, P, _, rfl, hS.same (s1.trans s2), by omega, ?_⟩
    have h2 := hS.same (s1.trans s2)
    have h1n := hS.n1
    have e2 := s2 _ _ (s1 _ _ e)
    walk_at "go"
    refine newT fun t1 H3 n3 s3 e3 => ?_
    have h3 := h2.same s3
    have e3' := s3 _ _ e2
    obtain ⟨k1, ek1, lk1, p1⟩ := h3.told.put (x := x) e3
    rw [if_neg hx] at p1
    have six := hS.ok.six
    walk_at "go"
    refine ⟨_, rfl, S.o, A.CS, dx, fs, _, rfl, e3', T.cl_Shares, T.na_told, fT, ?_⟩
    refine ⟨_, rfl, S.dt, _, rfl, .inl ⟨k1, .inr x, ek1, rfl, by rw [lk1, sizeLine_eq]; omega, rfl⟩, ?_⟩
    have b1 : But S.dt H3 (upd H3 S.dt (.dK (putK k1 (.inr x) (.ref t1)))) := fun b u nb eb => by rw [upd_ne nb]; exact eb
    have u1 := upd_tup (w := .dK (putK k1 (.inr x) (.ref t1))) ek1 (fun _ z => nomatch z)
    show tSeq _ _ _ _ (upd H3 S.dt (.dK (putK k1 (.inr x) (.ref t1))))
    generalize upd H3 S.dt (.dK (putK k1 (.inr x) (.ref t1))) = H4 at b1 u1 p1 ⊢
    have e4 := b1 _ _ (ne_ct e3' ek1 (fun z => nomatch z)) e3'
    have c4 := h3.cts.keep (fun u z => b1 _ _ h1n.symm z) u1
    walk_at "go"
    refine ⟨_, rfl, S.o, A.CS, dx, fs, _, rfl, e4, T.cl_Shares, T.na_passed, fP, ?_⟩
    walk_at "go"
    refine r_ifn rfl ?_
    have hv : (if decide ((V.int (P.ps : Nat)) = V.int 0) = true then V.int (p : Nat) else V.int 0) = V.int ((if P.ps = 0 then p else 0 : Nat)) := by
      by_cases z : P.ps = 0
      · rw [if_pos (decide_eq_true (by rw [z]; rfl)), if_pos z]
      · rw [if_neg z, decide_eq_false (fun w => z (by injection w with w; omega)), if_neg Bool.false_ne_true]
        rfl
    rw [hv]
    generalize hn : (if P.ps = 0 then p else 0 : Nat) = np
    walk_at "go"
    refine newT fun t2 H5 n5 s5 e5 => ?_
    walk_at "go"
    have e5' := s5 _ _ e4
    obtain ⟨k2, ek2, lk2, p2⟩ := (c4.same s5).put (x := x) e5
    rw [if_neg hx] at p2
    refine ⟨_, rfl, S.o, A.CS, dx, fs, _, rfl, e5', T.cl_Shares, T.na_counts, fC, ?_⟩
    refine ⟨_, rfl, S.dc, _, rfl, .inl ⟨k2, .inr x, ek2, rfl, by rw [lk2, sizeLine_eq]; omega, rfl⟩, ?_⟩
    have b2 : But S.dc H5 (upd H5 S.dc (.dK (putK k2 (.inr x) (.ref t2)))) := fun b u nb eb => by rw [upd_ne nb]; exact eb
    have u2 := upd_tup (w := .dK (putK k2 (.inr x) (.ref t2))) ek2 (fun _ z => nomatch z)
    generalize upd H5 S.dc (.dK (putK k2 (.inr x) (.ref t2))) = H6 at b2 u2 p2 ⊢
    have e6 := b2 _ _ (ne_ct e5' ek2 (fun z => nomatch z)) e5'
    have p16 : Prs H6 S.dt _ _ _ := (p1.same s5).keep (fun u z => b2 _ _ hS.n1 z) u2
    have d6 := b2 _ _ hS.n3.symm (s5 _ _ (b1 _ _ hS.n2.symm h3.used))
    have l6 := b2 _ _ (ne_ct (s5 _ _ (b1 _ _ (ne_ct h3.dlt ek1 (fun z => nomatch z)) h3.dlt)) ek2 (fun z => nomatch z)) (s5 _ _ (b1 _ _ (ne_ct h3.dlt ek1 (fun z => nomatch z)) h3.dlt))
    walk_at "go"
    refine ⟨_, rfl, S.o, A.CS, dx, fs, _, rfl, e6, T.cl_Shares, T.na_used, fU, ?_⟩
    refine ⟨_, rfl, S.du, _, rfl, .inl ⟨_, .inr x, d6, rfl, by rw [dicF_len, sizeLine_eq]; omega, rfl⟩, ?_⟩
    rw [dicF_put, if_neg hx]
    have hd : (dicF (P.G ++ [x]) fun y => if y = x then V.int 0 else V.int (P.us y)) = dicF (P.G ++ [x]) fun y => V.int ((setF P.us x 0 y : Nat)) := dicF_congr fun y _ => by
      unfold setF
      by_cases n : y = x
      · rw [if_pos n, if_pos n]; rfl
      · rw [if_neg n, if_neg n]
    rw [hd]
    subst hn
    refine q _ (fun b u eb nb => ⟨?_, nb⟩) ⟨⟨dx, fs, by rw [upd_ne (ne_ct e6 d6 (fun z => nomatch z))]; exact e6, fL, fT, fC, fU, fP, fD, fn⟩, p16.keep (fun u z => by rw [upd_ne hS.n2]; exact z) (upd_tup d6 (fun _ z => nomatch z)), p2.keep (fun u z => by rw [upd_ne hS.n3]; exact z) (upd_tup d6 (fun _ z => nomatch z)), upd_same, by rw [upd_ne (ne_ct l6 d6 (fun z => nomatch z))]; exact l6, hS.n1, hS.n2, hS.n3, hS.ok.come nx hx h6 pc c1 cl ft⟩
    rw [upd_ne fun z => nb (.inr (.inr (.inr (.inl z))))]
    exact b2 _ _ (fun z => nb (.inr (.inr (.inl z)))) (s5 _ _ (b1 _ _ (fun z => nb (.inr (.inl z))) (s3 _ _ (s2 _ _ (s1 _ _ eb)))))
end
end K28

namespace K28
open PySem PySem.Spec PyProof.Rows L2 Bk


def okP (P : Ps) (x : Str) : Bool := decide (P.us x < P.cp x)
def okC (P : Ps) (x : Str) : Bool := decide (P.us x < P.cc x)
section
variable {P : Program} {w : World} {K : PySem.W.Frag} {mg : Str → Option Value} {base : Heap} {A : Ad}
theorem ok_byp {f : Addr} {fd : FuncData} (F : Fun K "_by_promise" "Shares._by_promise" s_Shares_by_promise f fd) (T : Txt K mg A) : FnOk P w K mg base CX0 1 f fd ["self", "among"] (spChoose A okP) := by
  refine F.ok sc_Shares_by_promise (fun vs H Q E h => ?_) (fun cdv A' outer s H vs Q E hr h => have hu := units1 hr; ⟨_, (pss_cons (ps_set (i := 2) sc_Shares_by_promise.nd rfl (.inl rfl) pe_non)
    (pss_cons (ps_for PassesOwn.never rfl (pi_list (pv 1)) (pg_name (i := 3) sc_Shares_by_promise.nd rfl (.inl rfl))
      (pss_cons (ps_par (i := 4) (j := 5) rfl sc_Shares_by_promise.nd rfl rfl (by decide) rfl rfl (pa_cons (pe_dget hu (pe_fld (pv 0) rfl) (pv 3) (fun _ _ => rfl)) (pa_cons (pe_ix ix_tup (pe_dget hu (pe_fld (pv 0) rfl) (pv 3) (fun _ _ => rfl)) pe_int (fun _ _ => rfl)) pa_nil)) (by rfl))
    (pss_cons (ps_if (pt_cmpR op_ge (pv 4) (pv 5) (nomark _)) (pss_one ps_continue) pss_nil)
    (pss_one (ps_if (PW.pt (pw_or (pt_cmpR op_isN (pv 2) pe_non (nomark _)) (pw_or1 (pt_cmpR op_lt (pe_op op_mulW (pv 4) (pe_ix ix_tup (pe_dget hu (pe_fld (pv 0) rfl) (pv 2) (fun _ _ => rfl)) pe_int (fun _ _ => rfl))) (pe_op op_mulW (pe_dget hu (pe_fld (pv 0) rfl) (pv 2) (fun _ _ => rfl)) (pv 5)) (nomark _))))) (pss_one (ps_set (i := 2) sc_Shares_by_promise.nd rfl (.inl rfl) (pv 3))) pss_nil)))))
    (pss_one (ps_ret (pv 2))))), ?_⟩)
  · obtain ⟨S, P, r, R, rfl, _⟩ := h
    rfl
  · obtain ⟨S, P, r, R, rfl, hS, er, r6, rG, q⟩ := h
    obtain ⟨dx, fs, e, fL, fT, fC, fU, fP, fD, fn⟩ := hS.ob
    obtain ⟨tc, ec, hc⟩ := hS.cts
    walk_at "go"
    refine ⟨r, rfl, ⟨_, sqL er⟩, for_list (K := K) (a := r) (xs := R.map V.str) (fun k σ G => G = H ∧ ∃ ch x3 x4 x5, σ = [some (.ref S.o), some (.ref r), some (nameV ch), x3, x4, x5] ∧ (ch = none → ∀ i x, i < k → R[i]? = some x → okP P x = false) ∧ ∀ x, ch = some x → x ∈ R ∧ okP P x = true)
      ⟨rfl, none, none, none, none, rfl, fun _ i x hi => absurd hi (Nat.not_lt_zero _), fun x z => nomatch z⟩ (fun k σ G _ ⟨hG, _⟩ => by rw [hG]; exact sqL er) ?_ ?_⟩
    · rintro k y σ G hk ⟨rfl, ch, x3, x4, x5, rfl, hno, hyes⟩
      rw [List.getElem?_map] at hk
      cases hkr : R[k]? with
      | none => rw [hkr] at hk; exact nomatch hk
      | some x =>
        rw [hkr] at hk
        obtain rfl := Option.some.inj hk
        have hx := rG x (List.mem_of_getElem? hkr)
        have hU : ∀ {σ : L2.St} {i : Nat} {z : Str} {Q : VK}, σ[0]? = some (some (.ref S.o)) → σ[i]? = some (some (.str z)) → z ∈ P.G → Q (.int (P.us z)) G → tDGet (tFld K (tVar 0) "_used") (tVar i) σ G Q := fun {σ i z Q} h0 hi hz q => ⟨_, h0, S.o, A.CS, dx, fs, _, rfl, e, T.cl_Shares, T.na_used, fU, _, hi, S.du, _, rfl, .inl ⟨_, .inr z, .inl hS.used, rfl, by rw [dicF_get, if_pos hz]⟩, q⟩
        have hC : ∀ {σ : L2.St} {i : Nat} {z : Str} {Q : VK}, σ[0]? = some (some (.ref S.o)) → σ[i]? = some (some (.str z)) → z ∈ P.G → Q (.ref (tc z)) G → tDGet (tFld K (tVar 0) "_counts") (tVar i) σ G Q := fun {σ i z Q} h0 hi hz q => ⟨_, h0, S.o, A.CS, dx, fs, _, rfl, e, T.cl_Shares, T.na_counts, fC, _, hi, S.dc, _, rfl, .inl ⟨_, .inr z, .inl ec, rfl, by rw [dicF_get, if_pos hz]⟩, q⟩
        have hlt : ∀ {i : Nat} {z : Str}, R[i]? = some z → i < k + 1 → i < k ∨ z = x := fun {i z} hz hi => by
          by_cases n : i = k
          · rw [n, hkr] at hz; exact .inr (Option.some.inj hz).symm
          · exact .inl (by omega)
        have hok := hS.ok
        have um := hok.u60
        have hL := hok.l60
        have hps := hok.ps
        have hcl := hok.cl
        walk_at "go"
        refine hU rfl rfl hx ?_
        walk_at "go"
        refine hC rfl rfl hx ?_
        walk_at "go"
        refine r_ixT (sqT (hc x hx)) (v := .int (P.cp x)) rfl ?_
        walk_at "go"
        refine ⟨_, _, rfl, ?_⟩
        walk_at "go"
        refine ite2 (fun c => ?_) (fun c => ?_)
        · walk_at "go"
          have c := of_decide_eq_true c
          refine ⟨rfl, ch, _, _, _, rfl, fun z i y hi hy => ?_, hyes⟩
          rcases hlt hy hi with h | rfl
          · exact hno z i y h hy
          · exact decide_eq_false (by omega)
        · have c := of_decide_eq_false (Bool.eq_false_iff.mpr c)
          have kx : okP P x = true := decide_eq_true (by omega)
          have new : ∀ (σ : L2.St) (x4 x5 : Option V), σ = [some (.ref S.o), some (.ref r), some (.str x), some (.str x), x4, x5] → G = G ∧ ∃ ch x3 x4 x5, σ = [some (.ref S.o), some (.ref r), some (nameV ch), x3, x4, x5] ∧ (ch = none → ∀ i x, i < k + 1 → R[i]? = some x → okP P x = false) ∧ ∀ x, ch = some x → x ∈ R ∧ okP P x = true :=
            fun σ x4 x5 e => ⟨rfl, some x, _, _, _, e, (fun z => (nomatch z)), (fun z hz => by obtain rfl := Option.some.inj hz; exact ⟨List.mem_of_getElem? hkr, kx⟩)⟩
          walk_at "go"
          refine ⟨rfl, _, rfl, ?_⟩
          cases ch with
          | none =>
            rw [show (decide (nameV none = V.non)) = true from decide_eq_true rfl]
            walk_at "go"
            exact new _ _ _ rfl
          | some y =>
            obtain ⟨yR, yk⟩ := hyes y rfl
            have hy := rG y yR
            rw [show (decide (nameV (some y) = V.non)) = false from decide_eq_false (fun z => nomatch z)]
            walk_at "go"
            refine hC rfl rfl hy ?_
            walk_at "go"
            refine r_ixT (sqT (hc y hy)) (v := .int (P.cp y)) rfl ?_
            walk_at "go"
            have old : ∀ (σ : L2.St) (x3 x4 x5 : Option V), σ = [some (.ref S.o), some (.ref r), some (.str y), x3, x4, x5] → G = G ∧ ∃ ch x3 x4 x5, σ = [some (.ref S.o), some (.ref r), some (nameV ch), x3, x4, x5] ∧ (ch = none → ∀ i x, i < k + 1 → R[i]? = some x → okP P x = false) ∧ ∀ x, ch = some x → x ∈ R ∧ okP P x = true :=
              fun σ x3 x4 x5 e => ⟨rfl, some y, _, _, _, e, (fun z => (nomatch z)), (fun z hz => by obtain rfl := Option.some.inj hz; exact ⟨yR, yk⟩)⟩
            have ux := um x hx
            have uy := um y hy
            have cx := hcl x hx
            have cy := hcl y hy
            have wm : ∀ {a b : Nat}, a ≤ 60 → b ≤ 60 → CMulW (a : Int) (b : Int) := fun {a b} ha hb => wide_mul (a := 8) (b := 8) (by rw [Int.natAbs_natCast]; omega) (by rw [Int.natAbs_natCast]; omega) (by decide) (by decide) (by decide)
            refine ⟨_, _, rfl, rfl, wm (by omega) (by omega), ?_⟩
            walk_at "go"
            refine hU rfl rfl hy ?_
            walk_at "go"
            refine ⟨_, _, rfl, rfl, wm (by omega) (by omega), ?_⟩
            walk_at "go"
            refine ite2 (fun c => ?_) (fun c => ?_)
            · walk_at "go"
              exact new _ _ _ rfl
            · walk_at "go"
              exact old _ _ _ _ rfl
    · rintro σ G ⟨rfl, ch, x3, x4, x5, rfl, hno, hyes⟩
      walk_at "go"
      have z2 := q ch (fun z x hx => ?_) hyes
      · exact z2
      obtain ⟨i, hi, rfl⟩ := List.getElem_of_mem hx
      exact hno z i _ (by rw [List.length_map]; exact hi) (List.getElem?_eq_getElem hi)
end
end K28

namespace K28
open PySem PySem.Spec PyProof.Rows L2 Bk


section
variable {P : Program} {w : World} {K : PySem.W.Frag} {mg : Str → Option Value} {base : Heap} {A : Ad}
theorem ok_byc {f : Addr} {fd : FuncData} (F : Fun K "_by_ceiling" "Shares._by_ceiling" s_Shares_by_ceiling f fd) (T : Txt K mg A) : FnOk P w K mg base CX0 1 f fd ["self", "among"] (spChoose A okC) := by
  refine F.ok sc_Shares_by_ceiling (fun vs H Q E h => ?_) (fun cdv A' outer s H vs Q E hr h => have hu := units1 hr; ⟨_, (pss_cons (ps_set (i := 2) sc_Shares_by_ceiling.nd rfl (.inl rfl) pe_non)
    (pss_cons (ps_for PassesOwn.never rfl (pi_list (pv 1)) (pg_name (i := 3) sc_Shares_by_ceiling.nd rfl (.inl rfl))
      (pss_cons (ps_if (pt_cmpR op_ge (pe_dget hu (pe_fld (pv 0) rfl) (pv 3) (fun _ _ => rfl)) (pe_ix ix_tup (pe_dget hu (pe_fld (pv 0) rfl) (pv 3) (fun _ _ => rfl)) pe_int (fun _ _ => rfl)) (nomark _)) (pss_one ps_continue) pss_nil)
    (pss_one (ps_if (PW.pt (pw_or (pt_cmpR op_isN (pv 2) pe_non (nomark _)) (pw_or1 (pt_cmpR op_lt (pe_dget hu (pe_fld (pv 0) rfl) (pv 3) (fun _ _ => rfl)) (pe_dget hu (pe_fld (pv 0) rfl) (pv 2) (fun _ _ => rfl)) (nomark _))))) (pss_one (ps_set (i := 2) sc_Shares_by_ceiling.nd rfl (.inl rfl) (pv 3))) pss_nil))))
    (pss_one (ps_ret (pv 2))))), ?_⟩)
  · obtain ⟨S, P, r, R, rfl, _⟩ := h
    rfl
  · obtain ⟨S, P, r, R, rfl, hS, er, r6, rG, q⟩ := h
    obtain ⟨dx, fs, e, fL, fT, fC, fU, fP, fD, fn⟩ := hS.ob
    obtain ⟨tc, ec, hc⟩ := hS.cts
    walk_at "go"
    refine ⟨r, rfl, ⟨_, sqL er⟩, for_list (K := K) (a := r) (xs := R.map V.str) (fun k σ G => G = H ∧ ∃ ch x3, σ = [some (.ref S.o), some (.ref r), some (nameV ch), x3] ∧ (ch = none → ∀ i x, i < k → R[i]? = some x → okC P x = false) ∧ ∀ x, ch = some x → x ∈ R ∧ okC P x = true)
      ⟨rfl, none, none, rfl, fun _ i x hi => absurd hi (Nat.not_lt_zero _), fun x z => nomatch z⟩ (fun k σ G _ ⟨hG, _⟩ => by rw [hG]; exact sqL er) ?_ ?_⟩
    · rintro k y σ G hk ⟨rfl, ch, x3, rfl, hno, hyes⟩
      rw [List.getElem?_map] at hk
      cases hkr : R[k]? with
      | none => rw [hkr] at hk; exact nomatch hk
      | some x =>
        rw [hkr] at hk
        obtain rfl := Option.some.inj hk
        have hx := rG x (List.mem_of_getElem? hkr)
        have hU : ∀ {σ : L2.St} {i : Nat} {z : Str} {Q : VK}, σ[0]? = some (some (.ref S.o)) → σ[i]? = some (some (.str z)) → z ∈ P.G → Q (.int (P.us z)) G → tDGet (tFld K (tVar 0) "_used") (tVar i) σ G Q := fun {σ i z Q} h0 hi hz q => ⟨_, h0, S.o, A.CS, dx, fs, _, rfl, e, T.cl_Shares, T.na_used, fU, _, hi, S.du, _, rfl, .inl ⟨_, .inr z, .inl hS.used, rfl, by rw [dicF_get, if_pos hz]⟩, q⟩
        have hC : ∀ {σ : L2.St} {i : Nat} {z : Str} {Q : VK}, σ[0]? = some (some (.ref S.o)) → σ[i]? = some (some (.str z)) → z ∈ P.G → Q (.ref (tc z)) G → tDGet (tFld K (tVar 0) "_counts") (tVar i) σ G Q := fun {σ i z Q} h0 hi hz q => ⟨_, h0, S.o, A.CS, dx, fs, _, rfl, e, T.cl_Shares, T.na_counts, fC, _, hi, S.dc, _, rfl, .inl ⟨_, .inr z, .inl ec, rfl, by rw [dicF_get, if_pos hz]⟩, q⟩
        have hlt : ∀ {i : Nat} {z : Str}, R[i]? = some z → i < k + 1 → i < k ∨ z = x := fun {i z} hz hi => by
          by_cases n : i = k
          · rw [n, hkr] at hz; exact .inr (Option.some.inj hz).symm
          · exact .inl (by omega)
        have hok := hS.ok
        have um := hok.u60
        have hL := hok.l60
        have hps := hok.ps
        have hcl := hok.cl
        walk_at "go"
        refine hU rfl rfl hx ?_
        walk_at "go"
        refine hC rfl rfl hx ?_
        walk_at "go"
        refine r_ixT (sqT (hc x hx)) (v := .int (P.cc x)) rfl ?_
        walk_at "go"
        refine ite2 (fun c => ?_) (fun c => ?_)
        · walk_at "go"
          have c := of_decide_eq_true c
          refine ⟨rfl, ch, _, rfl, fun z i y hi hy => ?_, hyes⟩
          rcases hlt hy hi with h | rfl
          · exact hno z i y h hy
          · exact decide_eq_false (by omega)
        · have c := of_decide_eq_false (Bool.eq_false_iff.mpr c)
          have kx : okC P x = true := decide_eq_true (by omega)
          have new : ∀ (σ : L2.St), σ = [some (.ref S.o), some (.ref r), some (.str x), some (.str x)] → G = G ∧ ∃ ch x3, σ = [some (.ref S.o), some (.ref r), some (nameV ch), x3] ∧ (ch = none → ∀ i x, i < k + 1 → R[i]? = some x → okC P x = false) ∧ ∀ x, ch = some x → x ∈ R ∧ okC P x = true :=
            fun σ e => ⟨rfl, some x, _, e, (fun z => (nomatch z)), (fun z hz => by obtain rfl := Option.some.inj hz; exact ⟨List.mem_of_getElem? hkr, kx⟩)⟩
          walk_at "go"
          refine ⟨rfl, _, rfl, ?_⟩
          cases ch with
          | none =>
            rw [show (decide (nameV none = V.non)) = true from decide_eq_true rfl]
            walk_at "go"
            exact new _ rfl
          | some y =>
            obtain ⟨yR, yk⟩ := hyes y rfl
            have hy := rG y yR
            rw [show (decide (nameV (some y) = V.non)) = false from decide_eq_false (fun z => nomatch z)]
            walk_at "go"
            have old : ∀ (σ : L2.St) (x3 : Option V), σ = [some (.ref S.o), some (.ref r), some (.str y), x3] → G = G ∧ ∃ ch x3, σ = [some (.ref S.o), some (.ref r), some (nameV ch), x3] ∧ (ch = none → ∀ i x, i < k + 1 → R[i]? = some x → okC P x = false) ∧ ∀ x, ch = some x → x ∈ R ∧ okC P x = true :=
              fun σ x3 e => ⟨rfl, some y, _, e, (fun z => (nomatch z)), (fun z hz => by obtain rfl := Option.some.inj hz; exact ⟨yR, yk⟩)⟩
            refine hU rfl rfl hx ?_
            walk_at "go"
            refine hU rfl rfl hy ?_
            walk_at "go"
            refine ite2 (fun c => ?_) (fun c => ?_)
            · walk_at "go"
              exact new _ rfl
            · walk_at "go"
              exact old _ _ rfl
    · rintro σ G ⟨rfl, ch, x3, rfl, hno, hyes⟩
      walk_at "go"
      have z2 := q ch (fun z x hx => ?_) hyes
      · exact z2
      obtain ⟨i, hi, rfl⟩ := List.getElem_of_mem hx
      exact hno z i _ (by rw [List.length_map]; exact hi) (List.getElem?_eq_getElem hi)
theorem ok_begin {f : Addr} {fd : FuncData} (F : Fun K "_begin_stretch" "Shares._begin_stretch" s_Shares_begin_stretch f fd) (T : Txt K mg A) : FnOk P w K mg base CX0 1 f fd ["self"] (spBegin A) := by
  refine F.ok sc_Shares_begin_stretch (fun vs H Q E h => ?_) (fun cdv A' outer s H vs Q E hr h => have hu := units1 hr; ⟨_, (pss_cons (ps_fld (pv 0) pe_int rfl)
    (pss_cons (ps_fld (pv 0) (pe_callTy call_dictD (by rfl) T.m_dict (by decide +kernel) (pa_cons (pe_fld (pv 0) rfl) pa_nil)) rfl)
    (pss_one (ps_fld (pv 0) (pe_lock (pe_dc (own := [("name", 1)]) rfl sc_Shares_begin_stretch.nd (pi_keys (pe_fld (pv 0) rfl)) (blkOk_by (N := ["self", "name"]) (sc := defScope s_Shares_begin_stretch) (by decide +kernel)) (fun _ _ _ _ _ => (pg_name (i := 1) sc_Shares_begin_stretch.nd rfl (.inl rfl))) (fun _ _ _ _ _ => pts_nil) (fun _ _ _ _ _ => (pv 1)) (fun _ _ _ _ _ => pe_int))) rfl)))), ?_⟩)
  · obtain ⟨S, dx, fs, G, f, g, rfl, _⟩ := h
    rfl
  · obtain ⟨S, dx, fs, G, f, g, rfl, e, fT, l6, hp, nd, g6, ⟨uc, fC⟩, ⟨uu, fU⟩, ⟨up, fP⟩, q⟩ := h
    obtain ⟨tt, et, ht⟩ := hp
    have fl : ∀ {f g : Str} {v : V} {fs : List (Str × V)}, (g == f) = false → (putF f v fs).lookup g = fs.lookup g := fun {f g v fs} h => by
      rw [lookup_putF, if_neg (beq_eq_false_iff_ne.mp h)]
    have fs_ : ∀ {f : Str} {v : V} {fs : List (Str × V)}, (putF f v fs).lookup f = some v := fun {f v fs} => by
      rw [lookup_putF, if_pos rfl]
    walk_at "go"
    refine ⟨_, rfl, S.o, A.CS, dx, fs, rfl, e, T.cl_Shares, T.na_passed, by omega, ?_⟩
    have b1 : But S.o H (upd H S.o (.ins A.CS dx (putF "_passed" (.int 0) fs))) := fun b u nb eb => by rw [upd_ne nb]; exact eb
    have e1 : upd H S.o (.ins A.CS dx (putF "_passed" (.int 0) fs)) S.o = some (.ins A.CS dx (putF "_passed" (.int 0) fs)) := upd_same
    have l1 := putF_old (v := .int 0) fP
    generalize upd H S.o (.ins A.CS dx (putF "_passed" (.int 0) fs)) = H1 at b1 e1 ⊢
    have no : S.dt ≠ S.o := ne_ct et e (fun z => nomatch z)
    have et1 := b1 _ _ no et
    have fT1 : (putF "_passed" (.int 0) fs).lookup ("_told" : Str) = some (.ref S.dt) := (fl (by decide +kernel)).trans fT
    have fC1 : (putF "_passed" (.int 0) fs).lookup ("_counts" : Str) = some uc := (fl (by decide +kernel)).trans fC
    have fU1 : (putF "_passed" (.int 0) fs).lookup ("_used" : Str) = some uu := (fl (by decide +kernel)).trans fU
    walk_at "go"
    refine ⟨_, rfl, S.o, A.CS, dx, _, _, rfl, e1, T.cl_Shares, T.na_told, fT1, ?_⟩
    walk_at "go"
    refine ⟨S.dt, _, rfl, .inl et1, fun c nc => ?_⟩
    have s2 : Same H1 (upd H1 c (.dK (dicF G fun x => .ref (tt x)))) := same_upd nc
    have ec : upd H1 c (.dK (dicF G fun x => .ref (tt x))) c = some (.dK (dicF G fun x => .ref (tt x))) := upd_same
    generalize upd H1 c (.dK (dicF G fun x => .ref (tt x))) = H2 at s2 ec ⊢
    walk_at "go"
    have e2 := s2 _ _ e1
    refine ⟨S.o, A.CS, dx, _, rfl, e2, T.cl_Shares, T.na_counts, by omega, ?_⟩
    generalize hf1 : putF "_passed" (.int 0) fs = fs1 at e1 l1 fT1 fC1 fU1 e2 ⊢
    have b3 : But S.o H2 (upd H2 S.o (.ins A.CS dx (putF "_counts" (.ref c) fs1))) := fun b u nb eb => by rw [upd_ne nb]; exact eb
    have e3 : upd H2 S.o (.ins A.CS dx (putF "_counts" (.ref c) fs1)) S.o = some (.ins A.CS dx (putF "_counts" (.ref c) fs1)) := upd_same
    have l3 := putF_old (v := .ref c) fC1
    generalize upd H2 S.o (.ins A.CS dx (putF "_counts" (.ref c) fs1)) = H3 at b3 e3 ⊢
    have nc1 : c ≠ S.o := ne_ct ec e2 (fun z => nomatch z)
    have et3 := b3 _ _ no (s2 _ _ et1)
    have ec3 := b3 _ _ nc1 ec
    have fT3 : (putF "_counts" (.ref c) fs1).lookup ("_told" : Str) = some (.ref S.dt) := (fl (by decide +kernel)).trans fT1
    have fU3 : (putF "_counts" (.ref c) fs1).lookup ("_used" : Str) = some uu := (fl (by decide +kernel)).trans fU1
    walk_at "go"
    show sFld K (tVar 0) (tLockE _) "_used" _ _ H3
    unfold sFld
    refine dcKeys (v := .int 0) nd (by omega) (fun _ => rfl) et3 (fun od QQ z => ?_) (fun x H1 QQ z => ?_) (fun x H1 QQ z => ?_) fun u H4 nu s4 eu => ?_
    · exact ⟨_, rfl, S.o, A.CS, dx, _, _, rfl, (by rw [upd_ne (fun z => no z.symm)]; exact e3), T.cl_Shares, T.na_told, fT3, z⟩
    · exact ⟨_, rfl, z⟩
    · exact z
    walk_at "go"
    have e4 := s4 _ _ e3
    refine ⟨S.o, A.CS, dx, _, rfl, e4, T.cl_Shares, T.na_used, by omega, ?_⟩
    have nu1 : u ≠ S.o := ne_ct eu e4 (fun z => nomatch z)
    have bb : But S.o H H3 := fun b o nb eb => b3 _ _ nb (s2 _ _ (b1 _ _ nb eb))
    have hN : ∀ {b : Addr} {H' : Hp}, But S.o H H' → b ≠ S.o → H' b = none → H b = none := fun {b H'} bb nb z => by
      cases w : H b with
      | none => rfl
      | some u => rw [bb _ _ nb w] at z; exact nomatch z
    have ncu : c ≠ u := ne_of_none ec3 nu
    have bf : But S.o H (upd H4 S.o (.ins A.CS dx (putF "_used" (.ref u) (putF "_counts" (.ref c) fs1)))) := fun b o nb eb => by rw [upd_ne nb]; exact s4 _ _ (bb _ _ nb eb)
    refine q c u _ _ (hN b1 nc1 nc) (hN bb nu1 nu) ncu bf upd_same ((fl (by decide +kernel)).trans fs_) fs_ ((fl (by decide +kernel)).trans ((fl (by decide +kernel)).trans (by rw [← hf1]; exact fs_))) (fun m h1 h2 h3 => (fl h2).trans ((fl h1).trans (by rw [← hf1]; exact fl h3))) (by rw [putF_old fU3, l3, l1]; exact l6) ⟨tt, by rw [upd_ne nc1]; exact s4 _ _ ec3, fun x hx => bf _ _ (ne_ct (ht x hx) e (fun z => nomatch z)) (ht x hx)⟩ (by rw [upd_ne nu1]; exact eu)
end
end K28

namespace K28
open PySem PySem.Spec PyProof.Rows L2 Bk


theorem Ps.Ok.deal {P : Ps} (h : P.Ok) {v : V} {y : Option Str} (hd : P.dl.length < 480) : (P.deal v y).Ok := by
  have L4 := h.l4
  have hp := h.ps
  refine ⟨h.l4, h.l60, h.nm, h.nd, h.six, h.pc, fun x hx => ?_, h.fit, ?_, ?_, fun hz x hx => ?_, fun x hx => ?_, ?_⟩
  · show (if P.ps + 1 = P.L then P.pr else P.cp) x ≤ (if P.ps + 1 = P.L then P.ce else P.cc) x ∧ (if P.ps + 1 = P.L then P.ce else P.cc) x ≤ P.L
    by_cases c : P.ps + 1 = P.L
    · rw [if_pos c, if_pos c]; exact ⟨(h.pc x hx).1, (h.pc x hx).2.2⟩
    · rw [if_neg c, if_neg c]; exact h.cl x hx
  · show total P.G (if P.ps + 1 = P.L then P.pr else P.cp) ≤ P.L
    by_cases c : P.ps + 1 = P.L
    · rw [if_pos c]; exact h.fit
    · rw [if_neg c]; exact h.fitc
  · show (if P.ps + 1 = P.L then 0 else P.ps + 1) < P.L
    by_cases c : P.ps + 1 = P.L
    · rw [if_pos c]; omega
    · rw [if_neg c]; omega
  · have hz : (if P.ps + 1 = P.L then 0 else P.ps + 1) = 0 := hz
    by_cases c : P.ps + 1 = P.L
    · show (if P.ps + 1 = P.L then P.pr else P.cp) x = P.pr x ∧ (if P.ps + 1 = P.L then P.ce else P.cc) x = P.ce x ∧ (if P.ps + 1 = P.L then 0 else if y = some x then P.us x + 1 else P.us x) = 0
      rw [if_pos c, if_pos c, if_pos c]
      exact ⟨rfl, rfl, rfl⟩
    · rw [if_neg c] at hz
      omega
  · show (if P.ps + 1 = P.L then 0 else if y = some x then P.us x + 1 else P.us x) ≤ (if P.ps + 1 = P.L then 0 else P.ps + 1)
    have := h.u60 x hx
    by_cases c : P.ps + 1 = P.L
    · rw [if_pos c, if_pos c]; exact Nat.le_refl _
    · rw [if_neg c, if_neg c]
      split <;> omega
  · show (P.dl ++ [v]).length ≤ 480
    rw [List.length_append]
    exact hd
section
variable {P : Program} {w : World} {K : PySem.W.Frag} {mg : Str → Option Value} {base : Heap} {A : Ad}
theorem ok_deal {f : Addr} {fd fdA : FuncData} (F : Fun K "deal" "Shares.deal" s_Shares_deal f fd) (T : Txt K mg A) (c_check_guest : CalX P w K mg base 4 "check_guest" spCkGuest)
    (c_Shares_by_promise : CalM P w K mg base CX0 1 A.CS "_by_promise" (spChoose A okP)) (c_Shares_by_ceiling : CalM P w K mg base CX0 1 A.CS "_by_ceiling" (spChoose A okC)) (c_Shares_begin_stretch : CalM P w K mg base CX0 1 A.CS "_begin_stretch" (spBegin A))
    (c_NoGuest_init : Own P w K mg base CX0 2 A.fA fdA ["self", "found"] (spInitN "found" A.CA)) : FnOk P w K mg base (L2.CX P w) 5 f fd ["self", "ready"] (spDeal A) := by
  refine F.okX sc_Shares_deal (fun vs H Q E h => ?_) (fun cdv A' outer s H vs Q E hr h => have hu := units1 hr; ⟨_, (pss_cons (ps_if (pt_not (pt_val (pe_callB call_is2 (by rfl) T.m_isinstance (by decide +kernel) (pa_cons (pv 1) (pa_cons (pe_tup (pa_cons (pe_bltn (v := .ty "list") (by rfl) T.m_list (by decide +kernel) rfl) (pa_cons (pe_bltn (v := .ty "tuple") (by rfl) T.m_tuple (by decide +kernel) rfl) pa_nil))) pa_nil))))) (pss_one (ps_raise rfl (takes_of rfl rfl rfl rfl) (pmk_oexT T.ox_NoGuest T.i_NoGuest T.t_NoGuest c_NoGuest_init.ok (hr.mono (by decide)) c_NoGuest_init.bd .nil pass0 (by rfl) T.g_NoGuest (pa_cons (pv 1) pa_nil)))) pss_nil)
    (pss_cons (ps_for (passes_of rfl) rfl (pi_list (pv 1)) (pg_name (i := 2) sc_Shares_deal.nd rfl (.inl rfl))
      (pss_one (ps_expr (pe_calX c_check_guest hr (by decide) (by rfl) (takes_of rfl rfl rfl rfl) (pa_cons (pv 2) (pa_cons (pe_fld (pv 0) rfl) pa_nil))))))
    (pss_cons (ps_lock (ps_setLc (i := 3) (own := [("name", 2)]) rfl sc_Shares_deal.nd rfl rfl (sw_true rfl rfl rfl (by decide +kernel)) (pi_keys (pe_fld (pv 0) rfl)) (blkOk_by (N := ["self", "ready", "name", "among", "chosen"]) (sc := defScope s_Shares_deal) (by decide +kernel)) (fun _ _ _ _ _ => (pg_name (i := 2) sc_Shares_deal.nd rfl (.inl rfl))) (fun _ _ _ _ _ => pts_one (pt_cmpR (op_in_seqK (K := K) rfl) (pv 2) (pv 1) (by rfl))) (fun _ _ _ _ _ => (pv 2))))
    (pss_cons (ps_set (i := 4) sc_Shares_deal.nd rfl (.inl rfl) (pe_mth (pv 0) T.cl_Shares c_Shares_by_promise hr (by decide) ps0 (pa_cons (pv 3) pa_nil)))
    (C8.pss_cut (ps_if (pt_cmpR op_isN (pv 4) pe_non (nomark _)) (pss_one (ps_set (i := 4) sc_Shares_deal.nd rfl (.inl rfl) (pe_mth (pv 0) T.cl_Shares c_Shares_by_ceiling hr (by decide) ps0 (pa_cons (pv 3) pa_nil)))) pss_nil)
    (C8.pss_cut (ps_if (pt_cmpR op_notN (pv 4) pe_non (nomark _)) (pss_one (ps_daug hu (pe_fld (pv 0) rfl) (pv 4) pe_int in_add (fun _ _ _ => rfl))) pss_nil)
    (pss_cons (ps_expr (pe_bm PySem.F.plainAttrs_list PySem.F.slot_list_append PySem.F.type_list_append mt_append (pe_fld (pv 0) rfl) (pa_cons (pv 4) pa_nil)))
    (pss_cons (ps_fldaug (pv 0) pe_int in_add)
    (pss_cons (ps_if (pt_cmpR op_eq (pe_fld (pv 0) rfl) (pe_fld (pv 0) rfl) (nomark _)) (pss_one (ps_expr (pe_mth0 (pv 0) T.cl_Shares c_Shares_begin_stretch hr (by decide) ps0))) pss_nil)
    (pss_one (ps_ret (pv 4)))))))))))), ?_⟩)
  · obtain ⟨S, P, r, R, rfl, _⟩ := h
    rfl
  · obtain ⟨S, P, r, R, rfl, hS, er, r6, rG, l480, q⟩ := h
    obtain ⟨dx, fs, e, fL, fT, fC, fU, fP, fD, fn⟩ := hS.ob
    obtain ⟨tt, et, ht⟩ := hS.told
    walk_at "go"
    refine newT fun tp H1 np s1 ep => ?_
    walk_at "go"
    refine r_is2 (b := true) ⟨.type "list", .base (.lst (s1 _ _ er)), kit2 (a := true) (b := false) (kit_ty (by decide +kernel)) (kit_ty (by decide +kernel))⟩ ep ?_
    walk_at "go"
    refine ⟨r, rfl, ⟨_, sqL (s1 _ _ er)⟩, for_list (K := K) (a := r) (xs := R.map V.str) (fun k σ G => Same H G ∧ ∃ x2, σ = [some (.ref S.o), some (.ref r), x2, none, none]) ⟨s1, none, rfl⟩ (fun k σ G _ ⟨hG, _⟩ => sqL (hG _ _ er)) ?_ ?_⟩
    · rintro k y σ G hk ⟨sG, x2, rfl⟩
      rw [List.getElem?_map] at hk
      cases hkr : R[k]? with
      | none => rw [hkr] at hk; exact nomatch hk
      | some x =>
        rw [hkr] at hk
        obtain rfl := Option.some.inj hk
        have hx := rG x (List.mem_of_getElem? hkr)
        walk_at "go"
        refine ⟨_, rfl, S.o, A.CS, dx, fs, _, rfl, sG _ _ e, T.cl_Shares, T.na_told, fT, ?_⟩
        walk_at "go"
        refine ⟨x, S.dt, P.G, _, rfl, hS.ok.nm x hx, sG _ _ et, hx, fun H3 s3 => ?_⟩
        walk_at "go"
        exact ⟨sG.trans s3, _, rfl⟩
    · rintro σ H2 ⟨s2, x2, rfl⟩
      walk_at "go"
      refine lcKeysS (fun i => if P.G.getD i "" ∈ R then some (V.str (P.G.getD i "")) else none) (s2 _ _ et) (by rw [dicF_len]; have := hS.ok.six; omega) (fun _ => rfl) (fun od QQ z => ?_) (fun i k y od H3 Q' R' hk ed fr h1 h2 => ?_) fun D H3 nD s3 e3 => ?_
      · refine ⟨_, rfl, S.o, A.CS, dx, fs, _, rfl, ?_, T.cl_Shares, T.na_told, fT, z⟩
        rw [upd_ne (ne_ct e et (fun z => nomatch z))]
        exact s2 _ _ e
      · have hi : i < P.G.length := by
          have z := (List.getElem?_eq_some_iff.mp hk).1
          rwa [dicF_len] at z
        unfold dicF at hk
        rw [List.getElem?_map, List.getElem?_eq_getElem hi] at hk
        obtain ⟨rfl, _⟩ := Prod.mk.inj (Option.some.inj hk)
        have hg : P.G.getD i "" = P.G[i] := by
          rw [List.getD_eq_getElem?_getD, List.getElem?_eq_getElem hi]
          rfl
        rw [hg] at h1 h2
        have er3 := fr _ _ (ne_ct er et (fun z => nomatch z)) (s2 _ _ er)
        walk_at "go"
        refine ⟨r, _, rfl, .inl (sqL er3), rfl, List.all_eq_true.mpr fun v hv => ?_, ?_⟩
        · obtain ⟨z, _, rfl⟩ := List.mem_map.mp hv
          rfl
        · rw [if_neg Bool.false_ne_true]
          show ∃ k, V.bl (inV (.str P.G[i]) (R.map V.str)) = V.bl k ∧ _
          rw [inV_str]
          refine ⟨_, rfl, ?_⟩
          by_cases m : P.G[i] ∈ R
          · rw [decide_eq_true m]
            exact ⟨_, rfl, h1 _ (if_pos m) _ (Same.refl _)⟩
          · rw [decide_eq_false m]
            exact h2 (if_neg m) _ (Same.refl _)
      · have hM : ((List.range (dicF P.G fun x => V.ref (tt x)).length).filterMap fun i => if P.G.getD i "" ∈ R then some (V.str (P.G.getD i "")) else none) = (P.G.filter fun x => decide (x ∈ R)).map V.str := by
          rw [dicF_len]
          refine (rng_fm (Str.ofString "") P.G (fun x => if x ∈ R then some (V.str x) else none)).trans ?_
          induction P.G with
          | nil => rfl
          | cons a l ih =>
            by_cases c : a ∈ R
            · rw [List.filterMap_cons, if_pos c, List.filter_cons_of_pos (by exact decide_eq_true c), List.map_cons]
              exact congrArg _ ih
            · rw [List.filterMap_cons, if_neg c, List.filter_cons_of_neg (by simpa using c)]
              exact ih
        rw [hM] at e3
        have hMm : ∀ x, x ∈ (P.G.filter fun x => decide (x ∈ R)) ↔ x ∈ P.G ∧ x ∈ R := fun x => by rw [List.mem_filter, decide_eq_true_eq]
        have hMl : (P.G.filter fun x => decide (x ∈ R)).length ≤ 6 := Nat.le_trans (List.length_filter_le _ _) hS.ok.six
        generalize (P.G.filter fun x => decide (x ∈ R)) = M at e3 hMm hMl
        have s13 := s2.trans s3
        have h3 := hS.same s13
        have e3o := s13 _ _ e
        walk_at "go"
        refine ⟨S.o, dx, fs, rfl, e3o, fn.2 _ (by decide +kernel) (by decide +kernel) (by decide +kernel) (by decide +kernel) (by decide +kernel) (by decide +kernel), ?_⟩
        walk_at "go"
        refine ⟨S, P, D, M, rfl, h3, e3, hMl, fun x hx => ((hMm x).mp hx).1, fun y1 y1n y1s => ?_⟩
        walk_at "go"
        show C8.tCut _ _ _ _ _
        refine r_cut (fun σ G => G = H3 ∧ ∃ y, σ = [some (.ref S.o), some (.ref r), x2, some (.ref D), some (nameV y)] ∧ Chosen P R y) ?_ ?_
        · walk_at "go"
          refine ⟨rfl, _, rfl, ?_⟩
          cases y1 with
          | none =>
            have hn : ∀ x ∈ P.G, x ∈ R → P.cp x ≤ P.us x := fun x hx hr => by
              have := of_decide_eq_false (y1n rfl x ((hMm x).mpr ⟨hx, hr⟩))
              omega
            rw [show (decide (nameV none = V.non)) = true from decide_eq_true rfl]
            walk_at "go"
            refine ⟨S.o, dx, fs, rfl, e3o, fn.2 _ (by decide +kernel) (by decide +kernel) (by decide +kernel) (by decide +kernel) (by decide +kernel) (by decide +kernel), ?_⟩
            walk_at "go"
            refine ⟨S, P, D, M, rfl, h3, e3, hMl, fun x hx => ((hMm x).mp hx).1, fun y2 y2n y2s => ?_⟩
            walk_at "go"
            refine ⟨rfl, y2, rfl, ?_⟩
            cases y2 with
            | none =>
              refine fun x hx hr => ⟨hn x hx hr, ?_⟩
              have := of_decide_eq_false (y2n rfl x ((hMm x).mpr ⟨hx, hr⟩))
              omega
            | some z =>
              obtain ⟨z1, z2⟩ := y2s z rfl
              exact ⟨((hMm z).mp z1).1, ((hMm z).mp z1).2, .inr ⟨hn, of_decide_eq_true z2⟩⟩
          | some z =>
            obtain ⟨z1, z2⟩ := y1s z rfl
            rw [show (decide (nameV (some z) = V.non)) = false from decide_eq_false (fun z => nomatch z)]
            walk_at "go"
            exact ⟨rfl, some z, rfl, ((hMm z).mp z1).1, ((hMm z).mp z1).2, .inl (of_decide_eq_true z2)⟩
        · rintro σ G ⟨rfl, y, rfl, hy⟩
          show C8.tCut _ _ _ _ _
          refine r_cut (fun σ G' => σ = [some (.ref S.o), some (.ref r), x2, some (.ref D), some (nameV y)] ∧ But S.du G G' ∧ (∀ a xs, G a = some (.tup xs) → G' a = some (.tup xs)) ∧ G' S.du = some (.dK (dicF P.G fun x => .int ((if y = some x then P.us x + 1 else P.us x : Nat))))) ?_ ?_
          · walk_at "go"
            refine ⟨rfl, _, rfl, ?_⟩
            cases y with
            | none =>
              rw [show (decide (nameV none = V.non)) = true from decide_eq_true rfl]
              walk_at "go"
              refine ⟨rfl, fun b u _ z => z, fun a xs z => z, ?_⟩
              rw [h3.used]
              refine congrArg (fun l => some (HO.dK l)) (dicF_congr fun x _ => ?_)
              rw [if_neg (fun z => nomatch z)]
            | some z =>
              have hz : z ∈ P.G := hy.1
              rw [show (decide (nameV (some z) = V.non)) = false from decide_eq_false (fun z => nomatch z)]
              walk_at "go"
              refine ⟨_, rfl, S.o, A.CS, dx, fs, _, rfl, e3o, T.cl_Shares, T.na_used, fU, ?_⟩
              refine ⟨_, rfl, S.du, .int (P.us z), rfl, .inl ⟨_, .inr z, .inl h3.used, rfl, by rw [dicF_get, if_pos hz]⟩, ?_⟩
              refine ⟨_, 1, rfl, rfl, _, .inl ⟨_, .inr z, h3.used, rfl, by rw [dicF_len, sizeLine_eq]; have := hS.ok.six; omega, rfl⟩, ?_⟩
              refine ⟨rfl, fun b u nb z => by rw [upd_ne nb]; exact z, upd_tup h3.used (fun _ z => nomatch z), ?_⟩
              rw [upd_same, dicF_put, if_pos hz]
              refine congrArg (fun l => some (HO.dK l)) (dicF_congr fun x _ => ?_)
              by_cases c : x = z
              · subst c
                rw [if_pos rfl, if_pos rfl]
                rfl
              · rw [if_neg c, if_neg (fun w => c (Option.some.inj w).symm)]
          · rintro σ G1 ⟨rfl, b1, t1, u1⟩
            have e4 := b1 _ _ (ne_ct e3o h3.used (fun z => nomatch z)) e3o
            have d4 := b1 _ _ (ne_ct h3.dlt h3.used (fun z => nomatch z)) h3.dlt
            walk_at "go"
            refine ⟨_, rfl, S.o, A.CS, dx, fs, _, rfl, e4, T.cl_Shares, T.na_dealt, fD, ?_⟩
            refine ⟨.inl ⟨rfl, _, sqL d4⟩, ?_⟩
            walk_at "go"
            refine ⟨S.dl, _, _, rfl, rfl, d4, by rw [sizeLine_eq]; omega, ?_⟩
            have b5 : But S.dl G1 (upd G1 S.dl (.lst (P.dl ++ [nameV y]))) := fun b u nb z => by rw [upd_ne nb]; exact z
            have t5 := upd_tup (w := .lst (P.dl ++ [nameV y])) d4 (fun _ z => nomatch z)
            have d5 : upd G1 S.dl (.lst (P.dl ++ [nameV y])) S.dl = some (.lst (P.dl ++ [nameV y])) := upd_same
            generalize upd G1 S.dl (.lst (P.dl ++ [nameV y])) = G2 at b5 t5 d5 ⊢
            have e5 := b5 _ _ (ne_ct e4 d4 (fun z => nomatch z)) e4
            have n5 : ∀ {b u}, G1 b = some u → u ≠ .lst P.dl → G2 b = some u := fun {b u} z n => b5 _ _ (ne_ct z d4 n) z
            have told5 : Prs G2 S.dt P.G P.pr P.ce := (h3.told.keep (fun u z => b1 _ _ hS.n2 z) t1).keep (fun u z => by
              refine b5 _ _ (fun w => ?_) z
              have := b1 _ _ hS.n2 (s13 _ _ et)
              rw [w, d4] at this
              exact nomatch this) t5
            have cts5 : Prs G2 S.dc P.G P.cp P.cc := (h3.cts.keep (fun u z => b1 _ _ hS.n3 z) t1).keep (fun u z => by
              obtain ⟨tc, ec, _⟩ := h3.cts
              refine b5 _ _ (fun w => ?_) z
              have := b1 _ _ hS.n3 ec
              rw [w, d4] at this
              exact nomatch this) t5
            have u5 := n5 u1 (fun z => nomatch z)
            have hok := hS.ok.deal (v := nameV y) (y := y) l480
            have hps := hS.ok.ps
            have K4 : ∀ b u, H b = some u → ¬ S.own b → G2 b = some u := fun b u z nb => b5 _ _ (fun w => nb (.inr (.inr (.inr (.inr w))))) (b1 _ _ (fun w => nb (.inr (.inr (.inr (.inl w))))) (s13 _ _ z))
            have fl : ∀ {f g : Str} {v : V} {fs : List (Str × V)}, (g == f) = false → (putF f v fs).lookup g = fs.lookup g := fun {f g v fs} h => by
              rw [lookup_putF, if_neg (beq_eq_false_iff_ne.mp h)]
            have fs_ : ∀ {f : Str} {v : V} {fs : List (Str × V)}, (putF f v fs).lookup f = some v := fun {f v fs} => by
              rw [lookup_putF, if_pos rfl]
            walk_at "go"
            refine ⟨_, rfl, S.o, A.CS, dx, fs, _, rfl, e5, T.cl_Shares, T.na_passed, fP, ?_⟩
            refine ⟨_, 1, rfl, rfl, dx, fs, e5, by have := fn.1; omega, ?_⟩
            have b6 : But S.o G2 (upd G2 S.o (.ins A.CS dx (putF "_passed" (.int ((P.ps : Nat) + 1)) fs))) := fun b u nb z => by rw [upd_ne nb]; exact z
            have t6 := upd_tup (w := .ins A.CS dx (putF "_passed" (.int ((P.ps : Nat) + 1)) fs)) e5 (fun _ z => nomatch z)
            have e6 : upd G2 S.o (.ins A.CS dx (putF "_passed" (.int ((P.ps : Nat) + 1)) fs)) S.o = some (.ins A.CS dx (putF "_passed" (.int ((P.ps : Nat) + 1)) fs)) := upd_same
            generalize upd G2 S.o (.ins A.CS dx (putF "_passed" (.int ((P.ps : Nat) + 1)) fs)) = G3 at b6 t6 e6 ⊢
            have l6 := putF_old (v := .int ((P.ps : Nat) + 1)) fP
            have fL6 : (putF "_passed" (.int ((P.ps : Nat) + 1)) fs).lookup ("_length" : Str) = some (.int P.L) := (fl (by decide +kernel)).trans fL
            have fT6 : (putF "_passed" (.int ((P.ps : Nat) + 1)) fs).lookup ("_told" : Str) = some (.ref S.dt) := (fl (by decide +kernel)).trans fT
            have fC6 : (putF "_passed" (.int ((P.ps : Nat) + 1)) fs).lookup ("_counts" : Str) = some (.ref S.dc) := (fl (by decide +kernel)).trans fC
            have fU6 : (putF "_passed" (.int ((P.ps : Nat) + 1)) fs).lookup ("_used" : Str) = some (.ref S.du) := (fl (by decide +kernel)).trans fU
            have fD6 : (putF "_passed" (.int ((P.ps : Nat) + 1)) fs).lookup ("_dealt" : Str) = some (.ref S.dl) := (fl (by decide +kernel)).trans fD
            have fP6 : (putF "_passed" (.int ((P.ps : Nat) + 1)) fs).lookup ("_passed" : Str) = some (.int ((P.ps : Nat) + 1)) := fs_
            have fn6 : ∀ m : Str, (m == ("_length" : Str)) = false → (m == ("_told" : Str)) = false → (m == ("_counts" : Str)) = false → (m == ("_used" : Str)) = false → (m == ("_passed" : Str)) = false → (m == ("_dealt" : Str)) = false → (putF "_passed" (.int ((P.ps : Nat) + 1)) fs).lookup m = none := fun m h1 h2 h3 h4 h5 h6 => (fl h5).trans (fn.2 m h1 h2 h3 h4 h5 h6)
            have len6 : (putF "_passed" (.int ((P.ps : Nat) + 1)) fs).length ≤ 6 := by rw [l6]; exact fn.1
            generalize putF "_passed" (.int ((P.ps : Nat) + 1)) fs = fs6 at e6 l6 fL6 fT6 fC6 fU6 fD6 fP6 fn6 len6 ⊢
            have n6 : ∀ {b u}, G2 b = some u → u ≠ .ins A.CS dx fs → G3 b = some u := fun {b u} z n => b6 _ _ (ne_ct z e5 n) z
            have told6 : Prs G3 S.dt P.G P.pr P.ce := told5.keep (fun u z => by
              obtain ⟨_, w, _⟩ := told5
              refine n6 z (fun n => ?_)
              rw [w] at z
              rw [n] at z
              exact nomatch z) t6
            have cts6 : Prs G3 S.dc P.G P.cp P.cc := cts5.keep (fun u z => by
              obtain ⟨_, w, _⟩ := cts5
              refine n6 z (fun n => ?_)
              rw [w] at z
              rw [n] at z
              exact nomatch z) t6
            have u6 := n6 u5 (fun z => nomatch z)
            have d6 := n6 d5 (fun z => nomatch z)
            have K6 : ∀ b u, H b = some u → ¬ S.own b → G3 b = some u := fun b u z nb => b6 _ _ (fun w => nb (.inl w)) (K4 b u z nb)
            walk_at "go"
            refine ⟨_, rfl, S.o, A.CS, dx, fs6, _, rfl, e6, T.cl_Shares, T.na_passed, fP6, ?_⟩
            walk_at "go"
            refine ⟨_, rfl, S.o, A.CS, dx, fs6, _, rfl, e6, T.cl_Shares, T.na_length, fL6, ?_⟩
            walk_at "go"
            by_cases c : P.ps + 1 = P.L
            · rw [decide_eq_true (by rw [← c]; rfl : (V.int ((P.ps : Nat) + 1)) = V.int (P.L : Nat))]
              walk_at "go"
              refine ⟨S.o, dx, fs6, rfl, e6, fn6 _ (by decide +kernel) (by decide +kernel) (by decide +kernel) (by decide +kernel) (by decide +kernel) (by decide +kernel), ?_⟩
              walk_at "go"
              refine ⟨S, dx, fs6, P.G, P.pr, P.ce, rfl, e6, fT6, len6, told6, hS.ok.nd, hS.ok.six, ⟨_, fC6⟩, ⟨_, fU6⟩, ⟨_, fP6⟩, fun c' u' G4 fs7 nc nu ncu b7 e7 fc7 fu7 fp7 fo7 l7 pc7 pu7 => ?_⟩
              walk_at "go"
              have n7 : ∀ {b u}, G3 b = some u → u ≠ .ins A.CS dx fs6 → G4 b = some u := fun {b u} z n => b7 _ _ (ne_ct z e6 n) z
              obtain ⟨tt6, et6, ht6⟩ := told6
              refine q ⟨S.o, S.dt, c', u', S.dl⟩ y G4 hy rfl (fun b u eb nb => ⟨b7 _ _ (fun w => nb (.inl w)) (K6 b u eb nb), fun w => ?_⟩) ⟨⟨dx, fs7, e7, (fo7 _ (by decide +kernel) (by decide +kernel) (by decide +kernel)).trans fL6, (fo7 _ (by decide +kernel) (by decide +kernel) (by decide +kernel)).trans fT6, fc7, fu7, ?_, (fo7 _ (by decide +kernel) (by decide +kernel) (by decide +kernel)).trans fD6, l7, fun m h1 h2 h3 h4 h5 h6 => (fo7 m h3 h4 h5).trans (fn6 m h1 h2 h3 h4 h5 h6)⟩, ⟨tt6, n7 et6 (fun z => nomatch z), fun x hx => n7 (ht6 x hx) (fun z => nomatch z)⟩, ?_, ?_, n7 d6 (fun z => nomatch z), ne_of_none et6 nc, ne_of_none et6 nu, ncu, hok⟩
              · have k6 := K6 b u eb nb
                rcases w with w | w | w | w | w
                · exact nb (.inl w)
                · exact nb (.inr (.inl w))
                · exact ne_of_none k6 nc w
                · exact ne_of_none k6 nu w
                · exact nb (.inr (.inr (.inr (.inr w))))
              · show fs7.lookup ("_passed" : Str) = some (.int ((if P.ps + 1 = P.L then 0 else P.ps + 1 : Nat)))
                rw [if_pos c]
                exact fp7
              · show Prs G4 c' P.G (if P.ps + 1 = P.L then P.pr else P.cp) (if P.ps + 1 = P.L then P.ce else P.cc)
                rw [if_pos c, if_pos c]
                exact pc7
              · refine pu7.trans (congrArg (fun l => some (HO.dK l)) (dicF_congr fun x _ => ?_))
                show V.int 0 = V.int ((if P.ps + 1 = P.L then 0 else if y = some x then P.us x + 1 else P.us x : Nat))
                rw [if_pos c]
                rfl
            · rw [decide_eq_false (fun w => c (by injection w with w; omega) : ¬ (V.int ((P.ps : Nat) + 1)) = V.int (P.L : Nat))]
              walk_at "go"
              refine q S y G3 hy rfl (fun b u eb nb => ⟨K6 b u eb nb, nb⟩) ⟨⟨dx, fs6, e6, fL6, fT6, fC6, fU6, ?_, fD6, len6, fn6⟩, told6, ?_, ?_, d6, hS.n1, hS.n2, hS.n3, hok⟩
              · show fs6.lookup ("_passed" : Str) = some (.int ((if P.ps + 1 = P.L then 0 else P.ps + 1 : Nat)))
                rw [if_neg c]
                exact fP6
              · show Prs G3 S.dc P.G (if P.ps + 1 = P.L then P.pr else P.cp) (if P.ps + 1 = P.L then P.ce else P.cc)
                rw [if_neg c, if_neg c]
                exact cts6
              · refine u6.trans (congrArg (fun l => some (HO.dK l)) (dicF_congr fun x _ => ?_))
                show V.int ((if y = some x then P.us x + 1 else P.us x : Nat)) = V.int ((if P.ps + 1 = P.L then 0 else if y = some x then P.us x + 1 else P.us x : Nat))
                rw [if_neg c]
end
end K28

namespace K28
open PySem PySem.Spec PyProof.Rows L2 Bk


/-! ### what breaks a share, by values -/
/-- of the turns that x got among the first t, whether it was ready -/
def gsn (x : Str) (Rs : List (List Str)) (Ys : List (Option Str)) (t : Nat) : List Bool := (List.range t).filterMap fun i => if Ys.getD i none = some x then some (decide (x ∈ Rs.getD i [])) else none
def brk (p c : Nat) (x : Str) (Rs : List (List Str)) (Ys : List (Option Str)) (whole : Bool) : Bool :=
  !(gsn x Rs Ys Ys.length).all id || decide (c < (gsn x Rs Ys Ys.length).length) || (whole && Rs.all (fun R => decide (x ∈ R)) && decide ((gsn x Rs Ys Ys.length).length < p))
/-- a list or a tuple -/
def Sq (H : Hp) (a : Addr) (xs : List V) : Prop := H a = some (.lst xs) ∨ H a = some (.tup xs)
theorem Sq.same {H H' : Hp} {a : Addr} {xs : List V} (h : Sq H a xs) (s : Same H H') : Sq H' a xs := h.imp (s _ _) (s _ _)
theorem Sq.sq {K : PySem.W.Frag} {H : Hp} {a : Addr} {xs : List V} (h : Sq H a xs) : SqA K H a xs := h.imp (fun z => sqL z) (fun z => sqT z)
theorem Sq.is2 {K : PySem.W.Frag} {H : Hp} {a : Addr} {xs : List V} (h : Sq H a xs) : IsB K H (.ref a) "list" "tuple" true :=
  h.elim (fun z => ⟨.type "list", .base (.lst z), kit2 (a := true) (b := false) (kit_ty (by decide +kernel)) (kit_ty (by decide +kernel))⟩) (fun z => ⟨.type "tuple", .base (.tup z), kit2 (a := false) (b := true) (kit_ty (by decide +kernel)) (kit_ty (by decide +kernel))⟩)
theorem r_din {σ : L2.St} {i j : Nat} {a : Addr} {x : Str} {G : List Str} {f : Str → V} {Q : VK} {H : Hp} (hx : σ[i]? = some (some (.str x))) (hd : σ[j]? = some (some (.ref a))) (e : H a = some (.dK (dicF G f))) (q : Q (.bl (decide (x ∈ G))) H) : tDIn (tVar i) (tVar j) σ H Q :=
  ⟨_, hx, _, hd, a, _, rfl, .inl ⟨_, .inr x, .inl e, rfl, rfl⟩, by
    rw [dicF_get]
    by_cases h : x ∈ G
    · rw [if_pos h]; rw [decide_eq_true h] at q; exact q
    · rw [if_neg h]; rw [decide_eq_false h] at q; exact q⟩
theorem eq_name {x : Str} {y : Option Str} : decide (nameV y = V.str x) = decide (y = some x) := by
  refine decide_eq_decide.mpr ?_
  cases y with
  | none => exact ⟨fun z => (nomatch z), fun z => (nomatch z)⟩
  | some y => exact ⟨fun z => by have z : V.str y = V.str x := z; injection z with z; rw [z], fun z => by rw [Option.some.inj z]; rfl⟩
theorem gsn_vals {x : Str} {Rs : List (List Str)} {Ys : List (Option Str)} {n : Nat} : ((List.range n).filterMap fun i => if Ys.getD i none = some x then some (V.bl (decide (x ∈ Rs.getD i []))) else none) = (gsn x Rs Ys n).map V.bl := by
  unfold gsn
  rw [List.map_filterMap]
  refine congrArg (fun f => (List.range n).filterMap f) (funext fun i => ?_)
  by_cases c : Ys.getD i none = some x
  · rw [if_pos c, if_pos c]; rfl
  · rw [if_neg c, if_neg c]; rfl
theorem fm_some {n : Nat} {f : Nat → V} : ((List.range n).filterMap fun i => some (f i)) = (List.range n).map f := by
  induction (List.range n) with
  | nil => rfl
  | cons a l ih => rw [List.filterMap_cons, List.map_cons, ih]
/-- a list or tuple of lists or tuples of names -/
def Rows (H : Hp) (a : Addr) (Rs : List (List Str)) : Prop := ∃ ts : List Addr, Sq H a (ts.map V.ref) ∧ ts.length = Rs.length ∧ ∀ (k : Nat) t R, ts[k]? = some t → Rs[k]? = some R → Sq H t (R.map V.str)
theorem Rows.same {H H' : Hp} {a : Addr} {Rs : List (List Str)} (h : Rows H a Rs) (s : Same H H') : Rows H' a Rs := by
  obtain ⟨ts, e, l, all⟩ := h
  exact ⟨ts, e.same s, l, fun k t R a b => (all k t R a b).same s⟩
def spOne (K : PySem.W.Frag) : Sp := fun vs H Q _ => ∃ (z : Str) (d : Addr) (G : List Str) (f : Str → V), vs = [.str z, .ref d] ∧ z.length ≤ 1000 ∧ nameOk z = true ∧ H d = some (.dK (dicF G f)) ∧ ∀ H', Same H H' → Q (.bl (decide (z ∈ G))) H'
def spNamesIn (K : PySem.W.Frag) : Sp := fun vs H Q _ => ∃ (a d : Addr) (R G : List Str) (f : Str → V), vs = [.ref a, .ref d] ∧ Sq H a (R.map V.str) ∧ R.length ≤ 1000 ∧ (∀ x ∈ R, x ∈ G) ∧ (∀ x ∈ G, nameOk x = true) ∧ H d = some (.dK (dicF G f)) ∧ ∀ H', Same H H' → Q (.bl true) H'
def spIsList (K : PySem.W.Frag) : Sp := fun vs H Q _ => ∃ (a : Addr) (xs : List V), vs = [.ref a, .int 400] ∧ Sq H a xs ∧ xs.length ≤ 400 ∧ ∀ H', Same H H' → Q (.bl true) H'
def spBroken (K : PySem.W.Frag) : Sp := fun vs H Q _ => ∃ (x : Str) (s a b : Addr) (p c : Nat) (Rs : List (List Str)) (Ys : List (Option Str)) (w : Bool), vs = [.str x, .ref s, .ref a, .ref b, .bl w] ∧ H s = some (.tup [.int p, .int c]) ∧ Rows H a Rs ∧ Sq H b (Ys.map nameV) ∧ Ys.length = Rs.length ∧ Rs.length ≤ 400 ∧ ∀ H', Same H H' → Q (.bl (brk p c x Rs Ys w)) H'
section
variable {P : Program} {w : World} {K : PySem.W.Frag} {mg : Str → Option Value} {base : Heap} {A : Ad}
theorem ok_one {f : Addr} {fd : FuncData} (F : Fun K "_is_one_of" "_is_one_of" s_is_one_of f fd) (T : Txt K mg A) (c_is_name : CalD P w K mg base CX0 2 "is_name" (spName K) []) : FnOk P w K mg base CX0 3 f fd ["thing", "guests"] (spOne K) := by
  refine F.ok sc_is_one_of (fun vs H Q E h => ?_) (fun cdv A' outer s H vs Q E hr h => have hu65 := units65 hr; have hu64 := hr.units; have hu := units1 hr; ⟨_, (pss_one (ps_ret (pe_and (pe_cal c_is_name hr (by decide) (by rfl) (pa_cons (pv 0) pa_nil)) (pe_one (pe_cmp (pc_din hu (pv 0) (pv 1)) (by rfl)))))), ?_⟩)
  · obtain ⟨z, d, G, f, rfl, _⟩ := h
    rfl
  · obtain ⟨z, d, G, f, rfl, zl, zn, e, q⟩ := h
    walk_at "go"
    refine ⟨.str z, rfl, .inl ⟨z, rfl, zl, fun H1 s1 => ?_⟩⟩
    rw [zn]
    walk_at "go"
    exact r_din rfl rfl (s1 _ _ e) (q H1 s1)
theorem ok_namesIn {f : Addr} {fd : FuncData} (F : Fun K "_is_names" "_is_names" s_is_names f fd) (T : Txt K mg A) (c_is_one_of : CalD P w K mg base CX0 3 "_is_one_of" (spOne K) []) : FnOk P w K mg base CX0 4 f fd ["thing", "guests"] (spNamesIn K) := by
  refine F.ok sc_is_names (fun vs H Q E h => ?_) (fun cdv A' outer s H vs Q E hr h => have hu65 := units65 hr; have hu64 := hr.units; have hu := units1 hr; ⟨_, (pss_one (ps_ret (pe_and (pe_callB call_is2 (by rfl) T.m_isinstance (by decide +kernel) (pa_cons (pv 0) (pa_cons (pe_tup (pa_cons (pe_bltn (v := .ty "list") (by rfl) T.m_list (by decide +kernel) rfl) (pa_cons (pe_bltn (v := .ty "tuple") (by rfl) T.m_tuple (by decide +kernel) rfl) pa_nil))) pa_nil))) (pe_one (pe_callB (cr_all rfl) (by rfl) T.m_all (by decide +kernel) (pa_cons (pe_lc (own := [("name", 2)]) rfl sc_is_names.nd (pi_seqA (pv 0)) (blkOk_by (N := ["thing", "guests", "name"]) (sc := defScope s_is_names) (by decide +kernel)) (fun _ _ _ _ _ => (pg_name (i := 2) sc_is_names.nd rfl (.inl rfl))) (fun _ _ _ _ _ => pts_nil) (fun _ _ _ _ _ => (pe_cal c_is_one_of hr (by decide) (by rfl) (pa_cons (pv 2) (pa_cons (pv 1) pa_nil))))) pa_nil)))))), ?_⟩)
  · obtain ⟨a, d, R, G, f, rfl, _⟩ := h
    rfl
  · obtain ⟨a, d, R, G, f, rfl, hR, R1, RG, GN, e, q⟩ := h
    walk_at "go"
    refine newT fun tp H1 np s1 ep => ?_
    walk_at "go"
    refine r_is2 (b := true) (hR.same s1).is2 ep ?_
    walk_at "go"
    refine lcQ (fun _ => some (.bl true)) (hR.same s1).sq (by rw [List.length_map]; omega) (fun QQ z => ⟨_, rfl, z⟩) (fun i x H2 Q' R' hx sm h1 h2 => ?_) fun D H2 nD s2 e2 => ?_
    · rw [List.getElem?_map] at hx
      cases c : R[i]? with
      | none => rw [c] at hx; exact nomatch hx
      | some z =>
        rw [c] at hx
        obtain rfl := Option.some.inj hx
        have zG := RG z (List.mem_of_getElem? c)
        refine ⟨rfl, r_yes ?_⟩
        walk_at "go"
        refine ⟨z, d, G, f, rfl, by have := len_of_name (GN z zG); omega, GN z zG, sm _ _ (s1 _ _ e), fun H3 s3 => ?_⟩
        rw [decide_eq_true zG]
        exact h1 _ rfl H3 s3
    · walk_at "go"
      rw [fm_some] at e2
      refine ⟨D, (List.range (R.map V.str).length).map fun _ => true, rfl, sqL (by rw [e2, List.map_map]; rfl), ?_⟩
      rw [show ((List.range (R.map V.str).length).map fun _ => true).all id = true from List.all_eq_true.mpr fun b hb => by obtain ⟨_, _, rfl⟩ := List.mem_map.mp hb; rfl]
      exact q _ (s1.trans s2)
theorem ok_isList {f : Addr} {fd : FuncData} (F : Fun K "_is_list" "_is_list" s_is_list f fd) (T : Txt K mg A) : FnOk P w K mg base CX0 1 f fd ["thing", "most"] (spIsList K) := by
  refine F.ok sc_is_list (fun vs H Q E h => ?_) (fun cdv A' outer s H vs Q E hr h => have hu65 := units65 hr; have hu64 := hr.units; have hu := units1 hr; ⟨_, (pss_one (ps_ret (pe_and (pe_callB call_is2 (by rfl) T.m_isinstance (by decide +kernel) (pa_cons (pv 0) (pa_cons (pe_tup (pa_cons (pe_bltn (v := .ty "list") (by rfl) T.m_list (by decide +kernel) rfl) (pa_cons (pe_bltn (v := .ty "tuple") (by rfl) T.m_tuple (by decide +kernel) rfl) pa_nil))) pa_nil))) (pe_one (pe_cmpR op_le (pe_callB call_len_seq (by rfl) T.m_len (by decide +kernel) (pa_cons (pv 0) pa_nil)) (pv 1) (nomark _)))))), ?_⟩)
  · obtain ⟨a, xs, rfl, _⟩ := h
    rfl
  · obtain ⟨a, xs, rfl, hx, l4, q⟩ := h
    walk_at "go"
    refine newT fun tp H1 np s1 ep => ?_
    walk_at "go"
    refine r_is2 (b := true) (hx.same s1).is2 ep ?_
    walk_at "go"
    refine ⟨a, xs, rfl, (hx.same s1).sq, ?_⟩
    walk_at "go"
    rw [decide_eq_true (by omega : (xs.length : Int) ≤ 400)]
    exact q _ s1
theorem ok_broken {f : Addr} {fd : FuncData} (F : Fun K "_is_broken" "_is_broken" s_is_broken f fd) (T : Txt K mg A) : FnOk P w K mg base CX0 1 f fd ["name", "share", "ready", "dealt", "whole"] (spBroken K) := by
  refine F.ok sc_is_broken (fun vs H Q E h => ?_) (fun cdv A' outer s H vs Q E hr h => have hu65 := units65 hr; have hu64 := hr.units; have hu := units1 hr; ⟨_, (pss_cons (ps_asg (pv 1) (pg_tup rfl (pgs_cons (pg_name (i := 5) sc_is_broken.nd rfl (.inl rfl)) (pgs_cons (pg_name (i := 6) sc_is_broken.nd rfl (.inl rfl)) pgs_nil))))
    (pss_cons (ps_set (i := 7) sc_is_broken.nd rfl (.inr rfl) (pe_lc (own := [("names", 9)]) rfl sc_is_broken.nd (pi_seqA (pv 2)) (blkOk_by (N := ["name", "share", "ready", "dealt", "whole", "promise", "ceiling", "was_ready", "got", "names", "at", "who"]) (sc := defScope s_is_broken) (by decide +kernel)) (fun _ _ _ _ _ => (pg_name (i := 9) sc_is_broken.nd rfl (.inl rfl))) (fun _ _ _ _ _ => pts_nil) (fun _ _ _ _ _ => (pe_cmpR (op_in_seqK (K := K) rfl) (pv 0) (pv 9) (by rfl)))))
    (pss_cons (ps_setLc (i := 8) (own := [("at", 10), ("who", 11)]) rfl sc_is_broken.nd rfl rfl (sw_true rfl rfl rfl (by decide +kernel)) (pi_enumA (by rfl) T.m_enumerate (pa_cons (pv 3) pa_nil)) (blkOk_by (N := ["name", "share", "ready", "dealt", "whole", "promise", "ceiling", "was_ready", "got", "names", "at", "who"]) (sc := defScope s_is_broken) (by decide +kernel)) (fun _ _ _ _ _ => (pg_tupK (K := K) (n := 2) rfl rfl (pgs_cons (pg_name (i := 10) sc_is_broken.nd rfl (.inl rfl)) (pgs_cons (pg_name (i := 11) sc_is_broken.nd rfl (.inl rfl)) pgs_nil)))) (fun _ _ _ _ _ => pts_one (pt_cmpR op_eq (pv 11) (pv 0) (nomark _))) (fun _ _ _ _ _ => (pe_ix (ix_listK (K := K) rfl) (pv 7) (pv 10) (fun _ _ => rfl))))
    (pss_cons (ps_if (PW.pt (pw_or (pt_not (pt_val (pe_callB (cr_all rfl) (by rfl) T.m_all (by decide +kernel) (pa_cons (pv 8) pa_nil)))) (pw_or1 (pt_cmpR op_gt (pe_callB call_len_seq (by rfl) T.m_len (by decide +kernel) (pa_cons (pv 8) pa_nil)) (pv 6) (nomark _))))) (pss_one (ps_ret pe_bl)) pss_nil)
    (pss_one (ps_ret (pe_and (pv 4) (pe_and (pe_callB (cr_all rfl) (by rfl) T.m_all (by decide +kernel) (pa_cons (pv 7) pa_nil)) (pe_one (pe_cmpR op_lt (pe_callB call_len_seq (by rfl) T.m_len (by decide +kernel) (pa_cons (pv 8) pa_nil)) (pv 5) (nomark _))))))))))), ?_⟩)
  · obtain ⟨x, s, a, b, p, c, Rs, Ys, w, rfl, _⟩ := h
    rfl
  · obtain ⟨x, s, a, b, p, c, Rs, Ys, w, rfl, es, hR, hY, lY, l4, q⟩ := h
    walk_at "go"
    refine ⟨_, _, rfl, sqT es, rfl, ?_⟩
    refine ⟨_, _, rfl, _, _, rfl, rfl, ?_⟩
    obtain ⟨ts, ea, lt, all⟩ := hR
    walk_at "go"
    refine lcQ (fun i => some (.bl (decide (x ∈ Rs.getD i [])))) ea.sq (by rw [List.length_map]; omega) (fun QQ z => ⟨_, rfl, z⟩) (fun i y H2 Q' R' hy sm h1 h2 => ?_) fun D H1 nD s1 e1 => ?_
    · rw [List.getElem?_map] at hy
      cases c : ts[i]? with
      | none => rw [c] at hy; exact nomatch hy
      | some t =>
        rw [c] at hy
        obtain rfl := Option.some.inj hy
        have hi := (List.getElem?_eq_some_iff.mp c).1
        have hi2 : i < Rs.length := by omega
        have cR := List.getElem?_eq_getElem hi2
        have et := (all i t _ c cR).same sm
        have gd : Rs.getD i [] = Rs[i] := by rw [List.getD_eq_getElem?_getD, cR]; rfl
        rw [gd] at h1
        refine ⟨rfl, r_yes ?_⟩
        walk_at "go"
        refine ⟨t, _, rfl, et.sq, rfl, List.all_eq_true.mpr fun v hv => ?_, ?_⟩
        · obtain ⟨z, _, rfl⟩ := List.mem_map.mp hv
          rfl
        rw [if_neg Bool.false_ne_true, inV_str]
        exact h1 _ rfl _ (Same.refl _)
    · rw [fm_some, List.length_map, lt] at e1
      walk_at "go"
      refine lcEnumA (fun i => if Ys.getD i none = some x then some (V.bl (decide (x ∈ Rs.getD i []))) else none) (hY.same s1).sq (by rw [List.length_map]; omega) (fun QQ z => ⟨_, rfl, z⟩) (fun i y T H2 Q' R' hy sm eT h1 h2 => ?_) fun D2 H2 nD2 s2 e2 => ?_
      · rw [List.getElem?_map] at hy
        cases c : Ys[i]? with
        | none => rw [c] at hy; exact nomatch hy
        | some yy =>
          rw [c] at hy
          obtain rfl := Option.some.inj hy
          have hi := (List.getElem?_eq_some_iff.mp c).1
          have gd : Ys.getD i none = yy := by rw [List.getD_eq_getElem?_getD, c]; rfl
          rw [gd] at h1 h2
          refine ⟨_, _, rfl, sqT eT, rfl, ?_⟩
          refine ⟨_, _, rfl, _, _, rfl, rfl, rfl, ?_⟩
          walk_at "go"
          refine ⟨by cases yy <;> rfl, _, rfl, ?_⟩
          rw [eq_name]
          by_cases cc : yy = some x
          · rw [decide_eq_true cc]
            walk_at "go"
            refine r_ixL (sqL (sm _ _ e1)) (v := .bl (decide (x ∈ Rs.getD i []))) (atI_nat (j := i) (by rw [List.getElem?_map, List.getElem?_range (by omega)]; rfl)) ?_
            exact h1 _ (if_pos cc) _ (Same.refl _)
          · rw [decide_eq_false cc]
            exact h2 (if_neg cc) _ (Same.refl _)
      · rw [gsn_vals, List.length_map] at e2
        have hb : brk p c x Rs Ys w = (!(gsn x Rs Ys Ys.length).all id || decide (c < (gsn x Rs Ys Ys.length).length) || (w && Rs.all (fun R => decide (x ∈ R)) && decide ((gsn x Rs Ys Ys.length).length < p))) := rfl
        generalize gsn x Rs Ys Ys.length = gs at e2 hb
        walk_at "go"
        refine ⟨D2, gs, rfl, sqL e2, ?_⟩
        have q2 := q H2 (s1.trans s2)
        rw [hb] at q2
        clear hb q
        have n : ∀ b : Bool, ¬ (!true) = true := fun _ z => nomatch z
        refine ⟨_, rfl, ?_⟩
        cases ga : gs.all id with
        | false =>
          rw [ga] at q2
          walk_at "go"
          exact q2
        | true =>
          rw [ga] at q2
          walk_at "go"
          refine ⟨D2, _, rfl, .inl (sqL e2), ?_⟩
          rw [List.length_map]
          walk_at "go"
          by_cases cl : c < gs.length
          · rw [decide_eq_true cl] at q2
            rw [decide_eq_true (by omega : (gs.length : Int) > c)]
            walk_at "go"
            exact q2
          · rw [decide_eq_false cl] at q2
            rw [decide_eq_false (by omega : ¬ (gs.length : Int) > c)]
            walk_at "go"
            cases w with
            | false => exact q2
            | true =>
              walk_at "go"
              have hw : (List.range Rs.length).map (fun i => V.bl (decide (x ∈ Rs.getD i []))) = (Rs.map fun R => decide (x ∈ R)).map V.bl := by
                rw [List.map_map]
                have z := congrArg (List.map (fun R : List Str => V.bl (decide (x ∈ R)))) (rng_get ([] : List Str) Rs)
                rw [List.map_map] at z
                exact z
              refine ⟨D, Rs.map fun R => decide (x ∈ R), rfl, sqL (by rw [s2 _ _ e1, hw]), ?_⟩
              rw [List.all_map]
              show ∃ k, V.bl (Rs.all fun R => decide (x ∈ R)) = .bl k ∧ _
              refine ⟨_, rfl, ?_⟩
              cases al : Rs.all fun R => decide (x ∈ R) with
              | false =>
                rw [al] at q2
                exact q2
              | true =>
                rw [al] at q2
                walk_at "go"
                refine ⟨D2, _, rfl, .inl (sqL e2), ?_⟩
                rw [List.length_map]
                walk_at "go"
                have dd : decide ((gs.length : Int) < p) = decide (gs.length < p) := decide_eq_decide.mpr (by omega)
                rw [dd]
                exact q2
end
end K28

namespace K28
open PySem PySem.Spec PyProof.Rows L2 Bk


theorem Sh.stay {C : Addr} {H H' : Hp} {S : Sa} {P : Ps} (h : Sh C H S P) (s : ∀ b u, S.own b → H b = some u → H' b = some u) (nt : ∀ a xs, H a = some (.tup xs) → H' a = some (.tup xs)) : Sh C H' S P := by
  obtain ⟨dx, fs, e, r⟩ := h.ob
  exact ⟨⟨dx, fs, s _ _ (.inl rfl) e, r⟩, h.told.keep (fun u z => s _ _ (.inr (.inl rfl)) z) nt, h.cts.keep (fun u z => s _ _ (.inr (.inr (.inl rfl))) z) nt, s _ _ (.inr (.inr (.inr (.inl rfl)))) h.used, s _ _ (.inr (.inr (.inr (.inr rfl)))) h.dlt, h.n1, h.n2, h.n3, h.ok⟩
theorem Sh.nown {C : Addr} {H : Hp} {S : Sa} {P : Ps} (h : Sh C H S P) {g : Addr} (n1 : H g = none) : ¬ S.own g := fun z => by
  obtain ⟨dx, fs, e, r⟩ := h.ob
  rcases z with z | z | z | z | z
  · rw [z, e] at n1; exact nomatch n1
  · obtain ⟨_, w, _⟩ := h.told; rw [z, w] at n1; exact nomatch n1
  · obtain ⟨_, w, _⟩ := h.cts; rw [z, w] at n1; exact nomatch n1
  · rw [z, h.used] at n1; exact nomatch n1
  · rw [z, h.dlt] at n1; exact nomatch n1
theorem ne_ct {H : Hp} {a b : Addr} {u v : HO} (h : H a = some u) (h2 : H b = some v) (n : u ≠ v) : a ≠ b := fun z => n (by rw [z, h2] at h; exact (Option.some.inj h).symm)
theorem take_succ' {G : List Str} {i : Nat} {x : Str} (h : G[i]? = some x) : G.take (i + 1) = G.take i ++ [x] := by
  rw [List.take_succ, h]
  rfl
theorem not_yet {G : List Str} {i : Nat} {y : Str} (nd : G.Nodup) (h : G[i]? = some y) : y ∉ G.take i := fun z => by
  obtain ⟨hi, e⟩ := List.getElem?_eq_some_iff.mp h
  obtain ⟨k, hk3, e3⟩ := List.getElem_of_mem z
  rw [List.getElem_take] at e3
  have hk4 : k < i := by rw [List.length_take] at hk3; omega
  exact absurd ((List.getElem_inj nd).mp (e3.trans e.symm)) (Nat.ne_of_lt hk4)
theorem total_take {f : Str → Nat} : ∀ {G : List Str} {i : Nat}, total (G.take i) f ≤ total G f
  | [], i => by rw [List.take_nil]; exact Nat.le_refl _
  | a :: G, 0 => Nat.zero_le _
  | a :: G, i + 1 => by
    have ih := total_take (f := f) (G := G) (i := i)
    unfold total at ih ⊢
    rw [List.take_succ_cons, List.map_cons, List.sum_cons, List.map_cons, List.sum_cons]
    omega
structure ShOk (L : Nat) (G : List Str) (pr ce : Str → Nat) : Prop where
  l4 : 4 ≤ L
  l60 : L ≤ 60
  six : G.length ≤ 6
  nd : G.Nodup
  nm : ∀ x ∈ G, nameOk x = true
  pc : ∀ x ∈ G, pr x ≤ ce x ∧ 1 ≤ ce x ∧ ce x ≤ L
  fit : total G pr ≤ L
def spMay (K : PySem.W.Frag) : Sp := fun vs H Q _ => ∃ (L : Nat) (g : Addr) (G : List Str) (pr ce : Str → Nat), vs = [.int L, .ref g] ∧ Prs H g G pr ce ∧ ShOk L G pr ce ∧ ∀ H', Same H H' → Q (.bl true) H'
section
variable {P : Program} {w : World} {K : PySem.W.Frag} {mg : Str → Option Value} {base : Heap} {A : Ad}
theorem ok_may {f : Addr} {fd : FuncData} (F : Fun K "_may_come" "_may_come" s_may_come f fd) (T : Txt K mg A) (c_Shares_init : CalC P w K mg base (L2.CX P w) 5 A.CS "Shares" (spInitS A)) (c_Shares_come : CalM P w K mg base (L2.CX P w) 6 A.CS "come" (spCome A)) : FnOk P w K mg base CX0 7 f fd ["length", "guests"] (spMay K) := by
  refine F.ok sc_may_come (fun vs H Q E h => ?_) (fun cdv A' outer s H vs Q E hr h => have hu65 := units65 hr; have hu64 := hr.units; have hu := units1 hr; ⟨_, (pss_cons (ps_if (pt_not (pt_val (pe_callB call_is (by rfl) T.m_isinstance (by decide +kernel) (pa_cons (pv 1) (pa_cons (pe_bltn (v := .ty "dict") (by rfl) T.m_dict (by decide +kernel) rfl) pa_nil))))) (pss_one (ps_ret pe_bl)) pss_nil)
    (pss_cons (ps_set (i := 2) sc_may_come.nd rfl (.inl rfl) (pe_mk c_Shares_init hr (by decide) (by rfl) psY (pa_cons (pv 0) pa_nil)))
    (pss_cons (ps_lock (ps_for PassesOwn.never rfl (pi_items (pv 1)) (pg_tup rfl (pgs_cons (pg_name (i := 3) sc_may_come.nd rfl (.inl rfl)) (pgs_cons (pg_name (i := 4) sc_may_come.nd rfl (.inl rfl)) pgs_nil)))
      (pss_cons (ps_if (PW.pt (pw_or (pt_not (pt_val (pe_callB call_is (by rfl) T.m_isinstance (by decide +kernel) (pa_cons (pv 4) (pa_cons (pe_bltn (v := .ty "tuple") (by rfl) T.m_tuple (by decide +kernel) rfl) pa_nil))))) (pw_or1 (pt_cmpR op_ne (pe_callB call_len_seq (by rfl) T.m_len (by decide +kernel) (pa_cons (pv 4) pa_nil)) pe_int (nomark _))))) (pss_one (ps_ret pe_bl)) pss_nil)
    (pss_one (ps_try_asM rfl rfl sc_may_come.nd (fun W pn xe tk po => (pss_one (ps_expr (pe_mth (pv 2) T.cl_Shares c_Shares_come hr (by decide) (psT tk) (pa_cons (pv 3) (pa_cons (pe_ix (ix_tupK (K := K) rfl) (pv 4) pe_int (fun _ _ => rfl)) (pa_cons (pe_ix (ix_tupK (K := K) rfl) (pv 4) pe_int (fun _ _ => rfl)) pa_nil)))))))
      .stop)))))
    (pss_one (ps_ret pe_bl))))), ?_⟩)
  · obtain ⟨L, g, G, pr, ce, rfl, _⟩ := h
    rfl
  · obtain ⟨L, g, G, pr, ce, rfl, hp, ok, q⟩ := h
    obtain ⟨tt, et, ht⟩ := hp
    have l4 := ok.l4
    have l60 := ok.l60
    have six := ok.six
    walk_at "go"
    refine r_is (b := true) (isa_dK et) ?_
    walk_at "go"
    intro x dx nx ndx nex
    have t0 : Same H (upd (upd H dx (.own x)) x (.ins A.CS dx [])) := fun b o e => by
      rw [upd_ne (ne_of_none e nx), upd_ne (ne_of_none e ndx)]
      exact e
    refine ⟨x, dx, L, rfl, l4, l60, upd_same, fun S H1 so b1 fr1 hS1 => ⟨rfl, ?_⟩⟩
    have s1 : Same H H1 := fun b o e => b1 _ _ (ne_of_none e nx) (t0 _ _ e)
    have own1 : ∀ b, S.own b → H b = none := fun b o => by
      rcases fr1 b o with z | z
      · rw [z]; exact nx
      · cases w : H b with
        | none => rfl
        | some u => rw [t0 _ _ w] at z; exact nomatch z
    subst so
    clear t0 fr1 b1 nx
    have et1 := s1 _ _ et
    have nog : ¬ S.own g := fun o => by rw [own1 g o] at et; exact nomatch et
    walk_at "go"
    refine ⟨g, .dK (dicF G fun x => .ref (tt x)), et1, trivial, fun od => ?_⟩
    have eL : upd H1 g (.frz od (.dK (dicF G fun x => .ref (tt x)))) g = some (.frz od (.dK (dicF G fun x => .ref (tt x)))) := upd_same
    have lk : ∀ b u, b ≠ g → H1 b = some u → upd H1 g (.frz od (.dK (dicF G fun x => .ref (tt x)))) b = some u := fun b u nb eb => by rw [upd_ne nb]; exact eb
    have hSL : Sh A.CS (upd H1 g (.frz od (.dK (dicF G fun x => .ref (tt x))))) S ⟨L, [], fun _ => 0, fun _ => 0, fun _ => 0, fun _ => 0, fun _ => 0, 0, []⟩ := hS1.stay (fun b u o e => lk _ _ (fun z => nog (by rw [← z]; exact o)) e) fun a xs e => lk _ _ (ne_ct e et1 (fun z => nomatch z)) e
    have htL : ∀ x ∈ G, upd H1 g (.frz od (.dK (dicF G fun x => .ref (tt x)))) (tt x) = some (.tup [.int (pr x), .int (ce x)]) ∧ ¬ S.own (tt x) := fun x hx => ⟨lk _ _ (ne_ct (s1 _ _ (ht x hx)) et1 (fun z => nomatch z)) (s1 _ _ (ht x hx)), fun o => by have w := ht x hx; rw [own1 _ o] at w; exact nomatch w⟩
    generalize hHL : upd H1 g (.frz od (.dK (dicF G fun x => .ref (tt x)))) = HL at eL hSL htL lk ⊢
    refine ⟨_, rfl, g, od, _, rfl, eL, for_it walk_items (fun i σ G2 => ∃ (P : Ps) (x3 x4 : Option V), σ = [some (.int L), some (.ref g), some (.ref S.o), x3, x4] ∧ Sh A.CS G2 S P ∧ P.G = G.take i ∧ P.L = L ∧ P.ps = 0 ∧ P.dl = [] ∧ (∀ y ∈ P.G, P.pr y = pr y) ∧ ∀ b u, HL b = some u → ¬ S.own b → G2 b = some u)
      ⟨_, none, none, rfl, hSL, rfl, rfl, rfl, rfl, (fun _ z => nomatch z), fun _ _ e _ => e⟩ (fun i σ G2 _ h => by obtain ⟨_, _, _, _, _, _, _, _, _, _, fr⟩ := h; exact fr _ _ eL nog) (fun i yv σ G2 G3 hi hP hY => ?_) (fun σ G2 hP => ?_)⟩
    · obtain ⟨P, x3, x4, rfl, hS, eG, eLn, ps0, dl0, epr, fr⟩ := hP
      obtain ⟨Tp, a, b, rfl, nT, rfl, ha, hb⟩ := hY
      rw [dicF_len] at hi
      have ha : (G.map fun x => ((Sum.inr x : Key), V.ref (tt x)))[i]?.map (fun kv => kV kv.1) = some a := ha
      have hb : (G.map fun x => ((Sum.inr x : Key), V.ref (tt x)))[i]?.map Prod.snd = some b := hb
      rw [List.getElem?_map, List.getElem?_eq_getElem hi] at ha hb
      obtain rfl := Option.some.inj ha
      obtain rfl := Option.some.inj hb
      have hx := List.getElem?_eq_getElem hi
      have xG : G[i] ∈ G := List.getElem_mem hi
      generalize G[i] = x at hx xG ⊢
      have sT : Same G2 (upd G2 Tp (.tup [V.str x, V.ref (tt x)])) := same_upd nT
      have eT : upd G2 Tp (.tup [V.str x, V.ref (tt x)]) Tp = some (.tup [V.str x, V.ref (tt x)]) := upd_same
      show gTup _ _ _ _ _ (upd G2 Tp (.tup [V.str x, V.ref (tt x)])) _
      have nT2 : ¬ S.own Tp := hS.nown nT
      have hS := hS.same sT
      have fr2 : ∀ b u, HL b = some u → ¬ S.own b → upd G2 Tp (.tup [V.str x, V.ref (tt x)]) b = some u := fun b u e o => sT _ _ (fr b u e o)
      generalize upd G2 Tp (.tup [V.str x, V.ref (tt x)]) = G3 at sT eT hS fr2 ⊢
      obtain ⟨el, eo⟩ := htL x xG
      have ex := fr2 _ _ el eo
      obtain ⟨p1, p2, p3⟩ := ok.pc x xG
      refine ⟨_, _, rfl, sqT eT, rfl, ?_⟩
      refine ⟨_, _, rfl, _, _, rfl, rfl, ?_⟩
      walk_at "go"
      refine r_is (b := true) (isa_tup ex) ?_
      walk_at "go"
      refine ⟨tt x, _, rfl, .inr (sqT ex), ?_⟩
      obtain ⟨dx2, fs, e, fL, fT, fC, fU, fP, fD, fn⟩ := hS.ob
      have nof : ∀ m : Str, (m == ("_length" : Str)) = false → (m == ("_told" : Str)) = false → (m == ("_counts" : Str)) = false → (m == ("_used" : Str)) = false → (m == ("_passed" : Str)) = false → (m == ("_dealt" : Str)) = false → fs.lookup m = none := fn.2
      have tk := take_succ' hx
      have tp : total P.G P.pr = total (G.take i) pr := by
        rw [← eG]
        exact total_congr epr
      have tl : total (G.take i) pr + pr x ≤ L := by
        have z := total_app (G := G.take i) (f := pr) (x := x)
        rw [← tk] at z
        have w := total_take (f := pr) (G := G) (i := i + 1)
        have f := ok.fit
        omega
      walk_at "go"
      rw [decide_eq_true (show V.int ([V.int (pr x), V.int (ce x)].length : Nat) = V.int 2 from rfl)]
      walk_at "go"
      refine ⟨S.o, dx2, fs, rfl, e, nof _ (by decide +kernel) (by decide +kernel) (by decide +kernel) (by decide +kernel) (by decide +kernel) (by decide +kernel), ?_⟩
      walk_at "go"
      refine r_ixT (sqT ex) (v := .int (pr x)) rfl ?_
      walk_at "go"
      refine r_ixT (sqT ex) (v := .int (ce x)) rfl ?_
      walk_at "go"
      refine ⟨S, P, x, pr x, ce x, rfl, hS, ok.nm x xG, by rw [eG]; exact not_yet ok.nd hx, by rw [eG, List.length_take]; omega, p1, p2, by rw [eLn]; exact p3, by rw [tp, eLn]; exact tl, fun H4 k4 sh4 => ?_⟩
      walk_at "go"
      refine ⟨P.come x (pr x) (ce x), _, _, rfl, sh4, by rw [tk]; show P.G ++ [x] = _; rw [eG], eLn, ps0, dl0, fun y hy => ?_, fun b u e o => (k4 b u (fr2 b u e o) o).1⟩
      show setF P.pr x (pr x) y = pr y
      by_cases c : y = x
      · rw [c, setF_same]
      · rw [setF_ne c]
        exact epr y ((List.mem_append.mp hy).elim id fun w => absurd (List.mem_singleton.mp w) c)
    · obtain ⟨P, x3, x4, rfl, hS, eG, eLn, ps0, dl0, epr, fr⟩ := hP
      refine ⟨fr _ _ eL nog, ?_⟩
      walk_at "go"
      refine q _ fun b u eb => ?_
      by_cases h : b = g
      · rw [h, upd_same, ← et, ← h]; exact eb
      · rw [upd_ne h]
        exact fr _ _ (lk _ _ h (s1 _ _ eb)) fun o => by rw [own1 b o] at eb; exact nomatch eb
end
end K28

namespace K28
open PySem PySem.Spec PyProof.Rows L2 Bk


/-! ### the first that breaks -/
def sl {α : Type} (L k : Nat) (l : List α) : List α := (l.drop (k * L)).take L
def brkAt (L : Nat) (pr ce : Str → Nat) (Rs : List (List Str)) (Ys : List (Option Str)) (k : Nat) (x : Str) : Bool := brk (pr x) (ce x) x (sl L k Rs) (sl L k Ys) (decide (k * L + L ≤ Rs.length))
def Due (B : Nat → Str → Bool) (G : List Str) : Option (Nat × Str) → Prop
  | none => ∀ k, ∀ x ∈ G, B k x = false
  | some (k, x) => (∀ k' < k, ∀ y ∈ G, B k' y = false) ∧ ∃ j : Nat, G[j]? = some x ∧ B k x = true ∧ ∀ (j' : Nat) y, j' < j → G[j']? = some y → B k y = false
theorem Due.one {B : Nat → Str → Bool} {G : List Str} : ∀ {d e : Option (Nat × Str)}, Due B G d → Due B G e → d = e
  | none, none, _, _ => rfl
  | none, some (k, x), h, ⟨_, j, hj, b, _⟩ => by rw [h k x (List.mem_of_getElem? hj)] at b; exact nomatch b
  | some (k, x), none, ⟨_, j, hj, b, _⟩, h => by rw [h k x (List.mem_of_getElem? hj)] at b; exact nomatch b
  | some (k, x), some (l, y), ⟨h1, j, hj, b, h2⟩, ⟨g1, i, hi, c, g2⟩ => by
    have e : k = l := by
      rcases Nat.lt_trichotomy k l with z | z | z
      · rw [g1 k z x (List.mem_of_getElem? hj)] at b; exact nomatch b
      · exact z
      · rw [h1 l z y (List.mem_of_getElem? hi)] at c; exact nomatch c
    subst e
    have e : j = i := by
      rcases Nat.lt_trichotomy j i with z | z | z
      · rw [g2 j x z hj] at b; exact nomatch b
      · exact z
      · rw [h2 i y z hi] at c; exact nomatch c
    subst e
    rw [hj] at hi
    rw [Option.some.inj hi]
def DueV : Option (Nat × Str) → V → Hp → Prop
  | none, v, _ => v = .non
  | some (k, x), v, H => ∃ t : Addr, v = .ref t ∧ H t = some (.tup [.int k, .str x])
theorem brk_nil {p c : Nat} {x : Str} {Rs : List (List Str)} : brk p c x Rs [] false = false := by
  unfold brk
  show (!(gsn x Rs [] 0).all id || decide (c < (gsn x Rs [] 0).length) || _) = false
  have z : gsn x Rs [] 0 = [] := rfl
  rw [z]
  show (false || decide (c < 0) || (false && _ && _)) = false
  rw [decide_eq_false (Nat.not_lt_zero c)]
  rfl
theorem sl_beyond {α : Type} {L k : Nat} {l : List α} (h : l.length ≤ k * L) : sl L k l = [] := by
  unfold sl
  rw [List.drop_of_length_le h, List.take_nil]
theorem brk_beyond {L : Nat} {pr ce : Str → Nat} {Rs : List (List Str)} {Ys : List (Option Str)} {k : Nat} {x : Str} (L4 : 4 ≤ L) (e : Ys.length = Rs.length) (h : Rs.length ≤ k * L) : brkAt L pr ce Rs Ys k x = false := by
  unfold brkAt
  rw [sl_beyond (by omega : Ys.length ≤ k * L), decide_eq_false (by omega)]
  exact brk_nil
theorem cut_sl {xs : List V} {a L : Nat} : cutV xs (some (a : Int)) (some ((a + L : Nat) : Int)) = (xs.drop a).take L := by
  unfold cutV
  rw [HT.sIx_nat, HT.sIx_nat]
  by_cases h : a ≤ xs.length
  · rw [Nat.min_eq_left h]
    by_cases g : a + L ≤ xs.length
    · rw [Nat.min_eq_left g, Nat.add_sub_cancel_left]
    · rw [Nat.min_eq_right (by omega), List.take_of_length_le (by rw [List.length_drop]; exact Nat.le_refl _), List.take_of_length_le (by rw [List.length_drop]; omega)]
  · rw [Nat.min_eq_right (by omega : xs.length ≤ a), List.drop_of_length_le (Nat.le_refl xs.length), List.drop_of_length_le (by omega : xs.length ≤ a), List.take_nil, List.take_nil]
theorem r_slQ {K : PySem.W.Frag} {H : Hp} {a : Addr} {xs ys : List V} {lo hi : Option Int} {Q : VK} (h : Sq H a xs) (e : cutV xs lo hi = ys) (q : ∀ p H', Same H H' → Sq H' p ys → Q (.ref p) H') : rSlQ K (.ref a) lo hi H Q := by
  subst e
  rcases h with h | h
  · exact .inl ⟨a, xs, rfl, sqL h, fun p n => q p _ (same_upd n) (.inl upd_same)⟩
  · refine .inr ⟨a, xs, rfl, sqT h, fun ⟨z1, z2⟩ => q a H (Same.refl _) (.inr ?_), fun _ p n => q p _ (same_upd n) (.inr upd_same)⟩
    rw [h]
    unfold cutV
    rw [z1, z2, Nat.sub_zero, List.drop_zero, List.take_length]
theorem Rows.sl {H H' : Hp} {p : Addr} {Rs : List (List Str)} {L k : Nat} {ts : List Addr} (lt : ts.length = Rs.length) (all : ∀ (k : Nat) t R, ts[k]? = some t → Rs[k]? = some R → Sq H t (R.map V.str)) (s : Same H H') (e : Sq H' p (((ts.map V.ref).drop (k * L)).take L)) : Rows H' p (K28.sl L k Rs) := by
  refine ⟨K28.sl L k ts, ?_, ?_, fun i t R hi hR => ?_⟩
  · unfold K28.sl
    rw [List.map_take, List.map_drop]
    exact e
  · unfold K28.sl
    rw [List.length_take, List.length_take, List.length_drop, List.length_drop, lt]
  · unfold K28.sl at hi hR
    rw [List.getElem?_take, List.getElem?_drop] at hi hR
    by_cases c : i < L
    · rw [if_pos c] at hi hR
      exact (all _ t R hi hR).same s
    · rw [if_neg c] at hi
      exact nomatch hi
theorem r_iRng3 {ta : TA} {σ : L2.St} {H : Hp} {R : It → Hp → Prop} (q : ta σ H fun vs H1 => ∃ (i j c : Int) (n : Nat), vs = [.int i, .int j, .int c] ∧ RgC i j c n ∧ R (Itc i c n) H1) : iRng3 ta σ H R := q
theorem rg_ok {n L : Nat} (hn : n ≤ 400) (l4 : 4 ≤ L) (l60 : L ≤ 60) : ∃ c : Nat, RgC 0 (n : Int) (L : Int) c ∧ n ≤ c * L ∧ c ≤ 500 := by
  have e : Builtin.Range.rangeSize 0 (n : Int) (L : Int) = (((n + L - 1) / L : Nat) : Int) := by
    rw [PyProof.Rows.rangeSize_pos (by omega) (by omega), Int.natCast_ediv]
    congr 1
    omega
  have d := Nat.div_add_mod (n + L - 1) L
  have m := Nat.mod_lt (n + L - 1) (show 0 < L by omega)
  have b : (n + L - 1) / L ≤ n + L - 1 := Nat.div_le_self _ _
  refine ⟨(n + L - 1) / L, ⟨by omega, by omega, ?_, e⟩, by rw [Nat.mul_comm]; omega, by omega⟩
  unfold Builtin.Range.small
  rw [e]
  generalize (n + L - 1) / L = c at b
  have k : (L : Int) > 0 := by omega
  simp only [Builtin.Range.rangeFitsLong, Bool.and_eq_true, Bool.or_eq_true, decide_eq_true_eq, beq_iff_eq, k, if_true]
  refine ⟨⟨⟨⟨?_, ?_⟩, ?_⟩, ?_⟩, .inr ?_⟩ <;> omega
def spFirst (K : PySem.W.Frag) : Sp := fun vs H Q _ => ∃ (L : Nat) (g rd dl : Addr) (G : List Str) (pr ce : Str → Nat) (Rs : List (List Str)) (Ys : List (Option Str)), vs = [.int L, .ref g, .ref rd, .ref dl] ∧ Prs H g G pr ce ∧ ShOk L G pr ce ∧ Rows H rd Rs ∧ Rs.length ≤ 400 ∧ (∀ R ∈ Rs, R.length ≤ 1000 ∧ ∀ x ∈ R, x ∈ G) ∧ Sq H dl (Ys.map nameV) ∧ Ys.length = Rs.length ∧ (∀ y ∈ Ys, ∀ z, y = some z → z ∈ G) ∧
  ∀ d v H', Due (brkAt L pr ce Rs Ys) G d → Same H H' → DueV d v H' → Q v H'
section
variable {P : Program} {w : World} {K : PySem.W.Frag} {mg : Str → Option Value} {base : Heap} {A : Ad}
theorem ok_first {f : Addr} {fd fdH fdL : FuncData} (F : Fun K "first_broken" "first_broken" s_first_broken f fd) (T : Txt K mg A) (c_check_number : CalX P w K mg base 4 "check_number" spCkN) (c_may_come : CalD P w K mg base CX0 7 "_may_come" (spMay K) []) (c_is_list : CalD P w K mg base CX0 1 "_is_list" (spIsList K) []) (c_is_names : CalD P w K mg base CX0 4 "_is_names" (spNamesIn K) []) (c_is_one_of : CalD P w K mg base CX0 3 "_is_one_of" (spOne K) []) (c_is_broken : CalD P w K mg base CX0 1 "_is_broken" (spBroken K) [])
    (c_NoShare_init : Own P w K mg base CX0 2 A.fH fdH ["self", "found"] (spInitN "found" A.CH)) (c_NoLog_init : Own P w K mg base CX0 2 A.fL fdL ["self", "found"] (spInitN "found" A.CL)) : FnOk P w K mg base (L2.CX P w) 8 f fd ["length", "guests", "ready", "dealt"] (spFirst K) := by
  refine F.okX sc_first_broken (fun vs H Q E h => ?_) (fun cdv A' outer s H vs Q E hr h => have hu65 := units65 hr; have hu64 := hr.units; have hu := units1 hr; ⟨_, (pss_cons (ps_expr (pe_calX c_check_number hr (by decide) (by rfl) (takes_of rfl rfl rfl rfl) (pa_cons (pv 0) (pa_cons (C8.pe_gc (by rfl) T.c_SHORTEST) (pa_cons (C8.pe_gc (by rfl) T.c_LONGEST) pa_nil)))))
    (pss_cons (ps_if (pt_not (pt_val (pe_cal c_may_come hr (by decide) (by rfl) (pa_cons (pv 0) (pa_cons (pv 1) pa_nil))))) (pss_one (ps_raise rfl (takes_of rfl rfl rfl rfl) (pmk_oexT T.ox_NoShare T.i_NoShare T.t_NoShare c_NoShare_init.ok (hr.mono (by decide)) c_NoShare_init.bd .nil pass0 (by rfl) T.g_NoShare (pa_cons (pv 1) pa_nil)))) pss_nil)
    (pss_cons (ps_if (PW.pt (pw_or (pt_not (pt_val (pe_cal c_is_list hr (by decide) (by rfl) (pa_cons (pv 2) (pa_cons (C8.pe_gc (by rfl) T.c_MOST_DEALT) pa_nil))))) (pw_or1 (pt_not (pt_val (pe_callB (cr_all rfl) (by rfl) T.m_all (by decide +kernel) (pa_cons (pe_lc (own := [("names", 8)]) rfl sc_first_broken.nd (pi_seqA (pv 2)) (blkOk_by (N := ["length", "guests", "ready", "dealt", "name", "first", "behind", "share", "names"]) (sc := defScope s_first_broken) (by decide +kernel)) (fun _ _ _ _ _ => (pg_name (i := 8) sc_first_broken.nd rfl (.inl rfl))) (fun _ _ _ _ _ => pts_nil) (fun _ _ _ _ _ => (pe_cal c_is_names hr (by decide) (by rfl) (pa_cons (pv 8) (pa_cons (pv 1) pa_nil))))) pa_nil))))))) (pss_one (ps_raise rfl (takes_of rfl rfl rfl rfl) (pmk_oexT T.ox_NoLog T.i_NoLog T.t_NoLog c_NoLog_init.ok (hr.mono (by decide)) c_NoLog_init.bd .nil pass0 (by rfl) T.g_NoLog (pa_cons (pv 2) pa_nil)))) pss_nil)
    (pss_cons (ps_if (PW.pt (pw_or (pt_not (pt_val (pe_cal c_is_list hr (by decide) (by rfl) (pa_cons (pv 3) (pa_cons (C8.pe_gc (by rfl) T.c_MOST_DEALT) pa_nil))))) (pw_or1 (pt_cmpR op_ne (pe_callB call_len_seq (by rfl) T.m_len (by decide +kernel) (pa_cons (pv 3) pa_nil)) (pe_callB call_len_seq (by rfl) T.m_len (by decide +kernel) (pa_cons (pv 2) pa_nil)) (nomark _))))) (pss_one (ps_raise rfl (takes_of rfl rfl rfl rfl) (pmk_oexT T.ox_NoLog T.i_NoLog T.t_NoLog c_NoLog_init.ok (hr.mono (by decide)) c_NoLog_init.bd .nil pass0 (by rfl) T.g_NoLog (pa_cons (pv 3) pa_nil)))) pss_nil)
    (pss_cons (ps_if (pt_not (pt_val (pe_callB (cr_all rfl) (by rfl) T.m_all (by decide +kernel) (pa_cons (pe_lc (own := [("name", 4)]) rfl sc_first_broken.nd (pi_seqA (pv 3)) (blkOk_by (N := ["length", "guests", "ready", "dealt", "name", "first", "behind", "share", "names"]) (sc := defScope s_first_broken) (by decide +kernel)) (fun _ _ _ _ _ => (pg_name (i := 4) sc_first_broken.nd rfl (.inl rfl))) (fun _ _ _ _ _ => pts_nil) (fun _ _ _ _ _ => (pe_or (pe_cmpR op_isN (pv 4) pe_non (nomark _)) (pe_one (pe_cal c_is_one_of hr (by decide) (by rfl) (pa_cons (pv 4) (pa_cons (pv 1) pa_nil))))))) pa_nil)))) (pss_one (ps_raise rfl (takes_of rfl rfl rfl rfl) (pmk_oexT T.ox_NoLog T.i_NoLog T.t_NoLog c_NoLog_init.ok (hr.mono (by decide)) c_NoLog_init.bd .nil pass0 (by rfl) T.g_NoLog (pa_cons (pv 3) pa_nil)))) pss_nil)
    (pss_cons (ps_for (passes_of rfl) rfl (pi_range3 (by rfl) T.m_range (pa_cons pe_int (pa_cons (pe_callB call_len_seq (by rfl) T.m_len (by decide +kernel) (pa_cons (pv 2) pa_nil)) (pa_cons (pv 0) pa_nil)))) (pg_name (i := 5) sc_first_broken.nd rfl (.inl rfl))
      (pss_cons (ps_set (i := 6) sc_first_broken.nd rfl (.inl rfl) (pe_op op_add (pv 5) (pv 0)))
    (pss_one (ps_lock (ps_for (passes_of rfl) rfl (pi_items (pv 1)) (pg_tup rfl (pgs_cons (pg_name (i := 4) sc_first_broken.nd rfl (.inl rfl)) (pgs_cons (pg_name (i := 7) sc_first_broken.nd rfl (.inl rfl)) pgs_nil)))
      (pss_one (ps_if (pt_val (pe_cal c_is_broken hr (by decide) (by rfl) (pa_cons (pv 4) (pa_cons (pv 7) (pa_cons (pe_slice sl_seqA (pv 2) (po_some (pv 5)) (po_some (pv 6))) (pa_cons (pe_slice sl_seqA (pv 3) (po_some (pv 5)) (po_some (pv 6))) (pa_cons (pe_cmpR op_le (pv 6) (pe_callB call_len_seq (by rfl) T.m_len (by decide +kernel) (pa_cons (pv 2) pa_nil)) (nomark _)) pa_nil))))))) (pss_one (ps_ret (pe_tup (pa_cons (pe_op op_fdivW (pv 5) (pv 0)) (pa_cons (pv 4) pa_nil))))) pss_nil)))))))
    (pss_one (ps_ret pe_non)))))))), ?_⟩)
  · obtain ⟨L, g, rd, dl, G, pr, ce, Rs, Ys, rfl, _⟩ := h
    rfl
  · obtain ⟨L, g, rd, dl, G, pr, ce, Rs, Ys, rfl, hp, ok, hR, n4, RG, hY, lY, YG, q⟩ := h
    obtain ⟨ts, ea, lt, all⟩ := hR
    have l4 := ok.l4
    have l60 := ok.l60
    have six := ok.six
    walk_at "go"
    refine ⟨L, 4, 60, rfl, by omega, by omega, ?_⟩
    walk_at "go"
    refine ⟨L, g, G, pr, ce, rfl, hp, ok, fun H1 s1 => ?_⟩
    walk_at "go"
    refine ⟨rd, _, rfl, ea.same s1, by rw [List.length_map]; omega, fun H2 s2 => ?_⟩
    walk_at "go"
    have s12 := s1.trans s2
    obtain ⟨tt, et, ht⟩ := hp
    refine lcQ (fun _ => some (.bl true)) (ea.same s12).sq (by rw [List.length_map]; omega) (fun QQ z => ⟨_, rfl, z⟩) (fun i y H3 Q' R' hy sm h1 h2 => ?_) fun D H3 nD s3 e3 => ?_
    · rw [List.getElem?_map] at hy
      cases c : ts[i]? with
      | none => rw [c] at hy; exact nomatch hy
      | some t =>
        rw [c] at hy
        obtain rfl := Option.some.inj hy
        have hi := (List.getElem?_eq_some_iff.mp c).1
        have cR := List.getElem?_eq_getElem (show i < Rs.length by omega)
        have rg := RG _ (List.mem_of_getElem? cR)
        refine ⟨rfl, r_yes ?_⟩
        walk_at "go"
        exact ⟨t, g, _, G, _, rfl, ((all i t _ c cR).same s12).same sm, rg.1, rg.2, ok.nm, sm _ _ (s12 _ _ et), fun H4 s4 => h1 _ rfl H4 s4⟩
    walk_at "go"
    rw [fm_some] at e3
    refine ⟨D, (List.range (ts.map V.ref).length).map fun _ => true, rfl, sqL (by rw [e3, List.map_map]; rfl), ?_⟩
    rw [show ((List.range (ts.map V.ref).length).map fun _ => true).all id = true from List.all_eq_true.mpr fun b hb => by obtain ⟨_, _, rfl⟩ := List.mem_map.mp hb; rfl]
    have s13 := s12.trans s3
    walk_at "go"
    refine ⟨dl, _, rfl, hY.same s13, by rw [List.length_map]; omega, fun H4 s4 => ?_⟩
    have s14 := s13.trans s4
    walk_at "go"
    refine ⟨dl, _, rfl, (hY.same s14).sq, ?_⟩
    walk_at "go"
    refine ⟨rd, _, rfl, (ea.same s14).sq, ?_⟩
    rw [List.length_map, List.length_map, lY, lt]
    walk_at "go"
    rw [decide_eq_true (show V.int (Rs.length : Nat) = V.int (Rs.length : Nat) from rfl)]
    walk_at "go"
    refine lcQ (fun _ => some (.bl true)) (hY.same s14).sq (by rw [List.length_map]; omega) (fun QQ z => ⟨_, rfl, z⟩) (fun i y H3 Q' R' hy sm h1 h2 => ?_) fun D2 H5 nD2 s5 e5 => ?_
    · rw [List.getElem?_map] at hy
      cases c : Ys[i]? with
      | none => rw [c] at hy; exact nomatch hy
      | some yy =>
        rw [c] at hy
        obtain rfl := Option.some.inj hy
        have ym := YG yy (List.mem_of_getElem? c)
        refine ⟨rfl, r_yes ?_⟩
        walk_at "go"
        refine ⟨rfl, _, rfl, ?_⟩
        cases yy with
        | none =>
          rw [decide_eq_true (show nameV none = V.non from rfl)]
          exact h1 _ rfl _ (Same.refl _)
        | some z =>
          rw [decide_eq_false (show ¬ nameV (some z) = V.non from fun w => nomatch w)]
          have zG := ym z rfl
          have zn := ok.nm z zG
          walk_at "go"
          refine ⟨z, g, G, _, rfl, by have := len_of_name zn; omega, zn, sm _ _ (s14 _ _ et), fun H4 s4 => ?_⟩
          rw [decide_eq_true zG]
          exact h1 _ rfl H4 s4
    walk_at "go"
    rw [fm_some] at e5
    refine ⟨D2, (List.range (Ys.map nameV).length).map fun _ => true, rfl, sqL (by rw [e5, List.map_map]; rfl), ?_⟩
    rw [show ((List.range (Ys.map nameV).length).map fun _ => true).all id = true from List.all_eq_true.mpr fun b hb => by obtain ⟨_, _, rfl⟩ := List.mem_map.mp hb; rfl]
    have s15 := s14.trans s5
    walk_at "go"
    refine r_iRng3 ?_
    walk_at "go"
    refine ⟨rd, _, rfl, (ea.same s15).sq, ?_⟩
    rw [List.length_map, lt]
    walk_at "go"
    obtain ⟨cnt, rg, cn, c5⟩ := rg_ok n4 l4 l60
    refine ⟨0, Rs.length, L, cnt, rfl, rg, ?_⟩
    refine for_rangeC (fun k σ G2 => Same H G2 ∧ (∃ x4 x5 x6 x7 x8, σ = [some (.int L), some (.ref g), some (.ref rd), some (.ref dl), x4, x5, x6, x7, x8]) ∧ ∀ k' < k, ∀ x ∈ G, brkAt L pr ce Rs Ys k' x = false)
      ⟨s15, ⟨_, _, _, _, _, rfl⟩, fun k' h => absurd h (Nat.not_lt_zero _)⟩ ?_ ?_
    · rintro k σ G2 hk ⟨sG, ⟨x4, x5, x6, x7, x8, rfl⟩, no⟩
      rw [Int.zero_add]
      have kL : ((k : Nat) : Int) * (L : Nat) = ((k * L : Nat) : Int) := (Int.natCast_mul k L).symm
      rw [kL]
      have kb : k * L < 100000 := by
        have := Nat.mul_le_mul (Nat.le_of_lt hk) l60
        omega
      walk_at "go"
      show tLock _ _ _ _
      have etG := sG _ _ et
      refine ⟨g, .dK (dicF G fun x => .ref (tt x)), etG, trivial, fun od => ?_⟩
      have eL : upd G2 g (.frz od (.dK (dicF G fun x => .ref (tt x)))) g = some (.frz od (.dK (dicF G fun x => .ref (tt x)))) := upd_same
      have lk : ∀ b u, b ≠ g → H b = some u → upd G2 g (.frz od (.dK (dicF G fun x => .ref (tt x)))) b = some u := fun b u nb eb => by rw [upd_ne nb]; exact sG _ _ eb
      have lq : ∀ {a xs}, Sq H a xs → Sq (upd G2 g (.frz od (.dK (dicF G fun x => .ref (tt x))))) a xs := fun {a xs} h => h.elim (fun z => .inl (lk _ _ (ne_ct z et (fun w => nomatch w)) z)) (fun z => .inr (lk _ _ (ne_ct z et (fun w => nomatch w)) z))
      generalize hHL : upd G2 g (.frz od (.dK (dicF G fun x => .ref (tt x)))) = HL at eL lk lq ⊢
      refine ⟨_, rfl, g, od, _, rfl, eL, for_it walk_items (fun i σ G3 => Same HL G3 ∧ (∃ x4 x7 x8, σ = [some (.int L), some (.ref g), some (.ref rd), some (.ref dl), x4, some (.int ((k * L : Nat) : Int)), some (.int ((k * L + L : Nat) : Int)), x7, x8]) ∧ ∀ (j : Nat) y, j < i → G[j]? = some y → brkAt L pr ce Rs Ys k y = false)
        ⟨Same.refl _, ⟨x4, x7, x8, by rw [Int.natCast_add]; rfl⟩, fun j y h => absurd h (Nat.not_lt_zero _)⟩ (fun i σ G3 _ h => h.1 _ _ eL) (fun i yv σ G3 G4 hi hP hY2 => ?_) (fun σ G3 hP => ?_)⟩
      · obtain ⟨sG3, ⟨x4, x7, x8, rfl⟩, noi⟩ := hP
        obtain ⟨Tp, a, b, rfl, nT, rfl, ha, hb⟩ := hY2
        rw [dicF_len] at hi
        have ha : (G.map fun x => ((Sum.inr x : Key), V.ref (tt x)))[i]?.map (fun kv => kV kv.1) = some a := ha
        have hb : (G.map fun x => ((Sum.inr x : Key), V.ref (tt x)))[i]?.map Prod.snd = some b := hb
        rw [List.getElem?_map, List.getElem?_eq_getElem hi] at ha hb
        obtain rfl := Option.some.inj ha
        obtain rfl := Option.some.inj hb
        have hx := List.getElem?_eq_getElem hi
        have xG : G[i] ∈ G := List.getElem_mem hi
        generalize G[i] = x at hx xG ⊢
        have sT : Same G3 (upd G3 Tp (.tup [V.str x, V.ref (tt x)])) := same_upd nT
        have eT : upd G3 Tp (.tup [V.str x, V.ref (tt x)]) Tp = some (.tup [V.str x, V.ref (tt x)]) := upd_same
        show gTup _ _ _ _ _ (upd G3 Tp (.tup [V.str x, V.ref (tt x)])) _
        generalize upd G3 Tp (.tup [V.str x, V.ref (tt x)]) = G4 at sT eT ⊢
        have s4 := Same.trans sG3 sT
        have ex := s4 _ _ (lk _ _ (ne_ct (ht x xG) et (fun z => nomatch z)) (ht x xG))
        refine ⟨_, _, rfl, sqT eT, rfl, ?_⟩
        refine ⟨_, _, rfl, _, _, rfl, rfl, ?_⟩
        walk_at "go"
        refine r_slQ ((lq ea).same s4) cut_sl fun p1 H5 s5 e5 => ?_
        walk_at "go"
        refine r_slQ ((lq hY).same (s4.trans s5)) cut_sl fun p2 H6 s6 e6 => ?_
        walk_at "go"
        have s46 := s4.trans (s5.trans s6)
        refine ⟨rd, _, rfl, ((lq ea).same s46).sq, ?_⟩
        rw [List.length_map, lt]
        walk_at "go"
        rw [show decide (((k * L + L : Nat) : Int) ≤ (Rs.length : Nat)) = decide (k * L + L ≤ Rs.length) from decide_eq_decide.mpr (by omega)]
        refine ⟨x, tt x, p1, p2, pr x, ce x, sl L k Rs, sl L k Ys, _, rfl, s6 _ _ (s5 _ _ ex), (Rows.sl (H := HL) lt (fun k t R a b => lq (all k t R a b)) (s4.trans s5) e5).same s6, ?_, ?_, ?_, fun H7 s7 => ?_⟩
        · unfold sl
          rw [List.map_take, List.map_drop]
          exact e6
        · unfold sl
          rw [List.length_take, List.length_take, List.length_drop, List.length_drop, lY]
        · unfold sl
          rw [List.length_take, List.length_drop]
          omega
        have hbk : brk (pr x) (ce x) x (sl L k Rs) (sl L k Ys) (decide (k * L + L ≤ Rs.length)) = brkAt L pr ce Rs Ys k x := rfl
        rw [hbk]
        have s47 := s46.trans s7
        walk_at "go"
        cases hbx : brkAt L pr ce Rs Ys k x with
        | true =>
          walk_at "go"
          refine r_I (cdiv (by omega) (by omega)) ?_
          walk_at "go"
          refine newT fun t H8 n8 s8 e8 => ?_
          rw [show ((k * L : Nat) : Int) / (L : Nat) = k by rw [Int.natCast_mul]; exact Int.mul_ediv_cancel _ (by omega)] at e8
          have s48 := s47.trans s8
          refine ⟨s48 _ _ eL, q (some (k, x)) _ _ ⟨no, i, hx, hbx, fun j y h e => noi j y h e⟩ ?_ ⟨t, rfl, ?_⟩⟩
          · exact sG.trans (unlock_same etG (by rw [hHL]; exact s48))
          · rw [upd_ne (ne_ct e8 (s48 _ _ eL) (fun z => nomatch z))]
            exact e8
        | false =>
          walk_at "go"
          refine ⟨s47, ⟨_, _, _, rfl⟩, fun j y h e => ?_⟩
          by_cases c : j < i
          · exact noi j y c e
          · have : j = i := by omega
            subst this
            rw [hx] at e
            rw [← Option.some.inj e]
            exact hbx
      · obtain ⟨sG3, ⟨x4, x7, x8, rfl⟩, noi⟩ := hP
        refine ⟨sG3 _ _ eL, sG.trans (unlock_same etG (by rw [hHL]; exact sG3)), ⟨_, _, _, _, _, rfl⟩, fun k' hk' y hy => ?_⟩
        by_cases c : k' < k
        · exact no k' c y hy
        · have : k' = k := by omega
          subst this
          obtain ⟨j, hj⟩ := List.getElem?_of_mem hy
          have hl := (List.getElem?_eq_some_iff.mp hj).1
          exact noi j y (by rw [dicF_len]; exact hl) hj
    · rintro σ G2 ⟨sG, ⟨x4, x5, x6, x7, x8, rfl⟩, no⟩
      walk_at "go"
      refine q none _ _ (fun k x hx => ?_) sG rfl
      by_cases h : k < cnt
      · exact no k h x hx
      · exact brk_beyond l4 lY (Nat.le_trans cn (Nat.mul_le_mul_right L (by omega)))
end
end K28

namespace K28
open PySem PySem.Spec PyProof.Rows L2 Bk


def spShare : Sp := fun vs H Q _ => ∃ (bx : Addr) (n L free : Nat), vs = [.ref bx, .int L, .int free] ∧ Box bx n H ∧ n < 950000 ∧ 4 ≤ L ∧ L ≤ 60 ∧ free ≤ L ∧
  ∀ (t : Addr) (p c : Nat) H', H t = none → But bx H H' → Box bx (n + 4) H' → H' t = some (.tup [.int p, .int c]) → p ≤ free → p ≤ c → 1 ≤ c → c ≤ L → Q (.ref t) H'
def spLen : Sp := fun vs H Q _ => ∃ (bx : Addr) (n : Nat), vs = [.ref bx] ∧ Box bx n H ∧ n < 950000 ∧ ∀ (v : Nat) H', 4 ≤ v → v ≤ 60 → But bx H H' → Box bx (n + 2) H' → Q (.int v) H'
section
variable {P : Program} {w : World} {K : PySem.W.Frag} {mg : Str → Option Value} {base : Heap} {A : Ad}
theorem ok_share {f : Addr} {fd : FuncData} (F : Fun K "_law_share" "_law_share" s_share_L f fd) (T : Txt K mg A) (c_take_L : CalD P w K mg base CX0 1 "_law_take" spTake []) : FnOk P w K mg base CX0 2 f fd ["_law_box_here", "_law_size", "_law_free"] spShare := by
  refine F.ok sc_share_L (fun vs H Q E h => ?_) (fun cdv A' outer s H vs Q E hr h => have hu65 := units65 hr; have hu64 := hr.units; have hu := units1 hr; ⟨_, (pss_cons (ps_set (i := 3) sc_share_L.nd rfl (.inl rfl) (pe_ix ix_list (pe_lstB (pa_cons pe_int (pa_cons pe_int (pa_cons (pe_cal c_take_L hr (by decide) (by rfl) (pa_cons (pv 0) (pa_cons (pe_op op_add (pv 1) pe_int) pa_nil))) pa_nil)))) (pe_cal c_take_L hr (by decide) (by rfl) (pa_cons (pv 0) (pa_cons pe_int pa_nil))) (fun _ _ => rfl)))
    (pss_cons (ps_set (i := 3) sc_share_L.nd rfl (.inl rfl) (pe_callB (call_min2 rfl) (by rfl) T.m_min (by decide +kernel) (pa_cons (pv 2) (pa_cons (pv 3) pa_nil))))
    (pss_cons (ps_set (i := 4) sc_share_L.nd rfl (.inl rfl) (pe_callB (call_max2 rfl) (by rfl) T.m_max (by decide +kernel) (pa_cons pe_int (pa_cons (pv 3) pa_nil))))
    (pss_one (ps_ret (pe_tup (pa_cons (pv 3) (pa_cons (pe_ix ix_list (pe_lstB (pa_cons (pv 1) (pa_cons (pv 4) (pa_cons (pe_op op_add (pv 4) (pe_cal c_take_L hr (by decide) (by rfl) (pa_cons (pv 0) (pa_cons (pe_op op_add (pe_op op_sub (pv 1) (pv 4)) pe_int) pa_nil)))) pa_nil)))) (pe_cal c_take_L hr (by decide) (by rfl) (pa_cons (pv 0) (pa_cons pe_int pa_nil))) (fun _ _ => rfl)) pa_nil)))))))), ?_⟩)
  · obtain ⟨bx, n, L, free, rfl, _⟩ := h
    rfl
  · obtain ⟨bx, n, L, free, rfl, hB, hn, l4, l60, fL, q⟩ := h
    walk_at "go"
    refine r_take hB (fun d H1 h0 h1 hB1 b1 => ?_) (by omega) (by omega) (by omega)
    walk_at "go"
    refine newLB fun la H2 n2 g2 s2 e2 => ?_
    have hB2 := hB1.same s2
    walk_at "go"
    refine r_take hB2 (fun d2 H3 h20 h21 hB3 b3 => ?_)
    have e3 := b3 _ _ (hB1.ne n2) e2
    obtain ⟨v, hv, vl⟩ : ∃ v : Nat, atI [V.int 0, .int 1, .int d] d2 = some (.int v) ∧ v ≤ L := by
      obtain rfl | rfl | rfl : d2 = 0 ∨ d2 = 1 ∨ d2 = 2 := by omega
      · exact ⟨0, rfl, Nat.zero_le _⟩
      · exact ⟨1, rfl, by omega⟩
      · exact ⟨d.toNat, by rw [Int.toNat_of_nonneg h0]; rfl, by omega⟩
    refine r_ixL (sqL e3) (v := .int v) hv ?_
    walk_at "go"
    refine ⟨free, v, rfl, ?_⟩
    have hp : (if (free : Int) > (v : Int) then (v : Int) else free) = ((min free v : Nat) : Int) := by split <;> omega
    rw [hp]
    have pf : min free v ≤ free := Nat.min_le_left _ _
    generalize min free v = p at pf ⊢
    walk_at "go"
    refine ⟨1, p, rfl, ?_⟩
    have hl : (if (p : Int) > 1 then (p : Int) else 1) = ((max 1 p : Nat) : Int) := by split <;> omega
    rw [hl]
    have lw : 1 ≤ max 1 p ∧ p ≤ max 1 p ∧ max 1 p ≤ L := by omega
    generalize max 1 p = low at lw ⊢
    obtain ⟨lw1, lw2, lw3⟩ := lw
    walk_at "go"
    refine r_take hB3 (fun d4 H4 h40 h41 hB4 b4 => ?_) (by omega) (by omega) (by omega)
    walk_at "go"
    refine newLB fun lb H5 n5 g5 s5 e5 => ?_
    have hB5 := hB4.same s5
    walk_at "go"
    refine r_take hB5 (fun d6 H6 h60 h61 hB6 b6 => ?_)
    have e6 := b6 _ _ (hB4.ne n5) e5
    obtain ⟨c, hc, c1, c2, c3⟩ : ∃ c : Nat, atI [V.int L, .int low, .int ((low : Int) + d4)] d6 = some (.int c) ∧ p ≤ c ∧ 1 ≤ c ∧ c ≤ L := by
      obtain rfl | rfl | rfl : d6 = 0 ∨ d6 = 1 ∨ d6 = 2 := by omega
      · exact ⟨L, rfl, by omega, by omega, Nat.le_refl _⟩
      · exact ⟨low, rfl, by omega, by omega, by omega⟩
      · refine ⟨low + d4.toNat, ?_, by omega, by omega, by omega⟩
        rw [Int.natCast_add, Int.toNat_of_nonneg h40]
        rfl
    refine r_ixL (sqL e6) (v := .int c) hc ?_
    walk_at "go"
    refine newT fun t H7 n7 s7 e7 => ?_
    have bb : But bx H H7 := fun b o nb eb => s7 _ _ (b6 _ _ nb (s5 _ _ (b4 _ _ nb (b3 _ _ nb (s2 _ _ (b1 _ _ nb eb))))))
    have nt : t ≠ bx := hB6.ne n7
    refine q t p c H7 ?_ bb (hB6.same s7) e7 pf c1 c2 c3
    cases z : H t with
    | none => rfl
    | some u =>
      have w := b6 _ _ nt (s5 _ _ (b4 _ _ nt (b3 _ _ nt (s2 _ _ (b1 _ _ nt z)))))
      rw [w] at n7
      exact nomatch n7
theorem ok_length_L {f : Addr} {fd : FuncData} (F : Fun K "_law_length" "_law_length" s_length_L f fd) (T : Txt K mg A) (c_take_L : CalD P w K mg base CX0 1 "_law_take" spTake []) : FnOk P w K mg base CX0 2 f fd ["_law_box_here"] spLen := by
  refine F.ok sc_length_L (fun vs H Q E h => ?_) (fun cdv A' outer s H vs Q E hr h => have hu65 := units65 hr; have hu64 := hr.units; have hu := units1 hr; ⟨_, (pss_one (ps_ret (pe_ix ix_list (pe_lstB (pa_cons pe_int (pa_cons pe_int (pa_cons pe_int (pa_cons pe_int (pa_cons (pe_op op_add pe_int (pe_cal c_take_L hr (by decide) (by rfl) (pa_cons (pv 0) (pa_cons pe_int pa_nil)))) pa_nil)))))) (pe_cal c_take_L hr (by decide) (by rfl) (pa_cons (pv 0) (pa_cons pe_int pa_nil))) (fun _ _ => rfl)))), ?_⟩)
  · obtain ⟨bx, n, rfl, _⟩ := h
    rfl
  · obtain ⟨bx, n, rfl, hB, hn, q⟩ := h
    walk_at "go"
    refine r_take hB (fun d H1 h0 h1 hB1 b1 => ?_)
    walk_at "go"
    refine newLB fun la H2 n2 g2 s2 e2 => ?_
    have hB2 := hB1.same s2
    walk_at "go"
    refine r_take hB2 (fun d2 H3 h20 h21 hB3 b3 => ?_)
    have e3 := b3 _ _ (hB1.ne n2) e2
    obtain ⟨v, hv, v4, v60⟩ : ∃ v : Nat, atI [V.int 4, .int 5, .int 7, .int 12, .int (4 + d)] d2 = some (.int v) ∧ 4 ≤ v ∧ v ≤ 60 := by
      obtain rfl | rfl | rfl | rfl | rfl : d2 = 0 ∨ d2 = 1 ∨ d2 = 2 ∨ d2 = 3 ∨ d2 = 4 := by omega
      · exact ⟨4, rfl, by omega, by omega⟩
      · exact ⟨5, rfl, by omega, by omega⟩
      · exact ⟨7, rfl, by omega, by omega⟩
      · exact ⟨12, rfl, by omega, by omega⟩
      · exact ⟨4 + d.toNat, by rw [Int.natCast_add, Int.toNat_of_nonneg h0]; rfl, by omega, by omega⟩
    refine r_ixL (sqL e3) (v := .int v) hv ?_
    have bb : But bx H H3 := fun b o nb eb => b3 _ _ nb (s2 _ _ (b1 _ _ nb eb))
    exact q v H3 v4 v60 bb hB3
end
end K28

namespace K28
open PySem PySem.Spec PyProof.Rows L2 Bk


section
variable {K : PySem.W.Frag} {σ : L2.St} {H H0 : Hp} {Q : VK} {j : Nat} {vs : List Nat} {tt : TT} {te tl : TE} {a bx : Addr} {m : Nat}
theorem lcDrawT {s : Int} {i0 : Nat} {E : XK} (p : V → Prop) (hb : Box bx m H) (hm : m < 900000) (hs : 0 < s) (hs2 : s ≤ 1000) (hvv : σ[i0]? = some (some (.ref bx))) (hw : ∀ x, wipe ((wipe σ vs).set j (some x)) vs = wipe σ vs)
    (ht : ∀ (i k : Nat) (H' : Hp) (Q' : VK), k < 910000 → Box bx k H' → (∀ v H2, p v → Box bx (k + 1) H2 → But bx H' H2 → Q' v H2) → te ((wipe σ vs).set j (some (.int i))) H' Q')
    (hq : ∀ (D : Addr) (H' : Hp) (xs : List V), H D = none → But bx H H' → Box bx (m + s.toNat) H' → H' D = some (.lst xs) → (xs.length : Int) < s → (∀ v ∈ xs, p v) → Q (.ref D) H') : tLc (iRng1 (tCons (tCall spTake [] E (tCons (tVar i0) (tCons (tC (.int s)) tNil))) tNil)) (gName j) tYes te vs σ H Q := by
  refine ⟨_, hvv, ?_⟩
  walk_at "go"
  refine r_take hb (fun d H1 h0 h1 hB1 b1 => ?_) (by omega) hs (by omega)
  obtain ⟨n, rfl⟩ := Int.eq_ofNat_of_zero_le h0
  have z : tLc (iRng1 (tCons (tC (.int (n : Nat))) tNil)) (gName j) tYes te vs σ H1 Q := lcDraw (n := n) (m := m + 1) (bx := bx) p hB1 (by omega) hw (fun i H' Q' hi hB kk => ht i (m + 1 + i) H' Q' (by omega) hB kk) fun D H' xs nD b hB e l hp => hq D H' xs (by
    cases w : H D with
    | none => rfl
    | some u => rw [b1 _ _ (hB1.ne nD) w] at nD; exact nomatch nD) (b1.trans b) (hB.mono (by omega)) e (by omega) hp
  exact z
end
/-- a comprehension over range(i), i a variable: item k is p k -/
theorem lcRangeP {σ : L2.St} {H : Hp} {Q : VK} {j : Nat} {vs : List Nat} {te : TE} {tn : TA} {n : Nat} (p : Nat → V) (hl : n ≤ 10000) (hn : ∀ R : List V → Hp → Prop, R [.int (n : Nat)] H → tn σ H R) (hw : ∀ x, wipe ((wipe σ vs).set j (some x)) vs = wipe σ vs)
    (ht : ∀ (i : Nat) (H' : Hp) (Q' : VK), i < n → Same H H' → (∀ H2, Same H' H2 → Q' (p i) H2) → te ((wipe σ vs).set j (some (.int i))) H' Q')
    (hq : ∀ (D : Addr) (H' : Hp), H D = none → Same H H' → H' D = some (.lst ((List.range n).map p)) → Q (.ref D) H') : tLc (iRng1 tn) (gName j) tYes te vs σ H Q := by
  refine hn _ ⟨_, rfl, by omega, by omega, fun D hD => ?_⟩
  rw [Int.toNat_natCast]
  exact lc_map (j := j) (walk_range (lo := 0) (n := n)) (fun _ _ _ _ _ z => z.1) p hl (fun _ _ => trivial) hw (fun i y H1 H' Q' hi e sm k => by
    obtain ⟨_, rfl⟩ := e
    show te ((wipe σ vs).set j (some (.int (0 + (i : Int))))) _ _
    rw [Int.zero_add]
    exact ht i H' Q' hi sm k) hq hD
def letter (j : Nat) : Nat := (Str.ofString "abcdefghijklmnopqrstuvwxyz").cps.toList.getD j 0
theorem letter_at : ∀ j, j < 26 → letter j = 97 + j := by decide +kernel
def tailS (j : Nat) : Str := if j = 0 then (Str.ofString "") else if j = 1 then (Str.ofString "z") else (Str.ofString "aa")
theorem tail_ok {j : Nat} : lowS (tailS j) ∧ (tailS j).length ≤ 2 := by
  unfold tailS
  split
  · exact ⟨by unfold lowS; decide +kernel, by decide +kernel⟩
  · split
    · exact ⟨by unfold lowS; decide +kernel, by decide +kernel⟩
    · exact ⟨by unfold lowS; decide +kernel, by decide +kernel⟩
/-- the k-th name -/
def nmS (stem : Str) (pl sh k : Nat) : Str := cutS stem none (some (pl : Nat)) ++ ⟨#[letter ((sh + 7 * k) % 26)]⟩ ++ cutS stem (some (pl : Nat)) none ++ tailS ((sh + k) % 3)
theorem nm_sign {stem : Str} {pl sh k : Nat} (h : pl ≤ stem.length) : (nmS stem pl sh k).cps.toList[pl]? = some (letter ((sh + 7 * k) % 26)) := by
  have c1 := cut_pre (z := stem) (m := (pl : Nat)) (by omega)
  have c1 : (cutS stem none (some (pl : Nat))).cps.toList.length = pl := by
    rw [Array.length_toList]
    show (cutS stem none (some (pl : Nat))).length = pl
    rw [c1]
    omega
  have ap : ∀ x y : Str, (x ++ y).cps.toList = x.cps.toList ++ y.cps.toList := fun x y => Array.toList_append
  unfold nmS
  rw [ap, ap, ap, List.append_assoc, List.append_assoc, List.getElem?_append_right (by rw [c1]; exact Nat.le_refl _), c1, Nat.sub_self]
  rfl
theorem nm_ok {stem : Str} {pl sh k : Nat} (hs : lowS stem) (h5 : stem.length ≤ 5) (h : pl ≤ stem.length) : nameOk (nmS stem pl sh k) = true := by
  have c1 := cut_pre (z := stem) (m := (pl : Nat)) (by omega)
  have c2 := cut_suf (z := stem) (m := (pl : Nat)) (by omega)
  have lt := letter_at ((sh + 7 * k) % 26) (Nat.mod_lt _ (by decide))
  obtain ⟨t1, t2⟩ := tail_ok (j := (sh + k) % 3)
  have l1 : ∀ c, (⟨#[c]⟩ : Str).length = 1 := fun _ => rfl
  have hl : (nmS stem pl sh k).length = stem.length + 1 + (tailS ((sh + k) % 3)).length := by
    unfold nmS
    rw [str_len_add, str_len_add, str_len_add, c1, c2, l1]
    omega
  refine nameOk_of ?_ (by rw [hl]; omega) (by rw [hl]; omega)
  unfold nmS
  exact low_app (low_app (low_app (low_cut hs) (sign_ok (by omega)).1) (low_cut hs)) t1
theorem nm_ne {stem : Str} {pl sh i j : Nat} (h : pl ≤ stem.length) (hi : i < 8) (hj : j < 8) (n : i ≠ j) : nmS stem pl sh i ≠ nmS stem pl sh j := fun z => by
  have a := nm_sign (sh := sh) (k := i) h
  have b := nm_sign (sh := sh) (k := j) h
  rw [z, b] at a
  have a := Option.some.inj a
  rw [letter_at _ (Nat.mod_lt _ (by decide)), letter_at _ (Nat.mod_lt _ (by decide))] at a
  omega
def spNames8 : Sp := fun vs H Q _ => ∃ (bx : Addr) (n sz : Nat), vs = [.ref bx, .int sz] ∧ sz ≤ 8 ∧ Box bx n H ∧ n < 900000 ∧
  ∀ (D : Addr) (H' : Hp) (N : List Str), H D = none → But bx H H' → Box bx (n + 8) H' → H' D = some (.lst (N.map V.str)) → N.length = sz → (∀ x ∈ N, nameOk x = true) → N.Nodup → Q (.ref D) H'
section
variable {P : Program} {w : World} {K : PySem.W.Frag} {mg : Str → Option Value} {base : Heap} {A : Ad}
theorem ok_names_L {f : Addr} {fd : FuncData} (F : Fun K "_law_names" "_law_names" s_names_L f fd) (T : Txt K mg A) (c_take_L : CalD P w K mg base CX0 1 "_law_take" spTake []) : FnOk P w K mg base CX0 2 f fd ["_law_box_here", "_law_size"] spNames8 := by
  refine F.ok sc_names_L (fun vs H Q E h => ?_) (fun cdv A' outer s H vs Q E hr h => have hu65 := units65 hr; have hu64 := hr.units; have hu := units1 hr; ⟨_, (pss_cons (ps_set (i := 2) sc_names_L.nd rfl (.inr rfl) pe_str)
    (pss_cons (ps_set (i := 3) sc_names_L.nd rfl (.inr rfl) (pe_join pe_str (pe_lc (own := [("_law_turn", 9)]) rfl sc_names_L.nd (pi_range1 (by rfl) T.m_range (pa_cons (pe_cal c_take_L hr (by decide) (by rfl) (pa_cons (pv 0) (pa_cons pe_int pa_nil))) pa_nil)) (blkOk_by (N := ["_law_box_here", "_law_size", "_law_small", "_law_stem", "_law_place", "_law_shift", "_law_tails", "_law_some", "_law_k", "_law_turn"]) (sc := defScope s_names_L) (by decide +kernel)) (fun _ _ _ _ _ => (pg_name (i := 9) sc_names_L.nd rfl (.inl rfl))) (fun _ _ _ _ _ => pts_nil) (fun _ _ _ _ _ => (pe_ix ix_str (pv 2) (pe_cal c_take_L hr (by decide) (by rfl) (pa_cons (pv 0) (pa_cons pe_int pa_nil))) (fun _ _ => rfl))))))
    (pss_cons (ps_set (i := 4) sc_names_L.nd rfl (.inr rfl) (pe_cal c_take_L hr (by decide) (by rfl) (pa_cons (pv 0) (pa_cons (pe_op op_add (pe_callB call_len_str (by rfl) T.m_len (by decide +kernel) (pa_cons (pv 3) pa_nil)) pe_int) pa_nil))))
    (pss_cons (ps_set (i := 5) sc_names_L.nd rfl (.inr rfl) (pe_cal c_take_L hr (by decide) (by rfl) (pa_cons (pv 0) (pa_cons pe_int pa_nil))))
    (pss_cons (ps_set (i := 6) sc_names_L.nd rfl (.inr rfl) (pe_lstB (pa_cons pe_str (pa_cons pe_str (pa_cons pe_str pa_nil)))))
    (pss_cons (ps_set (i := 7) sc_names_L.nd rfl (.inr rfl) (pe_lc (own := [("_law_k", 8)]) rfl sc_names_L.nd (pi_range1 (by rfl) T.m_range (pa_cons (pv 1) pa_nil)) (blkOk_by (N := ["_law_box_here", "_law_size", "_law_small", "_law_stem", "_law_place", "_law_shift", "_law_tails", "_law_some", "_law_k", "_law_turn"]) (sc := defScope s_names_L) (by decide +kernel)) (fun _ _ _ _ _ => (pg_name (i := 8) sc_names_L.nd rfl (.inl rfl))) (fun _ _ _ _ _ => pts_nil) (fun _ _ _ _ _ => (pe_op op_add_str (pe_op op_add_str (pe_slice sl_str (pv 3) po_none (po_some (pv 4))) (pe_ix ix_str (pv 2) (pe_op op_mod (pe_op op_add (pv 5) (pe_op op_mulW pe_int (pv 8))) pe_int) (fun _ _ => rfl))) (pe_slice sl_str (pv 3) (po_some (pv 4)) po_none)))))
    (pss_one (ps_ret (pe_lc (own := [("_law_k", 8)]) rfl sc_names_L.nd (pi_range1 (by rfl) T.m_range (pa_cons (pv 1) pa_nil)) (blkOk_by (N := ["_law_box_here", "_law_size", "_law_small", "_law_stem", "_law_place", "_law_shift", "_law_tails", "_law_some", "_law_k", "_law_turn"]) (sc := defScope s_names_L) (by decide +kernel)) (fun _ _ _ _ _ => (pg_name (i := 8) sc_names_L.nd rfl (.inl rfl))) (fun _ _ _ _ _ => pts_nil) (fun _ _ _ _ _ => (pe_op op_add_str (pe_ix (ix_listK (K := K) rfl) (pv 7) (pv 8) (fun _ _ => rfl)) (pe_ix (ix_listK (K := K) rfl) (pv 6) (pe_op op_mod (pe_op op_add (pv 5) (pv 8)) pe_int) (fun _ _ => rfl))))))))))))), ?_⟩)
  · obtain ⟨bx, n, sz, rfl, _⟩ := h
    rfl
  · obtain ⟨bx, n, sz, rfl, sz8, hB, hn, q⟩ := h
    have hsg : (Str.ofString "abcdefghijklmnopqrstuvwxyz").length = 26 := by decide +kernel
    have hsl : ((Str.ofString "abcdefghijklmnopqrstuvwxyz").cps.toList.length : Int) = 26 := by decide +kernel
    walk_at "go"
    refine ⟨⟨_, rfl⟩, ?_⟩
    refine lcDrawT (s := 6) (fun v => ∃ y, v = .str y ∧ one1 y) hB (by omega) (by decide) (by decide) rfl (fun _ => rfl) (fun i k H1 Q' hk hB1 kk => ?_) fun D H1 xs nD b1 hB1 e1 l1 p1 => ?_
    · walk_at "go"
      refine r_take hB1 (fun d H2 h0 h1 hB2 b2 => ?_) (by omega)
      refine r_ixS h0 (by rw [hsl]; exact h1) (by rw [hsg]; decide) fun c hc => ?_
      exact kk _ H2 ⟨_, rfl, sign_ok (signs_low c (List.mem_of_getElem? hc))⟩ hB2 b2
    obtain ⟨ys, rfl, ly, hys⟩ := strs_of p1
    rw [← ly] at l1
    have he0 : (Str.ofString "").length = 0 := by decide +kernel
    refine ⟨_, D, ys, rfl, rfl, .inl (sqL e1), by rw [sum1 hys, he0]; omega, ?_⟩
    obtain ⟨jl, jn⟩ : lowS (Txt.join (Str.ofString "") ys) ∧ (Txt.join (Str.ofString "") ys).length ≤ 5 := by
      cases ys with
      | nil => exact ⟨fun c hc => (nomatch hc), Nat.zero_le _⟩
      | cons y r =>
        obtain ⟨a, b⟩ := join_low hys (by rw [List.length_cons]; omega)
        exact ⟨a, by rw [b]; omega⟩
    generalize Txt.join (Str.ofString "") ys = stem at jl jn ⊢
    walk_at "go"
    refine ⟨stem, rfl, by rw [sizeLine_eq]; omega, ?_⟩
    walk_at "go"
    refine r_take hB1 (fun d1 H2 h01 h11 hB2 b2 => ?_) (by simp; omega) (by omega) (by omega)
    obtain ⟨pl, rfl⟩ := Int.eq_ofNat_of_zero_le h01
    have pll : pl ≤ stem.length := by omega
    walk_at "go"
    refine r_take hB2 (fun d2 H3 h02 h12 hB3 b3 => ?_) (by simp; omega)
    obtain ⟨sh, rfl⟩ := Int.eq_ofNat_of_zero_le h02
    walk_at "go"
    refine newLB fun ta H4 n4 g4 s4 e4 => ?_
    walk_at "go"
    have hB4 := hB3.same s4
    refine lcRangeP (n := sz) (fun k => V.str (cutS stem none (some (pl : Nat)) ++ ⟨#[(Str.ofString "abcdefghijklmnopqrstuvwxyz").cps.toList.getD ((sh + 7 * k) % 26) 0]⟩ ++ cutS stem (some (pl : Nat)) none)) (by omega) (fun R h => ⟨_, rfl, h⟩) (fun _ => rfl) (fun k G Q' hk sG kk => ?_) fun D2 G nD2 sG eG => ?_
    · walk_at "go"
      have c1 := cut_pre (z := stem) (m := (pl : Nat)) (by omega)
      have c2 := cut_suf (z := stem) (m := (pl : Nat)) (by omega)
      refine ⟨stem, rfl, by rw [sizeLine_eq]; omega, ?_⟩
      walk_at "go"
      refine r_I (cmul (by decide) (by decide) (by omega) (by omega)) ?_
      walk_at "go"
      refine r_I (by decide) ?_
      have m0 : 0 ≤ ((sh : Int) + 7 * (k : Nat)) % 26 := Int.emod_nonneg _ (by decide)
      have m1 : ((sh : Int) + 7 * (k : Nat)) % 26 < 26 := Int.emod_lt_of_pos _ (by decide)
      have mt : (((sh : Int) + 7 * (k : Nat)) % 26).toNat = (sh + 7 * k) % 26 := by omega
      refine r_ixS m0 (by rw [hsl]; exact m1) (by rw [hsg]; decide) fun c hc => ?_
      rw [mt] at hc
      have hcd : (Str.ofString "abcdefghijklmnopqrstuvwxyz").cps.toList.getD ((sh + 7 * k) % 26) 0 = c := by
        rw [List.getD_eq_getElem?_getD, hc]
        rfl
      have hl1 : (⟨#[c]⟩ : Str).length = 1 := rfl
      refine ⟨_, _, rfl, rfl, by rw [c1, hl1, sizeLine_eq]; omega, ?_⟩
      walk_at "go"
      refine ⟨stem, rfl, by rw [sizeLine_eq]; omega, ?_⟩
      refine ⟨_, _, rfl, rfl, by rw [str_len_add, c1, c2, hl1, sizeLine_eq]; omega, ?_⟩
      have w := kk G (Same.refl _)
      rw [hcd] at w
      exact w
    · walk_at "go"
      have e4G := sG _ _ e4
      refine lcRangeP (n := sz) (fun k => V.str (nmS stem pl sh k)) (by omega) (fun R h => ⟨_, rfl, h⟩) (fun _ => rfl) (fun k G2 Q' hk sG2 kk => ?_) fun D3 G2 nD3 sG2 eG2 => ?_
      · walk_at "go"
        refine r_ixL (sqL (sG2 _ _ eG)) (v := .str (cutS stem none (some (pl : Nat)) ++ ⟨#[letter ((sh + 7 * k) % 26)]⟩ ++ cutS stem (some (pl : Nat)) none)) (atI_nat (j := k) (by rw [List.getElem?_map, List.getElem?_range hk]; rfl)) ?_
        walk_at "go"
        refine r_I (by decide) ?_
        have mt : ((sh : Int) + (k : Nat)) % 3 = (((sh + k) % 3 : Nat) : Int) := by omega
        rw [mt]
        have m3 : (sh + k) % 3 < 3 := Nat.mod_lt _ (by decide)
        have w := kk G2 (Same.refl _)
        have hnm : nmS stem pl sh k = cutS stem none (some (pl : Nat)) ++ ⟨#[letter ((sh + 7 * k) % 26)]⟩ ++ cutS stem (some (pl : Nat)) none ++ tailS ((sh + k) % 3) := rfl
        rw [hnm] at w
        have t2 := (tail_ok (j := (sh + k) % 3)).2
        generalize (sh + k) % 3 = j3 at m3 w t2 ⊢
        refine r_ixL (sqL (sG2 _ _ e4G)) (v := .str (tailS j3)) (atI_nat (j := j3) (by
          obtain rfl | rfl | rfl : j3 = 0 ∨ j3 = 1 ∨ j3 = 2 := by omega
          · rfl
          · rfl
          · rfl)) ?_
        have c1 := cut_pre (z := stem) (m := (pl : Nat)) (by omega)
        have c2 := cut_suf (z := stem) (m := (pl : Nat)) (by omega)
        have l1 : ∀ c, (⟨#[c]⟩ : Str).length = 1 := fun _ => rfl
        exact ⟨_, _, rfl, rfl, by rw [str_len_add, str_len_add, c1, c2, l1, sizeLine_eq]; omega, w⟩
      · have bb : But bx H G2 := fun b o nb eb => sG2 _ _ (sG _ _ (s4 _ _ (b3 _ _ nb (b2 _ _ nb (b1 _ _ nb eb)))))
        have hBf : Box bx (n + 8) G2 := by
          refine Box.mono ((hB4.same sG).same sG2) ?_
          simp
        have nb3 : D3 ≠ bx := (hB4.same sG).ne nD3
        refine q D3 G2 ((List.range sz).map fun i => nmS stem pl sh i) ?_ bb hBf (by rw [List.map_map]; exact eG2) (by rw [List.length_map, List.length_range]) (fun x hx => ?_) ?_
        · cases z : H D3 with
          | none => rfl
          | some u =>
            have w := sG _ _ (s4 _ _ (b3 _ _ nb3 (b2 _ _ nb3 (b1 _ _ nb3 z))))
            rw [w] at nD3
            exact nomatch nD3
        · obtain ⟨i, _, rfl⟩ := List.mem_map.mp hx
          exact nm_ok jl jn pll
        · refine List.pairwise_map.mpr (List.pairwise_iff_getElem.mpr fun i j hi hj lt => ?_)
          rw [List.length_range] at hi hj
          rw [List.getElem_range, List.getElem_range]
          exact nm_ne pll (by omega) (by omega) (Nat.ne_of_lt lt)
end
end K28

namespace K28
open PySem PySem.Spec PyProof.Rows L2 Bk
/-! ### promises still to be kept -/
def dfc (P : Ps) : Nat := total P.G fun x => P.cp x - P.us x
theorem dfc_le {P : Ps} (h : P.Ok) : dfc P ≤ P.L := Nat.le_trans (total_le fun x _ => Nat.sub_le _ _) h.fitc
def us1 (P : Ps) (y : Option Str) (x : Str) : Nat := if y = some x then P.us x + 1 else P.us x
theorem dfc_turn {P : Ps} (ok : P.Ok) {y : Str} (hy : y ∈ P.G) (l : P.us y < P.cp y) : total P.G (fun x => P.cp x - us1 P (some y) x) + 1 = dfc P := by
  have z := total_set (f := fun x => P.cp x - P.us x) (v := P.cp y - (P.us y + 1)) ok.nd hy
  have e : total P.G (fun x => P.cp x - us1 P (some y) x) = total P.G (setF (fun x => P.cp x - P.us x) y (P.cp y - (P.us y + 1))) := total_congr fun x _ => by
    unfold us1 setF
    by_cases c : x = y
    · subst c
      rw [if_pos rfl, if_pos rfl]
    · rw [if_neg c, if_neg (fun w => c (Option.some.inj w).symm)]
  rw [e]
  unfold dfc
  have z : total P.G (setF (fun x => P.cp x - P.us x) y (P.cp y - (P.us y + 1))) + (P.cp y - P.us y) = total P.G (fun x => P.cp x - P.us x) + (P.cp y - (P.us y + 1)) := z
  omega
def Room (P : Ps) (fl : Str → Bool) : Prop := ∀ x ∈ P.G, fl x = true → P.us x < P.cp x → dfc P + P.ps ≤ P.L
theorem Room.zero {P : Ps} {fl : Str → Bool} (ok : P.Ok) (z : P.ps = 0) : Room P fl := fun x _ _ _ => by
  have := dfc_le ok
  omega
theorem Room.turn {P : Ps} {fl : Str → Bool} {R : List Str} {y : Option Str} (h : Room P fl) (ok : P.Ok) (ch : Chosen P R y) : ∀ x ∈ P.G, fl x = true → x ∈ R → us1 P y x < P.cp x → total P.G (fun x => P.cp x - us1 P y x) + (P.ps + 1) ≤ P.L := fun x hx fx hq z => by
  have z0 : P.us x < P.cp x := by
    unfold us1 at z
    split at z <;> omega
  have r := h x hx fx z0
  cases y with
  | none =>
    have := (ch x hx hq).1
    omega
  | some y =>
    obtain ⟨yG, yR, l | ⟨l, _⟩⟩ := ch
    · have := dfc_turn ok yG l
      omega
    · have := l x hx hq
      omega
/-! ### what was dealt so far -/
theorem gsn_succ {x : Str} {Rs : List (List Str)} {Ys : List (Option Str)} {n : Nat} : gsn x Rs Ys (n + 1) = gsn x Rs Ys n ++ (if Ys.getD n none = some x then [decide (x ∈ Rs.getD n [])] else []) := by
  unfold gsn
  rw [List.range_succ, List.filterMap_append]
  congr 1
  by_cases c : Ys.getD n none = some x
  · rw [if_pos c]
    show List.filterMap _ [n] = _
    rw [List.filterMap_cons, if_pos c]
    rfl
  · rw [if_neg c]
    show List.filterMap _ [n] = _
    rw [List.filterMap_cons, if_neg c]
    rfl
theorem gsn_congr {x : Str} {Rs Rs' : List (List Str)} {Ys Ys' : List (Option Str)} : ∀ {n : Nat}, (∀ i < n, Rs.getD i [] = Rs'.getD i [] ∧ Ys.getD i none = Ys'.getD i none) → gsn x Rs Ys n = gsn x Rs' Ys' n
  | 0, _ => rfl
  | n + 1, h => by
    obtain ⟨a, b⟩ := h n (Nat.lt_succ_self n)
    rw [gsn_succ, gsn_succ, gsn_congr fun i hi => h i (Nat.lt_succ_of_lt hi), a, b]
theorem getD_drop {α : Type} {l : List α} {d : α} {a i : Nat} : (l.drop a).getD i d = l.getD (a + i) d := by
  rw [List.getD_eq_getElem?_getD, List.getD_eq_getElem?_getD, List.getElem?_drop]
theorem getD_take {α : Type} {l : List α} {d : α} {a i : Nat} (h : i < a) : (l.take a).getD i d = l.getD i d := by
  rw [List.getD_eq_getElem?_getD, List.getD_eq_getElem?_getD, List.getElem?_take, if_pos h]
theorem getD_app {α : Type} {l m : List α} {d : α} {i : Nat} (h : i < l.length) : (l ++ m).getD i d = l.getD i d := by
  rw [List.getD_eq_getElem?_getD, List.getD_eq_getElem?_getD, List.getElem?_append_left h]
theorem sl_app {α : Type} {L k : Nat} {l m : List α} (h : k * L + L ≤ l.length) : sl L k (l ++ m) = sl L k l := by
  unfold sl
  rw [List.drop_append_of_le_length (by omega), List.take_append_of_le_length (by rw [List.length_drop]; omega)]
theorem kl_lt {L k k' : Nat} (h : k' < k) : k' * L + L ≤ k * L := by
  have := Nat.mul_le_mul_right L (show k' + 1 ≤ k from h)
  rw [Nat.succ_mul] at this
  exact this
structure Hist (L : Nat) (G : List Str) (pr ce : Str → Nat) (Rs : List (List Str)) (Ys : List (Option Str)) (k : Nat) (P : Ps) : Prop where
  eL : P.L = L
  eG : P.G = G
  fix : ∀ x ∈ G, P.pr x = pr x ∧ P.ce x = ce x ∧ P.cp x = pr x ∧ P.cc x = ce x
  len : Ys.length = k * L + P.ps
  cnt : ∀ x ∈ G, (gsn x (Rs.drop (k * L)) (Ys.drop (k * L)) P.ps).all id = true ∧ (gsn x (Rs.drop (k * L)) (Ys.drop (k * L)) P.ps).length = P.us x ∧ P.us x ≤ ce x
  room : Room P fun x => ((Rs.drop (k * L)).take P.ps).all fun R => decide (x ∈ R)
  past : ∀ k' < k, ∀ x ∈ G, brkAt L pr ce Rs Ys k' x = false
theorem Hist.step {L : Nat} {G : List Str} {pr ce : Str → Nat} {Rs : List (List Str)} {Ys : List (Option Str)} {k : Nat} {P : Ps} {R : List Str} {y : Option Str} {v : V} (h : Hist L G pr ce Rs Ys k P) (ok : P.Ok) (ok2 : (P.deal v y).Ok) (hR : Rs[Ys.length]? = some R) (ch : Chosen P R y) : ∃ k', Hist L G pr ce Rs (Ys ++ [y]) k' (P.deal v y) := by
  have L4 := ok.l4
  have hps := ok.ps
  rw [h.eL] at L4 hps
  have eLd : (P.deal v y).L = L := h.eL
  have eGd : (P.deal v y).G = G := h.eG
  have hQ : (Rs.drop (k * L)).getD P.ps [] = R := by rw [getD_drop, ← h.len, List.getD_eq_getElem?_getD, hR]; rfl
  have hZ : ((Ys ++ [y]).drop (k * L)).getD P.ps none = y := by
    rw [getD_drop, ← h.len, List.getD_eq_getElem?_getD, List.getElem?_append_right (Nat.le_refl _), Nat.sub_self]
    rfl
  have g1 : ∀ x, gsn x (Rs.drop (k * L)) ((Ys ++ [y]).drop (k * L)) (P.ps + 1) = gsn x (Rs.drop (k * L)) (Ys.drop (k * L)) P.ps ++ (if y = some x then [decide (x ∈ R)] else []) := fun x => by
    rw [gsn_succ, hQ, hZ]
    congr 1
    refine gsn_congr fun i hi => ⟨rfl, ?_⟩
    rw [getD_drop, getD_drop, getD_app (by rw [h.len]; omega)]
  have yR : ∀ x, y = some x → x ∈ R ∧ x ∈ G := fun x e => by
    subst e
    obtain ⟨a, b, _⟩ := ch
    rw [h.eG] at a
    exact ⟨b, a⟩
  have c1 : ∀ x ∈ G, (gsn x (Rs.drop (k * L)) ((Ys ++ [y]).drop (k * L)) (P.ps + 1)).all id = true ∧ (gsn x (Rs.drop (k * L)) ((Ys ++ [y]).drop (k * L)) (P.ps + 1)).length = us1 P y x ∧ us1 P y x ≤ ce x := fun x hx => by
    obtain ⟨a, b, c⟩ := h.cnt x hx
    obtain ⟨f1, f2, f3, f4⟩ := h.fix x hx
    rw [g1, List.all_append, List.length_append, a, b]
    unfold us1
    by_cases e : y = some x
    · rw [if_pos e, if_pos e]
      refine ⟨?_, rfl, ?_⟩
      · rw [decide_eq_true (yR x e).1]
        rfl
      · subst e
        have pc := (ok.cl x (by rw [h.eG]; exact hx)).1
        obtain ⟨_, _, l | ⟨_, l⟩⟩ := ch <;> omega
    · rw [if_neg e, if_neg e]
      exact ⟨rfl, rfl, c⟩
  have fl1 : ∀ x, ((Rs.drop (k * L)).take (P.ps + 1)).all (fun R => decide (x ∈ R)) = (((Rs.drop (k * L)).take P.ps).all (fun R => decide (x ∈ R)) && decide (x ∈ R)) := fun x => by
    have e : (Rs.drop (k * L))[P.ps]? = some R := by rw [List.getElem?_drop, ← h.len]; exact hR
    rw [List.take_succ, e, List.all_append]
    have z : ((some R).toList.all fun R => decide (x ∈ R)) = (decide (x ∈ R) && true) := rfl
    rw [z, Bool.and_true]
  have lR : Ys.length < Rs.length := (List.getElem?_eq_some_iff.mp hR).1
  have past : ∀ k' < k, ∀ x ∈ G, brkAt L pr ce Rs (Ys ++ [y]) k' x = false := fun k' hk x hx => by
    have e := h.past k' hk x hx
    unfold brkAt at e ⊢
    rw [sl_app (by rw [h.len]; have := kl_lt (L := L) hk; omega)]
    exact e
  by_cases c : P.ps + 1 = P.L
  · have cL : P.ps + 1 = L := by rw [c, h.eL]
    have ps0 : (P.deal v y).ps = 0 := if_pos c
    have kk : (k + 1) * L = k * L + L := Nat.succ_mul k L
    refine ⟨k + 1, eLd, eGd, fun x hx => ?_, ?_, fun x hx => ?_, Room.zero ok2 ps0, fun k' hk x hx => ?_⟩
    · obtain ⟨f1, f2, f3, f4⟩ := h.fix x hx
      refine ⟨f1, f2, ?_, ?_⟩
      · show (if P.ps + 1 = P.L then P.pr else P.cp) x = _
        rw [if_pos c]; exact f1
      · show (if P.ps + 1 = P.L then P.ce else P.cc) x = _
        rw [if_pos c]; exact f2
    · rw [ps0, List.length_append, h.len, kk]
      show k * L + P.ps + 1 = _
      omega
    · rw [ps0]
      refine ⟨rfl, ?_, ?_⟩
      · show 0 = (if P.ps + 1 = P.L then 0 else _)
        rw [if_pos c]
      · show (if P.ps + 1 = P.L then 0 else _) ≤ _
        rw [if_pos c]
        exact Nat.zero_le _
    · by_cases lt : k' < k
      · exact past k' lt x hx
      · have : k' = k := by omega
        subst this
        obtain ⟨a, b, d⟩ := c1 x hx
        have lY : (Ys ++ [y]).length = k' * L + L := by rw [List.length_append, h.len]; show k' * L + P.ps + 1 = _; omega
        have eY : sl L k' (Ys ++ [y]) = (Ys ++ [y]).drop (k' * L) := by
          unfold sl
          rw [List.take_of_length_le (by rw [List.length_drop, lY]; omega)]
        have lS : (sl L k' (Ys ++ [y])).length = L := by rw [eY, List.length_drop, lY]; omega
        have gg : gsn x (sl L k' Rs) (sl L k' (Ys ++ [y])) (sl L k' (Ys ++ [y])).length = gsn x (Rs.drop (k' * L)) ((Ys ++ [y]).drop (k' * L)) (P.ps + 1) := by
          rw [lS, cL, eY]
          refine gsn_congr fun i hi => ⟨?_, rfl⟩
          unfold sl
          exact getD_take hi
        unfold brkAt brk
        rw [gg, a, b, decide_eq_false (by omega)]
        show (false || false || _) = false
        have pk : ((sl L k' Rs).all fun R => decide (x ∈ R)) = true → pr x ≤ us1 P y x := fun al => by
          have al : ((Rs.drop (k' * L)).take (P.ps + 1)).all (fun R => decide (x ∈ R)) = true := by rw [cL]; exact al
          rw [fl1] at al
          obtain ⟨a1, a2⟩ := Bool.and_eq_true_iff.mp al
          have xP : x ∈ P.G := by rw [h.eG]; exact hx
          refine Nat.le_of_not_lt fun z => ?_
          obtain ⟨f1, f2, f3, f4⟩ := h.fix x hx
          have w := h.room.turn ok ch x xP a1 (of_decide_eq_true a2) (by rw [f3]; exact z)
          have m := total_mem (f := fun x => P.cp x - us1 P y x) xP
          have m : P.cp x - us1 P y x ≤ total P.G (fun x => P.cp x - us1 P y x) := m
          rw [h.eL] at w
          omega
        cases al : (sl L k' Rs).all fun R => decide (x ∈ R) with
        | false => simp
        | true =>
          have := pk al
          rw [decide_eq_false (by omega : ¬ us1 P y x < pr x)]
          simp
  · have cL : ¬ P.ps + 1 = L := by rw [← h.eL]; exact c
    have ps1 : (P.deal v y).ps = P.ps + 1 := if_neg c
    have us_ : (P.deal v y).us = us1 P y := funext fun x => if_neg c
    have cp_ : (P.deal v y).cp = P.cp := if_neg c
    have cc_ : (P.deal v y).cc = P.cc := if_neg c
    refine ⟨k, eLd, eGd, fun x hx => ?_, ?_, fun x hx => ?_, fun x hx fx lx => ?_, past⟩
    · rw [cp_, cc_]
      exact h.fix x hx
    · rw [ps1, List.length_append, h.len]
      rfl
    · rw [ps1, us_]
      exact c1 x hx
    · have fx : ((Rs.drop (k * L)).take (P.deal v y).ps).all (fun R => decide (x ∈ R)) = true := fx
      rw [ps1, fl1] at fx
      obtain ⟨a1, a2⟩ := Bool.and_eq_true_iff.mp fx
      rw [us_, cp_] at lx
      have w := h.room.turn ok ch x hx a1 (of_decide_eq_true a2) lx
      unfold dfc
      rw [cp_, us_, ps1]
      exact w
theorem Hist.last {L : Nat} {G : List Str} {pr ce : Str → Nat} {Rs : List (List Str)} {Ys : List (Option Str)} {k : Nat} {P : Ps} (h : Hist L G pr ce Rs Ys k P) (ok : P.Ok) (l : Ys.length = Rs.length) : ∀ k', ∀ x ∈ G, brkAt L pr ce Rs Ys k' x = false := fun k' x hx => by
  have L4 := ok.l4
  have hps := ok.ps
  rw [h.eL] at L4 hps
  have hl := h.len
  rcases Nat.lt_trichotomy k' k with z | z | z
  · exact h.past k' z x hx
  · subst z
    obtain ⟨a, b, c⟩ := h.cnt x hx
    have eY : sl L k' Ys = Ys.drop (k' * L) := by
      unfold sl
      rw [List.take_of_length_le (by rw [List.length_drop, hl]; omega)]
    have lS : (sl L k' Ys).length = P.ps := by rw [eY, List.length_drop, hl]; omega
    have gg : gsn x (sl L k' Rs) (sl L k' Ys) (sl L k' Ys).length = gsn x (Rs.drop (k' * L)) (Ys.drop (k' * L)) P.ps := by
      rw [lS, eY]
      refine gsn_congr fun i hi => ⟨?_, rfl⟩
      unfold sl
      exact getD_take (by omega)
    unfold brkAt brk
    rw [gg, a, b, decide_eq_false (by omega : ¬ ce x < P.us x), decide_eq_false (by omega : ¬ k' * L + L ≤ Rs.length)]
    rfl
  · have := kl_lt (L := L) z
    exact brk_beyond L4 l (by omega)
end K28

namespace K28
open PySem PySem.Spec PyProof.Rows L2 Bk


/-! ## 44. a comprehension over a locked dict by names, some left out as drawn -/
section
variable {K : PySem.W.Frag} {σ : L2.St} {H : Hp} {Q : VK} {j m : Nat} {vs : List Nat} {tt : TT} {te tl : TE} {d bx : Addr} {M : List Str} {f : Str → V}
theorem lcFltKB (hb : Box bx m H) (hl : M.length ≤ 1000) (hw : ∀ x, wipe ((wipe σ vs).set j (some x)) vs = wipe σ vs) (hd : H d = some (.dK (dicF M f)))
    (hv : ∀ (od : Obj) (QQ : VK), QQ (.ref d) (upd H d (.frz od (.dK (dicF M f)))) → tl σ (upd H d (.frz od (.dK (dicF M f)))) QQ)
    (hte : ∀ (x : Str) (H1 : Hp) (QQ : VK), QQ (.str x) H1 → te ((wipe σ vs).set j (some (.str x))) H1 QQ)
    (ht : ∀ (x : Str) (k : Nat) (od : Obj) (H1 : Hp) (Q' : Bool → Hp → Prop), x ∈ M → k < m + M.length → Box bx k H1 → But bx (upd H d (.frz od (.dK (dicF M f)))) H1 → (∀ b H2, Box bx (k + 1) H2 → But bx H1 H2 → Q' b H2) → tt ((wipe σ vs).set j (some (.str x))) H1 Q')
    (hq : ∀ (D : Addr) (H' : Hp) (ys : List Str), H D = none → But bx H H' → Box bx (m + M.length) H' → H' D = some (.lst (ys.map V.str)) → ys.length ≤ M.length → (∀ y ∈ ys, y ∈ M) → Q (.ref D) H') : tLockE (tLc (iKeys tl) (gName j) tt te vs) σ H Q := by
  refine ⟨d, .dK (dicF M f), hd, trivial, fun od => ?_⟩
  have e0 : upd H d (.frz od (.dK (dicF M f))) d = some (.frz od (.dK (dicF M f))) := upd_same
  have nbd : bx ≠ d := by
    rintro rfl
    obtain ⟨x, y, z, e, _⟩ := hb
    rw [hd] at e
    exact nomatch e
  refine hv od _ ⟨d, od, rfl, .inl ⟨_, e0, fun D hD => ?_⟩⟩
  obtain ⟨hD1, hD2⟩ := lock_none hD
  have hbL : Box bx m (upd H d (.frz od (.dK (dicF M f)))) := by
    obtain ⟨x, y, z, e, r⟩ := hb
    exact ⟨x, y, z, by rw [upd_ne nbd]; exact e, r⟩
  have nD : D ≠ bx := hbL.ne hD
  replace ht := fun x k H1 Q' a b c e => ht x k od H1 Q' a b c e
  generalize hHL : upd H d (.frz od (.dK (dicF M f))) = HL at e0 hD hbL ht ⊢
  refine lc_it (g := gName j) (tt := tt) (te := te) (vs := vs) (σ := σ) (walk_keys (d := d) (o := od) (kvs := dicF M f)) (fun i G => But bx HL G ∧ Box bx (m + i) G ∧ ∃ ys : List Str, G D = some (.lst (ys.map V.str)) ∧ ys.length ≤ i ∧ ∀ y ∈ ys, y ∈ M)
    ⟨.of (same_upd hD), hbL.same (same_upd hD), [], upd_same, Nat.le_refl _, fun _ z => nomatch z⟩ (fun i G hi ⟨bt, _⟩ => bt _ _ nbd.symm e0) (fun i x H1 H2 hi ⟨bt, hB, ys, e, l, hp⟩ y => ?_) fun G ⟨bt, hB, ys, e, l, hp⟩ => ?_
  · obtain ⟨rfl, k, v, hk, rfl⟩ := y
    rw [dicF_len] at hi
    unfold dicF at hk
    rw [List.getElem?_map, List.getElem?_eq_getElem hi] at hk
    obtain ⟨rfl, _⟩ := Prod.mk.inj (Option.some.inj hk)
    refine ⟨hw _, ht M[i] (m + i) _ _ (List.getElem_mem hi) (by omega) hB bt fun b H3 hB3 b3 => ?_⟩
    have e3 := b3 _ _ nD e
    have bt3 := bt.trans b3
    cases b with
    | false => exact ⟨bt3, hB3, ys, e3, by omega, hp⟩
    | true =>
      rw [if_pos rfl]
      refine hte M[i] H3 _ ⟨_, e3, by rw [List.length_map, sizeLine_eq]; omega, ?_⟩
      refine ⟨fun b o nb eb => by rw [upd_ne (ne_of_none eb hD)]; exact bt3 _ _ nb eb, ?_, ys ++ [M[i]], by rw [upd_same, List.map_append]; rfl, by rw [List.length_append]; exact Nat.succ_le_succ l, fun y hy => ?_⟩
      · obtain ⟨x1, y1, z1, eB, r⟩ := hB3
        exact ⟨x1, y1, z1, by rw [upd_ne nD.symm]; exact eB, r⟩
      · rcases List.mem_append.mp hy with w | w
        · exact hp y w
        · rw [List.mem_singleton.mp w]; exact List.getElem_mem hi
  · rw [dicF_len] at hB l
    refine ⟨bt _ _ nbd.symm e0, hq D _ ys hD1 (unlock_but hd (by rw [hHL]; exact bt)) ?_ (by rw [upd_ne hD2]; exact e) l hp⟩
    obtain ⟨x1, y1, z1, eB, r⟩ := hB
    exact ⟨x1, y1, z1, by rw [upd_ne nbd]; exact eB, r⟩
end
/-- a list of lists of names -/
def RowsL (H : Hp) (a : Addr) (ts : List Addr) (Rs : List (List Str)) : Prop := H a = some (.lst (ts.map V.ref)) ∧ ts.length = Rs.length ∧ ∀ (k : Nat) t R, ts[k]? = some t → Rs[k]? = some R → H t = some (.lst (R.map V.str))
theorem ne_bx {bx g : Addr} {n : Nat} {H : Hp} {u : HO} (h : Box bx n H) (e : H g = some u) (k : ∀ xs, u ≠ .lst xs) : g ≠ bx := by
  rintro rfl
  obtain ⟨x, y, z, eB, _⟩ := h
  rw [e] at eB
  exact k _ (Option.some.inj eB)
def spGuests : Sp := fun vs H Q _ => ∃ (bx : Addr) (n L : Nat), vs = [.ref bx, .int L] ∧ Box bx n H ∧ n < 800000 ∧ 4 ≤ L ∧ L ≤ 60 ∧
  ∀ (g : Addr) (G : List Str) (pr ce : Str → Nat) H', H g = none → But bx H H' → Box bx (n + 50) H' → Prs H' g G pr ce → ShOk L G pr ce → Q (.ref g) H'
def spReadyL : Sp := fun vs H Q _ => ∃ (bx g : Addr) (n m : Nat) (G : List Str) (f : Str → V), vs = [.ref bx, .ref g, .int m] ∧ Box bx n H ∧ n < 800000 ∧ m ≤ 400 ∧ H g = some (.dK (dicF G f)) ∧ G.length ≤ 6 ∧
  ∀ (a : Addr) (ts : List Addr) (Rs : List (List Str)) H', H a = none → (∀ t ∈ ts, H t = none) → But bx H H' → Box bx (n + 6 + 6 * m) H' → RowsL H' a ts Rs → Rs.length = m → (∀ R ∈ Rs, R.length ≤ 6 ∧ ∀ x ∈ R, x ∈ G) → Q (.ref a) H'
def spDealtL : Sp := fun vs H Q _ => ∃ (L : Nat) (g a : Addr) (G : List Str) (pr ce : Str → Nat) (ts : List Addr) (Rs : List (List Str)), vs = [.int L, .ref g, .ref a] ∧ Prs H g G pr ce ∧ ShOk L G pr ce ∧ RowsL H a ts Rs ∧ Rs.length ≤ 400 ∧ (∀ R ∈ Rs, R.length ≤ 6 ∧ ∀ x ∈ R, x ∈ G) ∧
  ∀ (b : Addr) (Ys : List (Option Str)) H', H b = none → Same H H' → H' b = some (.lst (Ys.map nameV)) → Ys.length = Rs.length → (∀ y ∈ Ys, ∀ z, y = some z → z ∈ G) → (∀ k, ∀ x ∈ G, brkAt L pr ce Rs Ys k x = false) → Q (.ref b) H'
section
variable {P : Program} {w : World} {K : PySem.W.Frag} {mg : Str → Option Value} {base : Heap} {A : Ad}
theorem ok_guests {f : Addr} {fd : FuncData} (F : Fun K "_law_guests" "_law_guests" s_guests_L f fd) (T : Txt K mg A) (c_take_L : CalD P w K mg base CX0 1 "_law_take" spTake []) (c_names_L : CalD P w K mg base CX0 2 "_law_names" spNames8 []) (c_share_L : CalD P w K mg base CX0 2 "_law_share" spShare []) : FnOk P w K mg base CX0 3 f fd ["_law_box_here", "_law_size"] spGuests := by
  refine F.ok sc_guests_L (fun vs H Q E h => ?_) (fun cdv A' outer s H vs Q E hr h => have hu65 := units65 hr; have hu64 := hr.units; have hu := units1 hr; ⟨_, (pss_cons (ps_set (i := 2) sc_guests_L.nd rfl (.inl rfl) (pe_cal c_names_L hr (by decide) (by rfl) (pa_cons (pv 0) (pa_cons (pe_op op_add pe_int (pe_cal c_take_L hr (by decide) (by rfl) (pa_cons (pv 0) (pa_cons pe_int pa_nil)))) pa_nil))))
    (pss_cons (ps_set (i := 3) sc_guests_L.nd rfl (.inl rfl) (pv 1))
    (pss_cons (ps_set (i := 4) sc_guests_L.nd rfl (.inl rfl) pe_dnewK)
    (pss_cons (ps_for PassesOwn.never rfl (pi_list (pv 2)) (pg_name (i := 5) sc_guests_L.nd rfl (.inl rfl))
      (pss_cons (ps_asg (pe_cal c_share_L hr (by decide) (by rfl) (pa_cons (pv 0) (pa_cons (pv 1) (pa_cons (pv 3) pa_nil)))) (pg_sub (pv 4) (pv 5) (set_dict hu)))
    (pss_one (ps_set (i := 3) sc_guests_L.nd rfl (.inl rfl) (pe_op op_sub (pv 3) (pe_ix ix_tup (pe_dget hu (pv 4) (pv 5) (fun _ _ => rfl)) pe_int (fun _ _ => rfl)))))))
    (pss_one (ps_ret (pv 4))))))), ?_⟩)
  · obtain ⟨bx, n, L, rfl, _⟩ := h
    rfl
  · obtain ⟨bx, n, L, rfl, hB, hn, l4, l60, q⟩ := h
    walk_at "go"
    refine r_take hB (fun d H1 h0 h1 hB1 b1 => ?_)
    obtain ⟨d, rfl⟩ := Int.eq_ofNat_of_zero_le h0
    walk_at "go"
    refine ⟨bx, _, 1 + d, by rw [Int.natCast_add]; rfl, by omega, hB1, by omega, fun D H2 N nD b2 hB2 eD lN hN ndN => ?_⟩
    have nDb : D ≠ bx := hB1.ne nD
    walk_at "go"
    intro g ng
    have s3 : Same H2 (upd H2 g (.dK [])) := same_upd ng
    have eg : upd H2 g (.dK []) g = some (.dK []) := upd_same
    generalize upd H2 g (.dK []) = H3 at s3 eg ⊢
    have eD3 := s3 _ _ eD
    have hB3 := hB2.same s3
    walk_at "go"
    refine ⟨D, rfl, ⟨_, sqL eD3⟩, for_list (K := K) (a := D) (xs := N.map V.str) (fun i σ G2 => ∃ (pr ce : Str → Nat) (tt : Str → Addr) (x5 : Option V), σ = [some (.ref bx), some (.int L), some (.ref D), some (.int ((L - total (N.take i) pr : Nat) : Int)), some (.ref g), x5] ∧ total (N.take i) pr ≤ L ∧ (∀ x ∈ N.take i, pr x ≤ ce x ∧ 1 ≤ ce x ∧ ce x ≤ L) ∧ G2 g = some (.dK (dicF (N.take i) fun x => .ref (tt x))) ∧ (∀ x ∈ N.take i, G2 (tt x) = some (.tup [.int (pr x), .int (ce x)])) ∧ Box bx (n + 10 + 4 * i) G2 ∧ ∀ b u, H3 b = some u → b ≠ bx → b ≠ g → G2 b = some u)
      ⟨fun _ => 0, fun _ => 0, fun _ => 0, none, by rfl, Nat.zero_le _, (fun _ z => nomatch z), eg, (fun _ z => nomatch z), hB3.mono (by omega), fun _ _ e _ _ => e⟩ (fun i σ G2 _ h => by obtain ⟨_, _, _, _, _, _, _, _, _, _, fr⟩ := h; exact sqL (fr _ _ eD3 nDb (ne_ct eD3 eg fun z => nomatch z))) ?_ ?_⟩
    · rintro i yv σ G2 hi ⟨pr, ce, tt, x5, rfl, fit, pc, eg2, ett, hBi, fr⟩
      rw [List.getElem?_map] at hi
      cases c : N[i]? with
      | none => rw [c] at hi; exact nomatch hi
      | some x =>
        rw [c] at hi
        obtain rfl := Option.some.inj hi
        have xN := List.mem_of_getElem? c
        have ny := not_yet ndN c
        have tk := take_succ' c
        have hl := (List.getElem?_eq_some_iff.mp c).1
        walk_at "go"
        refine ⟨bx, _, L, L - total (N.take i) pr, rfl, hBi, by omega, l4, l60, by omega, fun t p q2 H4 nt b4 hB4 et pf pq q1 ql => ?_⟩
        have gb : g ≠ bx := (ne_bx hBi eg2 fun _ z => nomatch z)
        have tg : t ≠ g := fun z => by rw [z, eg2] at nt; exact nomatch nt
        have tb : t ≠ bx := hBi.ne nt
        have hput : putK (dicF (N.take i) fun y => V.ref (tt y)) (.inr x) (.ref t) = dicF (N.take (i + 1)) (fun y => .ref (if y = x then t else tt y)) := by
          rw [dicF_put, if_neg ny, tk]
          refine dicF_congr fun y _ => ?_
          by_cases e : y = x
          · rw [if_pos e, if_pos e]
          · rw [if_neg e, if_neg e]
        walk_at "go"
        refine ⟨g, _, rfl, .inl ⟨_, .inr x, b4 _ _ gb eg2, rfl, by rw [dicF_len, List.length_take, sizeLine_eq]; omega, rfl⟩, ?_⟩
        rw [hput]
        have eg5 : upd H4 g (.dK (dicF (N.take (i + 1)) (fun y => .ref (if y = x then t else tt y)))) g = some (.dK (dicF (N.take (i + 1)) (fun y => .ref (if y = x then t else tt y)))) := upd_same
        have k5 : ∀ b u, b ≠ g → H4 b = some u → upd H4 g (.dK (dicF (N.take (i + 1)) (fun y => .ref (if y = x then t else tt y)))) b = some u := fun b u n e => by rw [upd_ne n]; exact e
        generalize upd H4 g (.dK (dicF (N.take (i + 1)) (fun y => .ref (if y = x then t else tt y)))) = H5 at eg5 k5 ⊢
        have et5 := k5 _ _ tg et
        have xm : x ∈ N.take (i + 1) := by rw [tk]; exact List.mem_append_right _ (List.mem_singleton.mpr rfl)
        walk_at "go"
        refine r_dgV rfl rfl (.inl eg5) (y := .ref t) (by rw [dicF_get, if_pos xm, if_pos rfl]) ?_
        walk_at "go"
        refine r_ixT (sqT et5) (v := .int p) rfl ?_
        walk_at "go"
        have nx : ∀ {y}, y ∈ N.take i → y ≠ x := fun hy z => ny (by rw [← z]; exact hy)
        have tot : total (N.take (i + 1)) (setF pr x p) = total (N.take i) pr + p := by
          rw [tk, total_app, setF_same]
          congr 1
          exact total_congr fun y hy => setF_ne (nx hy)
        have mem : ∀ {y}, y ∈ N.take (i + 1) → y ∈ N.take i ∨ y = x := fun hy => by
          rw [tk] at hy
          exact (List.mem_append.mp hy).imp id fun w => List.mem_singleton.mp w
        refine ⟨setF pr x p, setF ce x q2, fun y => if y = x then t else tt y, some (.str x), ?_, by rw [tot]; omega, fun y hy => ?_, eg5, fun y hy => ?_, ?_, fun b u e n1 n2 => k5 _ _ n2 (b4 _ _ n1 (fr b u e n1 n2))⟩
        · rw [tot, show ((L - (total (N.take i) pr + p) : Nat) : Int) = ((L - total (N.take i) pr : Nat) : Int) - (p : Nat) by omega]
          rfl
        · rcases mem hy with w | w
          · rw [setF_ne (nx w), setF_ne (nx w)]; exact pc y w
          · rw [w, setF_same, setF_same]; exact ⟨pq, q1, ql⟩
        · rcases mem hy with w | w
          · show H5 (if y = x then t else tt y) = _
            rw [setF_ne (nx w), setF_ne (nx w), if_neg (nx w)]
            have z := ett y w
            exact k5 _ _ (ne_ct z eg2 (fun z => nomatch z)) (b4 _ _ (hBi.ne_tup z) z)
          · show H5 (if y = x then t else tt y) = _
            rw [w, setF_same, setF_same, if_pos rfl]; exact et5
        · obtain ⟨a1, c1, z1, eB, rr⟩ := hB4.mono (m := n + 10 + 4 * (i + 1)) (by omega)
          exact ⟨a1, c1, z1, k5 _ _ gb.symm eB, rr⟩
    · rintro σ G2 ⟨pr, ce, tt, x5, rfl, fit, pc, eg2, ett, hBi, fr⟩
      rw [List.length_map] at fit pc eg2 ett hBi
      rw [List.take_length] at fit pc eg2 ett
      walk_at "go"
      have b12 := b1.trans b2
      have ngH : H g = none := by
        cases z : H g with
        | none => rfl
        | some u => rw [b12 _ _ (hB2.ne ng) z] at ng; exact nomatch ng
      exact q g N pr ce G2 ngH (fun b u nb eb => fr b u (s3 _ _ (b12 _ _ nb eb)) nb (ne_of_none (b12 _ _ nb eb) ng)) (hBi.mono (by omega)) ⟨tt, eg2, ett⟩ ⟨l4, l60, by omega, ndN, hN, pc, fit⟩
theorem ok_readyL {f : Addr} {fd : FuncData} (F : Fun K "_law_ready" "_law_ready" s_ready_L f fd) (T : Txt K mg A) (c_take_L : CalD P w K mg base CX0 1 "_law_take" spTake []) : FnOk P w K mg base CX0 2 f fd ["_law_box_here", "_law_some", "_law_turns"] spReadyL := by
  refine F.ok sc_ready_L (fun vs H Q E h => ?_) (fun cdv A' outer s H vs Q E hr h => have hu65 := units65 hr; have hu64 := hr.units; have hu := units1 hr; ⟨_, (pss_cons (ps_set (i := 3) sc_ready_L.nd rfl (.inr rfl) (pe_lock (pe_lc (own := [("_law_label", 6)]) rfl sc_ready_L.nd (pi_keys (pv 1)) (blkOk_by (N := ["_law_box_here", "_law_some", "_law_turns", "_law_always", "_law_rows", "_law_turn", "_law_label"]) (sc := defScope s_ready_L) (by decide +kernel)) (fun _ _ _ _ _ => (pg_name (i := 6) sc_ready_L.nd rfl (.inl rfl))) (fun _ _ _ _ _ => pts_one (pt_cmpR op_eq (pe_cal c_take_L hr (by decide) (by rfl) (pa_cons (pv 0) (pa_cons pe_int pa_nil))) pe_int (nomark _))) (fun _ _ _ _ _ => (pv 6)))))
    (pss_cons (ps_set (i := 4) sc_ready_L.nd rfl (.inl rfl) (pe_lstB pa_nil))
    (pss_cons (ps_for PassesOwn.never rfl (pi_range1 (by rfl) T.m_range (pa_cons (pv 2) pa_nil)) (pg_name (i := 5) sc_ready_L.nd rfl (.inl rfl))
      (pss_one (ps_expr (pe_bm PySem.F.plainAttrs_list PySem.F.slot_list_append PySem.F.type_list_append mt_append (pv 4) (pa_cons (pe_lock (pe_lc (own := [("_law_label", 6)]) rfl sc_ready_L.nd (pi_keys (pv 1)) (blkOk_by (N := ["_law_box_here", "_law_some", "_law_turns", "_law_always", "_law_rows", "_law_turn", "_law_label"]) (sc := defScope s_ready_L) (by decide +kernel)) (fun _ _ _ _ _ => (pg_name (i := 6) sc_ready_L.nd rfl (.inl rfl))) (fun _ _ _ _ _ => pts_one (PW.pt (pw_or (pt_cmpR (op_in_seqK (K := K) rfl) (pv 6) (pv 3) (by rfl)) (pw_or1 (pt_cmpR op_eq (pe_cal c_take_L hr (by decide) (by rfl) (pa_cons (pv 0) (pa_cons pe_int pa_nil))) pe_int (nomark _)))))) (fun _ _ _ _ _ => (pv 6)))) pa_nil)))))
    (pss_one (ps_ret (pv 4)))))), ?_⟩)
  · obtain ⟨bx, g, n, m, G, f, rfl, _⟩ := h
    rfl
  · obtain ⟨bx, g, n, m, G, f, rfl, hB, hn, m4, eg, six, q⟩ := h
    walk_at "go"
    refine lcFltK hB (by omega) (fun _ => rfl) eg (fun od QQ z => ⟨_, rfl, z⟩) (fun x H1 QQ z => ⟨_, rfl, z⟩) (fun x k H1 Q' hx hk hB1 kk => ?_) fun al H1 R nal b1 hB1 eal R6 RG => ?_
    · walk_at "go"
      refine r_take hB1 (fun d H2 h0 h1 hB2 b2 => ?_) (by omega)
      walk_at "go"
      exact kk _ H2 hB2 b2
    have nab : al ≠ bx := hB.ne nal
    walk_at "go"
    refine newLB fun a H2 n2 g2 s2 e2 => ?_
    walk_at "go"
    have b12 : But bx H H2 := b1.same s2
    have naH : H a = none := by
      cases z : H a with
      | none => rfl
      | some u => rw [b1 _ _ (hB1.ne n2) z] at n2; exact nomatch n2
    have nab2 : a ≠ bx := hB1.ne n2
    have eg2 : H2 g = some (.dK (dicF G f)) := b12 _ _ (ne_bx hB eg fun _ z => nomatch z) eg
    have eal2 := s2 _ _ eal
    have gb : g ≠ bx := ne_bx hB eg fun _ z => nomatch z
    refine ⟨m, rfl, by omega, by omega, ?_⟩
    rw [Int.toNat_natCast]
    refine for_range (fun i σ G2 => ∃ (ts : List Addr) (Rs : List (List Str)) (x5 : Option V), σ = [some (.ref bx), some (.ref g), some (.int m), some (.ref al), some (.ref a), x5, none] ∧ RowsL G2 a ts Rs ∧ Rs.length = i ∧ (∀ R ∈ Rs, R.length ≤ 6 ∧ ∀ x ∈ R, x ∈ G) ∧ (∀ t ∈ ts, H2 t = none) ∧ Box bx (n + 6 + 6 * i) G2 ∧ ∀ b u, H2 b = some u → b ≠ bx → b ≠ a → G2 b = some u)
      ⟨[], [], none, rfl, ⟨e2, rfl, fun _ _ _ z => nomatch z⟩, rfl, (fun _ z => nomatch z), (fun _ z => nomatch z), (hB1.same s2).mono (by omega), fun _ _ e _ _ => e⟩ ?_ ?_
    · rintro i σ G2 hi ⟨ts, Rs, x5, rfl, hRw, lR, hRG, fts, hBi, fr⟩
      obtain ⟨ea, lt, all⟩ := hRw
      have al_a : al ≠ a := ne_of_none eal n2
      have ga : g ≠ a := ne_ct eg2 e2 fun z => nomatch z
      walk_at "go"
      refine ⟨.inl ⟨rfl, _, sqL ea⟩, ?_⟩
      walk_at "go"
      refine lcFltKB hBi (by omega) (fun _ => rfl) (fr _ _ eg2 gb ga) (fun od QQ z => ⟨_, rfl, z⟩) (fun x H1 QQ z => ⟨_, rfl, z⟩) (fun x k od H1 Q' hx hk hB1 bt kk => ?_) fun t H4 R2 nt b4 hB4 et R26 R2G => ?_
      · have eal1 : H1 al = some (.lst (R.map V.str)) := bt _ _ nab (by
          rw [upd_ne (ne_ct eal2 eg2 fun z => nomatch z)]
          exact fr _ _ eal2 nab al_a)
        walk_at "go"
        refine ⟨al, _, rfl, .inl (sqL eal1), rfl, List.all_eq_true.mpr fun v hv => ?_, ?_⟩
        · obtain ⟨z, _, rfl⟩ := List.mem_map.mp hv
          rfl
        rw [if_neg Bool.false_ne_true, inV_str]
        refine ⟨_, rfl, ?_⟩
        by_cases mm : x ∈ R
        · rw [decide_eq_true mm]
          exact kk true H1 (hB1.mono (Nat.le_succ _)) (fun _ _ _ e => e)
        · rw [decide_eq_false mm]
          walk_at "go"
          refine r_take hB1 (fun d H2 h0 h1 hB2 b2 => ?_) (by omega)
          walk_at "go"
          exact kk _ H2 hB2 b2
      · have tb : t ≠ bx := hBi.ne nt
        have ta : t ≠ a := fun z => by rw [z, ea] at nt; exact nomatch nt
        have ea4 := b4 _ _ nab2 ea
        walk_at "go"
        refine ⟨a, _, _, rfl, rfl, ea4, by rw [List.length_map, sizeLine_eq]; omega, ?_⟩
        refine ⟨ts ++ [t], Rs ++ [R2], _, rfl, ⟨by rw [upd_same, List.map_append]; rfl, by rw [List.length_append, List.length_append, lt]; rfl, fun k u R hu hR => ?_⟩, by rw [List.length_append, lR]; rfl, fun R hR => ?_, fun u hu => ?_, ?_, fun b u e n1 n2 => by rw [upd_ne n2]; exact b4 _ _ n1 (fr b u e n1 n2)⟩
        · have hlt : k < ts.length + 1 := by
            have := (List.getElem?_eq_some_iff.mp hu).1
            rw [List.length_append] at this
            exact this
          by_cases hk2 : k < ts.length
          · rw [List.getElem?_append_left hk2] at hu
            rw [List.getElem?_append_left (by omega)] at hR
            have w := all k u R hu hR
            have um := fts u (List.mem_of_getElem? hu)
            rw [upd_ne (ne_of_none e2 um).symm]
            exact b4 _ _ (fun z => by
              obtain ⟨x1, y1, z1, eB, _⟩ := hB1.same s2
              rw [z, eB] at um
              exact nomatch um) w
          · have e3 : k = ts.length := by omega
            subst e3
            rw [List.getElem?_append_right (Nat.le_refl _), Nat.sub_self] at hu
            rw [List.getElem?_append_right (by omega), lt, Nat.sub_self] at hR
            obtain rfl := Option.some.inj hu
            obtain rfl := Option.some.inj hR
            rw [upd_ne ta]
            exact et
        · rcases List.mem_append.mp hR with w | w
          · exact hRG R w
          · rw [List.mem_singleton.mp w]
            exact ⟨by omega, R2G⟩
        · rcases List.mem_append.mp hu with w | w
          · exact fts u w
          · rw [List.mem_singleton.mp w]
            cases z : H2 t with
            | none => rfl
            | some u => rw [fr _ _ z tb ta] at nt; exact nomatch nt
        · obtain ⟨a1, c1, z1, eB, rr⟩ := hB4.mono (m := n + 6 + 6 * (i + 1)) (by omega)
          exact ⟨a1, c1, z1, by rw [upd_ne nab2.symm]; exact eB, rr⟩
    · rintro σ G2 ⟨ts, Rs, x5, rfl, hRw, lR, hRG, fts, hBi, fr⟩
      walk_at "go"
      exact q a ts Rs G2 naH (fun t ht => by
        have z := fts t ht
        cases w : H t with
        | none => rfl
        | some u => rw [b12 _ _ (fun v => by
            obtain ⟨x, y, zz, eB, _⟩ := hB1.same s2
            rw [v, eB] at z
            exact nomatch z) w] at z; exact nomatch z) (fun b u nb eb => fr b u (b12 _ _ nb eb) nb (ne_of_none eb naH)) hBi hRw lR hRG
end
end K28

namespace K28
open PySem PySem.Spec PyProof.Rows L2 Bk


section
variable {P : Program} {w : World} {K : PySem.W.Frag} {mg : Str → Option Value} {base : Heap} {A : Ad}
theorem ok_dealtL {f : Addr} {fd : FuncData} (F : Fun K "_law_dealt" "_law_dealt" s_dealt_L f fd) (T : Txt K mg A) (c_Shares_init : CalC P w K mg base (L2.CX P w) 5 A.CS "Shares" (spInitS A)) (c_Shares_come : CalM P w K mg base (L2.CX P w) 6 A.CS "come" (spCome A)) (c_Shares_deal : CalM P w K mg base (L2.CX P w) 5 A.CS "deal" (spDeal A)) : FnOk P w K mg base CX0 7 f fd ["_law_size", "_law_some", "_law_those"] spDealtL := by
  refine F.ok sc_dealt_L (fun vs H Q E h => ?_) (fun cdv A' outer s H vs Q E hr h => have hu65 := units65 hr; have hu64 := hr.units; have hu := units1 hr; ⟨_, (pss_cons (ps_set (i := 3) sc_dealt_L.nd rfl (.inr rfl) (pe_mk c_Shares_init hr (by decide) (by rfl) psY (pa_cons (pv 0) pa_nil)))
    (pss_cons (ps_lock (ps_for PassesOwn.never rfl (pi_items (pv 1)) (pg_tup rfl (pgs_cons (pg_name (i := 4) sc_dealt_L.nd rfl (.inl rfl)) (pgs_cons (pg_name (i := 5) sc_dealt_L.nd rfl (.inl rfl)) pgs_nil)))
      (pss_one (ps_expr (pe_mth (pv 3) T.cl_Shares c_Shares_come hr (by decide) psY (pa_cons (pv 4) (pa_cons (pe_ix ix_tup (pv 5) pe_int (fun _ _ => rfl)) (pa_cons (pe_ix ix_tup (pv 5) pe_int (fun _ _ => rfl)) pa_nil))))))))
    (pss_one (ps_ret (pe_lc (own := [("_law_row", 6)]) rfl sc_dealt_L.nd (pi_list (pv 2)) (blkOk_by (N := ["_law_size", "_law_some", "_law_those", "_law_shares", "_law_label", "_law_share_here", "_law_row"]) (sc := defScope s_dealt_L) (by decide +kernel)) (fun _ _ _ _ _ => (pg_name (i := 6) sc_dealt_L.nd rfl (.inl rfl))) (fun _ _ _ _ _ => pts_nil) (fun _ _ _ _ _ => (pe_mth (pv 3) T.cl_Shares c_Shares_deal hr (by decide) psY (pa_cons (pv 6) pa_nil)))))))), ?_⟩)
  · obtain ⟨L, g, a, G, pr, ce, ts, Rs, rfl, _⟩ := h
    rfl
  · obtain ⟨L, g, a, G, pr, ce, ts, Rs, rfl, hp, ok, ⟨ea, lt, all⟩, n4, RG, q⟩ := h
    obtain ⟨tt, et, ht⟩ := hp
    have l4 := ok.l4
    have l60 := ok.l60
    have six := ok.six
    walk_at "go"
    intro x dx nx ndx nex
    have t0 : Same H (upd (upd H dx (.own x)) x (.ins A.CS dx [])) := fun b o e => by
      rw [upd_ne (ne_of_none e nx), upd_ne (ne_of_none e ndx)]
      exact e
    refine ⟨x, dx, L, rfl, l4, l60, upd_same, fun S H1 so b1 fr1 hS1 => ⟨rfl, ?_⟩⟩
    have s1 : Same H H1 := fun b o e => b1 _ _ (ne_of_none e nx) (t0 _ _ e)
    have own1 : ∀ b, S.own b → H b = none := fun b o => by
      rcases fr1 b o with z | z
      · rw [z]; exact nx
      · cases w : H b with
        | none => rfl
        | some u => rw [t0 _ _ w] at z; exact nomatch z
    subst so
    clear t0 fr1 b1 nx
    have et1 := s1 _ _ et
    have nog : ¬ S.own g := fun o => by rw [own1 g o] at et; exact nomatch et
    walk_at "go"
    refine ⟨g, .dK (dicF G fun x => .ref (tt x)), et1, trivial, fun od => ?_⟩
    have eL : upd H1 g (.frz od (.dK (dicF G fun x => .ref (tt x)))) g = some (.frz od (.dK (dicF G fun x => .ref (tt x)))) := upd_same
    have lk : ∀ b u, b ≠ g → H1 b = some u → upd H1 g (.frz od (.dK (dicF G fun x => .ref (tt x)))) b = some u := fun b u nb eb => by rw [upd_ne nb]; exact eb
    have hSL : Sh A.CS (upd H1 g (.frz od (.dK (dicF G fun x => .ref (tt x))))) S ⟨L, [], fun _ => 0, fun _ => 0, fun _ => 0, fun _ => 0, fun _ => 0, 0, []⟩ := hS1.stay (fun b u o e => lk _ _ (fun z => nog (by rw [← z]; exact o)) e) fun a xs e => lk _ _ (ne_ct e et1 (fun z => nomatch z)) e
    have htL : ∀ x ∈ G, upd H1 g (.frz od (.dK (dicF G fun x => .ref (tt x)))) (tt x) = some (.tup [.int (pr x), .int (ce x)]) ∧ ¬ S.own (tt x) := fun x hx => ⟨lk _ _ (ne_ct (s1 _ _ (ht x hx)) et1 (fun z => nomatch z)) (s1 _ _ (ht x hx)), fun o => by have w := ht x hx; rw [own1 _ o] at w; exact nomatch w⟩
    generalize hHL : upd H1 g (.frz od (.dK (dicF G fun x => .ref (tt x)))) = HL at eL hSL htL lk ⊢
    refine ⟨_, rfl, g, od, _, rfl, eL, for_it walk_items (fun i σ G2 => ∃ (P : Ps) (x4 x5 : Option V), σ = [some (.int L), some (.ref g), some (.ref a), some (.ref S.o), x4, x5, none] ∧ Sh A.CS G2 S P ∧ P.G = G.take i ∧ P.L = L ∧ P.ps = 0 ∧ P.dl = [] ∧ (∀ y ∈ P.G, P.pr y = pr y ∧ P.ce y = ce y) ∧ ∀ b u, HL b = some u → ¬ S.own b → G2 b = some u)
      ⟨_, none, none, rfl, hSL, rfl, rfl, rfl, rfl, (fun _ z => nomatch z), fun _ _ e _ => e⟩ (fun i σ G2 _ h => by obtain ⟨_, _, _, _, _, _, _, _, _, _, fr⟩ := h; exact fr _ _ eL nog) (fun i yv σ G2 G3 hi hP hY => ?_) (fun σ G2 hP => ?_)⟩
    · obtain ⟨P, x3, x4, rfl, hS, eG, eLn, ps0, dl0, epr, fr⟩ := hP
      obtain ⟨Tp, a2, b, rfl, nT, rfl, ha, hb⟩ := hY
      rw [dicF_len] at hi
      have ha : (G.map fun x => ((Sum.inr x : Key), V.ref (tt x)))[i]?.map (fun kv => kV kv.1) = some a2 := ha
      have hb : (G.map fun x => ((Sum.inr x : Key), V.ref (tt x)))[i]?.map Prod.snd = some b := hb
      rw [List.getElem?_map, List.getElem?_eq_getElem hi] at ha hb
      obtain rfl := Option.some.inj ha
      obtain rfl := Option.some.inj hb
      have hx := List.getElem?_eq_getElem hi
      have xG : G[i] ∈ G := List.getElem_mem hi
      generalize G[i] = x at hx xG ⊢
      have sT : Same G2 (upd G2 Tp (.tup [V.str x, V.ref (tt x)])) := same_upd nT
      have eT : upd G2 Tp (.tup [V.str x, V.ref (tt x)]) Tp = some (.tup [V.str x, V.ref (tt x)]) := upd_same
      show gTup _ _ _ _ _ (upd G2 Tp (.tup [V.str x, V.ref (tt x)])) _
      have hS := hS.same sT
      have fr2 : ∀ b u, HL b = some u → ¬ S.own b → upd G2 Tp (.tup [V.str x, V.ref (tt x)]) b = some u := fun b u e o => sT _ _ (fr b u e o)
      generalize upd G2 Tp (.tup [V.str x, V.ref (tt x)]) = G3 at sT eT hS fr2 ⊢
      obtain ⟨el, eo⟩ := htL x xG
      have ex := fr2 _ _ el eo
      obtain ⟨p1, p2, p3⟩ := ok.pc x xG
      obtain ⟨dx2, fs, e, fL, fT, fC, fU, fP, fD, fn⟩ := hS.ob
      have nof : ∀ m : Str, (m == ("_length" : Str)) = false → (m == ("_told" : Str)) = false → (m == ("_counts" : Str)) = false → (m == ("_used" : Str)) = false → (m == ("_passed" : Str)) = false → (m == ("_dealt" : Str)) = false → fs.lookup m = none := fn.2
      have tk := take_succ' hx
      have tp : total P.G P.pr = total (G.take i) pr := by
        rw [← eG]
        exact total_congr fun y hy => (epr y hy).1
      have tl : total (G.take i) pr + pr x ≤ L := by
        have z := total_app (G := G.take i) (f := pr) (x := x)
        rw [← tk] at z
        have w := total_take (f := pr) (G := G) (i := i + 1)
        have f := ok.fit
        omega
      refine ⟨_, _, rfl, sqT eT, rfl, ?_⟩
      refine ⟨_, _, rfl, _, _, rfl, rfl, ?_⟩
      walk_at "go"
      refine ⟨S.o, dx2, fs, rfl, e, nof _ (by decide +kernel) (by decide +kernel) (by decide +kernel) (by decide +kernel) (by decide +kernel) (by decide +kernel), ?_⟩
      walk_at "go"
      refine r_ixT (sqT ex) (v := .int (pr x)) rfl ?_
      walk_at "go"
      refine r_ixT (sqT ex) (v := .int (ce x)) rfl ?_
      walk_at "go"
      refine ⟨S, P, x, pr x, ce x, rfl, hS, ok.nm x xG, by rw [eG]; exact not_yet ok.nd hx, by rw [eG, List.length_take]; omega, p1, p2, by rw [eLn]; exact p3, by rw [tp, eLn]; exact tl, fun H4 k4 sh4 => ?_⟩
      walk_at "go"
      refine ⟨P.come x (pr x) (ce x), _, _, rfl, sh4, by rw [tk]; show P.G ++ [x] = _; rw [eG], eLn, ps0, dl0, fun y hy => ?_, fun b u e o => (k4 b u (fr2 b u e o) o).1⟩
      show setF P.pr x (pr x) y = pr y ∧ setF P.ce x (ce x) y = ce y
      by_cases c : y = x
      · rw [c, setF_same, setF_same]; exact ⟨rfl, rfl⟩
      · rw [setF_ne c, setF_ne c]
        exact epr y ((List.mem_append.mp hy).elim id fun w => absurd (List.mem_singleton.mp w) c)
    · obtain ⟨P, x3, x4, rfl, hS, eG, eLn, ps0, dl0, epr, fr⟩ := hP
      rw [dicF_len, List.take_length] at eG
      refine ⟨fr _ _ eL nog, ?_⟩
      have fr2 : ∀ b u, H b = some u → upd G2 g (.dK (dicF G fun x => .ref (tt x))) b = some u ∧ ¬ S.own b := fun b u eb => by
        have ob : ¬ S.own b := fun o => by rw [own1 b o] at eb; exact nomatch eb
        refine ⟨?_, ob⟩
        by_cases h : b = g
        · rw [h, upd_same, ← et, ← h]; exact eb
        · rw [upd_ne h]
          exact fr _ _ (lk _ _ h (s1 _ _ eb)) ob
      have hS2 : Sh A.CS (upd G2 g (.dK (dicF G fun x => .ref (tt x)))) S P := hS.stay (fun b u o e => by rw [upd_ne (fun z => nog (by rw [← z]; exact o))]; exact e) fun a xs e => by rw [upd_ne (ne_ct e (fr _ _ eL nog) (fun z => nomatch z))]; exact e
      generalize upd G2 g (.dK (dicF G fun x => .ref (tt x))) = G3 at fr2 hS2 ⊢
      have zz := hS2.ok.zero ps0
      have h0 : Hist L G pr ce Rs [] 0 P := ⟨eLn, eG, fun x hx => by
          have xP : x ∈ P.G := by rw [eG]; exact hx
          obtain ⟨e1, e2⟩ := epr x xP
          obtain ⟨z1, z2, z3⟩ := zz x xP
          exact ⟨e1, e2, z1.trans e1, z2.trans e2⟩, by rw [ps0, Nat.zero_mul]; rfl, fun x hx => by
          have xP : x ∈ P.G := by rw [eG]; exact hx
          rw [ps0, (zz x xP).2.2]
          exact ⟨rfl, rfl, Nat.zero_le _⟩, Room.zero hS2.ok ps0, fun k h => absurd h (Nat.not_lt_zero _)⟩
      have ea3 := (fr2 _ _ ea).1
      walk_at "go"
      refine ⟨_, rfl, a, rfl, ⟨_, sqL ea3⟩, fun D nD => ?_⟩
      have nDH : H D = none := by
        cases z : H D with
        | none => rfl
        | some u => rw [(fr2 _ _ z).1] at nD; exact nomatch nD
      refine lc_it (walk_list (K := K) (a := a) (xs := ts.map V.ref)) (fun i G4 => ∃ (S' : Sa) (P' : Ps) (k : Nat) (Ys : List (Option Str)), S'.o = S.o ∧ Sh A.CS G4 S' P' ∧ Hist L G pr ce Rs Ys k P' ∧ G4 D = some (.lst (Ys.map nameV)) ∧ Ys.length = i ∧ P'.dl.length = i ∧ (∀ y ∈ Ys, ∀ z, y = some z → z ∈ G) ∧ ¬ S'.own D ∧ ∀ b u, H b = some u → G4 b = some u ∧ ¬ S'.own b)
        ⟨S, P, 0, [], rfl, hS2.stay (fun b u o e => by rw [upd_ne (ne_of_none e nD)]; exact e) (fun a xs e => by rw [upd_ne (ne_of_none e nD)]; exact e), h0, upd_same, rfl, by rw [dl0]; rfl, (fun _ z => nomatch z), hS2.nown nD, fun b u e => ⟨by rw [upd_ne (ne_of_none e nDH)]; exact (fr2 b u e).1, (fr2 b u e).2⟩⟩
        (fun i G4 _ h => by obtain ⟨_, _, _, _, _, _, _, _, _, _, _, _, f4⟩ := h; exact sqL (f4 _ _ ea).1) (fun i xv H4 H5 hi hI y => ?_) fun G4 hI => ?_
      · obtain ⟨rfl, hx⟩ := y
        obtain ⟨S', P', k, Ys, so', sh', hist, eD, lYs, ldl, yG, noD, f4⟩ := hI
        rw [List.length_map] at hi
        rw [List.getElem?_map] at hx
        cases c : ts[i]? with
        | none => rw [c] at hx; exact nomatch hx
        | some t =>
          rw [c] at hx
          obtain rfl := Option.some.inj hx
          have hi2 : i < Rs.length := by omega
          have cR := List.getElem?_eq_getElem hi2
          have er := (f4 _ _ (all i t _ c cR)).1
          have rg := RG _ (List.mem_of_getElem? cR)
          generalize Rs[i] = R at cR er rg
          obtain ⟨dx2, fs, e, fL, fT, fC, fU, fP, fD, fn⟩ := sh'.ob
          rw [so'] at e
          have nof : ∀ m : Str, (m == ("_length" : Str)) = false → (m == ("_told" : Str)) = false → (m == ("_counts" : Str)) = false → (m == ("_used" : Str)) = false → (m == ("_passed" : Str)) = false → (m == ("_dealt" : Str)) = false → fs.lookup m = none := fn.2
          refine ⟨rfl, r_yes ?_⟩
          walk_at "go"
          refine ⟨S.o, dx2, fs, rfl, e, nof _ (by decide +kernel) (by decide +kernel) (by decide +kernel) (by decide +kernel) (by decide +kernel) (by decide +kernel), ?_⟩
          walk_at "go"
          refine ⟨S', P', t, R, by rw [so'], sh', er, rg.1, (fun x hx => by rw [hist.eG]; exact rg.2 x hx), by omega, fun S2 yy H6 ch so2 k2 sh2 => ?_⟩
          obtain ⟨eD6, noD2⟩ := k2 _ _ eD noD
          obtain ⟨k', hist2⟩ := hist.step (v := nameV yy) sh'.ok sh2.ok (by rw [lYs]; exact cR) ch
          refine ⟨_, eD6, by rw [List.length_map, sizeLine_eq]; omega, S2, _, k', Ys ++ [yy], so2.trans so', sh2.stay (fun b u o e => by rw [upd_ne (fun z => noD2 (by rw [← z]; exact o))]; exact e) (fun a xs e => by rw [upd_ne (ne_ct e eD6 (fun z => nomatch z))]; exact e), hist2, by rw [upd_same, List.map_append]; rfl, by rw [List.length_append, lYs]; rfl, ?_, fun y hy z ez => ?_, noD2, fun b u eb => ?_⟩
          · show (P'.dl ++ [_]).length = _
            rw [List.length_append, ldl]
            rfl
          · rcases List.mem_append.mp hy with w | w
            · exact yG y w z ez
            · rw [List.mem_singleton.mp w] at ez
              subst ez
              obtain ⟨zG, _, _⟩ := ch
              rw [hist.eG] at zG
              exact zG
          · obtain ⟨w1, w2⟩ := f4 b u eb
            obtain ⟨v1, v2⟩ := k2 _ _ w1 w2
            exact ⟨by rw [upd_ne (ne_of_none eb nDH)]; exact v1, v2⟩
      · obtain ⟨S', P', k, Ys, so', sh', hist, eD, lYs, ldl, yG, noD, f4⟩ := hI
        rw [List.length_map, lt] at lYs
        exact q D Ys G4 nDH (fun b u e => (f4 b u e).1) eD lYs yG (hist.last sh'.ok lYs)
end
end K28

namespace K28
open PySem PySem.Spec PyProof.Rows L2 Bk


theorem dic_at {G : List Str} {f : Str → V} {i : Nat} {k : Key} {y : V} (hk : (dicF G f)[i]? = some (k, y)) : ∃ x, G[i]? = some x ∧ x ∈ G ∧ k = .inr x ∧ y = f x := by
  unfold dicF at hk
  rw [List.getElem?_map] at hk
  cases h : G[i]? with
  | none => rw [h] at hk; exact nomatch hk
  | some x =>
    rw [h] at hk
    obtain ⟨rfl, rfl⟩ := Prod.mk.inj (Option.some.inj hk)
    exact ⟨x, rfl, List.mem_of_getElem? h, rfl, rfl⟩
theorem gsn_all {x : Str} {Rs : List (List Str)} {Ys : List (Option Str)} {m : Nat} : ∀ {n : Nat}, m ≤ n → (gsn x Rs Ys n).all id = true → (gsn x Rs Ys m).all id = true
  | 0, h, e => by
    have : m = 0 := by omega
    rw [this]; exact e
  | n + 1, h, e => by
    by_cases c : m = n + 1
    · rw [c]; exact e
    · rw [gsn_succ, List.all_append] at e
      exact gsn_all (by omega) (Bool.and_eq_true_iff.mp e).1
theorem RowsL.sl {H H' : Hp} {p : Addr} {Rs : List (List Str)} {L k : Nat} {ts : List Addr} (lt : ts.length = Rs.length) (all : ∀ (k : Nat) t R, ts[k]? = some t → Rs[k]? = some R → H t = some (.lst (R.map V.str))) (s : Same H H') (e : H' p = some (.lst (((ts.map V.ref).drop (k * L)).take L))) : RowsL H' p (K28.sl L k ts) (K28.sl L k Rs) := by
  refine ⟨?_, ?_, fun i t R hi hR => ?_⟩
  · unfold K28.sl
    rw [List.map_take, List.map_drop]
    exact e
  · unfold K28.sl
    rw [List.length_take, List.length_take, List.length_drop, List.length_drop, lt]
  · unfold K28.sl at hi hR
    rw [List.getElem?_take, List.getElem?_drop] at hi hR
    by_cases c : i < L
    · rw [if_pos c] at hi hR
      exact s _ _ (all _ t R hi hR)
    · rw [if_neg c] at hi
      exact nomatch hi
def spBreaks : Sp := fun vs H Q _ => ∃ (L : Nat) (s a b : Addr) (x : Str) (p c : Nat) (ts : List Addr) (Rs : List (List Str)) (Ys : List (Option Str)), vs = [.int L, .ref s, .str x, .ref a, .ref b] ∧ H s = some (.tup [.int p, .int c]) ∧ RowsL H a ts Rs ∧ H b = some (.lst (Ys.map nameV)) ∧ Ys.length = Rs.length ∧ Rs.length ≤ 400 ∧ Q (.bl (brk p c x Rs Ys (decide (Ys.length = L)))) H
def spDueL : Sp := fun vs H Q _ => ∃ (L : Nat) (g a b : Addr) (G : List Str) (pr ce : Str → Nat) (ts : List Addr) (Rs : List (List Str)) (Ys : List (Option Str)), vs = [.int L, .ref g, .ref a, .ref b] ∧ Prs H g G pr ce ∧ ShOk L G pr ce ∧ RowsL H a ts Rs ∧ H b = some (.lst (Ys.map nameV)) ∧ Ys.length = Rs.length ∧ Rs.length ≤ 400 ∧ ∀ d v H', Due (brkAt L pr ce Rs Ys) G d → Same H H' → DueV d v H' → Q v H'
section
variable {P : Program} {w : World} {K : PySem.W.Frag} {mg : Str → Option Value} {base : Heap} {A : Ad}
theorem ok_breaks {f : Addr} {fd : FuncData} (F : Fun K "_law_breaks" "_law_breaks" s_breaks_L f fd) (T : Txt K mg A) : FnOk P w K mg base CX0 1 f fd ["_law_size", "_law_share_here", "_law_label", "_law_those", "_law_given"] spBreaks := by
  refine F.ok sc_breaks_L (fun vs H Q E h => ?_) (fun cdv A' outer s H vs Q E hr h => have hu65 := units65 hr; have hu64 := hr.units; have hu := units1 hr; ⟨_, (pss_cons (ps_set (i := 5) sc_breaks_L.nd rfl (.inl rfl) pe_int)
    (pss_cons (ps_set (i := 6) sc_breaks_L.nd rfl (.inl rfl) pe_bl)
    (pss_cons (ps_for PassesOwn.never rfl (pi_range1 (by rfl) T.m_range (pa_cons (pe_callB call_len_seq (by rfl) T.m_len (by decide +kernel) (pa_cons (pv 4) pa_nil)) pa_nil)) (pg_name (i := 7) sc_breaks_L.nd rfl (.inl rfl))
      (pss_cons (ps_if (pt_cmpR op_notIn_seq (pv 2) (pe_ix ix_list (pv 3) (pv 7) (fun _ _ => rfl)) (by rfl)) (pss_one (ps_set (i := 6) sc_breaks_L.nd rfl (.inl rfl) pe_bl)) pss_nil)
    (pss_one (ps_if (pt_cmpR op_eq (pe_ix ix_list (pv 4) (pv 7) (fun _ _ => rfl)) (pv 2) (nomark _)) (pss_cons (ps_set (i := 5) sc_breaks_L.nd rfl (.inl rfl) (pe_op op_add (pv 5) pe_int))
    (pss_one (ps_if (pt_cmpR op_notIn_seq (pv 2) (pe_ix ix_list (pv 3) (pv 7) (fun _ _ => rfl)) (by rfl)) (pss_one (ps_ret pe_bl)) pss_nil))) pss_nil))))
    (pss_one (ps_ret (pe_or (pe_cmpR op_gt (pv 5) (pe_ix ix_tup (pv 1) pe_int (fun _ _ => rfl)) (nomark _)) (pe_one (pe_and (pe_cmpR op_eq (pe_callB call_len_seq (by rfl) T.m_len (by decide +kernel) (pa_cons (pv 4) pa_nil)) (pv 0) (nomark _)) (pe_and (pv 6) (pe_one (pe_cmpR op_lt (pv 5) (pe_ix ix_tup (pv 1) pe_int (fun _ _ => rfl)) (nomark _)))))))))))), ?_⟩)
  · obtain ⟨L, s, a, b, x, p, c, ts, Rs, Ys, rfl, _⟩ := h
    rfl
  · obtain ⟨L, s, a, b, x, p, c, ts, Rs, Ys, rfl, es, ⟨ea, lt, all⟩, eb, lY, n4, q⟩ := h
    have hb : brk p c x Rs Ys (decide (Ys.length = L)) = (!(gsn x Rs Ys Ys.length).all id || decide (c < (gsn x Rs Ys Ys.length).length) || (decide (Ys.length = L) && Rs.all (fun R => decide (x ∈ R)) && decide ((gsn x Rs Ys Ys.length).length < p))) := rfl
    walk_at "go"
    refine ⟨b, _, rfl, .inl (sqL eb), ?_⟩
    rw [List.length_map]
    walk_at "go"
    refine ⟨Ys.length, rfl, by omega, by omega, ?_⟩
    rw [Int.toNat_natCast]
    refine for_range (fun t σ G2 => G2 = H ∧ (∃ x7, σ = [some (.int L), some (.ref s), some (.str x), some (.ref a), some (.ref b), some (.int ((gsn x Rs Ys t).length : Nat)), some (.bl ((Rs.take t).all fun R => decide (x ∈ R))), x7]) ∧ (gsn x Rs Ys t).all id = true)
      ⟨rfl, ⟨none, rfl⟩, rfl⟩ ?_ ?_
    · rintro t σ G2 ht ⟨rfl, ⟨x7, rfl⟩, ga⟩
      have hi : t < Rs.length := by omega
      have cR := List.getElem?_eq_getElem hi
      have ct := List.getElem?_eq_getElem (show t < ts.length by omega)
      have cY := List.getElem?_eq_getElem ht
      have er := all t _ _ ct cR
      have gR : Rs.getD t [] = Rs[t] := by rw [List.getD_eq_getElem?_getD, cR]; rfl
      have gY : Ys.getD t none = Ys[t] := by rw [List.getD_eq_getElem?_getD, cY]; rfl
      have gs := gsn_succ (x := x) (Rs := Rs) (Ys := Ys) (n := t)
      rw [gR, gY] at gs
      have ft : (Rs.take (t + 1)).all (fun R => decide (x ∈ R)) = ((Rs.take t).all (fun R => decide (x ∈ R)) && decide (x ∈ Rs[t])) := by
        rw [List.take_succ, cR, List.all_append]
        have z : ((some Rs[t]).toList.all fun R => decide (x ∈ R)) = (decide (x ∈ Rs[t]) && true) := rfl
        rw [z, Bool.and_true]
      generalize Rs[t] = R at er gs ft cR
      generalize ts[t] = u at er ct
      have ai : atI (ts.map V.ref) ((t : Nat) : Int) = some (.ref u) := atI_nat (by rw [List.getElem?_map, ct]; rfl)
      have ay : atI (Ys.map nameV) ((t : Nat) : Int) = some (nameV Ys[t]) := atI_nat (by rw [List.getElem?_map, cY]; rfl)
      generalize Ys[t] = y at gs ay
      have sc2 : scal (nameV y) (.str x) = true := by cases y <;> rfl
      rw [Int.zero_add]
      walk_at "go"
      refine r_ixL (sqL ea) ai ?_
      refine ⟨u, _, rfl, .inl (sqL er), rfl, List.all_eq_true.mpr fun v hv => ?_, ?_⟩
      · obtain ⟨z, _, rfl⟩ := List.mem_map.mp hv
        rfl
      rw [if_pos rfl, inV_str]
      refine ⟨_, rfl, ?_⟩
      by_cases mR : x ∈ R
      · rw [decide_eq_true mR]
        rw [decide_eq_true mR, Bool.and_true] at ft
        walk_at "go"
        refine r_ixL (sqL eb) ay ?_
        walk_at "go"
        refine ⟨sc2, _, rfl, ?_⟩
        rw [eq_name]
        by_cases c : y = some x
        · rw [decide_eq_true c]
          rw [if_pos c, decide_eq_true mR] at gs
          walk_at "go"
          refine r_ixL (sqL ea) ai ?_
          refine ⟨u, _, rfl, .inl (sqL er), rfl, List.all_eq_true.mpr fun v hv => ?_, ?_⟩
          · obtain ⟨z, _, rfl⟩ := List.mem_map.mp hv
            rfl
          rw [if_pos rfl, inV_str]
          refine ⟨_, rfl, ?_⟩
          rw [decide_eq_true mR]
          walk_at "go"
          refine ⟨rfl, ⟨some (.int t), ?_⟩, by rw [gs, List.all_append, ga]; rfl⟩
          rw [gs, ft, List.length_append]
          rfl
        · rw [decide_eq_false c]
          rw [if_neg c, List.append_nil] at gs
          walk_at "go"
          exact ⟨rfl, ⟨_, by rw [gs, ft]; rfl⟩, by rw [gs]; exact ga⟩
      · rw [decide_eq_false mR]
        rw [decide_eq_false mR, Bool.and_false] at ft
        walk_at "go"
        refine r_ixL (sqL eb) ay ?_
        walk_at "go"
        refine ⟨sc2, _, rfl, ?_⟩
        rw [eq_name]
        by_cases c : y = some x
        · rw [decide_eq_true c]
          rw [if_pos c, decide_eq_false mR] at gs
          walk_at "go"
          refine r_ixL (sqL ea) ai ?_
          refine ⟨u, _, rfl, .inl (sqL er), rfl, List.all_eq_true.mpr fun v hv => ?_, ?_⟩
          · obtain ⟨z, _, rfl⟩ := List.mem_map.mp hv
            rfl
          rw [if_pos rfl, inV_str]
          refine ⟨_, rfl, ?_⟩
          rw [decide_eq_false mR]
          walk_at "go"
          have gf : (gsn x Rs Ys Ys.length).all id = false := by
            cases z : (gsn x Rs Ys Ys.length).all id with
            | false => rfl
            | true =>
              have w := gsn_all (m := t + 1) (by omega) z
              rw [gs, List.all_append] at w
              exact absurd (Bool.and_eq_true_iff.mp w).2 (by decide)
          rw [hb, gf] at q
          exact q
        · rw [decide_eq_false c]
          rw [if_neg c, List.append_nil] at gs
          walk_at "go"
          exact ⟨rfl, ⟨_, by rw [gs, ft]; rfl⟩, by rw [gs]; exact ga⟩
    · rintro σ G2 ⟨rfl, ⟨x7, rfl⟩, ga⟩
      rw [hb, ga] at q
      rw [lY, List.take_length]
      rw [lY] at q
      generalize (gsn x Rs Ys Rs.length).length = gl at q
      walk_at "go"
      refine r_ixT (sqT es) (v := .int c) rfl ?_
      walk_at "go"
      by_cases cl : c < gl
      · rw [decide_eq_true cl] at q
        rw [decide_eq_true (by omega : (c : Int) < gl)]
        walk_at "go"
        exact q
      · rw [decide_eq_false cl] at q
        rw [decide_eq_false (by omega : ¬ (c : Int) < gl)]
        walk_at "go"
        refine ⟨b, _, rfl, .inl (sqL eb), ?_⟩
        rw [List.length_map, lY]
        walk_at "go"
        have dd : decide (V.int (Rs.length : Nat) = V.int (L : Nat)) = decide (Rs.length = L) := decide_eq_decide.mpr ⟨fun z => by injection z with z; omega, fun z => by rw [z]⟩
        rw [dd]
        cases c1 : decide (Rs.length = L) with
        | false =>
          rw [c1] at q
          exact q
        | true =>
          rw [c1] at q
          walk_at "go"
          cases c2 : Rs.all fun R => decide (x ∈ R) with
          | false =>
            rw [c2] at q
            exact q
          | true =>
            rw [c2] at q
            walk_at "go"
            refine r_ixT (sqT es) (v := .int p) rfl ?_
            walk_at "go"
            have d3 : decide ((gl : Int) < p) = decide (gl < p) := decide_eq_decide.mpr (by omega)
            rw [d3]
            exact q
theorem ok_dueL {f : Addr} {fd : FuncData} (F : Fun K "_law_due" "_law_due" s_due_L f fd) (T : Txt K mg A) (c_breaks_L : CalD P w K mg base CX0 1 "_law_breaks" spBreaks []) : FnOk P w K mg base CX0 2 f fd ["_law_size", "_law_some", "_law_those", "_law_given"] spDueL := by
  refine F.ok sc_due_L (fun vs H Q E h => ?_) (fun cdv A' outer s H vs Q E hr h => have hu65 := units65 hr; have hu64 := hr.units; have hu := units1 hr; ⟨_, (pss_cons (ps_for PassesOwn.never rfl (pi_range1 (by rfl) T.m_range (pa_cons (pe_op op_add (pe_op op_fdivW (pe_callB call_len_seq (by rfl) T.m_len (by decide +kernel) (pa_cons (pv 3) pa_nil)) (pv 0)) pe_int) pa_nil)) (pg_name (i := 4) sc_due_L.nd rfl (.inl rfl))
      (pss_cons (ps_set (i := 5) sc_due_L.nd rfl (.inl rfl) (pe_op op_mulW (pv 4) (pv 0)))
    (pss_cons (ps_set (i := 6) sc_due_L.nd rfl (.inl rfl) (pe_slice sl_list (pv 2) (po_some (pv 5)) (po_some (pe_op op_add (pv 5) (pv 0)))))
    (pss_cons (ps_set (i := 7) sc_due_L.nd rfl (.inl rfl) (pe_slice sl_list (pv 3) (po_some (pv 5)) (po_some (pe_op op_add (pv 5) (pv 0)))))
    (pss_one (ps_lock (ps_for PassesOwn.never rfl (pi_keys (pv 1)) (pg_name (i := 8) sc_due_L.nd rfl (.inl rfl))
      (pss_one (ps_if (pt_val (pe_cal c_breaks_L hr (by decide) (by rfl) (pa_cons (pv 0) (pa_cons (pe_dget hu (pv 1) (pv 8) (fun _ _ => rfl)) (pa_cons (pv 8) (pa_cons (pv 6) (pa_cons (pv 7) pa_nil))))))) (pss_one (ps_ret (pe_tup (pa_cons (pv 4) (pa_cons (pv 8) pa_nil))))) pss_nil)))))))))
    (pss_one (ps_ret pe_non))), ?_⟩)
  · obtain ⟨L, g, a, b, G, pr, ce, ts, Rs, Ys, rfl, _⟩ := h
    rfl
  · obtain ⟨L, g, a, b, G, pr, ce, ts, Rs, Ys, rfl, hp, ok, ⟨ea, lt, all⟩, eb, lY, n4, q⟩ := h
    obtain ⟨tt, et, ht⟩ := hp
    have l4 := ok.l4
    have l60 := ok.l60
    have six := ok.six
    walk_at "go"
    refine ⟨b, _, rfl, .inl (sqL eb), ?_⟩
    rw [List.length_map]
    walk_at "go"
    refine r_I (cdiv (by omega) (by omega)) ?_
    walk_at "go"
    have nn : ((Rs.length : Nat) : Int) / (L : Nat) + 1 = ((Rs.length / L + 1 : Nat) : Int) := by rw [Int.natCast_add, Int.natCast_ediv]; rfl
    have cb : Rs.length / L + 1 ≤ 500 := by have := Nat.div_le_self Rs.length L; omega
    have cn : Rs.length ≤ (Rs.length / L + 1) * L := by
      have d := Nat.div_add_mod Rs.length L
      have m := Nat.mod_lt Rs.length (show 0 < L by omega)
      rw [Nat.add_mul, Nat.mul_comm, Nat.one_mul]
      omega
    rw [lY, nn]
    generalize Rs.length / L + 1 = cnt at cb cn
    refine ⟨cnt, rfl, by omega, by omega, ?_⟩
    rw [Int.toNat_natCast]
    refine for_range (fun k σ G2 => Same H G2 ∧ (∃ x4 x5 x6 x7 x8, σ = [some (.int L), some (.ref g), some (.ref a), some (.ref b), x4, x5, x6, x7, x8]) ∧ ∀ k' < k, ∀ x ∈ G, brkAt L pr ce Rs Ys k' x = false)
      ⟨Same.refl _, ⟨_, _, _, _, _, rfl⟩, fun k' h => absurd h (Nat.not_lt_zero _)⟩ ?_ ?_
    · rintro k σ G2 hk ⟨sG, ⟨x4, x5, x6, x7, x8, rfl⟩, no⟩
      rw [Int.zero_add]
      have kL : ((k : Nat) : Int) * (L : Nat) = ((k * L : Nat) : Int) := (Int.natCast_mul k L).symm
      have kb : k * L < 100000 := by
        have := Nat.mul_le_mul (Nat.le_of_lt hk) l60
        omega
      walk_at "go"
      refine r_I (cmul (by omega) (by omega) (by omega) (by omega)) ?_
      rw [kL]
      walk_at "go"
      rw [show ((k * L : Nat) : Int) + (L : Nat) = ((k * L + L : Nat) : Int) from (Int.natCast_add _ _).symm]
      refine r_slL (sqL (sG _ _ ea)) cut_sl (fun p1 H5 n5 s5 e5 => ?_)
      walk_at "go"
      rw [show ((k * L : Nat) : Int) + (L : Nat) = ((k * L + L : Nat) : Int) from (Int.natCast_add _ _).symm]
      refine r_slL (sqL (s5 _ _ (sG _ _ eb))) cut_sl (fun p2 H6 n6 s6 e6 => ?_)
      walk_at "go"
      show tLock _ _ _ _
      have s26 := sG.trans (s5.trans s6)
      have rw1 := RowsL.sl (H := H) lt all (sG.trans s5) e5
      have e52 := s6 _ _ rw1.1
      have et6 := s26 _ _ et
      refine ⟨g, .dK (dicF G fun x => .ref (tt x)), et6, trivial, fun od => ?_⟩
      have eL : upd H6 g (.frz od (.dK (dicF G fun x => .ref (tt x)))) g = some (.frz od (.dK (dicF G fun x => .ref (tt x)))) := upd_same
      have lk : ∀ b u, b ≠ g → H6 b = some u → upd H6 g (.frz od (.dK (dicF G fun x => .ref (tt x)))) b = some u := fun b u nb eb => by rw [upd_ne nb]; exact eb
      generalize hHL : upd H6 g (.frz od (.dK (dicF G fun x => .ref (tt x)))) = HL at eL lk ⊢
      have rwL : RowsL HL p1 (sl L k ts) (sl L k Rs) := ⟨lk _ _ (ne_ct e52 et6 fun z => nomatch z) e52, rw1.2.1, fun i t R h1 h2 => by
        have z := s6 _ _ (rw1.2.2 i t R h1 h2)
        exact lk _ _ (ne_ct z et6 fun z => nomatch z) z⟩
      have gvL : HL p2 = some (.lst ((sl L k Ys).map nameV)) := lk _ _ (ne_ct e6 et6 fun z => nomatch z) (by
        rw [e6]
        unfold sl
        rw [List.map_take, List.map_drop])
      have l1 : (sl L k Ys).length = (sl L k Rs).length := by
        unfold sl
        rw [List.length_take, List.length_take, List.length_drop, List.length_drop, lY]
      have l2 : (sl L k Rs).length ≤ 400 := by
        unfold sl
        rw [List.length_take, List.length_drop]
        omega
      have hw : decide ((sl L k Ys).length = L) = decide (k * L + L ≤ Rs.length) := decide_eq_decide.mpr (by
        unfold sl
        rw [List.length_take, List.length_drop, lY]
        omega)
      have htL : ∀ x ∈ G, HL (tt x) = some (.tup [.int (pr x), .int (ce x)]) := fun x hx => lk _ _ (ne_ct (ht x hx) et fun z => nomatch z) (s26 _ _ (ht x hx))
      refine ⟨_, rfl, g, od, rfl, .inl ⟨_, eL, for_it walk_keys (fun i σ G3 => G3 = HL ∧ (∃ x8, σ = [some (.int L), some (.ref g), some (.ref a), some (.ref b), some (.int k), some (.int ((k * L : Nat) : Int)), some (.ref p1), some (.ref p2), x8]) ∧ ∀ (j : Nat) y, j < i → G[j]? = some y → brkAt L pr ce Rs Ys k y = false)
        ⟨rfl, ⟨x8, rfl⟩, fun j y h => absurd h (Nat.not_lt_zero _)⟩ (fun i σ G3 _ h => by rw [h.1]; exact eL) (fun i yv σ G3 G4 hi hP hY2 => ?_) (fun σ G3 hP => ?_)⟩⟩
      · obtain ⟨rfl, ⟨x8, rfl⟩, noi⟩ := hP
        obtain ⟨rfl, kk, vv, hkk, rfl⟩ := hY2
        obtain ⟨x, hx, xG, rfl, rfl⟩ := dic_at hkk
        walk_at "go"
        refine r_dgV rfl rfl (.inr ⟨od, eL⟩) (y := .ref (tt x)) (by rw [dicF_get, if_pos xG]) ?_
        walk_at "go"
        refine ⟨L, tt x, p1, p2, x, pr x, ce x, sl L k ts, sl L k Rs, sl L k Ys, rfl, htL x xG, rwL, gvL, l1, l2, ?_⟩
        rw [hw]
        have hbk : brk (pr x) (ce x) x (sl L k Rs) (sl L k Ys) (decide (k * L + L ≤ Rs.length)) = brkAt L pr ce Rs Ys k x := rfl
        rw [hbk]
        cases hbx : brkAt L pr ce Rs Ys k x with
        | true =>
          walk_at "go"
          refine newT fun t H8 n8 s8 e8 => ?_
          refine ⟨s8 _ _ eL, q (some (k, x)) _ _ ⟨no, i, hx, hbx, fun j y h e => noi j y h e⟩ ?_ ⟨t, rfl, ?_⟩⟩
          · exact s26.trans (unlock_same et6 (by rw [hHL]; exact s8))
          · rw [upd_ne (ne_ct e8 (s8 _ _ eL) (fun z => nomatch z))]
            exact e8
        | false =>
          walk_at "go"
          refine ⟨rfl, ⟨_, rfl⟩, fun j y h e => ?_⟩
          by_cases c : j < i
          · exact noi j y c e
          · have : j = i := by omega
            subst this
            rw [hx] at e
            rw [← Option.some.inj e]
            exact hbx
      · obtain ⟨rfl, ⟨x8, rfl⟩, noi⟩ := hP
        refine ⟨eL, s26.trans (unlock_same et6 (by rw [hHL]; exact Same.refl _)), ⟨_, _, _, _, _, rfl⟩, fun k' hk' y hy => ?_⟩
        by_cases c : k' < k
        · exact no k' c y hy
        · have : k' = k := by omega
          subst this
          obtain ⟨j, hj⟩ := List.getElem?_of_mem hy
          have hl := (List.getElem?_eq_some_iff.mp hj).1
          exact noi j y (by rw [dicF_len]; exact hl) hj
    · rintro σ G2 ⟨sG, ⟨x4, x5, x6, x7, x8, rfl⟩, no⟩
      walk_at "go"
      refine q none _ _ (fun k x hx => ?_) sG rfl
      by_cases h : k < cnt
      · exact no k h x hx
      · exact brk_beyond l4 lY (Nat.le_trans cn (Nat.mul_le_mul_right L (by omega)))
end
end K28

namespace K28
open PySem PySem.Spec PyProof.Rows L2 Bk


/-! ### texts -/
theorem smS_name {x : Str} (h : nameOk x = true) : smS (.str x) = true := by
  have l := len_of_name h
  have c := low_of h
  unfold smS
  refine Bool.and_eq_true_iff.mpr ⟨decide_eq_true (by omega), List.all_eq_true.mpr fun a ha => decide_eq_true ?_⟩
  have := c a ha
  omega
theorem str_small {x : Str} (h : nameOk x = true) : smQ (.str x) = true ∧ (PyData.str x).bulk ≤ 8 := by
  have l := len_of_name h
  have c := low_of h
  refine ⟨?_, ?_⟩
  · simp only [smQ]
    refine List.all_eq_true.mpr fun a ha => decide_eq_true ?_
    have := c a ha
    omega
  · simp only [PyData.bulk]
    exact l.2
theorem strs_small : ∀ {R : List Str}, (∀ x ∈ R, nameOk x = true) → smQL (R.map PyData.str) = true ∧ PyData.bulkAll (R.map PyData.str) ≤ 9 * R.length ∧ PyData.depthAll (R.map PyData.str) = 0
  | [], _ => ⟨rfl, Nat.le_refl _, rfl⟩
  | x :: R, h => by
    obtain ⟨a, b⟩ := str_small (h x List.mem_cons_self)
    obtain ⟨c, d, e⟩ := strs_small (R := R) fun y hy => h y (List.mem_cons_of_mem _ hy)
    refine ⟨by simp only [List.map_cons, smQL, a, c, Bool.and_true], ?_, ?_⟩
    · simp only [List.map_cons, PyData.bulkAll, List.length_cons]
      omega
    · simp only [List.map_cons, PyData.depthAll, PyData.depth, e]
      rfl
theorem rows_small : ∀ {Rs : List (List Str)}, (∀ R ∈ Rs, R.length ≤ 6 ∧ ∀ x ∈ R, nameOk x = true) → smQL (Rs.map fun R => PyData.list (R.map PyData.str)) = true ∧ PyData.bulkAll (Rs.map fun R => PyData.list (R.map PyData.str)) ≤ 60 * Rs.length ∧ PyData.depthAll (Rs.map fun R => PyData.list (R.map PyData.str)) ≤ 1
  | [], _ => ⟨rfl, Nat.le_refl _, Nat.zero_le _⟩
  | R :: Rs, h => by
    obtain ⟨l, n⟩ := h R List.mem_cons_self
    obtain ⟨a, b, e0⟩ := strs_small n
    obtain ⟨c, d, e⟩ := rows_small (Rs := Rs) fun y hy => h y (List.mem_cons_of_mem _ hy)
    refine ⟨by simp only [List.map_cons, smQL, smQ, a, c, Bool.and_true], ?_, ?_⟩
    · simp only [List.map_cons, PyData.bulkAll, PyData.bulk, List.length_cons]
      omega
    · simp only [List.map_cons, PyData.depthAll, PyData.depth, e0]
      omega
theorem given_small : ∀ {Ys : List (Option Str)}, (∀ y ∈ Ys, ∀ z, y = some z → nameOk z = true) → smQL (Ys.map fun y => datS (nameV y)) = true ∧ PyData.bulkAll (Ys.map fun y => datS (nameV y)) ≤ 9 * Ys.length ∧ PyData.depthAll (Ys.map fun y => datS (nameV y)) = 0
  | [], _ => ⟨rfl, Nat.le_refl _, rfl⟩
  | y :: Ys, h => by
    obtain ⟨c, d, e⟩ := given_small (Ys := Ys) fun y hy => h y (List.mem_cons_of_mem _ hy)
    have k : smQ (datS (nameV y)) = true ∧ (datS (nameV y)).bulk ≤ 8 ∧ (datS (nameV y)).depth = 0 := by
      cases y with
      | none => exact ⟨rfl, by show PyData.bulk .none ≤ 8; simp only [PyData.bulk]; decide, by show PyData.depth .none = 0; simp only [PyData.depth]⟩
      | some z =>
        obtain ⟨a, b⟩ := str_small (h _ List.mem_cons_self z rfl)
        exact ⟨a, b, by show PyData.depth (.str z) = 0; simp only [PyData.depth]⟩
    obtain ⟨k1, k2, k3⟩ := k
    refine ⟨by simp only [List.map_cons, smQL, k1, c, Bool.and_true], ?_, ?_⟩
    · simp only [List.map_cons, PyData.bulkAll, List.length_cons]
      omega
    · simp only [List.map_cons, PyData.depthAll, k3, e]
      rfl
def pG (pr ce : Str → Nat) (x : Str) : PyData × PyData := (.str x, .tuple [.int (pr x : Nat), .int (ce x : Nat)])
theorem dict_small {pr ce : Str → Nat} : ∀ {G : List Str}, (∀ x ∈ G, nameOk x = true ∧ pr x ≤ 60 ∧ ce x ≤ 60) → smQK (G.map (pG pr ce)) = true ∧ PyData.bulkKv (G.map (pG pr ce)) ≤ 12 * G.length ∧ PyData.depthKv (G.map (pG pr ce)) ≤ 1
  | [], _ => ⟨rfl, Nat.le_refl _, Nat.zero_le _⟩
  | x :: G, h => by
    obtain ⟨n, p, q⟩ := h x List.mem_cons_self
    obtain ⟨a, b⟩ := str_small n
    obtain ⟨c, d, e⟩ := dict_small (G := G) fun y hy => h y (List.mem_cons_of_mem _ hy)
    have i1 : smQ (.int (pr x : Nat)) = true := by simp only [smQ, decide_eq_true_eq, Int.natAbs_natCast]; omega
    have i2 : smQ (.int (ce x : Nat)) = true := by simp only [smQ, decide_eq_true_eq, Int.natAbs_natCast]; omega
    have t1 : smQ (.tuple [.int (pr x : Nat), .int (ce x : Nat)]) = true := by
      have z : smQL [.int (pr x : Nat), .int (ce x : Nat)] = true := by
        show (smQ _ && (smQ _ && true)) = true
        rw [i1, i2]
        rfl
      simp only [smQ] at z ⊢
      exact z
    have t2 : (PyData.tuple [.int (pr x : Nat), .int (ce x : Nat)]).bulk = 2 := by simp only [PyData.bulk, PyData.bulkAll]
    have t3 : (PyData.tuple [.int (pr x : Nat), .int (ce x : Nat)]).depth = 1 := by
      have z : PyData.depthAll [PyData.int (pr x : Nat), PyData.int (ce x : Nat)] = 0 := by simp only [PyData.depthAll, PyData.depth]; rfl
      simp only [PyData.depth, z]
    refine ⟨?_, ?_, ?_⟩
    · show smQK ((PyData.str x, PyData.tuple _) :: G.map (pG pr ce)) = true
      simp only [smQK, a, t1, c, Bool.and_true]
    · show PyData.bulkKv ((PyData.str x, PyData.tuple _) :: G.map (pG pr ce)) ≤ _
      simp only [PyData.bulkKv, t2, List.length_cons]
      omega
    · show PyData.depthKv ((PyData.str x, PyData.tuple _) :: G.map (pG pr ce)) ≤ _
      have z : (PyData.str x).depth = 0 := by simp only [PyData.depth]
      simp only [PyData.depthKv, t3, z]
      omega
def dAll (G : List Str) (pr ce : Str → Nat) (Rs : List (List Str)) (Ys : List (Option Str)) : PyData := .list [.dict (G.map (pG pr ce)), .list (Rs.map fun R => .list (R.map PyData.str)), .list (Ys.map fun y => datS (nameV y))]
section
variable {K : PySem.W.Frag} {H : Hp} {b : Bool}
theorem dq_strs : ∀ {R : List Str}, DqAll b K H (R.map V.str) (R.map PyData.str)
  | [] => .nil
  | x :: R => .cons (.str x) dq_strs
theorem dq_given : ∀ {Ys : List (Option Str)}, DqAll b K H (Ys.map nameV) (Ys.map fun y => datS (nameV y))
  | [] => .nil
  | none :: Ys => .cons .non dq_given
  | some x :: Ys => .cons (.str x) dq_given
theorem dq_rowsL : ∀ {ts : List Addr} {Rs : List (List Str)}, ts.length = Rs.length → (∀ (k : Nat) t R, ts[k]? = some t → Rs[k]? = some R → H t = some (.lst (R.map V.str))) → DqAll false K H (ts.map V.ref) (Rs.map fun R => PyData.list (R.map PyData.str))
  | [], [], _, _ => .nil
  | t :: ts, R :: Rs, l, h => .cons (.lst (fun z => nomatch z) (sqL (h 0 t R rfl rfl)) dq_strs) (dq_rowsL (Nat.succ.inj l) fun k t R a c => h (k + 1) t R a c)
theorem dq_keys {f : Str → V} {pr ce : Str → Nat} : ∀ {G : List Str}, DqAll b K H ((dicF G f).map fun q => kV q.1) ((G.map (pG pr ce)).map (·.1))
  | [] => .nil
  | x :: G => .cons (.str x) dq_keys
theorem dq_vals {tt : Str → Addr} {pr ce : Str → Nat} : ∀ {G : List Str}, (∀ x ∈ G, H (tt x) = some (.tup [.int (pr x), .int (ce x)])) → DqAll b K H ((dicF G fun x => V.ref (tt x)).map (·.2)) ((G.map (pG pr ce)).map (·.2))
  | [], _ => .nil
  | x :: G, h => .cons (.tup (sqT (h x List.mem_cons_self)) (.cons (.int _) (.cons (.int _) .nil))) (dq_vals fun y hy => h y (List.mem_cons_of_mem _ hy))
end
theorem shl_all {K : PySem.W.Frag} {H : Hp} {L : Nat} {G : List Str} {pr ce : Str → Nat} {Rs : List (List Str)} {Ys : List (Option Str)} {p g a c : Addr} {ts : List Addr} (ok : ShOk L G pr ce) (hp : Prs H g G pr ce) (hR : RowsL H a ts Rs) (n4 : Rs.length ≤ 400) (RG : ∀ R ∈ Rs, R.length ≤ 6 ∧ ∀ x ∈ R, x ∈ G) (hY : H c = some (.lst (Ys.map nameV))) (y4 : Ys.length ≤ 400) (YG : ∀ y ∈ Ys, ∀ z, y = some z → z ∈ G) (e : H p = some (.lst [.ref g, .ref a, .ref c])) : ShL K H (.ref p) (dAll G pr ce Rs Ys).shown := by
  obtain ⟨tt, et, ht⟩ := hp
  obtain ⟨ea, lt, all⟩ := hR
  have six := ok.six
  obtain ⟨s1, s2, s3⟩ := dict_small (pr := pr) (ce := ce) (G := G) fun x hx => ⟨ok.nm x hx, by have := ok.pc x hx; have := ok.l60; omega, by have := ok.pc x hx; have := ok.l60; omega⟩
  obtain ⟨r1, r2, r3⟩ := rows_small (Rs := Rs) fun R hR => ⟨(RG R hR).1, fun x hx => ok.nm x ((RG R hR).2 x hx)⟩
  obtain ⟨y1, y2, y3⟩ := given_small (Ys := Ys) fun y hy z ez => ok.nm z (YG y hy z ez)
  refine shl_of (vs := [.ref g, .ref a, .ref c]) (sqL e) (fun z => nomatch z) (.cons (b := true) (.dK rfl et dq_keys (dq_vals ht)) (.cons (b := false) (.lst (fun z => nomatch z) (sqL ea) (dq_rowsL lt all)) (.cons (b := false) (.lst (fun z => nomatch z) (sqL hY) dq_given) .nil))) ?_ ?_ ?_
  · simp only [smQ, smQL, s1, r1, y1, Bool.and_true]
  · simp only [PyData.bulk, PyData.bulkAll]
    omega
  · simp only [PyData.depth, PyData.depthAll]
    omega
/-- what is due as a text -/
theorem shq_due {K : PySem.W.Frag} {G : List Str} (nm : ∀ x ∈ G, nameOk x = true) {d : Option (Nat × Str)} (hd : ∀ k x, d = some (k, x) → k < 1000 ∧ x ∈ G) : ∃ z, ∀ v H, DueV d v H → Shq K H v z := by
  cases d with
  | none => exact ⟨_, fun v H e => by rw [show v = .non from e]; exact shq_sc rfl⟩
  | some kx =>
    obtain ⟨k, x⟩ := kx
    obtain ⟨k1, xG⟩ := hd k x rfl
    refine ⟨(PyData.tuple ([V.int k, .str x].map datS)).shown, fun v H e => ?_⟩
    obtain ⟨t, rfl, et⟩ := e
    refine shq_tsc (sqT et) ?_ (by show 2 ≤ 3000; decide)
    have a : smS (.int (k : Nat)) = true := by
      simp only [smS, decide_eq_true_eq, Int.natAbs_natCast]
      omega
    rw [List.all_cons, List.all_cons, a, smS_name (nm x xG)]
    rfl
theorem due_small {L : Nat} {G : List Str} {pr ce : Str → Nat} {Rs : List (List Str)} {Ys : List (Option Str)} {d : Option (Nat × Str)} (L4 : 4 ≤ L) (lY : Ys.length = Rs.length) (n4 : Rs.length ≤ 400) (h : Due (brkAt L pr ce Rs Ys) G d) : ∀ k x, d = some (k, x) → k < 1000 ∧ x ∈ G := fun k x e => by
  subst e
  obtain ⟨_, j, hj, b, _⟩ := h
  refine ⟨Nat.lt_of_not_le fun z => ?_, List.mem_of_getElem? hj⟩
  have w : Rs.length ≤ k * L := by
    have := Nat.mul_le_mul z L4
    omega
  rw [brk_beyond L4 lY w] at b
  exact nomatch b
theorem sh_pair {k : Nat} {x : Str} (h : nameOk x = true) : SeqAt.shaped (.tuple [.int k, .str x]) = true := by
  have e := str_of_name h
  have z : PyData.depthAll [PyData.int (k : Nat), PyData.str x] = 0 := by simp only [PyData.depthAll, PyData.depth]; rfl
  have c : PyData.canLayAll0 [PyData.int (k : Nat), PyData.str x] = true := by
    show (PyData.canLay0 (.int _) && (PyData.canLay0 (.str x) && true)) = true
    simp only [PyData.canLay0, e, Bool.true_and, Bool.and_true]
  unfold SeqAt.shaped
  simp only [PyData.canLay0, c, PyData.depth, z, Bool.true_and]
  decide
theorem ne_due {K : PySem.W.Frag} {d : Option (Nat × Str)} {u v : V} {H : Hp} {Q : VK} (nm : ∀ k x, d = some (k, x) → nameOk x = true) (h1 : DueV d u H) (h2 : DueV d v H) (q : Q (.bl false) H) : rNeS K u v H Q := by
  cases d with
  | none =>
    rw [show u = .non from h1, show v = .non from h2]
    exact .inl ⟨rfl, q⟩
  | some kx =>
    obtain ⟨k, x⟩ := kx
    obtain ⟨t, rfl, et⟩ := h1
    obtain ⟨t2, rfl, et2⟩ := h2
    refine .inr ⟨.tuple [.int k, .str x], .tuple [.int k, .str x], .tup (sqT et) (.cons (.int _) (.cons (.str _) .nil)), .tup (sqT et2) (.cons (.int _) (.cons (.str _) .nil)), ?_, ?_, ?_⟩
    · exact sh_pair (nm k x rfl)
    · exact sh_pair (nm k x rfl)
    · rw [SeqAt.eqv_refl _ (SeqAt.canLay_of_shaped (sh_pair (nm k x rfl)))]
      exact q
end K28

namespace K28
open PySem PySem.Spec PyProof.Rows L2 Bk


theorem call_tuple_ofK {X : Cx} {K : PySem.W.Frag} (h : X.K = K) : CallR X (.type "tuple") (fun xs H Q => ∃ p ys, xs = [.ref p] ∧ ((SqL K H p ys ∧ ∀ l, H l = none → Q (.ref l) (upd H l (.tup ys))) ∨ (SqT K H p ys ∧ Q (.ref p) H))) := by
  subst h
  exact call_tuple_of
def swpV {α : Type} (vs zs : List α) : List α := match zs with
  | [a, b, c, d] => vs ++ [d, b, c, a]
  | _ => vs ++ zs
theorem vals_swp : ∀ {vs zs : List V} {us ws : List Value}, Vals vs us → Vals zs ws → Vals (swpV vs zs) (swpV us ws)
  | _, _, _, _, h, .nil => h.append .nil
  | _, _, _, _, h, .cons a .nil => h.append (.cons a .nil)
  | _, _, _, _, h, .cons a (.cons b .nil) => h.append (.cons a (.cons b .nil))
  | _, _, _, _, h, .cons a (.cons b (.cons c .nil)) => h.append (.cons a (.cons b (.cons c .nil)))
  | _, _, _, _, h, .cons a (.cons b (.cons c (.cons d .nil))) => h.append (.cons d (.cons b (.cons c (.cons a .nil))))
  | _, _, _, _, h, .cons a (.cons b (.cons c (.cons d (.cons e r)))) => h.append (.cons a (.cons b (.cons c (.cons d (.cons e r)))))
theorem RowsL.same {H H' : Hp} {a : Addr} {ts : List Addr} {Rs : List (List Str)} (h : RowsL H a ts Rs) (s : Same H H') : RowsL H' a ts Rs :=
  ⟨s _ _ h.1, h.2.1, fun k t R x y => s _ _ (h.2.2 k t R x y)⟩
theorem RowsL.rows {H : Hp} {a : Addr} {ts : List Addr} {Rs : List (List Str)} (h : RowsL H a ts Rs) : Rows H a Rs :=
  ⟨ts, .inl h.1, h.2.1, fun k t R x y => .inl (h.2.2 k t R x y)⟩
theorem DueV.same {d : Option (Nat × Str)} {v : V} {H H' : Hp} (h : DueV d v H) (s : Same H H') : DueV d v H' := by
  cases d with
  | none => exact h
  | some kx =>
    obtain ⟨k, x⟩ := kx
    obtain ⟨t, e, et⟩ := h
    exact ⟨t, e, s _ _ et⟩
def spRight : Sp := fun vs H Q _ => ∃ (L : Nat) (g a b : Addr) (G : List Str) (pr ce : Str → Nat) (ts : List Addr) (Rs : List (List Str)) (Ys : List (Option Str)), vs = [.int L, .ref g, .ref a, .ref b] ∧ Prs H g G pr ce ∧ ShOk L G pr ce ∧ RowsL H a ts Rs ∧ H b = some (.lst (Ys.map nameV)) ∧ Ys.length = Rs.length ∧ Rs.length ≤ 400 ∧ (∀ R ∈ Rs, R.length ≤ 6 ∧ ∀ x ∈ R, x ∈ G) ∧ (∀ y ∈ Ys, ∀ z, y = some z → z ∈ G) ∧ ∀ H', Same H H' → Q (.bl true) H'
section
variable {P : Program} {w : World} {K : PySem.W.Frag} {mg : Str → Option Value} {base : Heap} {A : Ad}
theorem ok_right {f : Addr} {fd : FuncData} (F : Fun K "_law_right" "_law_right" s_right_L f fd) (T : Txt K mg A) (c_due_L : CalD P w K mg base CX0 2 "_law_due" spDueL []) (c_first_broken : CalX P w K mg base 8 "first_broken" (spFirst K)) (k_first_broken_dealt_guests_ready_length : CalNX P w K mg base 8 ["dealt", "guests", "ready", "length"] "first_broken" (spFirst K) swpV) : FnG P w K mg base CX0 9 f fd ["_law_size", "_law_some", "_law_those", "_law_given"] spRight := by
  refine fun_okG F sc_right_L (fun vs H Q E h => ?_) (fun cdv A' outer s H vs Q E ga hr h => have hu65 := units65 hr; have hu64 := hr.units; have hu := units1 hr; ⟨_, (pss_cons (ps_set (i := 4) sc_right_L.nd rfl (.inl rfl) (pe_cal c_due_L hr (by decide) (by rfl) (pa_cons (pv 0) (pa_cons (pv 1) (pa_cons (pv 2) (pa_cons (pv 3) pa_nil))))))
    (pss_cons (ps_set (i := 5) sc_right_L.nd rfl (.inl rfl) (pe_callB (call_repr_any ga hr) (by rfl) T.m_repr (by decide +kernel) (pa_cons (pe_lstB (pa_cons (pv 1) (pa_cons (pv 2) (pa_cons (pv 3) pa_nil)))) pa_nil)))
    (pss_cons (ps_if (pt_cmpR op_ne (pe_callB (call_repr_any ga hr) (by rfl) T.m_repr (by decide +kernel) (pa_cons (pe_calY c_first_broken hr (by decide) (by rfl) (pa_cons (pv 0) (pa_cons (pv 1) (pa_cons (pv 2) (pa_cons (pv 3) pa_nil))))) pa_nil)) (pe_callB (call_repr_any ga hr) (by rfl) T.m_repr (by decide +kernel) (pa_cons (pv 4) pa_nil)) (nomark _)) (pss_one (ps_ret pe_bl)) pss_nil)
    (pss_cons (ps_if (pt_cmpR op_ne (pe_callB (call_repr_any ga hr) (by rfl) T.m_repr (by decide +kernel) (pa_cons (pe_lstB (pa_cons (pv 1) (pa_cons (pv 2) (pa_cons (pv 3) pa_nil)))) pa_nil)) (pv 5) (nomark _)) (pss_one (ps_ret pe_bl)) pss_nil)
    (pss_cons (ps_set (i := 6) sc_right_L.nd rfl (.inl rfl) (pe_callTy call_tuple_of (by rfl) T.m_tuple (by decide +kernel) (pa_cons (pe_lc (own := [("_law_row", 7)]) rfl sc_right_L.nd (pi_list (pv 2)) (blkOk_by (N := ["_law_size", "_law_some", "_law_those", "_law_given", "_law_due_here", "_law_kept", "_law_handed", "_law_row"]) (sc := defScope s_right_L) (by decide +kernel)) (fun _ _ _ _ _ => (pg_name (i := 7) sc_right_L.nd rfl (.inl rfl))) (fun _ _ _ _ _ => pts_nil) (fun _ _ _ _ _ => (pe_callTy (call_tuple_ofK (K := K) rfl) (by rfl) T.m_tuple (by decide +kernel) (pa_cons (pv 7) pa_nil)))) pa_nil)))
    (pss_cons (ps_if (pt_cmpR (op_neS hu64) (pe_calNY k_first_broken_dealt_guests_ready_length hr (by decide) (by rfl) (pk_cons (pv 3) (pk_cons (pv 1) (pk_cons (pv 2) (pk_cons (pv 0) pk_nil))))) (pv 4) (nomark _)) (pss_one (ps_ret pe_bl)) pss_nil)
    (pss_one (ps_ret (pe_cmpR op_eq (pe_callB (call_repr_any ga hr) (by rfl) T.m_repr (by decide +kernel) (pa_cons (pe_calY c_first_broken hr (by decide) (by rfl) (pa_cons (pv 0) (pa_cons (pe_callTy call_dictD (by rfl) T.m_dict (by decide +kernel) (pa_cons (pv 1) pa_nil)) (pa_cons (pv 6) (pa_cons (pe_callTy call_tuple_of (by rfl) T.m_tuple (by decide +kernel) (pa_cons (pv 3) pa_nil)) pa_nil))))) pa_nil)) (pe_callB (call_repr_any ga hr) (by rfl) T.m_repr (by decide +kernel) (pa_cons (pv 4) pa_nil)) (nomark _)))))))))), ?_⟩)
  · obtain ⟨L, g, a, b, G, pr, ce, ts, Rs, Ys, rfl, _⟩ := h
    rfl
  · obtain ⟨L, g, a, b, G, pr, ce, ts, Rs, Ys, rfl, hp, ok, hR, eb, lY, n4, RG, YG, q⟩ := h
    have RG2 : ∀ R ∈ Rs, R.length ≤ 1000 ∧ ∀ x ∈ R, x ∈ G := fun R z => ⟨by have := (RG R z).1; omega, (RG R z).2⟩
    walk_at "go"
    refine ⟨L, g, a, b, G, pr, ce, ts, Rs, Ys, rfl, hp, ok, hR, eb, lY, n4, fun d v H1 D1 s1 V1 => ?_⟩
    have dsm := due_small ok.l4 lY n4 D1
    obtain ⟨z, hz⟩ := shq_due (K := K) ok.nm dsm
    walk_at "go"
    refine newLB fun p1 H2 np1 m1 s2 e2 => ?_
    have s12 := s1.trans s2
    walk_at "go"
    refine ⟨_, _, rfl, .inr (shl_all ok (hp.same s12) (hR.same s12) n4 RG (s12 _ _ eb) (by omega) YG e2), ?_⟩
    walk_at "go"
    refine ⟨L, g, a, b, G, pr, ce, Rs, Ys, rfl, hp.same s12, ok, (hR.same s12).rows, n4, RG2, .inl (s12 _ _ eb), lY, YG, fun d' v' H3 D3 s3 V3 => ?_⟩
    obtain rfl := Due.one D1 D3
    have s13 := s12.trans s3
    walk_at "go"
    refine ⟨v', z, rfl, .inl (hz _ _ V3), ?_⟩
    walk_at "go"
    refine ⟨v, z, rfl, .inl (hz _ _ (V1.same (s2.trans s3))), ?_⟩
    walk_at "go"
    rw [decide_eq_true (show V.str z = V.str z from rfl)]
    walk_at "go"
    refine newLB fun p4 H4 np4 m4 s4 e4 => ?_
    have s14 := s13.trans s4
    walk_at "go"
    refine ⟨_, _, rfl, .inr (shl_all ok (hp.same s14) (hR.same s14) n4 RG (s14 _ _ eb) (by omega) YG e4), ?_⟩
    walk_at "go"
    rw [decide_eq_true (show V.str (dAll G pr ce Rs Ys).shown = V.str (dAll G pr ce Rs Ys).shown from rfl)]
    walk_at "go"
    refine lcNewL (c := fun i => .tup ((Rs.getD i []).map V.str)) (xs := ts.map V.ref) (a := a) (fun QQ z => ⟨_, rfl, z⟩) (sqL (s14 _ _ hR.1)) (by rw [List.length_map, hR.2.1]; omega) (fun _ => rfl) (fun i y H5 Q' hy s5 kk => ?_) fun D H5 us nD s5 eD lU all5 _ _ => ?_
    · rw [List.getElem?_map] at hy
      cases c : ts[i]? with
      | none => rw [c] at hy; exact nomatch hy
      | some t =>
        rw [c] at hy
        obtain rfl := Option.some.inj hy
        have hi := (List.getElem?_eq_some_iff.mp c).1
        have cR := List.getElem?_eq_getElem (show i < Rs.length by have := hR.2.1; omega)
        have gR : Rs.getD i [] = Rs[i]'(by have := hR.2.1; omega) := by rw [List.getD_eq_getElem?_getD, cR]; rfl
        walk_at "go"
        refine ⟨t, _, rfl, .inl ⟨sqL (s5 _ _ (s14 _ _ (hR.2.2 i t _ c cR))), fun l nl => ?_⟩⟩
        rw [gR] at kk
        exact kk l _ nl (same_upd nl) upd_same
    have s15 := s14.trans s5
    walk_at "go"
    refine ⟨D, _, rfl, .inl ⟨sqL eD, fun h nh => ?_⟩⟩
    have s6 := same_upd (o := .tup (us.map V.ref)) nh
    have s16 := s15.trans s6
    have hRt : Rows (upd H5 h (.tup (us.map V.ref))) h Rs := by
      refine ⟨us, .inr upd_same, by rw [lU, List.length_map, hR.2.1], fun k t R ht hR' => .inr ?_⟩
      have z := s6 _ _ (all5 k t ht)
      rw [List.getD_eq_getElem?_getD, hR'] at z
      exact z
    generalize upd H5 h (.tup (us.map V.ref)) = H6 at s6 s16 hRt
    walk_at "go"
    refine ⟨rfl, rfl, L, g, a, b, G, pr, ce, Rs, Ys, rfl, hp.same s16, ok, (hR.same s16).rows, n4, RG2, .inl (s16 _ _ eb), lY, YG, fun d' v2 H7 D7 s7 V7 => ?_⟩
    obtain rfl := Due.one D1 D7
    have s17 := s16.trans s7
    have V17 : DueV d v H7 := (V1.same (s2.trans s3)).same ((s4.trans s5).trans (s6.trans s7))
    walk_at "go"
    refine ne_due (fun k x e => ok.nm x (dsm k x e).2) V7 V17 ?_
    walk_at "go"
    obtain ⟨tt, et, ht⟩ := id hp
    refine ⟨g, _, rfl, .inl (s17 _ _ et), fun g2 ng2 => ?_⟩
    have s8 := same_upd (o := .dK (dicF G fun x => .ref (tt x))) ng2
    have s18 := s17.trans s8
    have hp2 : Prs (upd H7 g2 (.dK (dicF G fun x => .ref (tt x)))) g2 G pr ce := ⟨tt, upd_same, fun x hx => s18 _ _ (ht x hx)⟩
    generalize upd H7 g2 (.dK (dicF G fun x => .ref (tt x))) = H8 at s8 s18 hp2
    walk_at "go"
    refine ⟨b, _, rfl, .inl ⟨sqL (s18 _ _ eb), fun b2 nb2 => ?_⟩⟩
    have s9 := same_upd (o := .tup (Ys.map nameV)) nb2
    have s19 := s18.trans s9
    have eb2 : upd H8 b2 (.tup (Ys.map nameV)) b2 = some (.tup (Ys.map nameV)) := upd_same
    generalize upd H8 b2 (.tup (Ys.map nameV)) = H9 at s9 s19 eb2
    walk_at "go"
    refine ⟨L, g2, h, b2, G, pr, ce, Rs, Ys, rfl, hp2.same s9, ok, hRt.same ((s7.trans s8).trans s9), n4, RG2, .inr eb2, lY, YG, fun d' v3 H10 D10 s10 V10 => ?_⟩
    obtain rfl := Due.one D1 D10
    have s20 := s19.trans s10
    walk_at "go"
    refine ⟨v3, z, rfl, .inl (hz _ _ V10), ?_⟩
    walk_at "go"
    refine ⟨v, z, rfl, .inl (hz _ _ (V17.same ((s8.trans s9).trans s10))), ?_⟩
    walk_at "go"
    rw [decide_eq_true (show V.str z = V.str z from rfl)]
    exact q _ s20
end
end K28

namespace K28
open PySem PySem.Spec PyProof.Rows L2 Bk


section
variable {K : PySem.W.Frag} {σ : L2.St} {H : Hp} {Q : VK} {j : Nat} {vs : List Nat} {te tl : TE} {a bx : Addr} {m : Nat} {xs : List V}
/-- over a list, each item drawn -/
theorem lcDrawL (p : V → Prop) (hb : Box bx m H) (hs : H a = some (.lst xs)) (na : a ≠ bx) (hl : xs.length ≤ 1000) (hw : ∀ x, wipe ((wipe σ vs).set j (some x)) vs = wipe σ vs) (hv : ∀ QQ : VK, QQ (.ref a) H → tl σ H QQ)
    (ht : ∀ (x : V) (k : Nat) (H' : Hp) (Q' : VK), k < m + xs.length → Box bx k H' → But bx H H' → (∀ v H2, p v → Box bx (k + 1) H2 → But bx H' H2 → Q' v H2) → te ((wipe σ vs).set j (some x)) H' Q')
    (q : ∀ D H' ys, H D = none → But bx H H' → Box bx (m + xs.length) H' → H' D = some (.lst ys) → ys.length = xs.length → (∀ v ∈ ys, p v) → Q (.ref D) H') : tLc (iList K tl) (gName j) tYes te vs σ H Q := by
  refine hv _ ⟨a, rfl, ⟨xs, sqL hs⟩, fun D hD => ?_⟩
  have nD : D ≠ bx := hb.ne hD
  refine lc_it (g := gName j) (tt := tYes) (te := te) (vs := vs) (σ := σ) walk_list (fun i G => But bx H G ∧ Box bx (m + i) G ∧ ∃ ys, G D = some (.lst ys) ∧ ys.length = i ∧ ∀ v ∈ ys, p v)
    ⟨.of (same_upd hD), hb.same (same_upd hD), [], upd_same, rfl, fun _ z => nomatch z⟩ (fun i G hi ⟨bt, _⟩ => sqL (bt _ _ na hs)) (fun i x H1 H2 hi ⟨bt, hB, ys, e, l, hp⟩ y => ?_) fun G ⟨bt, hB, ys, e, l, hp⟩ => q D G ys hD bt hB e l hp
  obtain ⟨rfl, hx⟩ := y
  refine ⟨hw _, r_yes (ht x (m + i) H2 _ (by omega) hB bt fun v H3 pv hB3 b3 => ⟨ys, b3 _ _ nD e, by rw [l]; exact Nat.lt_of_lt_of_le hi (Nat.le_trans hl (by decide)), ?_, ?_, ys ++ [v], upd_same, by rw [List.length_append, l]; rfl, fun u hu => ?_⟩)⟩
  · exact fun b o ne e0 => by
      have z := b3 _ _ ne (bt _ _ ne e0)
      rw [upd_ne (ne_of_none e0 hD)]
      exact z
  · obtain ⟨x1, y1, z1, eB, r⟩ := hB3
    exact ⟨x1, y1, z1, by rw [upd_ne nD.symm]; exact eB, r⟩
  · rcases List.mem_append.mp hu with z | z
    · exact hp u z
    · rw [List.mem_singleton.mp z]; exact pv
end
theorem dp_rows {K : PySem.W.Frag} {H : Hp} : ∀ {ts : List Addr} {Rs : List (List Str)}, ts.length = Rs.length → (∀ (k : Nat) t R, ts[k]? = some t → Rs[k]? = some R → H t = some (.lst (R.map V.str))) → DpAll K H (ts.map V.ref) (Rs.map strD)
  | [], [], _, _ => .nil
  | t :: ts, R :: Rs, l, h => .cons (dp_strs (sqL (h 0 t R rfl rfl))) (dp_rows (Nat.succ.inj l) fun k t R a c => h (k + 1) t R a c)
theorem lay_rows : ∀ {Rs : List (List Str)}, (∀ R ∈ Rs, ∀ x ∈ R, nameOk x = true) → PyData.canLayAll0 (Rs.map strD) = true ∧ PyData.depthAll (Rs.map strD) ≤ 1
  | [], _ => ⟨rfl, Nat.zero_le _⟩
  | R :: Rs, h => by
    obtain ⟨h1, h2⟩ := lay_rows (Rs := Rs) fun R hR => h R (List.mem_cons_of_mem _ hR)
    obtain ⟨g1, g2⟩ := lay_strs (l := R) fun x hx => str_of_name (h R List.mem_cons_self x hx)
    constructor
    · show (PyData.canLay0 (strD R) && PyData.canLayAll0 _) = true
      rw [h1]
      unfold strD
      simp only [PyData.canLay0, g1, Bool.true_and]
    · have z : PyData.depth (strD R) = 1 := by
        unfold strD
        simp only [PyData.depth, g2]
      show max (PyData.depth (strD R)) (PyData.depthAll (Rs.map strD)) ≤ 1
      omega
theorem sh_rows {Rs : List (List Str)} (h : ∀ R ∈ Rs, ∀ x ∈ R, nameOk x = true) : SeqAt.shaped (.list (Rs.map strD)) = true := by
  obtain ⟨a, b⟩ := lay_rows h
  generalize Rs.map strD = X at a b ⊢
  unfold SeqAt.shaped
  have z : 1 + PyData.depthAll X ≤ 2 := by omega
  simp only [PyData.canLay0, a, PyData.depth, Bool.true_and]
  exact decide_eq_true (by omega)
theorem Prs.but {H H' : Hp} {bx g : Addr} {n : Nat} {G : List Str} {pr ce : Str → Nat} (h : Prs H g G pr ce) (hB : Box bx n H) (c : But bx H H') : Prs H' g G pr ce := by
  obtain ⟨tt, e, ht⟩ := h
  exact ⟨tt, c _ _ (ne_bx hB e fun _ z => nomatch z) e, fun x hx => c _ _ (hB.ne_tup (ht x hx)) (ht x hx)⟩
theorem Prs.upd {H : Hp} {p g : Addr} {xs ys : List V} {G : List Str} {pr ce : Str → Nat} (h : Prs H g G pr ce) (e : H p = some (.lst xs)) : Prs (upd H p (.lst ys)) g G pr ce := by
  obtain ⟨tt, eg, ht⟩ := h
  exact ⟨tt, by rw [upd_ne (ne_ct eg e fun z => nomatch z)]; exact eg, fun x hx => by rw [upd_ne (ne_ct (ht x hx) e fun z => nomatch z)]; exact ht x hx⟩
theorem RowsL.na {H : Hp} {a t : Addr} {ts : List Addr} {Rs : List (List Str)} (h : RowsL H a ts Rs) (ht : t ∈ ts) : t ≠ a := by
  rintro rfl
  obtain ⟨k, hk, e⟩ := List.getElem_of_mem ht
  have l := h.2.1
  have c := List.getElem?_eq_getElem hk
  rw [e] at c
  have z := h.2.2 k t _ c (List.getElem?_eq_getElem (show k < Rs.length by omega))
  rw [h.1] at z
  injection z with z
  injection z with z
  cases ts with
  | nil => exact nomatch ht
  | cons u us =>
    generalize Rs[k] = R at z
    cases R with
    | nil => exact nomatch z
    | cons x R =>
      injection z with z
      exact nomatch z
theorem RowsL.fx {H H' : Hp} {a : Addr} {ts : List Addr} {Rs : List (List Str)} {p : Addr → Prop} (h : RowsL H a ts Rs) (na : ¬ p a) (nt : ∀ t ∈ ts, ¬ p t) (c : ∀ b u, ¬ p b → H b = some u → H' b = some u) : RowsL H' a ts Rs :=
  ⟨c _ _ na h.1, h.2.1, fun k t R x y => c _ _ (nt t (List.mem_of_getElem? x)) (h.2.2 k t R x y)⟩
theorem RowsL.set {H : Hp} {a t2 : Addr} {ts : List Addr} {Rs : List (List Str)} {j : Nat} {R2 : List Str} (h : RowsL H a ts Rs) (e : H t2 = some (.lst (R2.map V.str))) (n2 : t2 ≠ a) : RowsL (upd H a (.lst ((ts.map V.ref).set j (.ref t2)))) a (ts.set j t2) (Rs.set j R2) := by
  refine ⟨by rw [upd_same, List.map_set], by rw [List.length_set, List.length_set]; exact h.2.1, fun k t R hk hR => ?_⟩
  rw [List.getElem?_set] at hk hR
  have l := h.2.1
  by_cases c : j = k
  · rw [if_pos c] at hk hR
    by_cases lt : j < ts.length
    · rw [if_pos lt] at hk
      rw [if_pos (by omega)] at hR
      obtain rfl := Option.some.inj hk
      obtain rfl := Option.some.inj hR
      rw [upd_ne n2]
      exact e
    · rw [if_neg lt] at hk
      exact nomatch hk
  · rw [if_neg c] at hk hR
    rw [upd_ne (h.na (List.mem_of_getElem? hk))]
    exact h.2.2 k t R hk hR
theorem ixN_nat {n j : Nat} (h : j < n) : ixN n (j : Int) = some j := by
  unfold ixN
  simp
  omega
theorem Due.no {B : Nat → Str → Bool} {G : List Str} {d : Option (Nat × Str)} (n : ∀ k, ∀ x ∈ G, B k x = false) (h : Due B G d) : d = none := Due.one h (show Due B G none from n)
theorem cut_take {xs : List V} {n : Nat} : cutV xs none (some (n : Int)) = xs.take n := by
  unfold cutV
  rw [HT.sIx_nat]
  by_cases g : n ≤ xs.length
  · rw [Nat.min_eq_left g]
    rfl
  · rw [Nat.min_eq_right (by omega)]
    show List.take (xs.length - 0) (xs.drop 0) = _
    rw [List.drop_zero, Nat.sub_zero, List.take_length, List.take_of_length_le (by omega)]
theorem splice_len {Ys : List (Option Str)} {i : Nat} {y : Option Str} (h : i ≤ Ys.length) : ((Ys.take i ++ [y] ++ Ys.drop (i + 1)).take Ys.length).length = Ys.length := by
  rw [List.length_take, List.length_append, List.length_append, List.length_take, List.length_drop]
  show min _ (_ + 1 + _) = _
  omega
theorem splice_map {Ys : List (Option Str)} {i : Nat} {y : Option Str} : (Ys.map nameV).take i ++ [nameV y] ++ (Ys.map nameV).drop (i + 1) = (Ys.take i ++ [y] ++ Ys.drop (i + 1)).map nameV := by
  rw [List.map_append, List.map_append, List.map_take, List.map_drop]
  rfl
theorem splice_mem {Ys : List (Option Str)} {i n : Nat} {y z : Option Str} (h : z ∈ (Ys.take i ++ [y] ++ Ys.drop (i + 1)).take n) : z = y ∨ z ∈ Ys := by
  have w := List.mem_of_mem_take h
  rcases List.mem_append.mp w with w | w
  · rcases List.mem_append.mp w with w | w
    · exact .inr (List.mem_of_mem_take w)
    · exact .inl (List.mem_singleton.mp w)
  · exact .inr (List.mem_of_mem_drop w)
theorem names_map {G : List Str} : G.map V.str ++ [V.non] = (G.map some ++ [none]).map nameV := by
  rw [List.map_append, List.map_map]
  rfl
theorem names_mem {G : List Str} {v : V} (h : v ∈ (G.map some ++ [none]).map nameV) : ∃ y, v = nameV y ∧ ∀ z, y = some z → z ∈ G := by
  obtain ⟨y, hy, rfl⟩ := List.mem_map.mp h
  refine ⟨y, rfl, fun z e => ?_⟩
  subst e
  rcases List.mem_append.mp hy with w | w
  · obtain ⟨x, hx, e⟩ := List.mem_map.mp w
    rw [← Option.some.inj e]
    exact hx
  · exact nomatch List.mem_singleton.mp w
theorem all_names {ys : List V} {G : List Str} : (∀ v ∈ ys, ∃ y, v = nameV y ∧ ∀ z, y = some z → z ∈ G) → ∃ Ys : List (Option Str), ys = Ys.map nameV ∧ ∀ y ∈ Ys, ∀ z, y = some z → z ∈ G := by
  induction ys with
  | nil => exact fun _ => ⟨[], rfl, fun _ z => nomatch z⟩
  | cons v ys ih =>
    intro h
    obtain ⟨y, rfl, hy⟩ := h v List.mem_cons_self
    obtain ⟨Ys, rfl, hY⟩ := ih fun u hu => h u (List.mem_cons_of_mem _ hu)
    refine ⟨y :: Ys, rfl, fun z hz => ?_⟩
    rcases List.mem_cons.mp hz with w | w
    · rw [w]; exact hy
    · exact hY z w
def spLaw (K : PySem.W.Frag) : Sp := fun vs H Q _ => ∃ (sc : Addr) (ns : List Int), vs = [.ref sc] ∧ SqL K H sc (ns.map V.int) ∧ ns.length ≤ 63 ∧ ∀ H', Q (.bl true) H'
section
variable {P : Program} {w : World} {K : PySem.W.Frag} {mg : Str → Option Value} {base : Heap} {A : Ad}
theorem ok_law {f : Addr} {fd : FuncData} (F : Fun K "law" "law" s_law f fd) (T : Txt K mg A) (c_cell_L : CalD P w K mg base CX0 1 "_law_cell" (Bk.spCell K) []) (c_box_L : CalD P w K mg base CX0 1 "_law_box" spBox []) (c_take_L : CalD P w K mg base CX0 1 "_law_take" spTake [])
    (c_length_L : CalD P w K mg base CX0 2 "_law_length" spLen []) (c_guests_L : CalD P w K mg base CX0 3 "_law_guests" spGuests []) (c_ready_L : CalD P w K mg base CX0 2 "_law_ready" spReadyL []) (c_dealt_L : CalD P w K mg base CX0 7 "_law_dealt" spDealtL []) (c_first_broken : CalX P w K mg base 8 "first_broken" (spFirst K)) (c_right_L : CalG P w K mg base CX0 9 "_law_right" spRight) : FnG P w K mg base CX0 10 f fd ["_law_script"] (spLaw K) := by
  refine fun_okG F sc_law (fun vs H Q E h => ?_) (fun cdv A' outer s H vs Q E ga hr h => have hu65 := units65 hr; have hu64 := hr.units; have hu := units1 hr; ⟨_, (pss_cons (ps_for PassesOwn.never rfl (pi_range1 (by rfl) T.m_range (pa_cons (pe_callB (call_max2 rfl) (by rfl) T.m_max (by decide +kernel) (pa_cons pe_int (pa_cons (pe_callB (call_min2 rfl) (by rfl) T.m_min (by decide +kernel) (pa_cons pe_int (pa_cons (pe_callB call_len_seq (by rfl) T.m_len (by decide +kernel) (pa_cons (pv 0) pa_nil)) pa_nil))) pa_nil))) pa_nil)) (pg_name (i := 1) sc_law.nd rfl (.inl rfl))
      (pss_cons (ps_set (i := 2) sc_law.nd rfl (.inr rfl) (pe_cal c_box_L hr (by decide) (by rfl) (pa_cons (pe_cal c_cell_L hr (by decide) (by rfl) (pa_cons (pv 0) (pa_cons (pv 1) pa_nil))) pa_nil)))
    (pss_cons (ps_set (i := 3) sc_law.nd rfl (.inl rfl) (pe_cal c_length_L hr (by decide) (by rfl) (pa_cons (pv 2) pa_nil)))
    (pss_cons (ps_set (i := 4) sc_law.nd rfl (.inl rfl) (pe_cal c_guests_L hr (by decide) (by rfl) (pa_cons (pv 2) (pa_cons (pv 3) pa_nil))))
    (pss_cons (ps_set (i := 5) sc_law.nd rfl (.inl rfl) (pe_ix ix_list (pe_lstB (pa_cons pe_int (pa_cons (pv 3) (pa_cons (pe_op op_sub (pv 3) pe_int) (pa_cons (pe_op op_add (pv 3) pe_int) (pa_cons (pe_cal c_take_L hr (by decide) (by rfl) (pa_cons (pv 2) (pa_cons pe_int pa_nil))) (pa_cons pe_int pa_nil))))))) (pe_cal c_take_L hr (by decide) (by rfl) (pa_cons (pv 2) (pa_cons pe_int pa_nil))) (fun _ _ => rfl)))
    (pss_cons (ps_set (i := 6) sc_law.nd rfl (.inl rfl) (pe_cal c_ready_L hr (by decide) (by rfl) (pa_cons (pv 2) (pa_cons (pv 4) (pa_cons (pv 5) pa_nil)))))
    (pss_cons (ps_set (i := 7) sc_law.nd rfl (.inl rfl) (pe_cal c_dealt_L hr (by decide) (by rfl) (pa_cons (pv 3) (pa_cons (pv 4) (pa_cons (pv 6) pa_nil)))))
    (pss_cons (ps_if (pt_cmpR op_notN (pe_calY c_first_broken hr (by decide) (by rfl) (pa_cons (pv 3) (pa_cons (pv 4) (pa_cons (pv 6) (pa_cons (pv 7) pa_nil))))) pe_non (nomark _)) (pss_one (ps_ret pe_bl)) pss_nil)
    (pss_cons (ps_if (pt_not (pt_val (pe_calG c_right_L ga hr (by decide) (by rfl) (pa_cons (pv 3) (pa_cons (pv 4) (pa_cons (pv 6) (pa_cons (pv 7) pa_nil))))))) (pss_one (ps_ret pe_bl)) pss_nil)
    (pss_cons (ps_set (i := 8) sc_law.nd rfl (.inr rfl) (pe_op op_cat (pe_callTy (call_listD rfl) (by rfl) T.m_list (by decide +kernel) (pa_cons (pv 4) pa_nil)) (pe_lstB (pa_cons pe_non pa_nil))))
    (pss_cons (ps_for PassesOwn.never rfl (pi_range1 (by rfl) T.m_range (pa_cons (pe_cal c_take_L hr (by decide) (by rfl) (pa_cons (pv 2) (pa_cons pe_int pa_nil))) pa_nil)) (pg_name (i := 9) sc_law.nd rfl (.inl rfl))
      (pss_cons (ps_set (i := 10) sc_law.nd rfl (.inl rfl) (pe_cal c_take_L hr (by decide) (by rfl) (pa_cons (pv 2) (pa_cons (pe_op op_add (pe_callB call_len_seq (by rfl) T.m_len (by decide +kernel) (pa_cons (pv 7) pa_nil)) pe_int) pa_nil))))
    (pss_cons (ps_asg (pe_lstB (pa_cons (pe_ix ix_list (pv 8) (pe_cal c_take_L hr (by decide) (by rfl) (pa_cons (pv 2) (pa_cons (pe_callB call_len_seq (by rfl) T.m_len (by decide +kernel) (pa_cons (pv 8) pa_nil)) pa_nil))) (fun _ _ => rfl)) pa_nil)) (pg_cut (pv 7) (po_some (pv 10)) (po_some (pe_op op_add (pv 10) pe_int))))
    (pss_cons (ps_set (i := 7) sc_law.nd rfl (.inl rfl) (pe_slice sl_list (pv 7) po_none (po_some (pe_callB call_len_seq (by rfl) T.m_len (by decide +kernel) (pa_cons (pv 6) pa_nil)))))
    (pss_one (ps_if (pt_not (pt_val (pe_calG c_right_L ga hr (by decide) (by rfl) (pa_cons (pv 3) (pa_cons (pv 4) (pa_cons (pv 6) (pa_cons (pv 7) pa_nil))))))) (pss_one (ps_ret pe_bl)) pss_nil))))))
    (pss_one (ps_if (pt_cmpR (op_neD hu64) (pv 6) (pe_lstB pa_nil) (nomark _)) (pss_cons (ps_set (i := 10) sc_law.nd rfl (.inl rfl) (pe_cal c_take_L hr (by decide) (by rfl) (pa_cons (pv 2) (pa_cons (pe_callB call_len_seq (by rfl) T.m_len (by decide +kernel) (pa_cons (pv 6) pa_nil)) pa_nil))))
    (pss_cons (ps_asg (pe_lock (pe_lc (own := [("_law_label", 11)]) rfl sc_law.nd (pi_keys (pv 4)) (blkOk_by (N := ["_law_script", "_law_k", "_law_box_here", "_law_size", "_law_some", "_law_turns", "_law_those", "_law_given", "_law_names_here", "_law_turn", "_law_place", "_law_label", "_law_row"]) (sc := defScope s_law) (by decide +kernel)) (fun _ _ _ _ _ => (pg_name (i := 11) sc_law.nd rfl (.inl rfl))) (fun _ _ _ _ _ => pts_one (pt_cmpR op_eq (pe_cal c_take_L hr (by decide) (by rfl) (pa_cons (pv 2) (pa_cons pe_int pa_nil))) pe_int (nomark _))) (fun _ _ _ _ _ => (pv 11)))) (pg_sub (pv 6) (pv 10) set_list))
    (pss_cons (ps_setLc (i := 7) (own := [("_law_row", 12)]) rfl sc_law.nd rfl rfl (sw_true rfl rfl rfl (by decide +kernel)) (pi_list (pv 6)) (blkOk_by (N := ["_law_script", "_law_k", "_law_box_here", "_law_size", "_law_some", "_law_turns", "_law_those", "_law_given", "_law_names_here", "_law_turn", "_law_place", "_law_label", "_law_row"]) (sc := defScope s_law) (by decide +kernel)) (fun _ _ _ _ _ => (pg_name (i := 12) sc_law.nd rfl (.inl rfl))) (fun _ _ _ _ _ => pts_nil) (fun _ _ _ _ _ => (pe_ix (ix_listK (K := K) rfl) (pv 8) (pe_cal c_take_L hr (by decide) (by rfl) (pa_cons (pv 2) (pa_cons (pe_callB (call_len_seqK (K := K) rfl) (by rfl) T.m_len (by decide +kernel) (pa_cons (pv 8) pa_nil)) pa_nil))) (fun _ _ => rfl))))
    (pss_one (ps_if (pt_not (pt_val (pe_calG c_right_L ga hr (by decide) (by rfl) (pa_cons (pv 3) (pa_cons (pv 4) (pa_cons (pv 6) (pa_cons (pv 7) pa_nil))))))) (pss_one (ps_ret pe_bl)) pss_nil))))) pss_nil)))))))))))))
    (pss_one (ps_ret (pe_and (pe_cmpR op_isN (pe_calY c_first_broken hr (by decide) (by rfl) (pa_cons pe_int (pa_cons pe_dnewK (pa_cons (pe_lstB (pa_cons (pe_lstB pa_nil) pa_nil)) (pa_cons (pe_lstB (pa_cons pe_non pa_nil)) pa_nil))))) pe_non (nomark _)) (pe_one (pe_cmpR op_isN (pe_calY c_first_broken hr (by decide) (by rfl) (pa_cons pe_int (pa_cons pe_dnewK (pa_cons (pe_tup pa_nil) (pa_cons (pe_tup pa_nil) pa_nil))))) pe_non (nomark _))))))), ?_⟩)
  · obtain ⟨sc, ns, rfl, _⟩ := h
    rfl
  · obtain ⟨sc, ns, rfl, hs, hl, q⟩ := h
    walk_at "go"
    refine ⟨sc, _, rfl, .inl hs, ?_⟩
    walk_at "go"
    rw [List.length_map]
    refine ⟨_, _, rfl, ?_⟩
    walk_at "go"
    refine ⟨_, _, rfl, ?_⟩
    walk_at "go"
    refine ⟨_, rfl, by split <;> split <;> omega, by split <;> split <;> omega, ?_⟩
    have hm : ∀ m : Nat, m = (if (if (ns.length : Int) < 8 then (ns.length : Int) else 8) > 2 then (if (ns.length : Int) < 8 then (ns.length : Int) else 8) else 2).toNat → m ≤ 8 := fun m e => by
      subst e
      split <;> split <;> omega
    refine for_range (fun k σ G => (∃ x1 x2 x3 x4 x5 x6 x7 x8 x9 x10 x11 x12, σ = [some (.ref sc), x1, x2, x3, x4, x5, x6, x7, x8, x9, x10, x11, x12]) ∧ Same H G)
      ⟨⟨_, _, _, _, _, _, _, _, _, _, _, _, rfl⟩, fun _ _ e => e⟩ ?_ ?_
    · rintro k σ G hk ⟨⟨x1, x2, x3, x4, x5, x6, x7, x8, x9, x10, x11, x12, rfl⟩, sG⟩
      have k8 : k < 8 := Nat.lt_of_lt_of_le hk (hm _ rfl)
      clear hm hk
      rw [Int.zero_add]
      have hsG : SqL K G sc (ns.map V.int) := Same.seq sG hs
      walk_at "go"
      refine ⟨sc, ns, k, rfl, hsG, by omega, fun ce0 => ?_⟩
      walk_at "go"
      refine ⟨ce0, rfl, fun bx H1 nbx s1 hB => ?_⟩
      walk_at "go"
      refine ⟨bx, 0, rfl, hB, by decide, fun L H2 L4 L60 b2 hB2 => ?_⟩
      walk_at "go"
      refine ⟨bx, _, L, rfl, hB2, by decide, L4, L60, fun g gs pr ce H3 ng b3 hB3 hp ok => ?_⟩
      walk_at "go"
      refine r_take hB3 fun d71 H4 d0 d1 hB4 b4 => ?_
      walk_at "go"
      refine newLB fun pl H5 n5 g5 s5 e5 => ?_
      walk_at "go"
      refine r_take (hB4.same s5) fun d6 H6 c0 c1 hB6 b6 => ?_
      have npl : pl ≠ bx := hB4.ne n5
      refine r_ixLo (sqL (b6 _ _ npl e5)) c0 c1 fun v hv _ => ?_
      obtain ⟨m, rfl, m4⟩ : ∃ m : Nat, v = .int m ∧ m ≤ 400 := by
        rcases List.mem_cons.mp hv with w | hv
        · exact ⟨0, w, by decide⟩
        rcases List.mem_cons.mp hv with w | hv
        · exact ⟨L, w, by omega⟩
        rcases List.mem_cons.mp hv with w | hv
        · exact ⟨L - 1, by rw [w]; congr 1; omega, by omega⟩
        rcases List.mem_cons.mp hv with w | hv
        · exact ⟨L + 1, by rw [w]; rfl, by omega⟩
        rcases List.mem_cons.mp hv with w | hv
        · exact ⟨d71.toNat, by rw [w]; congr 1; omega, by omega⟩
        rcases List.mem_cons.mp hv with w | hv
        · exact ⟨400, w, by decide⟩
        · exact nomatch hv
      have b46 : But bx H3 H6 := (b4.same s5).trans b6
      have hp6 := hp.but hB3 b46
      walk_at "go"
      obtain ⟨tt6, eg6, ht6⟩ := id hp6
      refine ⟨bx, g, _, m, gs, _, rfl, hB6, by decide, m4, eg6, ok.six, fun a ts Rs H7 na6 nts b7 hB7 hR lR RG => ?_⟩
      have hp7 := hp6.but hB6 b7
      walk_at "go"
      refine ⟨L, g, a, gs, pr, ce, ts, Rs, rfl, hp7, ok, hR, by omega, RG, fun b Ys H8 nb7 s8 eb lY YG none8 => ?_⟩
      have RG2 : ∀ R ∈ Rs, R.length ≤ 1000 ∧ ∀ x ∈ R, x ∈ gs := fun R z => ⟨by have := (RG R z).1; omega, (RG R z).2⟩
      walk_at "go"
      refine ⟨L, g, a, b, gs, pr, ce, Rs, Ys, rfl, hp7.same s8, ok, (hR.same s8).rows, by omega, RG2, .inl eb, lY, YG, fun dd v9 H9 D9 s9 V9 => ?_⟩
      obtain rfl := Due.no none8 D9
      obtain rfl : v9 = .non := V9
      have s89 := s8.trans s9
      walk_at "go"
      refine ⟨rfl, ?_⟩
      rw [decide_eq_true (show V.non = V.non from rfl)]
      walk_at "go"
      refine ⟨L, g, a, b, gs, pr, ce, ts, Rs, Ys, rfl, hp7.same s89, ok, hR.same s89, s9 _ _ eb, lY, by omega, RG, YG, fun H10 s10 => ?_⟩
      have s810 := s89.trans s10
      walk_at "go"
      obtain ⟨tt10, eg10, ht10⟩ := hp7.same s810
      refine ⟨g, _, rfl, .inl eg10, fun p1 np1 => ?_⟩
      have ek : (dicF gs fun x => V.ref (tt10 x)).map (fun kv => kV kv.1) = gs.map V.str := by
        unfold dicF
        rw [List.map_map]
        rfl
      rw [ek]
      have s11 := same_upd (o := .lst (gs.map V.str)) np1
      have e11 : upd H10 p1 (.lst (gs.map V.str)) p1 = some (.lst (gs.map V.str)) := upd_same
      generalize upd H10 p1 (.lst (gs.map V.str)) = H11 at s11 e11
      walk_at "go"
      refine newLB fun p2 H12 np2 g12 s12 e12 => ?_
      refine r_cat (s12 _ _ e11) e12 (fun nl H13 nnl s13 enl => ?_) (by have := ok.six; rw [List.length_map]; show _ + 1 ≤ _; omega)
      walk_at "go"
      have s713 := s810.trans (s11.trans (s12.trans s13))
      have hB13 := hB7.same s713
      have hp13 := hp7.same s713
      have hR13 := hR.same s713
      have eb13 := (s10.trans (s11.trans (s12.trans s13))) _ _ (s9 _ _ eb)
      have nbb : b ≠ bx := hB7.ne nb7
      have nab : a ≠ bx := hB6.ne na6
      have nanb : a ≠ b := ne_of_none hR.1 nb7
      have ntb : ∀ t ∈ ts, t ≠ b := fun t ht => by
        obtain ⟨j, hj, e⟩ := List.getElem_of_mem ht
        have c := List.getElem?_eq_getElem hj
        rw [e] at c
        exact ne_of_none (hR.2.2 j t _ c (List.getElem?_eq_getElem (show j < Rs.length by have := hR.2.1; omega))) nb7
      have ntx : ∀ t ∈ ts, t ≠ bx := fun t ht => hB6.ne (nts t ht)
      have nlx : nl ≠ bx := (hB7.same (s810.trans (s11.trans s12))).ne nnl
      have nlb : nl ≠ b := (ne_of_none ((s10.trans (s11.trans s12)) _ _ (s9 _ _ eb)) nnl).symm
      have nla : nl ≠ a := (ne_of_none ((s810.trans (s11.trans s12)) _ _ hR.1) nnl).symm
      have hHx : ∀ c u, H c = some u → c ≠ bx ∧ c ≠ b ∧ c ≠ a ∧ H13 c = some u := fun c u e => by
        have e0 := s1 _ _ (sG _ _ e)
        have nx : c ≠ bx := ne_of_none (sG _ _ e) nbx
        have e6 := b46 _ _ nx (b3 _ _ nx (b2 _ _ nx e0))
        have e7 := b7 _ _ nx e6
        exact ⟨nx, ne_of_none e7 nb7, ne_of_none e6 na6, s713 _ _ e7⟩
      rw [names_map] at enl
      clear s1 s5 s8 s9 s10 s11 s12 s13 s713 s810 s89 b2 b3 b4 b46 b6 b7 e5 hB hB2 hB3 hB4 hB6 hB7 hp hp6 hp7 hR e11 e12 nnl np1 np2 eg6 ht6 tt6 eg10 ht10 tt10 eb nb7 na6 nts ng n5 npl hsG sG ek g12 g5 hv D9 c0 c1 d0 d1 nbx
      refine r_take hB13 fun d5 H14 d0 d1 hB14 b14 => ?_
      walk_at "go"
      refine ⟨_, rfl, by omega, by omega, ?_⟩
      have eb14 := b14 _ _ nbb eb13
      have hp14 := hp13.but hB13 b14
      have hR14 := hR13.fx nab ntx fun c u n e => b14 c u n e
      have enl14 := b14 _ _ nlx enl
      have five : d5.toNat ≤ 5 := by omega
      refine for_range (fun t σ G => (∃ (b2 : Addr) (Ys : List (Option Str)) (x9 x10 x11 x12 : Option V), σ = [some (.ref sc), some (.int k), some (.ref bx), some (.int L), some (.ref g), some (.int m), some (.ref a), some (.ref b2), some (.ref nl), x9, x10, x11, x12] ∧ G b2 = some (.lst (Ys.map nameV)) ∧ Ys.length = Rs.length ∧ (∀ y ∈ Ys, ∀ z, y = some z → z ∈ gs) ∧ b2 ≠ bx ∧ (b2 = b ∨ H14 b2 = none)) ∧ Box bx (60 + 6 + 6 * m + 10 + 2 * t) G ∧ ∀ c u, H14 c = some u → c ≠ bx → c ≠ b → G c = some u)
        ⟨⟨b, Ys, _, _, _, _, rfl, eb14, lY, YG, nbb, .inl rfl⟩, hB14.mono (by omega), fun _ _ e _ _ => e⟩ ?_ ?_
      · rintro t σ G2 ht ⟨⟨b2, Ys2, x9, x10, x11, x12, rfl, eb2, lY2, YG2, nb2, ob2⟩, hBt, fr⟩
        have hp2 : Prs G2 g gs pr ce := by
          obtain ⟨tt, e, h⟩ := hp14
          exact ⟨tt, fr _ _ e (ne_bx hB14 e fun _ z => nomatch z) (ne_ct e eb14 fun z => nomatch z), fun x hx => fr _ _ (h x hx) (hB14.ne_tup (h x hx)) (ne_ct (h x hx) eb14 fun z => nomatch z)⟩
        have hR2 : RowsL G2 a ts Rs := hR14.fx (p := fun c => c = bx ∨ c = b) (fun z => z.elim nab nanb) (fun u hu z => z.elim (ntx u hu) (ntb u hu)) fun c u n e => fr c u e (fun z => n (.inl z)) fun z => n (.inr z)
        have enl2 := fr _ _ enl14 nlx nlb
        have nlb2 : nl ≠ b2 := ob2.elim (fun z => by rw [z]; exact nlb) fun z => ne_of_none enl14 z
        have ntb2 : ∀ t ∈ ts, t ≠ b2 := fun t ht z => by
          rcases ob2 with w | w
          · exact ntb t ht (z.trans w)
          · obtain ⟨j, hj, e⟩ := List.getElem_of_mem ht
            have c := List.getElem?_eq_getElem hj
            rw [e] at c
            have q := hR14.2.2 j t _ c (List.getElem?_eq_getElem (show j < Rs.length by have := hR14.2.1; omega))
            rw [z, w] at q
            exact nomatch q
        have nab2 : a ≠ b2 := ob2.elim (fun z => by rw [z]; exact nanb) fun z => ne_of_none hR14.1 z
        have t5 : t < 5 := Nat.lt_of_lt_of_le ht five
        rw [Int.zero_add]
        walk_at "go"
        refine ⟨b2, _, rfl, .inl (sqL eb2), ?_⟩
        rw [List.length_map]
        walk_at "go"
        refine r_take hBt (fun i G3 i0 i1 hB3 b3 => ?_) (by omega) (by omega) (by omega)
        obtain ⟨j, rfl⟩ := Int.eq_ofNat_of_zero_le i0
        walk_at "go"
        have enl3 := b3 _ _ nlx enl2
        have ln : ((gs.map some ++ [none]).map nameV).length = gs.length + 1 := by rw [List.length_map, List.length_append, List.length_map]; rfl
        have six := ok.six
        refine ⟨nl, _, rfl, .inl (sqL enl3), ?_⟩
        walk_at "go"
        refine r_take hB3 (fun i4 G4 j0 j1 hB4 b4 => ?_) (by omega) (by omega) (by omega)
        refine r_ixLo (sqL (b4 _ _ nlx enl3)) j0 j1 fun v hv _ => ?_
        obtain ⟨y, rfl, hy⟩ := names_mem hv
        refine r_nil ?_
        refine newLB fun q1 G5 nq1 gq1 s5 eq1 => ?_
        have eb5 := s5 _ _ (b4 _ _ nb2 (b3 _ _ nb2 eb2))
        have hj : j ≤ Ys2.length := by omega
        refine ⟨_, rfl, _, rfl, _, rfl, _, rfl, _, _, rfl, rfl, _, rfl, b2, q1, _, _, j, j + 1, rfl, rfl, rfl, rfl, eb5, eq1, ne_of_none (b4 _ _ nb2 (b3 _ _ nb2 eb2)) nq1, by omega, by rw [List.length_map]; exact hj, by rw [List.length_map, sizeLine_eq]; show _ + 1 ≤ _; omega, ?_⟩
        rw [splice_map]
        have b35 : But bx G2 G5 := (b3.trans b4).same s5
        have hB5 := hB4.same s5
        generalize hG6 : upd G5 b2 (.lst ((Ys2.take j ++ [y] ++ Ys2.drop (j + 1)).map nameV)) = G6
        have eb6 : G6 b2 = some (.lst ((Ys2.take j ++ [y] ++ Ys2.drop (j + 1)).map nameV)) := by rw [← hG6]; exact upd_same
        have f6 : ∀ c u, ¬ (c = bx ∨ c = b2) → G2 c = some u → G6 c = some u := fun c u n e => by
          rw [← hG6, upd_ne fun z => n (.inr z)]
          exact b35 _ _ (fun z => n (.inl z)) e
        have hB6 : Box bx (60 + 6 + 6 * m + 10 + 2 * (t + 1)) G6 := by
          obtain ⟨x1, y1, z1, eB, r⟩ := hB5.mono (m := 60 + 6 + 6 * m + 10 + 2 * (t + 1)) (by omega)
          exact ⟨x1, y1, z1, by rw [← hG6, upd_ne nb2.symm]; exact eB, r⟩
        have hR6 : RowsL G6 a ts Rs := hR2.fx (p := fun c => c = bx ∨ c = b2) (fun z => z.elim nab nab2) (fun u hu z => z.elim (ntx u hu) (ntb2 u hu)) f6
        have hp6 : Prs G6 g gs pr ce := by
          rw [← hG6]
          exact ((hp2.but hBt (b3.trans b4)).same s5).upd eb5
        walk_at "go"
        refine ⟨a, _, rfl, .inl (sqL hR6.1), ?_⟩
        rw [List.length_map, hR6.2.1]
        refine ⟨_, rfl, ?_⟩
        refine r_slL (sqL eb6) cut_take fun b3' G7 nb7 s7 eb7 => ?_
        rw [← List.map_take, ← lY2] at eb7
        have l7 := (splice_len (y := y) hj).trans lY2
        have m7 : ∀ z ∈ (Ys2.take j ++ [y] ++ Ys2.drop (j + 1)).take Ys2.length, ∀ u, z = some u → u ∈ gs := fun z hz u e => by
          rcases splice_mem hz with w | w
          · exact hy u (by rw [← w]; exact e)
          · exact YG2 z w u e
        walk_at "go"
        refine ⟨L, g, a, b3', gs, pr, ce, ts, Rs, _, rfl, hp6.same s7, ok, hR6.same s7, eb7, l7, by omega, RG, m7, fun G8 s8 => ?_⟩
        walk_at "go"
        have fr8 : ∀ c u, H14 c = some u → c ≠ bx → c ≠ b → G8 c = some u := fun c u e n1 n2 => s8 _ _ (s7 _ _ (f6 c u (fun z => z.elim n1 fun z => by
          rcases ob2 with w | w
          · exact n2 (z.trans w)
          · rw [z, w] at e; exact nomatch e) (fr c u e n1 n2)))
        refine ⟨⟨b3', _, _, _, _, _, rfl, s8 _ _ eb7, l7, m7, hB6.ne nb7, ?_⟩, (hB6.same s7).same s8, fr8⟩
        by_cases w : b3' = b
        · exact .inl w
        · refine .inr ?_
          cases z : H14 b3' with
          | none => rfl
          | some u =>
            rw [f6 _ _ (fun z2 => z2.elim (hB6.ne nb7) fun z2 => by rw [z2, eb6] at nb7; exact nomatch nb7) (fr _ _ z (hB6.ne nb7) w)] at nb7
            exact nomatch nb7
      · rintro σ G2 ⟨⟨b2, Ys2, x9, x10, x11, x12, rfl, eb2, lY2, YG2, nb2, ob2⟩, hBt, fr⟩
        have hp2 : Prs G2 g gs pr ce := by
          obtain ⟨tt, e, h⟩ := hp14
          exact ⟨tt, fr _ _ e (ne_bx hB14 e fun _ z => nomatch z) (ne_ct e eb14 fun z => nomatch z), fun x hx => fr _ _ (h x hx) (hB14.ne_tup (h x hx)) (ne_ct (h x hx) eb14 fun z => nomatch z)⟩
        have hR2 : RowsL G2 a ts Rs := hR14.fx (p := fun c => c = bx ∨ c = b) (fun z => z.elim nab nanb) (fun u hu z => z.elim (ntx u hu) (ntb u hu)) fun c u n e => fr c u e (fun z => n (.inl z)) fun z => n (.inr z)
        have enl2 := fr _ _ enl14 nlx nlb
        have sH2 : Same H G2 := fun c u e => by
          obtain ⟨n1, n2, n3, e13⟩ := hHx c u e
          exact fr _ _ (b14 _ _ n1 e13) n1 n2
        walk_at "go"
        refine newLB fun e0 G3 ne0 ge0 s3 ee0 => ?_
        have hR3 := hR2.same s3
        refine ⟨.list (Rs.map strD), .list [], .lst (sqL hR3.1) (dp_rows hR3.2.1 hR3.2.2), .lst (sqL ee0) .nil, sh_rows fun R hR x hx => ok.nm x ((RG R hR).2 x hx), sh_nil, ?_⟩
        rw [eqv_nil]
        by_cases eR : Rs.map strD = []
        · rw [decide_eq_true eR]
          walk_at "go"
          exact ⟨⟨_, _, _, _, _, _, _, _, _, _, _, _, rfl⟩, sH2.trans s3⟩
        · rw [decide_eq_false eR]
          have rl : 0 < Rs.length := by
            cases Rs with
            | nil => exact absurd rfl eR
            | cons R Rs => exact Nat.succ_pos _
          walk_at "go"
          refine ⟨a, _, rfl, .inl (sqL hR3.1), ?_⟩
          rw [List.length_map, hR3.2.1]
          walk_at "go"
          refine r_take (hBt.same s3) (fun i G4 i0 i1 hB4 b4 => ?_) (by omega) (by omega) (by omega)
          obtain ⟨j, rfl⟩ := Int.eq_ofNat_of_zero_le i0
          walk_at "go"
          have hp4 := (hp2.same s3).but (hBt.same s3) b4
          have hR4 : RowsL G4 a ts Rs := hR3.fx (p := fun c => c = bx) nab ntx fun c u n e => b4 c u n e
          obtain ⟨tt4, eg4, ht4⟩ := id hp4
          refine lcFltKB hB4 (by have := ok.six; omega) (fun _ => rfl) eg4 (fun od QQ z => ⟨_, rfl, z⟩) (fun x H1 QQ z => ⟨_, rfl, z⟩) (fun x k2 od H1 Q' hx hk hB1 bt kk => ?_) fun t2 G5 R2 nt2 b5 hB5 et2 R6 R2G => ?_
          · walk_at "go"
            refine r_take hB1 (fun d H2 h0 h1 hB2 b2 => ?_) (by have := ok.six; omega)
            walk_at "go"
            exact kk _ H2 hB2 b2
          have hp5 := hp4.but hB4 b5
          have hR5 : RowsL G5 a ts Rs := hR4.fx (p := fun c => c = bx) nab ntx fun c u n e => b5 c u n e
          have n2a : t2 ≠ a := (ne_of_none hR4.1 nt2).symm
          have n2x : t2 ≠ bx := hB4.ne nt2
          walk_at "go"
          refine ⟨a, _, _, j, rfl, rfl, hR5.1, ixN_nat (by rw [List.length_map, hR5.2.1]; omega), ?_⟩
          have hR6 := hR5.set (j := j) et2 n2a
          have hp6 : Prs (upd G5 a (.lst ((ts.map V.ref).set j (.ref t2)))) g gs pr ce := hp5.upd hR5.1
          have hB6 : Box bx (60 + 6 + 6 * m + 10 + 2 * d5.toNat + 1 + gs.length) (upd G5 a (.lst ((ts.map V.ref).set j (.ref t2)))) := by
            obtain ⟨x1, y1, z1, eB, r⟩ := hB5
            exact ⟨x1, y1, z1, by rw [upd_ne nab.symm]; exact eB, r⟩
          have enl6 : upd G5 a (.lst ((ts.map V.ref).set j (.ref t2))) nl = some (.lst ((gs.map some ++ [none]).map nameV)) := by
            rw [upd_ne nla]
            exact b5 _ _ nlx (b4 _ _ nlx (s3 _ _ enl2))
          have sH6 : Same H (upd G5 a (.lst ((ts.map V.ref).set j (.ref t2)))) := fun c u e => by
            obtain ⟨n1, n2, n3, _⟩ := hHx c u e
            rw [upd_ne n3]
            exact b5 _ _ n1 (b4 _ _ n1 (s3 _ _ (sH2 c u e)))
          have lS : (ts.set j t2).length = Rs.length := by rw [List.length_set]; exact hR5.2.1
          have RG6 : ∀ R ∈ Rs.set j R2, R.length ≤ 6 ∧ ∀ x ∈ R, x ∈ gs := fun R hR => by
            rcases List.mem_or_eq_of_mem_set hR with w | w
            · exact RG R w
            · rw [w]; exact ⟨by have := ok.six; omega, R2G⟩
          generalize upd G5 a (.lst ((ts.map V.ref).set j (.ref t2))) = G6 at hR6 hp6 hB6 enl6 sH6 ⊢
          walk_at "go"
          refine lcDrawL (fun v => ∃ y, v = nameV y ∧ ∀ z, y = some z → z ∈ gs) hB6 hR6.1 nab (by rw [List.length_map, lS]; omega) (fun _ => rfl) (fun QQ z => ⟨_, rfl, z⟩) (fun x k2 G7 Q' hk hB7 b7 kk => ?_) fun D G7 ys nD b7 hB7 eD lD pD => ?_
          · walk_at "go"
            have enl7 := b7 _ _ nlx enl6
            refine ⟨nl, _, rfl, .inl (sqL enl7), ?_⟩
            have ln : ((gs.map some ++ [none]).map nameV).length = gs.length + 1 := by rw [List.length_map, List.length_append, List.length_map]; rfl
            walk_at "go"
            have six := ok.six
            rw [List.length_map, lS, lR] at hk
            refine r_take hB7 (fun i4 G8 j0 j1 hB8 b8 => ?_) (by omega) (by omega) (by omega)
            refine r_ixLo (sqL (b8 _ _ nlx enl7)) j0 j1 fun v hv _ => ?_
            exact kk v G8 (names_mem hv) hB8 b8
          · obtain ⟨Ys9, rfl, Y9⟩ := all_names pD
            have hp7 := hp6.but hB6 b7
            have hR7 : RowsL G7 a (ts.set j t2) (Rs.set j R2) := hR6.fx (p := fun c => c = bx) nab (fun u hu => by
              rcases List.mem_or_eq_of_mem_set hu with w | w
              · exact ntx u w
              · rw [w]; exact n2x) fun c u n e => b7 c u n e
            rw [List.length_map, List.length_map, lS] at lD
            walk_at "go"
            refine ⟨L, g, a, D, gs, pr, ce, _, _, _, rfl, hp7, ok, hR7, eD, by rw [List.length_set]; exact lD, by rw [List.length_set]; omega, RG6, Y9, fun G8 s8 => ?_⟩
            walk_at "go"
            have nHx : ∀ c u, H c = some u → c ≠ bx := fun c u e => (hHx c u e).1
            exact ⟨⟨_, _, _, _, _, _, _, _, _, _, _, _, rfl⟩, fun c u e => s8 _ _ (b7 _ _ (nHx c u e) (sH6 c u e))⟩
    · rintro σ G ⟨⟨x1, x2, x3, x4, x5, x6, x7, x8, x9, x10, x11, x12, rfl⟩, sG⟩
      walk_at "go"
      intro g1 ng1
      have s1 := same_upd (o := .dK []) ng1
      have eg1 : upd G g1 (.dK []) g1 = some (.dK []) := upd_same
      generalize upd G g1 (.dK []) = G1 at s1 eg1 ⊢
      walk_at "go"
      refine newLB fun r0 G2 n2 m2 s2 e2 => ?_
      walk_at "go"
      refine newLB fun r1 G3 n3 m3 s3 e3 => ?_
      walk_at "go"
      refine newLB fun r2 G4 n4 m4 s4 e4 => ?_
      have none4 : ShOk 4 [] (fun _ => 0) (fun _ => 0) := ⟨by decide, by decide, by decide, List.nodup_nil, fun _ z => (nomatch z), fun _ z => (nomatch z), by decide⟩
      have none60 : ShOk 60 [] (fun _ => 0) (fun _ => 0) := ⟨by decide, by decide, by decide, List.nodup_nil, fun _ z => (nomatch z), fun _ z => (nomatch z), by decide⟩
      refine ⟨4, g1, r1, r2, [], fun _ => 0, fun _ => 0, [[]], [none], rfl, ⟨fun _ => 0, (s2.trans (s3.trans s4)) _ _ eg1, fun _ z => (nomatch z)⟩, none4, ⟨[r0], .inl (s4 _ _ e3), rfl, fun k t R hk hR => ?_⟩, by decide, fun R hR => ?_, .inl e4, rfl, fun y hy z e => ?_, fun d v H5 D5 s5 V5 => ?_⟩
      · cases k with
        | zero =>
          obtain rfl := Option.some.inj hk
          obtain rfl := Option.some.inj hR
          exact .inl ((s3.trans s4) _ _ e2)
        | succ k => exact nomatch hk
      · rw [List.mem_singleton.mp hR]
        exact ⟨by decide, fun _ z => nomatch z⟩
      · rw [List.mem_singleton.mp hy] at e
        exact nomatch e
      obtain rfl := Due.no (fun _ _ z => (List.not_mem_nil z).elim) D5
      obtain rfl : v = .non := V5
      refine ⟨rfl, _, rfl, ?_⟩
      rw [decide_eq_true (show V.non = V.non from rfl), if_pos rfl]
      walk_at "go"
      intro g2 ng2
      have s6 := same_upd (o := .dK []) ng2
      have eg2 : upd H5 g2 (.dK []) g2 = some (.dK []) := upd_same
      generalize upd H5 g2 (.dK []) = H6 at s6 eg2 ⊢
      walk_at "go"
      refine newT fun t1 H7 n7 s7 e7 => ?_
      walk_at "go"
      refine newT fun t2 H8 n8 s8 e8 => ?_
      refine ⟨60, g2, t1, t2, [], fun _ => 0, fun _ => 0, [], [], rfl, ⟨fun _ => 0, (s7.trans s8) _ _ eg2, fun _ z => (nomatch z)⟩, none60, ⟨[], .inr (s8 _ _ e7), rfl, fun k t R hk hR => (nomatch hk)⟩, by decide, fun R hR => (nomatch hR), .inr e8, rfl, fun y hy => (nomatch hy), fun d v H9 D9 s9 V9 => ?_⟩
      obtain rfl := Due.no (fun _ _ z => (List.not_mem_nil z).elim) D9
      obtain rfl : v = .non := V9
      refine ⟨rfl, ?_⟩
      rw [decide_eq_true (show V.non = V.non from rfl)]
      exact q H9
end
end K28

namespace K28
open PySem PySem.Spec PyProof.Rows L2 Bk


section
variable {P : Program} {w : World} {K : PySem.W.Frag} {mg : Str → Option Value} {base : Heap} {A : Ad}
theorem ok_cell {f : Addr} {fd : FuncData} (F : Fun K "_law_cell" "_law_cell" s_cell_L f fd) (T : Txt K mg A) : FnOk P w K mg base CX0 1 f fd ["_law_script", "_law_k"] (Bk.spCell K) := by
  refine F.ok sc_cell_L (fun vs H Q E h => ?_) (fun cdv A' outer s H vs Q E hr h => ⟨_, (pss_cons (ps_if (pt_cmpR op_lt (pv 1) (pe_callB call_len_seq (by rfl) T.m_len (by decide +kernel) (pa_cons (pv 0) pa_nil)) (nomark _)) (pss_one (ps_ret (pe_ix ix_list (pv 0) (pv 1) (fun _ _ => rfl)))) pss_nil)
    (pss_one (ps_ret (pe_op op_add (pe_op op_mulW pe_int (pv 1)) pe_int)))), ?_⟩)
  · obtain ⟨a, ns, k, rfl, _⟩ := h
    rfl
  · obtain ⟨a, ns, k, rfl, hS, hk, q⟩ := h
    walk_at "go"
    refine ⟨a, _, rfl, .inl hS, ?_⟩
    walk_at "go"
    refine ite2 (fun e => ?_) (fun e => ?_)
    · walk_at "go"
      have hl : k < ns.length := by
        have z := of_decide_eq_true e
        rw [List.length_map] at z
        omega
      exact r_ixL hS (at_map hl) (q _)
    · walk_at "go"
      refine r_I (cmul (by decide) (by decide) (by omega) (by omega)) ?_
      walk_at "go"
      exact q _
theorem ok_box {f : Addr} {fd : FuncData} (F : Fun K "_law_box" "_law_box" s_box_L f fd) (T : Txt K mg A) : FnOk P w K mg base CX0 1 f fd ["_law_cell_here"] spBox := by
  refine F.ok sc_box_L (fun vs H Q E h => ?_) (fun cdv A' outer s H vs Q E hr h => ⟨_, (pss_one (ps_ret (pe_lstB (pa_cons (pe_callB (call_max2 rfl) (by rfl) T.m_max (by decide +kernel) (pa_cons pe_int (pa_cons (pe_op op_sub (pv 0) (pe_op op_pow pe_int pe_int)) pa_nil))) (pa_cons (pe_op op_mod (pv 0) pe_int) (pa_cons pe_int pa_nil)))))), ?_⟩)
  · obtain ⟨c, rfl, _⟩ := h
    rfl
  · obtain ⟨c, rfl, q⟩ := h
    walk_at "go"
    refine r_I ⟨by decide, by decide, by decide⟩ ?_
    walk_at "go"
    refine ⟨_, _, rfl, ?_⟩
    walk_at "go"
    refine r_I (by decide) ?_
    walk_at "go"
    refine newLB fun p H' np ns sm e => q p H' np sm ⟨_, _, _, e, ?_, ?_, ?_, ?_, ?_⟩ <;> first | omega | (split <;> omega)
theorem ok_take {f : Addr} {fd : FuncData} (F : Fun K "_law_take" "_law_take" s_take_L f fd) (T : Txt K mg A) : FnOk P w K mg base CX0 1 f fd ["_law_box_here", "_law_size"] spTake := by
  refine F.ok sc_take_L (fun vs H Q E h => ?_) (fun cdv A' outer s H vs Q E hr h => ⟨_, (pss_cons (ps_if (pt_cmpR op_gt (pe_ix ix_list (pv 0) pe_int (fun _ _ => rfl)) pe_int (nomark _)) (pss_cons (ps_set (i := 2) sc_take_L.nd rfl (.inl rfl) (pe_op op_mod (pe_ix ix_list (pv 0) pe_int (fun _ _ => rfl)) (pv 1)))
    (pss_cons (ps_asg (pe_op op_fdivW (pe_ix ix_list (pv 0) pe_int (fun _ _ => rfl)) (pv 1)) (pg_sub (pv 0) pe_int set_list))
    (pss_one (ps_ret (pv 2))))) pss_nil)
    (pss_cons (ps_asg (pe_op op_add (pe_ix ix_list (pv 0) pe_int (fun _ _ => rfl)) pe_int) (pg_sub (pv 0) pe_int set_list))
    (pss_cons (ps_set (i := 3) sc_take_L.nd rfl (.inl rfl) (pe_op op_mod (pe_op op_pow (pe_op op_add (pe_op op_add (pe_ix ix_list (pv 0) pe_int (fun _ _ => rfl)) (pe_op op_mulW pe_int (pe_ix ix_list (pv 0) pe_int (fun _ _ => rfl)))) pe_int) pe_int) pe_int))
    (pss_cons (ps_set (i := 4) sc_take_L.nd rfl (.inl rfl) (pe_op op_mod (pe_op op_pow (pe_op op_add (pe_op op_add (pe_op op_fdivW (pv 3) pe_int) (pe_op op_mulW pe_int (pe_ix ix_list (pv 0) pe_int (fun _ _ => rfl)))) pe_int) pe_int) pe_int))
    (pss_one (ps_ret (pe_op op_mod (pe_op op_add (pe_op op_fdivW (pv 3) pe_int) (pe_op op_mulW pe_int (pe_op op_fdivW (pv 4) pe_int))) (pv 1)))))))), ?_⟩)
  · obtain ⟨a, n, size, rfl, _⟩ := h
    rfl
  · obtain ⟨a, n, size, rfl, ⟨x, y, z, e, hx, hy, hy2, hz, hz2⟩, hn, h0, h1, q⟩ := h
    have i0 : SqL K H a [.int x, .int y, .int z] := sqL e
    walk_at "go"
    refine r_ixL i0 (v := .int x) rfl ?_
    walk_at "go"
    refine ite2 (fun hp => ?_) (fun hp => ?_)
    · walk_at "go"
      refine r_ixL i0 (v := .int x) rfl ?_
      walk_at "go"
      refine r_I h0 ?_
      walk_at "go"
      refine r_ixL i0 (v := .int x) rfl ?_
      walk_at "go"
      refine r_I (cdiv h0 h1) ?_
      walk_at "go"
      refine ⟨a, _, 0, 0, rfl, rfl, e, rfl, ?_⟩
      walk_at "go"
      exact q _ _ (Int.emod_nonneg _ (by omega)) (Int.emod_lt_of_pos _ h0) ⟨x / size, y, z, upd_same, Int.ediv_nonneg hx (by omega), hy, hy2, hz, by omega⟩ But.upd
    · walk_at "go"
      refine r_ixL i0 (v := .int z) rfl ?_
      walk_at "go"
      refine ⟨a, _, 2, 2, rfl, rfl, e, rfl, ?_⟩
      have i1 : SqL K (upd H a (.lst [.int x, .int y, .int (z + 1)])) a [.int x, .int y, .int (z + 1)] := sqL upd_same
      walk_at "go"
      refine r_ixL i1 (v := .int y) rfl ?_
      walk_at "go"
      refine r_ixL i1 (v := .int (z + 1)) rfl ?_
      refine r_I (cmul (by decide) (by decide) (by omega) (by omega)) ?_
      walk_at "go"
      have g1 : (y + 7919 * (z + 1) + 29).natAbs < 2 ^ 64 := by omega
      refine r_I ⟨by decide, by decide, g1⟩ ?_
      walk_at "go"
      refine r_I (by decide) ?_
      walk_at "go"
      generalize hone : (y + 7919 * (z + 1) + 29) ^ (Int.toNat 5) % 2147483647 = one
      have o1 : 0 ≤ one := by rw [← hone]; exact Int.emod_nonneg _ (by decide)
      have o2 : one < 2147483647 := by rw [← hone]; exact Int.emod_lt_of_pos _ (by decide)
      refine r_I (cdiv (by decide) (by decide)) ?_
      walk_at "go"
      refine r_ixL i1 (v := .int (z + 1)) rfl ?_
      refine r_I (cmul (by decide) (by decide) (by omega) (by omega)) ?_
      walk_at "go"
      have g2 : (one / 8 + 104729 * (z + 1) + 11).natAbs < 2 ^ 64 := by omega
      refine r_I ⟨by decide, by decide, g2⟩ ?_
      walk_at "go"
      refine r_I (by decide) ?_
      walk_at "go"
      generalize htwo : (one / 8 + 104729 * (z + 1) + 11) ^ (Int.toNat 3) % 2147483629 = two
      have t1 : 0 ≤ two := by rw [← htwo]; exact Int.emod_nonneg _ (by decide)
      have t2 : two < 2147483629 := by rw [← htwo]; exact Int.emod_lt_of_pos _ (by decide)
      refine r_I (cdiv (by decide) (by decide)) ?_
      walk_at "go"
      refine r_I (cdiv (by decide) (by decide)) ?_
      refine r_I (cmul (by decide) (by decide) (by omega) (by omega)) ?_
      walk_at "go"
      refine r_I h0 ?_
      exact q _ _ (Int.emod_nonneg _ (by omega)) (Int.emod_lt_of_pos _ h0) ⟨x, y, z + 1, upd_same, hx, hy, hy2, by omega, by omega⟩ But.upd

theorem ok_GE {f : Addr} {fd : FuncData} (F : Fun K "__init__" "GuestError.__init__" s_GuestError_init f fd) (T : Txt K mg A) : FnOk P w K mg base CX0 1 f fd ["self", "text"] (spGT K .ve) := by
  refine F.ok sc_GuestError_init (fun vs H Q E h => ?_) (fun cdv A' outer s H vs Q E hr h => ⟨_, (pss_one (ps_expr (pe_veI (by rfl) T.m_ValueError T.vV (pa_cons (pv 0) (pa_cons (pv 1) pa_nil))))), ?_⟩)
  · obtain ⟨a, C, x, rfl, _⟩ := h
    rfl
  · obtain ⟨a, C, x, rfl, hC, e, q⟩ := h
    exact ⟨_, rfl, _, rfl, a, C, [x], rfl, Nat.le_of_ble_eq_true rfl, hC, e, q⟩
theorem ok_KE {f : Addr} {fd : FuncData} (F : Fun K "__init__" "Missing.__init__" s_Missing_init f fd) (T : Txt K mg A) : FnOk P w K mg base CX0 1 f fd ["self", "text"] (spGT K .ke) := by
  refine F.ok sc_Missing_init (fun vs H Q E h => ?_) (fun cdv A' outer s H vs Q E hr h => ⟨_, (pss_one (ps_expr (pe_keI (by rfl) T.m_KeyError T.vK (pa_cons (pv 0) (pa_cons (pv 1) pa_nil))))), ?_⟩)
  · obtain ⟨a, C, x, rfl, _⟩ := h
    rfl
  · obtain ⟨a, C, x, rfl, hC, e, q⟩ := h
    exact ⟨_, rfl, _, rfl, a, C, [x], rfl, Nat.le_of_ble_eq_true rfl, hC, e, q⟩
theorem ok_BB {f : Addr} {fd : FuncData} (F : Fun K "__init__" "Barred.__init__" s_Barred_init f fd) (T : Txt K mg A) : FnOk P w K mg base CX0 1 f fd ["self", "text"] (spGT K .le) := by
  refine F.ok sc_Barred_init (fun vs H Q E h => ?_) (fun cdv A' outer s H vs Q E hr h => ⟨_, (pss_one (ps_expr (pe_leI (by rfl) T.m_LookupError T.vL (pa_cons (pv 0) (pa_cons (pv 1) pa_nil))))), ?_⟩)
  · obtain ⟨a, C, x, rfl, _⟩ := h
    rfl
  · obtain ⟨a, C, x, rfl, hC, e, q⟩ := h
    exact ⟨_, rfl, _, rfl, a, C, [x], rfl, Nat.le_of_ble_eq_true rfl, hC, e, q⟩
theorem ok_iM {f : Addr} {fd fdG : FuncData} (F : Fun K "__init__" "NoNumber.__init__" s_NoNumber_init f fd) (T : Txt K mg A) (c_GuestError_init : Own P w K mg base CX0 1 A.fG fdG ["self", "text"] (spGT K .ve)) : FnOk P w K mg base CX0 2 f fd ["self", "found"] (spInitN "found" A.CM) := by
  refine F.ok sc_NoNumber_init (fun vs H Q E h => ?_) (fun cdv A' outer s H vs Q E hr h => ⟨_, (pss_cons (ps_expr (pe_cdef c_GuestError_init.ok hr (by rfl) T.g_GuestError T.rd_GuestError T.ga_GuestError T.at_GuestError c_GuestError_init.kp c_GuestError_init.bd .nil pass0 (pa_cons (pv 0) (pa_cons pe_str pa_nil))))
    (pss_one (ps_osN (pv 0) (pv 1)))), ?_⟩)
  · obtain ⟨a, x, rfl, _⟩ := h
    rfl
  · obtain ⟨a, x, rfl, e, q⟩ := h
    walk_at "go"
    exact ⟨a, A.CM, _, rfl, T.ox_NoNumber, e, x, rfl, .ref a, rfl, .ve, a, A.CM, rfl, T.ox_NoNumber, T.nf_NoNumber, e, q⟩
theorem ok_iN {f : Addr} {fd fdG : FuncData} (F : Fun K "__init__" "NoName.__init__" s_NoName_init f fd) (T : Txt K mg A) (c_GuestError_init : Own P w K mg base CX0 1 A.fG fdG ["self", "text"] (spGT K .ve)) : FnOk P w K mg base CX0 2 f fd ["self", "found"] (spInitN "found" A.CN) := by
  refine F.ok sc_NoName_init (fun vs H Q E h => ?_) (fun cdv A' outer s H vs Q E hr h => ⟨_, (pss_cons (ps_expr (pe_cdef c_GuestError_init.ok hr (by rfl) T.g_GuestError T.rd_GuestError T.ga_GuestError T.at_GuestError c_GuestError_init.kp c_GuestError_init.bd .nil pass0 (pa_cons (pv 0) (pa_cons pe_str pa_nil))))
    (pss_one (ps_osN (pv 0) (pv 1)))), ?_⟩)
  · obtain ⟨a, x, rfl, _⟩ := h
    rfl
  · obtain ⟨a, x, rfl, e, q⟩ := h
    walk_at "go"
    exact ⟨a, A.CN, _, rfl, T.ox_NoName, e, x, rfl, .ref a, rfl, .ve, a, A.CN, rfl, T.ox_NoName, T.nf_NoName, e, q⟩
theorem ok_iD {f : Addr} {fd fdG : FuncData} (F : Fun K "__init__" "Doubled.__init__" s_Doubled_init f fd) (T : Txt K mg A) (c_GuestError_init : Own P w K mg base CX0 1 A.fG fdG ["self", "text"] (spGT K .ve)) : FnOk P w K mg base CX0 2 f fd ["self", "found"] (spInitN "found" A.CD) := by
  refine F.ok sc_Doubled_init (fun vs H Q E h => ?_) (fun cdv A' outer s H vs Q E hr h => ⟨_, (pss_cons (ps_expr (pe_cdef c_GuestError_init.ok hr (by rfl) T.g_GuestError T.rd_GuestError T.ga_GuestError T.at_GuestError c_GuestError_init.kp c_GuestError_init.bd .nil pass0 (pa_cons (pv 0) (pa_cons pe_str pa_nil))))
    (pss_one (ps_osN (pv 0) (pv 1)))), ?_⟩)
  · obtain ⟨a, x, rfl, _⟩ := h
    rfl
  · obtain ⟨a, x, rfl, e, q⟩ := h
    walk_at "go"
    exact ⟨a, A.CD, _, rfl, T.ox_Doubled, e, x, rfl, .ref a, rfl, .ve, a, A.CD, rfl, T.ox_Doubled, T.nf_Doubled, e, q⟩
theorem ok_iA {f : Addr} {fd fdG : FuncData} (F : Fun K "__init__" "NoGuest.__init__" s_NoGuest_init f fd) (T : Txt K mg A) (c_Missing_init : Own P w K mg base CX0 1 A.fK fdG ["self", "text"] (spGT K .ke)) : FnOk P w K mg base CX0 2 f fd ["self", "found"] (spInitN "found" A.CA) := by
  refine F.ok sc_NoGuest_init (fun vs H Q E h => ?_) (fun cdv A' outer s H vs Q E hr h => ⟨_, (pss_cons (ps_expr (pe_cdef c_Missing_init.ok hr (by rfl) T.g_Missing T.rd_Missing T.ga_Missing T.at_Missing c_Missing_init.kp c_Missing_init.bd .nil pass0 (pa_cons (pv 0) (pa_cons pe_str pa_nil))))
    (pss_one (ps_osN (pv 0) (pv 1)))), ?_⟩)
  · obtain ⟨a, x, rfl, _⟩ := h
    rfl
  · obtain ⟨a, x, rfl, e, q⟩ := h
    walk_at "go"
    exact ⟨a, A.CA, _, rfl, T.ox_NoGuest, e, x, rfl, .ref a, rfl, .ke, a, A.CA, rfl, T.ox_NoGuest, T.nf_NoGuest, e, q⟩
theorem ok_iT {f : Addr} {fd fdG : FuncData} (F : Fun K "__init__" "TooMuch.__init__" s_TooMuch_init f fd) (T : Txt K mg A) (c_GuestError_init : Own P w K mg base CX0 1 A.fG fdG ["self", "text"] (spGT K .ve)) : FnOk P w K mg base CX0 2 f fd ["self", "many"] (spInitN "many" A.CT) := by
  refine F.ok sc_TooMuch_init (fun vs H Q E h => ?_) (fun cdv A' outer s H vs Q E hr h => ⟨_, (pss_cons (ps_expr (pe_cdef c_GuestError_init.ok hr (by rfl) T.g_GuestError T.rd_GuestError T.ga_GuestError T.at_GuestError c_GuestError_init.kp c_GuestError_init.bd .nil pass0 (pa_cons (pv 0) (pa_cons pe_str pa_nil))))
    (pss_one (ps_osN (pv 0) (pv 1)))), ?_⟩)
  · obtain ⟨a, x, rfl, _⟩ := h
    rfl
  · obtain ⟨a, x, rfl, e, q⟩ := h
    walk_at "go"
    exact ⟨a, A.CT, _, rfl, T.ox_TooMuch, e, x, rfl, .ref a, rfl, .ve, a, A.CT, rfl, T.ox_TooMuch, T.nf_TooMuch, e, q⟩
theorem ok_iF {f : Addr} {fd fdG : FuncData} (F : Fun K "__init__" "Full.__init__" s_Full_init f fd) (T : Txt K mg A) (c_Barred_init : Own P w K mg base CX0 1 A.fB fdG ["self", "text"] (spGT K .le)) : FnOk P w K mg base CX0 2 f fd ["self", "many"] (spInitN "many" A.CF) := by
  refine F.ok sc_Full_init (fun vs H Q E h => ?_) (fun cdv A' outer s H vs Q E hr h => ⟨_, (pss_cons (ps_expr (pe_cdef c_Barred_init.ok hr (by rfl) T.g_Barred T.rd_Barred T.ga_Barred T.at_Barred c_Barred_init.kp c_Barred_init.bd .nil pass0 (pa_cons (pv 0) (pa_cons pe_str pa_nil))))
    (pss_one (ps_osN (pv 0) (pv 1)))), ?_⟩)
  · obtain ⟨a, x, rfl, _⟩ := h
    rfl
  · obtain ⟨a, x, rfl, e, q⟩ := h
    walk_at "go"
    exact ⟨a, A.CF, _, rfl, T.ox_Full, e, x, rfl, .ref a, rfl, .le, a, A.CF, rfl, T.ox_Full, T.nf_Full, e, q⟩
theorem ok_iH {f : Addr} {fd fdG : FuncData} (F : Fun K "__init__" "NoShare.__init__" s_NoShare_init f fd) (T : Txt K mg A) (c_GuestError_init : Own P w K mg base CX0 1 A.fG fdG ["self", "text"] (spGT K .ve)) : FnOk P w K mg base CX0 2 f fd ["self", "found"] (spInitN "found" A.CH) := by
  refine F.ok sc_NoShare_init (fun vs H Q E h => ?_) (fun cdv A' outer s H vs Q E hr h => ⟨_, (pss_cons (ps_expr (pe_cdef c_GuestError_init.ok hr (by rfl) T.g_GuestError T.rd_GuestError T.ga_GuestError T.at_GuestError c_GuestError_init.kp c_GuestError_init.bd .nil pass0 (pa_cons (pv 0) (pa_cons pe_str pa_nil))))
    (pss_one (ps_osN (pv 0) (pv 1)))), ?_⟩)
  · obtain ⟨a, x, rfl, _⟩ := h
    rfl
  · obtain ⟨a, x, rfl, e, q⟩ := h
    walk_at "go"
    exact ⟨a, A.CH, _, rfl, T.ox_NoShare, e, x, rfl, .ref a, rfl, .ve, a, A.CH, rfl, T.ox_NoShare, T.nf_NoShare, e, q⟩
theorem ok_iL {f : Addr} {fd fdG : FuncData} (F : Fun K "__init__" "NoLog.__init__" s_NoLog_init f fd) (T : Txt K mg A) (c_GuestError_init : Own P w K mg base CX0 1 A.fG fdG ["self", "text"] (spGT K .ve)) : FnOk P w K mg base CX0 2 f fd ["self", "found"] (spInitN "found" A.CL) := by
  refine F.ok sc_NoLog_init (fun vs H Q E h => ?_) (fun cdv A' outer s H vs Q E hr h => ⟨_, (pss_cons (ps_expr (pe_cdef c_GuestError_init.ok hr (by rfl) T.g_GuestError T.rd_GuestError T.ga_GuestError T.at_GuestError c_GuestError_init.kp c_GuestError_init.bd .nil pass0 (pa_cons (pv 0) (pa_cons pe_str pa_nil))))
    (pss_one (ps_osN (pv 0) (pv 1)))), ?_⟩)
  · obtain ⟨a, x, rfl, _⟩ := h
    rfl
  · obtain ⟨a, x, rfl, e, q⟩ := h
    walk_at "go"
    exact ⟨a, A.CL, _, rfl, T.ox_NoLog, e, x, rfl, .ref a, rfl, .ve, a, A.CL, rfl, T.ox_NoLog, T.nf_NoLog, e, q⟩
end
end K28

namespace K28
open PySem PySem.Spec PyProof.Rows L2 Bk
theorem all_mk {l : PySem.W.OpenLaw} {w : World} {K : PySem.W.Frag} {h : Heap} {mg : Str → Option Value} {fa C_GuestError C_Missing C_Barred C_NoNumber C_NoName C_NoLog C_NoShare C_Doubled C_TooMuch C_NoGuest C_Full C_Shares f_wall f_GuestError_init f_Missing_init f_Barred_init f_NoNumber_init f_NoName_init f_NoLog_init f_NoShare_init f_Doubled_init f_TooMuch_init f_NoGuest_init f_Full_init f_is_whole f_is_name f_all_within f_check_number f_check_name f_check_guest f_Shares_init f_Shares_come f_Shares_deal f_Shares_promised f_Shares_check_share f_Shares_check_promised f_Shares_by_promise f_Shares_by_ceiling f_Shares_begin_stretch f_first_broken f_may_come f_is_list f_is_names f_is_one_of f_is_broken f_cell_L f_box_L f_take_L f_names_L f_length_L f_share_L f_guests_L f_ready_L f_dealt_L f_breaks_L f_due_L f_right_L f_law : Addr} (X : K.In h) (G : h.Ns mainGlobals mg) (hfa : mg "law" = some (.ref fa))
    {od_wall an_wall : Option Addr} {sl_wall : Array (Option Value)} {oc_wall kV_wall dc_wall pm_wall cd_wall ct_wall : Value}
    {od_GuestError_init an_GuestError_init : Option Addr} {sl_GuestError_init : Array (Option Value)} {oc_GuestError_init kV_GuestError_init dc_GuestError_init pm_GuestError_init cd_GuestError_init ct_GuestError_init : Value}
    {od_Missing_init an_Missing_init : Option Addr} {sl_Missing_init : Array (Option Value)} {oc_Missing_init kV_Missing_init dc_Missing_init pm_Missing_init cd_Missing_init ct_Missing_init : Value}
    {od_Barred_init an_Barred_init : Option Addr} {sl_Barred_init : Array (Option Value)} {oc_Barred_init kV_Barred_init dc_Barred_init pm_Barred_init cd_Barred_init ct_Barred_init : Value}
    {od_NoNumber_init an_NoNumber_init : Option Addr} {sl_NoNumber_init : Array (Option Value)} {oc_NoNumber_init kV_NoNumber_init dc_NoNumber_init pm_NoNumber_init cd_NoNumber_init ct_NoNumber_init : Value}
    {od_NoName_init an_NoName_init : Option Addr} {sl_NoName_init : Array (Option Value)} {oc_NoName_init kV_NoName_init dc_NoName_init pm_NoName_init cd_NoName_init ct_NoName_init : Value}
    {od_NoLog_init an_NoLog_init : Option Addr} {sl_NoLog_init : Array (Option Value)} {oc_NoLog_init kV_NoLog_init dc_NoLog_init pm_NoLog_init cd_NoLog_init ct_NoLog_init : Value}
    {od_NoShare_init an_NoShare_init : Option Addr} {sl_NoShare_init : Array (Option Value)} {oc_NoShare_init kV_NoShare_init dc_NoShare_init pm_NoShare_init cd_NoShare_init ct_NoShare_init : Value}
    {od_Doubled_init an_Doubled_init : Option Addr} {sl_Doubled_init : Array (Option Value)} {oc_Doubled_init kV_Doubled_init dc_Doubled_init pm_Doubled_init cd_Doubled_init ct_Doubled_init : Value}
    {od_TooMuch_init an_TooMuch_init : Option Addr} {sl_TooMuch_init : Array (Option Value)} {oc_TooMuch_init kV_TooMuch_init dc_TooMuch_init pm_TooMuch_init cd_TooMuch_init ct_TooMuch_init : Value}
    {od_NoGuest_init an_NoGuest_init : Option Addr} {sl_NoGuest_init : Array (Option Value)} {oc_NoGuest_init kV_NoGuest_init dc_NoGuest_init pm_NoGuest_init cd_NoGuest_init ct_NoGuest_init : Value}
    {od_Full_init an_Full_init : Option Addr} {sl_Full_init : Array (Option Value)} {oc_Full_init kV_Full_init dc_Full_init pm_Full_init cd_Full_init ct_Full_init : Value}
    {od_is_whole an_is_whole : Option Addr} {sl_is_whole : Array (Option Value)} {oc_is_whole kV_is_whole dc_is_whole pm_is_whole cd_is_whole ct_is_whole : Value}
    {od_is_name an_is_name : Option Addr} {sl_is_name : Array (Option Value)} {oc_is_name kV_is_name dc_is_name pm_is_name cd_is_name ct_is_name : Value}
    {od_all_within an_all_within : Option Addr} {sl_all_within : Array (Option Value)} {oc_all_within kV_all_within dc_all_within pm_all_within cd_all_within ct_all_within : Value}
    {od_check_number an_check_number : Option Addr} {sl_check_number : Array (Option Value)} {oc_check_number kV_check_number dc_check_number pm_check_number cd_check_number ct_check_number : Value}
    {od_check_name an_check_name : Option Addr} {sl_check_name : Array (Option Value)} {oc_check_name kV_check_name dc_check_name pm_check_name cd_check_name ct_check_name : Value}
    {od_check_guest an_check_guest : Option Addr} {sl_check_guest : Array (Option Value)} {oc_check_guest kV_check_guest dc_check_guest pm_check_guest cd_check_guest ct_check_guest : Value}
    {od_Shares_init an_Shares_init : Option Addr} {sl_Shares_init : Array (Option Value)} {oc_Shares_init kV_Shares_init dc_Shares_init pm_Shares_init cd_Shares_init ct_Shares_init : Value}
    {od_Shares_come an_Shares_come : Option Addr} {sl_Shares_come : Array (Option Value)} {oc_Shares_come kV_Shares_come dc_Shares_come pm_Shares_come cd_Shares_come ct_Shares_come : Value}
    {od_Shares_deal an_Shares_deal : Option Addr} {sl_Shares_deal : Array (Option Value)} {oc_Shares_deal kV_Shares_deal dc_Shares_deal pm_Shares_deal cd_Shares_deal ct_Shares_deal : Value}
    {od_Shares_promised an_Shares_promised : Option Addr} {sl_Shares_promised : Array (Option Value)} {oc_Shares_promised kV_Shares_promised dc_Shares_promised pm_Shares_promised cd_Shares_promised ct_Shares_promised : Value}
    {od_Shares_check_share an_Shares_check_share : Option Addr} {sl_Shares_check_share : Array (Option Value)} {oc_Shares_check_share kV_Shares_check_share dc_Shares_check_share pm_Shares_check_share cd_Shares_check_share ct_Shares_check_share : Value}
    {od_Shares_check_promised an_Shares_check_promised : Option Addr} {sl_Shares_check_promised : Array (Option Value)} {oc_Shares_check_promised kV_Shares_check_promised dc_Shares_check_promised pm_Shares_check_promised cd_Shares_check_promised ct_Shares_check_promised : Value}
    {od_Shares_by_promise an_Shares_by_promise : Option Addr} {sl_Shares_by_promise : Array (Option Value)} {oc_Shares_by_promise kV_Shares_by_promise dc_Shares_by_promise pm_Shares_by_promise cd_Shares_by_promise ct_Shares_by_promise : Value}
    {od_Shares_by_ceiling an_Shares_by_ceiling : Option Addr} {sl_Shares_by_ceiling : Array (Option Value)} {oc_Shares_by_ceiling kV_Shares_by_ceiling dc_Shares_by_ceiling pm_Shares_by_ceiling cd_Shares_by_ceiling ct_Shares_by_ceiling : Value}
    {od_Shares_begin_stretch an_Shares_begin_stretch : Option Addr} {sl_Shares_begin_stretch : Array (Option Value)} {oc_Shares_begin_stretch kV_Shares_begin_stretch dc_Shares_begin_stretch pm_Shares_begin_stretch cd_Shares_begin_stretch ct_Shares_begin_stretch : Value}
    {od_first_broken an_first_broken : Option Addr} {sl_first_broken : Array (Option Value)} {oc_first_broken kV_first_broken dc_first_broken pm_first_broken cd_first_broken ct_first_broken : Value}
    {od_may_come an_may_come : Option Addr} {sl_may_come : Array (Option Value)} {oc_may_come kV_may_come dc_may_come pm_may_come cd_may_come ct_may_come : Value}
    {od_is_list an_is_list : Option Addr} {sl_is_list : Array (Option Value)} {oc_is_list kV_is_list dc_is_list pm_is_list cd_is_list ct_is_list : Value}
    {od_is_names an_is_names : Option Addr} {sl_is_names : Array (Option Value)} {oc_is_names kV_is_names dc_is_names pm_is_names cd_is_names ct_is_names : Value}
    {od_is_one_of an_is_one_of : Option Addr} {sl_is_one_of : Array (Option Value)} {oc_is_one_of kV_is_one_of dc_is_one_of pm_is_one_of cd_is_one_of ct_is_one_of : Value}
    {od_is_broken an_is_broken : Option Addr} {sl_is_broken : Array (Option Value)} {oc_is_broken kV_is_broken dc_is_broken pm_is_broken cd_is_broken ct_is_broken : Value}
    {od_cell_L an_cell_L : Option Addr} {sl_cell_L : Array (Option Value)} {oc_cell_L kV_cell_L dc_cell_L pm_cell_L cd_cell_L ct_cell_L : Value}
    {od_box_L an_box_L : Option Addr} {sl_box_L : Array (Option Value)} {oc_box_L kV_box_L dc_box_L pm_box_L cd_box_L ct_box_L : Value}
    {od_take_L an_take_L : Option Addr} {sl_take_L : Array (Option Value)} {oc_take_L kV_take_L dc_take_L pm_take_L cd_take_L ct_take_L : Value}
    {od_names_L an_names_L : Option Addr} {sl_names_L : Array (Option Value)} {oc_names_L kV_names_L dc_names_L pm_names_L cd_names_L ct_names_L : Value}
    {od_length_L an_length_L : Option Addr} {sl_length_L : Array (Option Value)} {oc_length_L kV_length_L dc_length_L pm_length_L cd_length_L ct_length_L : Value}
    {od_share_L an_share_L : Option Addr} {sl_share_L : Array (Option Value)} {oc_share_L kV_share_L dc_share_L pm_share_L cd_share_L ct_share_L : Value}
    {od_guests_L an_guests_L : Option Addr} {sl_guests_L : Array (Option Value)} {oc_guests_L kV_guests_L dc_guests_L pm_guests_L cd_guests_L ct_guests_L : Value}
    {od_ready_L an_ready_L : Option Addr} {sl_ready_L : Array (Option Value)} {oc_ready_L kV_ready_L dc_ready_L pm_ready_L cd_ready_L ct_ready_L : Value}
    {od_dealt_L an_dealt_L : Option Addr} {sl_dealt_L : Array (Option Value)} {oc_dealt_L kV_dealt_L dc_dealt_L pm_dealt_L cd_dealt_L ct_dealt_L : Value}
    {od_breaks_L an_breaks_L : Option Addr} {sl_breaks_L : Array (Option Value)} {oc_breaks_L kV_breaks_L dc_breaks_L pm_breaks_L cd_breaks_L ct_breaks_L : Value}
    {od_due_L an_due_L : Option Addr} {sl_due_L : Array (Option Value)} {oc_due_L kV_due_L dc_due_L pm_due_L cd_due_L ct_due_L : Value}
    {od_right_L an_right_L : Option Addr} {sl_right_L : Array (Option Value)} {oc_right_L kV_right_L dc_right_L pm_right_L cd_right_L ct_right_L : Value}
    {od_law an_law : Option Addr} {sl_law : Array (Option Value)} {oc_law kV_law dc_law pm_law cd_law ct_law : Value}
    {t_mg t_sh t_lo t_md : Tok}
    {nmM qM : Str} {NM : Addr} {bsM : List Value} {snM : List Str} {subM : List Value} {abM : Bool} {colM : Option Bool} {ddM : Option Addr} {wM0 wM1 wM2 wM3 wM5 : Option Value}
    {nmN qN : Str} {NN : Addr} {bsN : List Value} {snN : List Str} {subN : List Value} {abN : Bool} {colN : Option Bool} {ddN : Option Addr} {wN0 wN1 wN2 wN3 wN5 : Option Value}
    {nmD qD : Str} {ND : Addr} {bsD : List Value} {snD : List Str} {subD : List Value} {abD : Bool} {colD : Option Bool} {ddD : Option Addr} {wD0 wD1 wD2 wD3 wD5 : Option Value}
    {nmT qT : Str} {NT : Addr} {bsT : List Value} {snT : List Str} {subT : List Value} {abT : Bool} {colT : Option Bool} {ddT : Option Addr} {wT0 wT1 wT2 wT3 wT5 : Option Value}
    {nmA qA : Str} {NA : Addr} {bsA : List Value} {snA : List Str} {subA : List Value} {abA : Bool} {colA : Option Bool} {ddA : Option Addr} {wA0 wA1 wA2 wA3 wA5 : Option Value}
    {nmF qF : Str} {NF : Addr} {bsF : List Value} {snF : List Str} {subF : List Value} {abF : Bool} {colF : Option Bool} {ddF : Option Addr} {wF0 wF1 wF2 wF3 wF5 : Option Value}
    {nmH qH : Str} {NH : Addr} {bsH : List Value} {snH : List Str} {subH : List Value} {abH : Bool} {colH : Option Bool} {ddH : Option Addr} {wH0 wH1 wH2 wH3 wH5 : Option Value}
    {nmL qL : Str} {NL : Addr} {bsL : List Value} {snL : List Str} {subL : List Value} {abL : Bool} {colL : Option Bool} {ddL : Option Addr} {wL0 wL1 wL2 wL3 wL5 : Option Value}
    (aC_GuestError : PySem.W.nsIn K mainGlobals "GuestError" = some (some (.ref C_GuestError)))
    (aC_Missing : PySem.W.nsIn K mainGlobals "Missing" = some (some (.ref C_Missing)))
    (aC_Barred : PySem.W.nsIn K mainGlobals "Barred" = some (some (.ref C_Barred)))
    (aC_NoNumber : PySem.W.nsIn K mainGlobals "NoNumber" = some (some (.ref C_NoNumber)))
    (aC_NoName : PySem.W.nsIn K mainGlobals "NoName" = some (some (.ref C_NoName)))
    (aC_NoLog : PySem.W.nsIn K mainGlobals "NoLog" = some (some (.ref C_NoLog)))
    (aC_NoShare : PySem.W.nsIn K mainGlobals "NoShare" = some (some (.ref C_NoShare)))
    (aC_Doubled : PySem.W.nsIn K mainGlobals "Doubled" = some (some (.ref C_Doubled)))
    (aC_TooMuch : PySem.W.nsIn K mainGlobals "TooMuch" = some (some (.ref C_TooMuch)))
    (aC_NoGuest : PySem.W.nsIn K mainGlobals "NoGuest" = some (some (.ref C_NoGuest)))
    (aC_Full : PySem.W.nsIn K mainGlobals "Full" = some (some (.ref C_Full)))
    (aC_Shares : PySem.W.nsIn K mainGlobals "Shares" = some (some (.ref C_Shares)))
    (a_wall : PySem.W.nsIn K mainGlobals "_wall" = some (some (.ref f_wall)))
    (l_wall : K.lookup f_wall = some ⟨oc_wall, od_wall, .func (PySem.W.fnOf "_wall" "_wall" (defArgs s_wall) (defBody s_wall) (defScope s_wall) .none kV_wall dc_wall pm_wall an_wall cd_wall ct_wall), sl_wall⟩)
    (c_wall : PySem.W.codeIn K cd_wall "_wall" = true)
    (k_wall : PySem.W.keepIn K (.ref f_wall) = true)
    (a_GuestError_init : PySem.W.findIn K (.ref C_GuestError) "__init__" = some (some (.ref f_GuestError_init)))
    (l_GuestError_init : K.lookup f_GuestError_init = some ⟨oc_GuestError_init, od_GuestError_init, .func (PySem.W.fnOf "__init__" "GuestError.__init__" (defArgs s_GuestError_init) (defBody s_GuestError_init) (defScope s_GuestError_init) .none kV_GuestError_init dc_GuestError_init pm_GuestError_init an_GuestError_init cd_GuestError_init ct_GuestError_init), sl_GuestError_init⟩)
    (c_GuestError_init : PySem.W.codeIn K cd_GuestError_init "GuestError.__init__" = true)
    (k_GuestError_init : PySem.W.keepIn K (.ref f_GuestError_init) = true)
    (a_Missing_init : PySem.W.findIn K (.ref C_Missing) "__init__" = some (some (.ref f_Missing_init)))
    (l_Missing_init : K.lookup f_Missing_init = some ⟨oc_Missing_init, od_Missing_init, .func (PySem.W.fnOf "__init__" "Missing.__init__" (defArgs s_Missing_init) (defBody s_Missing_init) (defScope s_Missing_init) .none kV_Missing_init dc_Missing_init pm_Missing_init an_Missing_init cd_Missing_init ct_Missing_init), sl_Missing_init⟩)
    (c_Missing_init : PySem.W.codeIn K cd_Missing_init "Missing.__init__" = true)
    (k_Missing_init : PySem.W.keepIn K (.ref f_Missing_init) = true)
    (a_Barred_init : PySem.W.findIn K (.ref C_Barred) "__init__" = some (some (.ref f_Barred_init)))
    (l_Barred_init : K.lookup f_Barred_init = some ⟨oc_Barred_init, od_Barred_init, .func (PySem.W.fnOf "__init__" "Barred.__init__" (defArgs s_Barred_init) (defBody s_Barred_init) (defScope s_Barred_init) .none kV_Barred_init dc_Barred_init pm_Barred_init an_Barred_init cd_Barred_init ct_Barred_init), sl_Barred_init⟩)
    (c_Barred_init : PySem.W.codeIn K cd_Barred_init "Barred.__init__" = true)
    (k_Barred_init : PySem.W.keepIn K (.ref f_Barred_init) = true)
    (a_NoNumber_init : PySem.W.findIn K (.ref C_NoNumber) "__init__" = some (some (.ref f_NoNumber_init)))
    (l_NoNumber_init : K.lookup f_NoNumber_init = some ⟨oc_NoNumber_init, od_NoNumber_init, .func (PySem.W.fnOf "__init__" "NoNumber.__init__" (defArgs s_NoNumber_init) (defBody s_NoNumber_init) (defScope s_NoNumber_init) .none kV_NoNumber_init dc_NoNumber_init pm_NoNumber_init an_NoNumber_init cd_NoNumber_init ct_NoNumber_init), sl_NoNumber_init⟩)
    (c_NoNumber_init : PySem.W.codeIn K cd_NoNumber_init "NoNumber.__init__" = true)
    (k_NoNumber_init : PySem.W.keepIn K (.ref f_NoNumber_init) = true)
    (a_NoName_init : PySem.W.findIn K (.ref C_NoName) "__init__" = some (some (.ref f_NoName_init)))
    (l_NoName_init : K.lookup f_NoName_init = some ⟨oc_NoName_init, od_NoName_init, .func (PySem.W.fnOf "__init__" "NoName.__init__" (defArgs s_NoName_init) (defBody s_NoName_init) (defScope s_NoName_init) .none kV_NoName_init dc_NoName_init pm_NoName_init an_NoName_init cd_NoName_init ct_NoName_init), sl_NoName_init⟩)
    (c_NoName_init : PySem.W.codeIn K cd_NoName_init "NoName.__init__" = true)
    (k_NoName_init : PySem.W.keepIn K (.ref f_NoName_init) = true)
    (a_NoLog_init : PySem.W.findIn K (.ref C_NoLog) "__init__" = some (some (.ref f_NoLog_init)))
    (l_NoLog_init : K.lookup f_NoLog_init = some ⟨oc_NoLog_init, od_NoLog_init, .func (PySem.W.fnOf "__init__" "NoLog.__init__" (defArgs s_NoLog_init) (defBody s_NoLog_init) (defScope s_NoLog_init) .none kV_NoLog_init dc_NoLog_init pm_NoLog_init an_NoLog_init cd_NoLog_init ct_NoLog_init), sl_NoLog_init⟩)
    (c_NoLog_init : PySem.W.codeIn K cd_NoLog_init "NoLog.__init__" = true)
    (k_NoLog_init : PySem.W.keepIn K (.ref f_NoLog_init) = true)
    (a_NoShare_init : PySem.W.findIn K (.ref C_NoShare) "__init__" = some (some (.ref f_NoShare_init)))
    (l_NoShare_init : K.lookup f_NoShare_init = some ⟨oc_NoShare_init, od_NoShare_init, .func (PySem.W.fnOf "__init__" "NoShare.__init__" (defArgs s_NoShare_init) (defBody s_NoShare_init) (defScope s_NoShare_init) .none kV_NoShare_init dc_NoShare_init pm_NoShare_init an_NoShare_init cd_NoShare_init ct_NoShare_init), sl_NoShare_init⟩)
    (c_NoShare_init : PySem.W.codeIn K cd_NoShare_init "NoShare.__init__" = true)
    (k_NoShare_init : PySem.W.keepIn K (.ref f_NoShare_init) = true)
    (a_Doubled_init : PySem.W.findIn K (.ref C_Doubled) "__init__" = some (some (.ref f_Doubled_init)))
    (l_Doubled_init : K.lookup f_Doubled_init = some ⟨oc_Doubled_init, od_Doubled_init, .func (PySem.W.fnOf "__init__" "Doubled.__init__" (defArgs s_Doubled_init) (defBody s_Doubled_init) (defScope s_Doubled_init) .none kV_Doubled_init dc_Doubled_init pm_Doubled_init an_Doubled_init cd_Doubled_init ct_Doubled_init), sl_Doubled_init⟩)
    (c_Doubled_init : PySem.W.codeIn K cd_Doubled_init "Doubled.__init__" = true)
    (k_Doubled_init : PySem.W.keepIn K (.ref f_Doubled_init) = true)
    (a_TooMuch_init : PySem.W.findIn K (.ref C_TooMuch) "__init__" = some (some (.ref f_TooMuch_init)))
    (l_TooMuch_init : K.lookup f_TooMuch_init = some ⟨oc_TooMuch_init, od_TooMuch_init, .func (PySem.W.fnOf "__init__" "TooMuch.__init__" (defArgs s_TooMuch_init) (defBody s_TooMuch_init) (defScope s_TooMuch_init) .none kV_TooMuch_init dc_TooMuch_init pm_TooMuch_init an_TooMuch_init cd_TooMuch_init ct_TooMuch_init), sl_TooMuch_init⟩)
    (c_TooMuch_init : PySem.W.codeIn K cd_TooMuch_init "TooMuch.__init__" = true)
    (k_TooMuch_init : PySem.W.keepIn K (.ref f_TooMuch_init) = true)
    (a_NoGuest_init : PySem.W.findIn K (.ref C_NoGuest) "__init__" = some (some (.ref f_NoGuest_init)))
    (l_NoGuest_init : K.lookup f_NoGuest_init = some ⟨oc_NoGuest_init, od_NoGuest_init, .func (PySem.W.fnOf "__init__" "NoGuest.__init__" (defArgs s_NoGuest_init) (defBody s_NoGuest_init) (defScope s_NoGuest_init) .none kV_NoGuest_init dc_NoGuest_init pm_NoGuest_init an_NoGuest_init cd_NoGuest_init ct_NoGuest_init), sl_NoGuest_init⟩)
    (c_NoGuest_init : PySem.W.codeIn K cd_NoGuest_init "NoGuest.__init__" = true)
    (k_NoGuest_init : PySem.W.keepIn K (.ref f_NoGuest_init) = true)
    (a_Full_init : PySem.W.findIn K (.ref C_Full) "__init__" = some (some (.ref f_Full_init)))
    (l_Full_init : K.lookup f_Full_init = some ⟨oc_Full_init, od_Full_init, .func (PySem.W.fnOf "__init__" "Full.__init__" (defArgs s_Full_init) (defBody s_Full_init) (defScope s_Full_init) .none kV_Full_init dc_Full_init pm_Full_init an_Full_init cd_Full_init ct_Full_init), sl_Full_init⟩)
    (c_Full_init : PySem.W.codeIn K cd_Full_init "Full.__init__" = true)
    (k_Full_init : PySem.W.keepIn K (.ref f_Full_init) = true)
    (a_is_whole : PySem.W.nsIn K mainGlobals "is_whole" = some (some (.ref f_is_whole)))
    (l_is_whole : K.lookup f_is_whole = some ⟨oc_is_whole, od_is_whole, .func (PySem.W.fnOf "is_whole" "is_whole" (defArgs s_is_whole) (defBody s_is_whole) (defScope s_is_whole) .none kV_is_whole dc_is_whole pm_is_whole an_is_whole cd_is_whole ct_is_whole), sl_is_whole⟩)
    (c_is_whole : PySem.W.codeIn K cd_is_whole "is_whole" = true)
    (k_is_whole : PySem.W.keepIn K (.ref f_is_whole) = true)
    (a_is_name : PySem.W.nsIn K mainGlobals "is_name" = some (some (.ref f_is_name)))
    (l_is_name : K.lookup f_is_name = some ⟨oc_is_name, od_is_name, .func (PySem.W.fnOf "is_name" "is_name" (defArgs s_is_name) (defBody s_is_name) (defScope s_is_name) .none kV_is_name dc_is_name pm_is_name an_is_name cd_is_name ct_is_name), sl_is_name⟩)
    (c_is_name : PySem.W.codeIn K cd_is_name "is_name" = true)
    (k_is_name : PySem.W.keepIn K (.ref f_is_name) = true)
    (a_all_within : PySem.W.nsIn K mainGlobals "_all_within" = some (some (.ref f_all_within)))
    (l_all_within : K.lookup f_all_within = some ⟨oc_all_within, od_all_within, .func (PySem.W.fnOf "_all_within" "_all_within" (defArgs s_all_within) (defBody s_all_within) (defScope s_all_within) .none kV_all_within dc_all_within pm_all_within an_all_within cd_all_within ct_all_within), sl_all_within⟩)
    (c_all_within : PySem.W.codeIn K cd_all_within "_all_within" = true)
    (k_all_within : PySem.W.keepIn K (.ref f_all_within) = true)
    (a_check_number : PySem.W.nsIn K mainGlobals "check_number" = some (some (.ref f_check_number)))
    (l_check_number : K.lookup f_check_number = some ⟨oc_check_number, od_check_number, .func (PySem.W.fnOf "check_number" "check_number" (defArgs s_check_number) (defBody s_check_number) (defScope s_check_number) .none kV_check_number dc_check_number pm_check_number an_check_number cd_check_number ct_check_number), sl_check_number⟩)
    (c_check_number : PySem.W.codeIn K cd_check_number "check_number" = true)
    (k_check_number : PySem.W.keepIn K (.ref f_check_number) = true)
    (a_check_name : PySem.W.nsIn K mainGlobals "check_name" = some (some (.ref f_check_name)))
    (l_check_name : K.lookup f_check_name = some ⟨oc_check_name, od_check_name, .func (PySem.W.fnOf "check_name" "check_name" (defArgs s_check_name) (defBody s_check_name) (defScope s_check_name) .none kV_check_name dc_check_name pm_check_name an_check_name cd_check_name ct_check_name), sl_check_name⟩)
    (c_check_name : PySem.W.codeIn K cd_check_name "check_name" = true)
    (k_check_name : PySem.W.keepIn K (.ref f_check_name) = true)
    (a_check_guest : PySem.W.nsIn K mainGlobals "check_guest" = some (some (.ref f_check_guest)))
    (l_check_guest : K.lookup f_check_guest = some ⟨oc_check_guest, od_check_guest, .func (PySem.W.fnOf "check_guest" "check_guest" (defArgs s_check_guest) (defBody s_check_guest) (defScope s_check_guest) .none kV_check_guest dc_check_guest pm_check_guest an_check_guest cd_check_guest ct_check_guest), sl_check_guest⟩)
    (c_check_guest : PySem.W.codeIn K cd_check_guest "check_guest" = true)
    (k_check_guest : PySem.W.keepIn K (.ref f_check_guest) = true)
    (a_Shares_init : PySem.W.findIn K (.ref C_Shares) "__init__" = some (some (.ref f_Shares_init)))
    (l_Shares_init : K.lookup f_Shares_init = some ⟨oc_Shares_init, od_Shares_init, .func (PySem.W.fnOf "__init__" "Shares.__init__" (defArgs s_Shares_init) (defBody s_Shares_init) (defScope s_Shares_init) .none kV_Shares_init dc_Shares_init pm_Shares_init an_Shares_init cd_Shares_init ct_Shares_init), sl_Shares_init⟩)
    (c_Shares_init : PySem.W.codeIn K cd_Shares_init "Shares.__init__" = true)
    (k_Shares_init : PySem.W.keepIn K (.ref f_Shares_init) = true)
    (a_Shares_come : PySem.W.findIn K (.ref C_Shares) "come" = some (some (.ref f_Shares_come)))
    (l_Shares_come : K.lookup f_Shares_come = some ⟨oc_Shares_come, od_Shares_come, .func (PySem.W.fnOf "come" "Shares.come" (defArgs s_Shares_come) (defBody s_Shares_come) (defScope s_Shares_come) .none kV_Shares_come dc_Shares_come pm_Shares_come an_Shares_come cd_Shares_come ct_Shares_come), sl_Shares_come⟩)
    (c_Shares_come : PySem.W.codeIn K cd_Shares_come "Shares.come" = true)
    (k_Shares_come : PySem.W.keepIn K (.ref f_Shares_come) = true)
    (a_Shares_deal : PySem.W.findIn K (.ref C_Shares) "deal" = some (some (.ref f_Shares_deal)))
    (l_Shares_deal : K.lookup f_Shares_deal = some ⟨oc_Shares_deal, od_Shares_deal, .func (PySem.W.fnOf "deal" "Shares.deal" (defArgs s_Shares_deal) (defBody s_Shares_deal) (defScope s_Shares_deal) .none kV_Shares_deal dc_Shares_deal pm_Shares_deal an_Shares_deal cd_Shares_deal ct_Shares_deal), sl_Shares_deal⟩)
    (c_Shares_deal : PySem.W.codeIn K cd_Shares_deal "Shares.deal" = true)
    (k_Shares_deal : PySem.W.keepIn K (.ref f_Shares_deal) = true)
    (a_Shares_promised : PySem.W.findIn K (.ref C_Shares) "promised" = some (some (.ref f_Shares_promised)))
    (l_Shares_promised : K.lookup f_Shares_promised = some ⟨oc_Shares_promised, od_Shares_promised, .func (PySem.W.fnOf "promised" "Shares.promised" (defArgs s_Shares_promised) (defBody s_Shares_promised) (defScope s_Shares_promised) .none kV_Shares_promised dc_Shares_promised pm_Shares_promised an_Shares_promised cd_Shares_promised ct_Shares_promised), sl_Shares_promised⟩)
    (c_Shares_promised : PySem.W.codeIn K cd_Shares_promised "Shares.promised" = true)
    (k_Shares_promised : PySem.W.keepIn K (.ref f_Shares_promised) = true)
    (a_Shares_check_share : PySem.W.findIn K (.ref C_Shares) "_check_share" = some (some (.ref f_Shares_check_share)))
    (l_Shares_check_share : K.lookup f_Shares_check_share = some ⟨oc_Shares_check_share, od_Shares_check_share, .func (PySem.W.fnOf "_check_share" "Shares._check_share" (defArgs s_Shares_check_share) (defBody s_Shares_check_share) (defScope s_Shares_check_share) .none kV_Shares_check_share dc_Shares_check_share pm_Shares_check_share an_Shares_check_share cd_Shares_check_share ct_Shares_check_share), sl_Shares_check_share⟩)
    (c_Shares_check_share : PySem.W.codeIn K cd_Shares_check_share "Shares._check_share" = true)
    (k_Shares_check_share : PySem.W.keepIn K (.ref f_Shares_check_share) = true)
    (a_Shares_check_promised : PySem.W.findIn K (.ref C_Shares) "_check_promised" = some (some (.ref f_Shares_check_promised)))
    (l_Shares_check_promised : K.lookup f_Shares_check_promised = some ⟨oc_Shares_check_promised, od_Shares_check_promised, .func (PySem.W.fnOf "_check_promised" "Shares._check_promised" (defArgs s_Shares_check_promised) (defBody s_Shares_check_promised) (defScope s_Shares_check_promised) .none kV_Shares_check_promised dc_Shares_check_promised pm_Shares_check_promised an_Shares_check_promised cd_Shares_check_promised ct_Shares_check_promised), sl_Shares_check_promised⟩)
    (c_Shares_check_promised : PySem.W.codeIn K cd_Shares_check_promised "Shares._check_promised" = true)
    (k_Shares_check_promised : PySem.W.keepIn K (.ref f_Shares_check_promised) = true)
    (a_Shares_by_promise : PySem.W.findIn K (.ref C_Shares) "_by_promise" = some (some (.ref f_Shares_by_promise)))
    (l_Shares_by_promise : K.lookup f_Shares_by_promise = some ⟨oc_Shares_by_promise, od_Shares_by_promise, .func (PySem.W.fnOf "_by_promise" "Shares._by_promise" (defArgs s_Shares_by_promise) (defBody s_Shares_by_promise) (defScope s_Shares_by_promise) .none kV_Shares_by_promise dc_Shares_by_promise pm_Shares_by_promise an_Shares_by_promise cd_Shares_by_promise ct_Shares_by_promise), sl_Shares_by_promise⟩)
    (c_Shares_by_promise : PySem.W.codeIn K cd_Shares_by_promise "Shares._by_promise" = true)
    (k_Shares_by_promise : PySem.W.keepIn K (.ref f_Shares_by_promise) = true)
    (a_Shares_by_ceiling : PySem.W.findIn K (.ref C_Shares) "_by_ceiling" = some (some (.ref f_Shares_by_ceiling)))
    (l_Shares_by_ceiling : K.lookup f_Shares_by_ceiling = some ⟨oc_Shares_by_ceiling, od_Shares_by_ceiling, .func (PySem.W.fnOf "_by_ceiling" "Shares._by_ceiling" (defArgs s_Shares_by_ceiling) (defBody s_Shares_by_ceiling) (defScope s_Shares_by_ceiling) .none kV_Shares_by_ceiling dc_Shares_by_ceiling pm_Shares_by_ceiling an_Shares_by_ceiling cd_Shares_by_ceiling ct_Shares_by_ceiling), sl_Shares_by_ceiling⟩)
    (c_Shares_by_ceiling : PySem.W.codeIn K cd_Shares_by_ceiling "Shares._by_ceiling" = true)
    (k_Shares_by_ceiling : PySem.W.keepIn K (.ref f_Shares_by_ceiling) = true)
    (a_Shares_begin_stretch : PySem.W.findIn K (.ref C_Shares) "_begin_stretch" = some (some (.ref f_Shares_begin_stretch)))
    (l_Shares_begin_stretch : K.lookup f_Shares_begin_stretch = some ⟨oc_Shares_begin_stretch, od_Shares_begin_stretch, .func (PySem.W.fnOf "_begin_stretch" "Shares._begin_stretch" (defArgs s_Shares_begin_stretch) (defBody s_Shares_begin_stretch) (defScope s_Shares_begin_stretch) .none kV_Shares_begin_stretch dc_Shares_begin_stretch pm_Shares_begin_stretch an_Shares_begin_stretch cd_Shares_begin_stretch ct_Shares_begin_stretch), sl_Shares_begin_stretch⟩)
    (c_Shares_begin_stretch : PySem.W.codeIn K cd_Shares_begin_stretch "Shares._begin_stretch" = true)
    (k_Shares_begin_stretch : PySem.W.keepIn K (.ref f_Shares_begin_stretch) = true)
    (a_first_broken : PySem.W.nsIn K mainGlobals "first_broken" = some (some (.ref f_first_broken)))
    (l_first_broken : K.lookup f_first_broken = some ⟨oc_first_broken, od_first_broken, .func (PySem.W.fnOf "first_broken" "first_broken" (defArgs s_first_broken) (defBody s_first_broken) (defScope s_first_broken) .none kV_first_broken dc_first_broken pm_first_broken an_first_broken cd_first_broken ct_first_broken), sl_first_broken⟩)
    (c_first_broken : PySem.W.codeIn K cd_first_broken "first_broken" = true)
    (k_first_broken : PySem.W.keepIn K (.ref f_first_broken) = true)
    (a_may_come : PySem.W.nsIn K mainGlobals "_may_come" = some (some (.ref f_may_come)))
    (l_may_come : K.lookup f_may_come = some ⟨oc_may_come, od_may_come, .func (PySem.W.fnOf "_may_come" "_may_come" (defArgs s_may_come) (defBody s_may_come) (defScope s_may_come) .none kV_may_come dc_may_come pm_may_come an_may_come cd_may_come ct_may_come), sl_may_come⟩)
    (c_may_come : PySem.W.codeIn K cd_may_come "_may_come" = true)
    (k_may_come : PySem.W.keepIn K (.ref f_may_come) = true)
    (a_is_list : PySem.W.nsIn K mainGlobals "_is_list" = some (some (.ref f_is_list)))
    (l_is_list : K.lookup f_is_list = some ⟨oc_is_list, od_is_list, .func (PySem.W.fnOf "_is_list" "_is_list" (defArgs s_is_list) (defBody s_is_list) (defScope s_is_list) .none kV_is_list dc_is_list pm_is_list an_is_list cd_is_list ct_is_list), sl_is_list⟩)
    (c_is_list : PySem.W.codeIn K cd_is_list "_is_list" = true)
    (k_is_list : PySem.W.keepIn K (.ref f_is_list) = true)
    (a_is_names : PySem.W.nsIn K mainGlobals "_is_names" = some (some (.ref f_is_names)))
    (l_is_names : K.lookup f_is_names = some ⟨oc_is_names, od_is_names, .func (PySem.W.fnOf "_is_names" "_is_names" (defArgs s_is_names) (defBody s_is_names) (defScope s_is_names) .none kV_is_names dc_is_names pm_is_names an_is_names cd_is_names ct_is_names), sl_is_names⟩)
    (c_is_names : PySem.W.codeIn K cd_is_names "_is_names" = true)
    (k_is_names : PySem.W.keepIn K (.ref f_is_names) = true)
    (a_is_one_of : PySem.W.nsIn K mainGlobals "_is_one_of" = some (some (.ref f_is_one_of)))
    (l_is_one_of : K.lookup f_is_one_of = some ⟨oc_is_one_of, od_is_one_of, .func (PySem.W.fnOf "_is_one_of" "_is_one_of" (defArgs s_is_one_of) (defBody s_is_one_of) (defScope s_is_one_of) .none kV_is_one_of dc_is_one_of pm_is_one_of an_is_one_of cd_is_one_of ct_is_one_of), sl_is_one_of⟩)
    (c_is_one_of : PySem.W.codeIn K cd_is_one_of "_is_one_of" = true)
    (k_is_one_of : PySem.W.keepIn K (.ref f_is_one_of) = true)
    (a_is_broken : PySem.W.nsIn K mainGlobals "_is_broken" = some (some (.ref f_is_broken)))
    (l_is_broken : K.lookup f_is_broken = some ⟨oc_is_broken, od_is_broken, .func (PySem.W.fnOf "_is_broken" "_is_broken" (defArgs s_is_broken) (defBody s_is_broken) (defScope s_is_broken) .none kV_is_broken dc_is_broken pm_is_broken an_is_broken cd_is_broken ct_is_broken), sl_is_broken⟩)
    (c_is_broken : PySem.W.codeIn K cd_is_broken "_is_broken" = true)
    (k_is_broken : PySem.W.keepIn K (.ref f_is_broken) = true)
    (a_cell_L : PySem.W.nsIn K mainGlobals "_law_cell" = some (some (.ref f_cell_L)))
    (l_cell_L : K.lookup f_cell_L = some ⟨oc_cell_L, od_cell_L, .func (PySem.W.fnOf "_law_cell" "_law_cell" (defArgs s_cell_L) (defBody s_cell_L) (defScope s_cell_L) .none kV_cell_L dc_cell_L pm_cell_L an_cell_L cd_cell_L ct_cell_L), sl_cell_L⟩)
    (c_cell_L : PySem.W.codeIn K cd_cell_L "_law_cell" = true)
    (k_cell_L : PySem.W.keepIn K (.ref f_cell_L) = true)
    (a_box_L : PySem.W.nsIn K mainGlobals "_law_box" = some (some (.ref f_box_L)))
    (l_box_L : K.lookup f_box_L = some ⟨oc_box_L, od_box_L, .func (PySem.W.fnOf "_law_box" "_law_box" (defArgs s_box_L) (defBody s_box_L) (defScope s_box_L) .none kV_box_L dc_box_L pm_box_L an_box_L cd_box_L ct_box_L), sl_box_L⟩)
    (c_box_L : PySem.W.codeIn K cd_box_L "_law_box" = true)
    (k_box_L : PySem.W.keepIn K (.ref f_box_L) = true)
    (a_take_L : PySem.W.nsIn K mainGlobals "_law_take" = some (some (.ref f_take_L)))
    (l_take_L : K.lookup f_take_L = some ⟨oc_take_L, od_take_L, .func (PySem.W.fnOf "_law_take" "_law_take" (defArgs s_take_L) (defBody s_take_L) (defScope s_take_L) .none kV_take_L dc_take_L pm_take_L an_take_L cd_take_L ct_take_L), sl_take_L⟩)
    (c_take_L : PySem.W.codeIn K cd_take_L "_law_take" = true)
    (k_take_L : PySem.W.keepIn K (.ref f_take_L) = true)
    (a_names_L : PySem.W.nsIn K mainGlobals "_law_names" = some (some (.ref f_names_L)))
    (l_names_L : K.lookup f_names_L = some ⟨oc_names_L, od_names_L, .func (PySem.W.fnOf "_law_names" "_law_names" (defArgs s_names_L) (defBody s_names_L) (defScope s_names_L) .none kV_names_L dc_names_L pm_names_L an_names_L cd_names_L ct_names_L), sl_names_L⟩)
    (c_names_L : PySem.W.codeIn K cd_names_L "_law_names" = true)
    (k_names_L : PySem.W.keepIn K (.ref f_names_L) = true)
    (a_length_L : PySem.W.nsIn K mainGlobals "_law_length" = some (some (.ref f_length_L)))
    (l_length_L : K.lookup f_length_L = some ⟨oc_length_L, od_length_L, .func (PySem.W.fnOf "_law_length" "_law_length" (defArgs s_length_L) (defBody s_length_L) (defScope s_length_L) .none kV_length_L dc_length_L pm_length_L an_length_L cd_length_L ct_length_L), sl_length_L⟩)
    (c_length_L : PySem.W.codeIn K cd_length_L "_law_length" = true)
    (k_length_L : PySem.W.keepIn K (.ref f_length_L) = true)
    (a_share_L : PySem.W.nsIn K mainGlobals "_law_share" = some (some (.ref f_share_L)))
    (l_share_L : K.lookup f_share_L = some ⟨oc_share_L, od_share_L, .func (PySem.W.fnOf "_law_share" "_law_share" (defArgs s_share_L) (defBody s_share_L) (defScope s_share_L) .none kV_share_L dc_share_L pm_share_L an_share_L cd_share_L ct_share_L), sl_share_L⟩)
    (c_share_L : PySem.W.codeIn K cd_share_L "_law_share" = true)
    (k_share_L : PySem.W.keepIn K (.ref f_share_L) = true)
    (a_guests_L : PySem.W.nsIn K mainGlobals "_law_guests" = some (some (.ref f_guests_L)))
    (l_guests_L : K.lookup f_guests_L = some ⟨oc_guests_L, od_guests_L, .func (PySem.W.fnOf "_law_guests" "_law_guests" (defArgs s_guests_L) (defBody s_guests_L) (defScope s_guests_L) .none kV_guests_L dc_guests_L pm_guests_L an_guests_L cd_guests_L ct_guests_L), sl_guests_L⟩)
    (c_guests_L : PySem.W.codeIn K cd_guests_L "_law_guests" = true)
    (k_guests_L : PySem.W.keepIn K (.ref f_guests_L) = true)
    (a_ready_L : PySem.W.nsIn K mainGlobals "_law_ready" = some (some (.ref f_ready_L)))
    (l_ready_L : K.lookup f_ready_L = some ⟨oc_ready_L, od_ready_L, .func (PySem.W.fnOf "_law_ready" "_law_ready" (defArgs s_ready_L) (defBody s_ready_L) (defScope s_ready_L) .none kV_ready_L dc_ready_L pm_ready_L an_ready_L cd_ready_L ct_ready_L), sl_ready_L⟩)
    (c_ready_L : PySem.W.codeIn K cd_ready_L "_law_ready" = true)
    (k_ready_L : PySem.W.keepIn K (.ref f_ready_L) = true)
    (a_dealt_L : PySem.W.nsIn K mainGlobals "_law_dealt" = some (some (.ref f_dealt_L)))
    (l_dealt_L : K.lookup f_dealt_L = some ⟨oc_dealt_L, od_dealt_L, .func (PySem.W.fnOf "_law_dealt" "_law_dealt" (defArgs s_dealt_L) (defBody s_dealt_L) (defScope s_dealt_L) .none kV_dealt_L dc_dealt_L pm_dealt_L an_dealt_L cd_dealt_L ct_dealt_L), sl_dealt_L⟩)
    (c_dealt_L : PySem.W.codeIn K cd_dealt_L "_law_dealt" = true)
    (k_dealt_L : PySem.W.keepIn K (.ref f_dealt_L) = true)
    (a_breaks_L : PySem.W.nsIn K mainGlobals "_law_breaks" = some (some (.ref f_breaks_L)))
    (l_breaks_L : K.lookup f_breaks_L = some ⟨oc_breaks_L, od_breaks_L, .func (PySem.W.fnOf "_law_breaks" "_law_breaks" (defArgs s_breaks_L) (defBody s_breaks_L) (defScope s_breaks_L) .none kV_breaks_L dc_breaks_L pm_breaks_L an_breaks_L cd_breaks_L ct_breaks_L), sl_breaks_L⟩)
    (c_breaks_L : PySem.W.codeIn K cd_breaks_L "_law_breaks" = true)
    (k_breaks_L : PySem.W.keepIn K (.ref f_breaks_L) = true)
    (a_due_L : PySem.W.nsIn K mainGlobals "_law_due" = some (some (.ref f_due_L)))
    (l_due_L : K.lookup f_due_L = some ⟨oc_due_L, od_due_L, .func (PySem.W.fnOf "_law_due" "_law_due" (defArgs s_due_L) (defBody s_due_L) (defScope s_due_L) .none kV_due_L dc_due_L pm_due_L an_due_L cd_due_L ct_due_L), sl_due_L⟩)
    (c_due_L : PySem.W.codeIn K cd_due_L "_law_due" = true)
    (k_due_L : PySem.W.keepIn K (.ref f_due_L) = true)
    (a_right_L : PySem.W.nsIn K mainGlobals "_law_right" = some (some (.ref f_right_L)))
    (l_right_L : K.lookup f_right_L = some ⟨oc_right_L, od_right_L, .func (PySem.W.fnOf "_law_right" "_law_right" (defArgs s_right_L) (defBody s_right_L) (defScope s_right_L) .none kV_right_L dc_right_L pm_right_L an_right_L cd_right_L ct_right_L), sl_right_L⟩)
    (c_right_L : PySem.W.codeIn K cd_right_L "_law_right" = true)
    (k_right_L : PySem.W.keepIn K (.ref f_right_L) = true)
    (a_law : PySem.W.nsIn K mainGlobals "law" = some (some (.ref f_law)))
    (l_law : K.lookup f_law = some ⟨oc_law, od_law, .func (PySem.W.fnOf "law" "law" (defArgs s_law) (defBody s_law) (defScope s_law) .none kV_law dc_law pm_law an_law cd_law ct_law), sl_law⟩)
    (c_law : PySem.W.codeIn K cd_law "law" = true)
    (k_law : PySem.W.keepIn K (.ref f_law) = true)
    (cMG : PySem.W.nsIn K mainGlobals "MOST_GUESTS" = some (some (.int 6 t_mg)))
    (cSH : PySem.W.nsIn K mainGlobals "SHORTEST" = some (some (.int 4 t_sh)))
    (cLO : PySem.W.nsIn K mainGlobals "LONGEST" = some (some (.int 60 t_lo)))
    (cMD : PySem.W.nsIn K mainGlobals "MOST_DEALT" = some (some (.int 400 t_md)))
    (rd_GuestError : PySem.W.readsIn K C_GuestError (.type "type") = true)
    (ga_GuestError : PySem.W.specialIn K (.ref C_GuestError) "__getattribute__" = some (some (.builtin "type.__getattribute__")))
    (at_GuestError : PySem.W.findCls K (.ref C_GuestError) (.type "type") "__init__" = some (.val (.ref f_GuestError_init)))
    (v_ValueError : PySem.W.findCls K (.type "ValueError") (.type "type") "__init__" = some (.val (.builtin "ValueError.__init__")))
    (rd_Missing : PySem.W.readsIn K C_Missing (.type "type") = true)
    (ga_Missing : PySem.W.specialIn K (.ref C_Missing) "__getattribute__" = some (some (.builtin "type.__getattribute__")))
    (at_Missing : PySem.W.findCls K (.ref C_Missing) (.type "type") "__init__" = some (.val (.ref f_Missing_init)))
    (v_KeyError : PySem.W.findCls K (.type "KeyError") (.type "type") "__init__" = some (.val (.builtin "KeyError.__init__")))
    (rd_Barred : PySem.W.readsIn K C_Barred (.type "type") = true)
    (ga_Barred : PySem.W.specialIn K (.ref C_Barred) "__getattribute__" = some (some (.builtin "type.__getattribute__")))
    (at_Barred : PySem.W.findCls K (.ref C_Barred) (.type "type") "__init__" = some (.val (.ref f_Barred_init)))
    (v_LookupError : PySem.W.findCls K (.type "LookupError") (.type "type") "__init__" = some (.val (.builtin "LookupError.__init__")))
    (xL_M : K.lookup C_NoNumber = some (excClassObj nmM qM C_NoNumber NM bsM [.ref C_GuestError, .type "ValueError", .type "Exception", .type "BaseException", .type "object"] true snM subM abM colM ddM wM0 wM1 wM2 wM3 wM5 "ValueError.__new__"))
    (sa_M : PySem.W.findIn K (.ref C_NoNumber) "__setattr__" = some (some (.builtin "object.__setattr__")))
    (ex_M : PySem.W.subIn K (.ref C_NoNumber) (.type "BaseException") = some true)
    (ty_M : PySem.W.typeIn K (.ref C_NoNumber) = some (.type "type"))
    (kp_M : PySem.W.keepIn K (.ref C_NoNumber) = true)
    (tf_M : PySem.W.typeIn K (.ref f_NoNumber_init) = some (.type "function"))
    (nf_M : PySem.W.findIn K (.ref C_NoNumber) "found" = some none)
    (hg_M : PySem.W.findIn K (.ref C_NoNumber) "__getattribute__" = some (some (.builtin "BaseException.__getattribute__")))
    (hk_M : PySem.W.findIn K (.ref C_NoNumber) "__getattr__" = some none)
    (hd_M : PySem.W.hasDictIn K C_NoNumber = true)
    (ha_M : PySem.W.findIn K (.ref C_NoNumber) "__class__" = some (some (.builtin "object.__class__")))
    (hm_M : PySem.W.mroIn K C_NoNumber (.type "object") = some true)
    (xL_N : K.lookup C_NoName = some (excClassObj nmN qN C_NoName NN bsN [.ref C_GuestError, .type "ValueError", .type "Exception", .type "BaseException", .type "object"] true snN subN abN colN ddN wN0 wN1 wN2 wN3 wN5 "ValueError.__new__"))
    (sa_N : PySem.W.findIn K (.ref C_NoName) "__setattr__" = some (some (.builtin "object.__setattr__")))
    (ex_N : PySem.W.subIn K (.ref C_NoName) (.type "BaseException") = some true)
    (ty_N : PySem.W.typeIn K (.ref C_NoName) = some (.type "type"))
    (kp_N : PySem.W.keepIn K (.ref C_NoName) = true)
    (tf_N : PySem.W.typeIn K (.ref f_NoName_init) = some (.type "function"))
    (nf_N : PySem.W.findIn K (.ref C_NoName) "found" = some none)
    (hg_N : PySem.W.findIn K (.ref C_NoName) "__getattribute__" = some (some (.builtin "BaseException.__getattribute__")))
    (hk_N : PySem.W.findIn K (.ref C_NoName) "__getattr__" = some none)
    (hd_N : PySem.W.hasDictIn K C_NoName = true)
    (ha_N : PySem.W.findIn K (.ref C_NoName) "__class__" = some (some (.builtin "object.__class__")))
    (hm_N : PySem.W.mroIn K C_NoName (.type "object") = some true)
    (xL_D : K.lookup C_Doubled = some (excClassObj nmD qD C_Doubled ND bsD [.ref C_GuestError, .type "ValueError", .type "Exception", .type "BaseException", .type "object"] true snD subD abD colD ddD wD0 wD1 wD2 wD3 wD5 "ValueError.__new__"))
    (sa_D : PySem.W.findIn K (.ref C_Doubled) "__setattr__" = some (some (.builtin "object.__setattr__")))
    (ex_D : PySem.W.subIn K (.ref C_Doubled) (.type "BaseException") = some true)
    (ty_D : PySem.W.typeIn K (.ref C_Doubled) = some (.type "type"))
    (kp_D : PySem.W.keepIn K (.ref C_Doubled) = true)
    (tf_D : PySem.W.typeIn K (.ref f_Doubled_init) = some (.type "function"))
    (nf_D : PySem.W.findIn K (.ref C_Doubled) "found" = some none)
    (hg_D : PySem.W.findIn K (.ref C_Doubled) "__getattribute__" = some (some (.builtin "BaseException.__getattribute__")))
    (hk_D : PySem.W.findIn K (.ref C_Doubled) "__getattr__" = some none)
    (hd_D : PySem.W.hasDictIn K C_Doubled = true)
    (ha_D : PySem.W.findIn K (.ref C_Doubled) "__class__" = some (some (.builtin "object.__class__")))
    (hm_D : PySem.W.mroIn K C_Doubled (.type "object") = some true)
    (xL_T : K.lookup C_TooMuch = some (excClassObj nmT qT C_TooMuch NT bsT [.ref C_GuestError, .type "ValueError", .type "Exception", .type "BaseException", .type "object"] true snT subT abT colT ddT wT0 wT1 wT2 wT3 wT5 "ValueError.__new__"))
    (sa_T : PySem.W.findIn K (.ref C_TooMuch) "__setattr__" = some (some (.builtin "object.__setattr__")))
    (ex_T : PySem.W.subIn K (.ref C_TooMuch) (.type "BaseException") = some true)
    (ty_T : PySem.W.typeIn K (.ref C_TooMuch) = some (.type "type"))
    (kp_T : PySem.W.keepIn K (.ref C_TooMuch) = true)
    (tf_T : PySem.W.typeIn K (.ref f_TooMuch_init) = some (.type "function"))
    (nf_T : PySem.W.findIn K (.ref C_TooMuch) "many" = some none)
    (hg_T : PySem.W.findIn K (.ref C_TooMuch) "__getattribute__" = some (some (.builtin "BaseException.__getattribute__")))
    (hk_T : PySem.W.findIn K (.ref C_TooMuch) "__getattr__" = some none)
    (hd_T : PySem.W.hasDictIn K C_TooMuch = true)
    (ha_T : PySem.W.findIn K (.ref C_TooMuch) "__class__" = some (some (.builtin "object.__class__")))
    (hm_T : PySem.W.mroIn K C_TooMuch (.type "object") = some true)
    (xL_A : K.lookup C_NoGuest = some (excClassObj nmA qA C_NoGuest NA bsA [.ref C_Missing, .type "KeyError", .type "LookupError", .type "Exception", .type "BaseException", .type "object"] true snA subA abA colA ddA wA0 wA1 wA2 wA3 wA5 "LookupError.__new__"))
    (sa_A : PySem.W.findIn K (.ref C_NoGuest) "__setattr__" = some (some (.builtin "object.__setattr__")))
    (ex_A : PySem.W.subIn K (.ref C_NoGuest) (.type "BaseException") = some true)
    (ty_A : PySem.W.typeIn K (.ref C_NoGuest) = some (.type "type"))
    (kp_A : PySem.W.keepIn K (.ref C_NoGuest) = true)
    (tf_A : PySem.W.typeIn K (.ref f_NoGuest_init) = some (.type "function"))
    (nf_A : PySem.W.findIn K (.ref C_NoGuest) "found" = some none)
    (hg_A : PySem.W.findIn K (.ref C_NoGuest) "__getattribute__" = some (some (.builtin "BaseException.__getattribute__")))
    (hk_A : PySem.W.findIn K (.ref C_NoGuest) "__getattr__" = some none)
    (hd_A : PySem.W.hasDictIn K C_NoGuest = true)
    (ha_A : PySem.W.findIn K (.ref C_NoGuest) "__class__" = some (some (.builtin "object.__class__")))
    (hm_A : PySem.W.mroIn K C_NoGuest (.type "object") = some true)
    (xL_F : K.lookup C_Full = some (excClassObj nmF qF C_Full NF bsF [.ref C_Barred, .type "LookupError", .type "Exception", .type "BaseException", .type "object"] true snF subF abF colF ddF wF0 wF1 wF2 wF3 wF5 "LookupError.__new__"))
    (sa_F : PySem.W.findIn K (.ref C_Full) "__setattr__" = some (some (.builtin "object.__setattr__")))
    (ex_F : PySem.W.subIn K (.ref C_Full) (.type "BaseException") = some true)
    (ty_F : PySem.W.typeIn K (.ref C_Full) = some (.type "type"))
    (kp_F : PySem.W.keepIn K (.ref C_Full) = true)
    (tf_F : PySem.W.typeIn K (.ref f_Full_init) = some (.type "function"))
    (nf_F : PySem.W.findIn K (.ref C_Full) "many" = some none)
    (hg_F : PySem.W.findIn K (.ref C_Full) "__getattribute__" = some (some (.builtin "BaseException.__getattribute__")))
    (hk_F : PySem.W.findIn K (.ref C_Full) "__getattr__" = some none)
    (hd_F : PySem.W.hasDictIn K C_Full = true)
    (ha_F : PySem.W.findIn K (.ref C_Full) "__class__" = some (some (.builtin "object.__class__")))
    (hm_F : PySem.W.mroIn K C_Full (.type "object") = some true)
    (xL_H : K.lookup C_NoShare = some (excClassObj nmH qH C_NoShare NH bsH [.ref C_GuestError, .type "ValueError", .type "Exception", .type "BaseException", .type "object"] true snH subH abH colH ddH wH0 wH1 wH2 wH3 wH5 "ValueError.__new__"))
    (sa_H : PySem.W.findIn K (.ref C_NoShare) "__setattr__" = some (some (.builtin "object.__setattr__")))
    (ex_H : PySem.W.subIn K (.ref C_NoShare) (.type "BaseException") = some true)
    (ty_H : PySem.W.typeIn K (.ref C_NoShare) = some (.type "type"))
    (kp_H : PySem.W.keepIn K (.ref C_NoShare) = true)
    (tf_H : PySem.W.typeIn K (.ref f_NoShare_init) = some (.type "function"))
    (nf_H : PySem.W.findIn K (.ref C_NoShare) "found" = some none)
    (hg_H : PySem.W.findIn K (.ref C_NoShare) "__getattribute__" = some (some (.builtin "BaseException.__getattribute__")))
    (hk_H : PySem.W.findIn K (.ref C_NoShare) "__getattr__" = some none)
    (hd_H : PySem.W.hasDictIn K C_NoShare = true)
    (ha_H : PySem.W.findIn K (.ref C_NoShare) "__class__" = some (some (.builtin "object.__class__")))
    (hm_H : PySem.W.mroIn K C_NoShare (.type "object") = some true)
    (xL_L : K.lookup C_NoLog = some (excClassObj nmL qL C_NoLog NL bsL [.ref C_GuestError, .type "ValueError", .type "Exception", .type "BaseException", .type "object"] true snL subL abL colL ddL wL0 wL1 wL2 wL3 wL5 "ValueError.__new__"))
    (sa_L : PySem.W.findIn K (.ref C_NoLog) "__setattr__" = some (some (.builtin "object.__setattr__")))
    (ex_L : PySem.W.subIn K (.ref C_NoLog) (.type "BaseException") = some true)
    (ty_L : PySem.W.typeIn K (.ref C_NoLog) = some (.type "type"))
    (kp_L : PySem.W.keepIn K (.ref C_NoLog) = true)
    (tf_L : PySem.W.typeIn K (.ref f_NoLog_init) = some (.type "function"))
    (nf_L : PySem.W.findIn K (.ref C_NoLog) "found" = some none)
    (hg_L : PySem.W.findIn K (.ref C_NoLog) "__getattribute__" = some (some (.builtin "BaseException.__getattribute__")))
    (hk_L : PySem.W.findIn K (.ref C_NoLog) "__getattr__" = some none)
    (hd_L : PySem.W.hasDictIn K C_NoLog = true)
    (ha_L : PySem.W.findIn K (.ref C_NoLog) "__class__" = some (some (.builtin "object.__class__")))
    (hm_L : PySem.W.mroIn K C_NoLog (.type "object") = some true)
    (s_M_M : PySem.W.subIn K (.ref C_NoNumber) (.ref C_NoNumber) = some true)
    (s_N_M : PySem.W.subIn K (.ref C_NoName) (.ref C_NoNumber) = some false)
    (s_N_N : PySem.W.subIn K (.ref C_NoName) (.ref C_NoName) = some true)
    (s_D_M : PySem.W.subIn K (.ref C_Doubled) (.ref C_NoNumber) = some false)
    (s_D_N : PySem.W.subIn K (.ref C_Doubled) (.ref C_NoName) = some false)
    (s_D_D : PySem.W.subIn K (.ref C_Doubled) (.ref C_Doubled) = some true)
    (s_T_M : PySem.W.subIn K (.ref C_TooMuch) (.ref C_NoNumber) = some false)
    (s_T_N : PySem.W.subIn K (.ref C_TooMuch) (.ref C_NoName) = some false)
    (s_T_D : PySem.W.subIn K (.ref C_TooMuch) (.ref C_Doubled) = some false)
    (s_T_T : PySem.W.subIn K (.ref C_TooMuch) (.ref C_TooMuch) = some true)
    (s_A_M : PySem.W.subIn K (.ref C_NoGuest) (.ref C_NoNumber) = some false)
    (s_A_N : PySem.W.subIn K (.ref C_NoGuest) (.ref C_NoName) = some false)
    (s_A_D : PySem.W.subIn K (.ref C_NoGuest) (.ref C_Doubled) = some false)
    (s_A_T : PySem.W.subIn K (.ref C_NoGuest) (.ref C_TooMuch) = some false)
    (s_A_A : PySem.W.subIn K (.ref C_NoGuest) (.ref C_NoGuest) = some true)
    (s_F_M : PySem.W.subIn K (.ref C_Full) (.ref C_NoNumber) = some false)
    (s_F_N : PySem.W.subIn K (.ref C_Full) (.ref C_NoName) = some false)
    (s_F_D : PySem.W.subIn K (.ref C_Full) (.ref C_Doubled) = some false)
    (s_F_T : PySem.W.subIn K (.ref C_Full) (.ref C_TooMuch) = some false)
    (s_F_A : PySem.W.subIn K (.ref C_Full) (.ref C_NoGuest) = some false)
    (s_F_F : PySem.W.subIn K (.ref C_Full) (.ref C_Full) = some true)
    (s_H_M : PySem.W.subIn K (.ref C_NoShare) (.ref C_NoNumber) = some false)
    (s_H_N : PySem.W.subIn K (.ref C_NoShare) (.ref C_NoName) = some false)
    (s_H_D : PySem.W.subIn K (.ref C_NoShare) (.ref C_Doubled) = some false)
    (s_H_T : PySem.W.subIn K (.ref C_NoShare) (.ref C_TooMuch) = some false)
    (s_H_A : PySem.W.subIn K (.ref C_NoShare) (.ref C_NoGuest) = some false)
    (s_H_F : PySem.W.subIn K (.ref C_NoShare) (.ref C_Full) = some false)
    (s_H_H : PySem.W.subIn K (.ref C_NoShare) (.ref C_NoShare) = some true)
    (s_L_M : PySem.W.subIn K (.ref C_NoLog) (.ref C_NoNumber) = some false)
    (s_L_N : PySem.W.subIn K (.ref C_NoLog) (.ref C_NoName) = some false)
    (s_L_D : PySem.W.subIn K (.ref C_NoLog) (.ref C_Doubled) = some false)
    (s_L_T : PySem.W.subIn K (.ref C_NoLog) (.ref C_TooMuch) = some false)
    (s_L_A : PySem.W.subIn K (.ref C_NoLog) (.ref C_NoGuest) = some false)
    (s_L_F : PySem.W.subIn K (.ref C_NoLog) (.ref C_Full) = some false)
    (s_L_H : PySem.W.subIn K (.ref C_NoLog) (.ref C_NoShare) = some false)
    (s_L_L : PySem.W.subIn K (.ref C_NoLog) (.ref C_NoLog) = some true)
    (hn : PySem.W.specialIn K (.builtin "object.__class__") "__get__" = some (some (.builtin "getset_descriptor.__get__")))
    (htk : PySem.W.takesIn K (.builtin "object.__class__") = some true)
    (pg_Shares : PySem.W.plainGet K C_Shares Str.empty = true)
    (hdd_Shares : PySem.W.hasDictIn K C_Shares = true)
    (po_Shares : PySem.W.plainOver K C_Shares = true)
    (saa_Shares : PySem.W.findIn K (.ref C_Shares) "__setattr__" = some (some (.builtin "object.__setattr__")))
    (mk_Shares : PySem.W.makesIn K C_Shares = true)
    (kc_Shares : PySem.W.keepIn K (.ref C_Shares) = true)
    (na_Shares_length : PySem.W.findIn K (.ref C_Shares) "_length" = some none)
    (na_Shares_told : PySem.W.findIn K (.ref C_Shares) "_told" = some none)
    (na_Shares_counts : PySem.W.findIn K (.ref C_Shares) "_counts" = some none)
    (na_Shares_used : PySem.W.findIn K (.ref C_Shares) "_used" = some none)
    (na_Shares_passed : PySem.W.findIn K (.ref C_Shares) "_passed" = some none)
    (na_Shares_dealt : PySem.W.findIn K (.ref C_Shares) "_dealt" = some none)
    (fn_Shares_init : PySem.W.isFn K (.ref f_Shares_init) = true)
    (fn_Shares_come : PySem.W.isFn K (.ref f_Shares_come) = true)
    (fn_Shares_deal : PySem.W.isFn K (.ref f_Shares_deal) = true)
    (fn_Shares_promised : PySem.W.isFn K (.ref f_Shares_promised) = true)
    (fn_Shares_check_share : PySem.W.isFn K (.ref f_Shares_check_share) = true)
    (fn_Shares_check_promised : PySem.W.isFn K (.ref f_Shares_check_promised) = true)
    (fn_Shares_by_promise : PySem.W.isFn K (.ref f_Shares_by_promise) = true)
    (fn_Shares_by_ceiling : PySem.W.isFn K (.ref f_Shares_by_ceiling) = true)
    (fn_Shares_begin_stretch : PySem.W.isFn K (.ref f_Shares_begin_stretch) = true)
    (z_isinstance : PySem.W.nsIn K mainGlobals "isinstance" = some none)
    (z_int : PySem.W.nsIn K mainGlobals "int" = some none)
    (z_bool : PySem.W.nsIn K mainGlobals "bool" = some none)
    (z_str : PySem.W.nsIn K mainGlobals "str" = some none)
    (z_list : PySem.W.nsIn K mainGlobals "list" = some none)
    (z_tuple : PySem.W.nsIn K mainGlobals "tuple" = some none)
    (z_dict : PySem.W.nsIn K mainGlobals "dict" = some none)
    (z_len : PySem.W.nsIn K mainGlobals "len" = some none)
    (z_max : PySem.W.nsIn K mainGlobals "max" = some none)
    (z_min : PySem.W.nsIn K mainGlobals "min" = some none)
    (z_range : PySem.W.nsIn K mainGlobals "range" = some none)
    (z_all : PySem.W.nsIn K mainGlobals "all" = some none)
    (z_sum : PySem.W.nsIn K mainGlobals "sum" = some none)
    (z_repr : PySem.W.nsIn K mainGlobals "repr" = some none)
    (z_enumerate : PySem.W.nsIn K mainGlobals "enumerate" = some none)
    (z_ValueError : PySem.W.nsIn K mainGlobals "ValueError" = some none)
    (z_LookupError : PySem.W.nsIn K mainGlobals "LookupError" = some none)
    (z_KeyError : PySem.W.nsIn K mainGlobals "KeyError" = some none) :
    ∃ fd : FuncData, (∀ (s : Shared) (v : Value), BindsTo s fd ⟨[v], []⟩ [("_law_script", v)]) ∧ ∀ base : Heap, K.In base → base.Ns mainGlobals mg → FnG l.prog w K mg base CX0 10 fa fd ["_law_script"] (spLaw K) := by
  have e := hfa.symm.trans (PySem.W.mg_of X G a_law)
  cases e
  have mo : ∀ {x : Str} {u : Value}, PySem.W.nsIn K mainGlobals x = some (some u) → mg x = some u := fun q => PySem.W.mg_of X G q
  have mz : ∀ {x : Str}, PySem.W.nsIn K mainGlobals x = some none → mg x = none := fun q => PySem.W.mg_none_of X G q
  have F_wall := fun_mk (st := s_wall) l_wall c_wall k_wall
  have b_wall := F_wall.binds (ps := ["k"]) fun _ _ _ _ _ _ us hl => match us, hl with | [_], _ => rfl
  have F_GuestError_init := fun_mk (st := s_GuestError_init) l_GuestError_init c_GuestError_init k_GuestError_init
  have b_GuestError_init := F_GuestError_init.binds (ps := ["self", "text"]) fun _ _ _ _ _ _ us hl => match us, hl with | [_, _], _ => rfl
  have F_Missing_init := fun_mk (st := s_Missing_init) l_Missing_init c_Missing_init k_Missing_init
  have b_Missing_init := F_Missing_init.binds (ps := ["self", "text"]) fun _ _ _ _ _ _ us hl => match us, hl with | [_, _], _ => rfl
  have F_Barred_init := fun_mk (st := s_Barred_init) l_Barred_init c_Barred_init k_Barred_init
  have b_Barred_init := F_Barred_init.binds (ps := ["self", "text"]) fun _ _ _ _ _ _ us hl => match us, hl with | [_, _], _ => rfl
  have F_NoNumber_init := fun_mk (st := s_NoNumber_init) l_NoNumber_init c_NoNumber_init k_NoNumber_init
  have b_NoNumber_init := F_NoNumber_init.binds (ps := ["self", "found"]) fun _ _ _ _ _ _ us hl => match us, hl with | [_, _], _ => rfl
  have F_NoName_init := fun_mk (st := s_NoName_init) l_NoName_init c_NoName_init k_NoName_init
  have b_NoName_init := F_NoName_init.binds (ps := ["self", "found"]) fun _ _ _ _ _ _ us hl => match us, hl with | [_, _], _ => rfl
  have F_NoLog_init := fun_mk (st := s_NoLog_init) l_NoLog_init c_NoLog_init k_NoLog_init
  have b_NoLog_init := F_NoLog_init.binds (ps := ["self", "found"]) fun _ _ _ _ _ _ us hl => match us, hl with | [_, _], _ => rfl
  have F_NoShare_init := fun_mk (st := s_NoShare_init) l_NoShare_init c_NoShare_init k_NoShare_init
  have b_NoShare_init := F_NoShare_init.binds (ps := ["self", "found"]) fun _ _ _ _ _ _ us hl => match us, hl with | [_, _], _ => rfl
  have F_Doubled_init := fun_mk (st := s_Doubled_init) l_Doubled_init c_Doubled_init k_Doubled_init
  have b_Doubled_init := F_Doubled_init.binds (ps := ["self", "found"]) fun _ _ _ _ _ _ us hl => match us, hl with | [_, _], _ => rfl
  have F_TooMuch_init := fun_mk (st := s_TooMuch_init) l_TooMuch_init c_TooMuch_init k_TooMuch_init
  have b_TooMuch_init := F_TooMuch_init.binds (ps := ["self", "many"]) fun _ _ _ _ _ _ us hl => match us, hl with | [_, _], _ => rfl
  have F_NoGuest_init := fun_mk (st := s_NoGuest_init) l_NoGuest_init c_NoGuest_init k_NoGuest_init
  have b_NoGuest_init := F_NoGuest_init.binds (ps := ["self", "found"]) fun _ _ _ _ _ _ us hl => match us, hl with | [_, _], _ => rfl
  have F_Full_init := fun_mk (st := s_Full_init) l_Full_init c_Full_init k_Full_init
  have b_Full_init := F_Full_init.binds (ps := ["self", "many"]) fun _ _ _ _ _ _ us hl => match us, hl with | [_, _], _ => rfl
  have F_is_whole := fun_mk (st := s_is_whole) l_is_whole c_is_whole k_is_whole
  have b_is_whole := F_is_whole.binds (ps := ["thing", "low", "high"]) fun _ _ _ _ _ _ us hl => match us, hl with | [_, _, _], _ => rfl
  have F_is_name := fun_mk (st := s_is_name) l_is_name c_is_name k_is_name
  have b_is_name := F_is_name.binds (ps := ["thing"]) fun _ _ _ _ _ _ us hl => match us, hl with | [_], _ => rfl
  have F_all_within := fun_mk (st := s_all_within) l_all_within c_all_within k_all_within
  have b_all_within := F_all_within.binds (ps := ["text", "first", "last"]) fun _ _ _ _ _ _ us hl => match us, hl with | [_, _, _], _ => rfl
  have F_check_number := fun_mk (st := s_check_number) l_check_number c_check_number k_check_number
  have b_check_number := F_check_number.binds (ps := ["thing", "low", "high"]) fun _ _ _ _ _ _ us hl => match us, hl with | [_, _, _], _ => rfl
  have F_check_name := fun_mk (st := s_check_name) l_check_name c_check_name k_check_name
  have b_check_name := F_check_name.binds (ps := ["thing"]) fun _ _ _ _ _ _ us hl => match us, hl with | [_], _ => rfl
  have F_check_guest := fun_mk (st := s_check_guest) l_check_guest c_check_guest k_check_guest
  have b_check_guest := F_check_guest.binds (ps := ["thing", "guests"]) fun _ _ _ _ _ _ us hl => match us, hl with | [_, _], _ => rfl
  have F_Shares_init := fun_mk (st := s_Shares_init) l_Shares_init c_Shares_init k_Shares_init
  have b_Shares_init := F_Shares_init.binds (ps := ["self", "length"]) fun _ _ _ _ _ _ us hl => match us, hl with | [_, _], _ => rfl
  have F_Shares_come := fun_mk (st := s_Shares_come) l_Shares_come c_Shares_come k_Shares_come
  have b_Shares_come := F_Shares_come.binds (ps := ["self", "name", "promise", "ceiling"]) fun _ _ _ _ _ _ us hl => match us, hl with | [_, _, _, _], _ => rfl
  have F_Shares_deal := fun_mk (st := s_Shares_deal) l_Shares_deal c_Shares_deal k_Shares_deal
  have b_Shares_deal := F_Shares_deal.binds (ps := ["self", "ready"]) fun _ _ _ _ _ _ us hl => match us, hl with | [_, _], _ => rfl
  have F_Shares_promised := fun_mk (st := s_Shares_promised) l_Shares_promised c_Shares_promised k_Shares_promised
  have b_Shares_promised := F_Shares_promised.binds (ps := ["self"]) fun _ _ _ _ _ _ us hl => match us, hl with | [_], _ => rfl
  have F_Shares_check_share := fun_mk (st := s_Shares_check_share) l_Shares_check_share c_Shares_check_share k_Shares_check_share
  have b_Shares_check_share := F_Shares_check_share.binds (ps := ["self", "promise", "ceiling"]) fun _ _ _ _ _ _ us hl => match us, hl with | [_, _, _], _ => rfl
  have F_Shares_check_promised := fun_mk (st := s_Shares_check_promised) l_Shares_check_promised c_Shares_check_promised k_Shares_check_promised
  have b_Shares_check_promised := F_Shares_check_promised.binds (ps := ["self", "many"]) fun _ _ _ _ _ _ us hl => match us, hl with | [_, _], _ => rfl
  have F_Shares_by_promise := fun_mk (st := s_Shares_by_promise) l_Shares_by_promise c_Shares_by_promise k_Shares_by_promise
  have b_Shares_by_promise := F_Shares_by_promise.binds (ps := ["self", "among"]) fun _ _ _ _ _ _ us hl => match us, hl with | [_, _], _ => rfl
  have F_Shares_by_ceiling := fun_mk (st := s_Shares_by_ceiling) l_Shares_by_ceiling c_Shares_by_ceiling k_Shares_by_ceiling
  have b_Shares_by_ceiling := F_Shares_by_ceiling.binds (ps := ["self", "among"]) fun _ _ _ _ _ _ us hl => match us, hl with | [_, _], _ => rfl
  have F_Shares_begin_stretch := fun_mk (st := s_Shares_begin_stretch) l_Shares_begin_stretch c_Shares_begin_stretch k_Shares_begin_stretch
  have b_Shares_begin_stretch := F_Shares_begin_stretch.binds (ps := ["self"]) fun _ _ _ _ _ _ us hl => match us, hl with | [_], _ => rfl
  have F_first_broken := fun_mk (st := s_first_broken) l_first_broken c_first_broken k_first_broken
  have b_first_broken := F_first_broken.binds (ps := ["length", "guests", "ready", "dealt"]) fun _ _ _ _ _ _ us hl => match us, hl with | [_, _, _, _], _ => rfl
  have F_may_come := fun_mk (st := s_may_come) l_may_come c_may_come k_may_come
  have b_may_come := F_may_come.binds (ps := ["length", "guests"]) fun _ _ _ _ _ _ us hl => match us, hl with | [_, _], _ => rfl
  have F_is_list := fun_mk (st := s_is_list) l_is_list c_is_list k_is_list
  have b_is_list := F_is_list.binds (ps := ["thing", "most"]) fun _ _ _ _ _ _ us hl => match us, hl with | [_, _], _ => rfl
  have F_is_names := fun_mk (st := s_is_names) l_is_names c_is_names k_is_names
  have b_is_names := F_is_names.binds (ps := ["thing", "guests"]) fun _ _ _ _ _ _ us hl => match us, hl with | [_, _], _ => rfl
  have F_is_one_of := fun_mk (st := s_is_one_of) l_is_one_of c_is_one_of k_is_one_of
  have b_is_one_of := F_is_one_of.binds (ps := ["thing", "guests"]) fun _ _ _ _ _ _ us hl => match us, hl with | [_, _], _ => rfl
  have F_is_broken := fun_mk (st := s_is_broken) l_is_broken c_is_broken k_is_broken
  have b_is_broken := F_is_broken.binds (ps := ["name", "share", "ready", "dealt", "whole"]) fun _ _ _ _ _ _ us hl => match us, hl with | [_, _, _, _, _], _ => rfl
  have F_cell_L := fun_mk (st := s_cell_L) l_cell_L c_cell_L k_cell_L
  have b_cell_L := F_cell_L.binds (ps := ["_law_script", "_law_k"]) fun _ _ _ _ _ _ us hl => match us, hl with | [_, _], _ => rfl
  have F_box_L := fun_mk (st := s_box_L) l_box_L c_box_L k_box_L
  have b_box_L := F_box_L.binds (ps := ["_law_cell_here"]) fun _ _ _ _ _ _ us hl => match us, hl with | [_], _ => rfl
  have F_take_L := fun_mk (st := s_take_L) l_take_L c_take_L k_take_L
  have b_take_L := F_take_L.binds (ps := ["_law_box_here", "_law_size"]) fun _ _ _ _ _ _ us hl => match us, hl with | [_, _], _ => rfl
  have F_names_L := fun_mk (st := s_names_L) l_names_L c_names_L k_names_L
  have b_names_L := F_names_L.binds (ps := ["_law_box_here", "_law_size"]) fun _ _ _ _ _ _ us hl => match us, hl with | [_, _], _ => rfl
  have F_length_L := fun_mk (st := s_length_L) l_length_L c_length_L k_length_L
  have b_length_L := F_length_L.binds (ps := ["_law_box_here"]) fun _ _ _ _ _ _ us hl => match us, hl with | [_], _ => rfl
  have F_share_L := fun_mk (st := s_share_L) l_share_L c_share_L k_share_L
  have b_share_L := F_share_L.binds (ps := ["_law_box_here", "_law_size", "_law_free"]) fun _ _ _ _ _ _ us hl => match us, hl with | [_, _, _], _ => rfl
  have F_guests_L := fun_mk (st := s_guests_L) l_guests_L c_guests_L k_guests_L
  have b_guests_L := F_guests_L.binds (ps := ["_law_box_here", "_law_size"]) fun _ _ _ _ _ _ us hl => match us, hl with | [_, _], _ => rfl
  have F_ready_L := fun_mk (st := s_ready_L) l_ready_L c_ready_L k_ready_L
  have b_ready_L := F_ready_L.binds (ps := ["_law_box_here", "_law_some", "_law_turns"]) fun _ _ _ _ _ _ us hl => match us, hl with | [_, _, _], _ => rfl
  have F_dealt_L := fun_mk (st := s_dealt_L) l_dealt_L c_dealt_L k_dealt_L
  have b_dealt_L := F_dealt_L.binds (ps := ["_law_size", "_law_some", "_law_those"]) fun _ _ _ _ _ _ us hl => match us, hl with | [_, _, _], _ => rfl
  have F_breaks_L := fun_mk (st := s_breaks_L) l_breaks_L c_breaks_L k_breaks_L
  have b_breaks_L := F_breaks_L.binds (ps := ["_law_size", "_law_share_here", "_law_label", "_law_those", "_law_given"]) fun _ _ _ _ _ _ us hl => match us, hl with | [_, _, _, _, _], _ => rfl
  have F_due_L := fun_mk (st := s_due_L) l_due_L c_due_L k_due_L
  have b_due_L := F_due_L.binds (ps := ["_law_size", "_law_some", "_law_those", "_law_given"]) fun _ _ _ _ _ _ us hl => match us, hl with | [_, _, _, _], _ => rfl
  have F_right_L := fun_mk (st := s_right_L) l_right_L c_right_L k_right_L
  have b_right_L := F_right_L.binds (ps := ["_law_size", "_law_some", "_law_those", "_law_given"]) fun _ _ _ _ _ _ us hl => match us, hl with | [_, _, _, _], _ => rfl
  have F_law := fun_mk (st := s_law) l_law c_law k_law
  have oex : ∀ {b : Bs} {C : Addr} {nm q : Str} {N : Addr} {bs bm : List Value} {sn : List Str} {sub : List Value} {ab : Bool} {col : Option Bool} {dd : Option Addr} {k0 k1 k2 k3 k5 : Option Value}, K.lookup C = some (excClassObj nm q C N bs bm true sn sub ab col dd k0 k1 k2 k3 k5 b.new) → Tail b bm →
      PySem.W.findIn K (.ref C) "__setattr__" = some (some (.builtin "object.__setattr__")) → PySem.W.subIn K (.ref C) (.type "BaseException") = some true → PySem.W.typeIn K (.ref C) = some (.type "type") → PySem.W.keepIn K (.ref C) = true → OexT K b C :=
    fun l t a b c d => ⟨⟨_, _, _, _, _, _, _, _, _, _, _, _, _, _, _, l, t⟩, a, b, c, d⟩
  have T : Txt K mg { CG := C_GuestError, fG := f_GuestError_init, CK := C_Missing, fK := f_Missing_init, CB := C_Barred, fB := f_Barred_init, CM := C_NoNumber, fM := f_NoNumber_init, CN := C_NoName, fN := f_NoName_init, CD := C_Doubled, fD := f_Doubled_init, CT := C_TooMuch, fT := f_TooMuch_init, CA := C_NoGuest, fA := f_NoGuest_init, CF := C_Full, fF := f_Full_init, CH := C_NoShare, fH := f_NoShare_init, CL := C_NoLog, fL := f_NoLog_init, CS := C_Shares } :=
    { m_isinstance := mz z_isinstance, m_int := mz z_int, m_bool := mz z_bool, m_str := mz z_str, m_list := mz z_list, m_tuple := mz z_tuple, m_dict := mz z_dict, m_len := mz z_len, m_max := mz z_max, m_min := mz z_min, m_range := mz z_range, m_all := mz z_all, m_sum := mz z_sum, m_repr := mz z_repr, m_enumerate := mz z_enumerate, c_MOST_DEALT := ⟨_, mo cMD, ⟨_, rfl⟩⟩, m_ValueError := mz z_ValueError, m_LookupError := mz z_LookupError, m_KeyError := mz z_KeyError,
      c_MOST_GUESTS := ⟨_, mo cMG, ⟨_, rfl⟩⟩, c_SHORTEST := ⟨_, mo cSH, ⟨_, rfl⟩⟩, c_LONGEST := ⟨_, mo cLO, ⟨_, rfl⟩⟩,
      g_GuestError := mo aC_GuestError, rd_GuestError := rd_GuestError, ga_GuestError := ga_GuestError, at_GuestError := at_GuestError, g_Missing := mo aC_Missing, rd_Missing := rd_Missing, ga_Missing := ga_Missing, at_Missing := at_Missing, g_Barred := mo aC_Barred, rd_Barred := rd_Barred, ga_Barred := ga_Barred, at_Barred := at_Barred, vV := v_ValueError, vL := v_LookupError, vK := v_KeyError,
      g_NoNumber := mo aC_NoNumber, g_NoName := mo aC_NoName, g_Doubled := mo aC_Doubled, g_TooMuch := mo aC_TooMuch, g_NoGuest := mo aC_NoGuest, g_Full := mo aC_Full, g_NoShare := mo aC_NoShare, g_NoLog := mo aC_NoLog, g_Shares := mo aC_Shares,
      xM := ⟨oex (b := .ve) xL_M (.own _ .here) sa_M ex_M ty_M kp_M, a_NoNumber_init, tf_M, nf_M, ⟨hg_M, hk_M, ex_M, hd_M⟩, ⟨hg_M, hk_M, ex_M, hd_M, ha_M, hn, htk, hm_M⟩⟩,
      xN := ⟨oex (b := .ve) xL_N (.own _ .here) sa_N ex_N ty_N kp_N, a_NoName_init, tf_N, nf_N, ⟨hg_N, hk_N, ex_N, hd_N⟩, ⟨hg_N, hk_N, ex_N, hd_N, ha_N, hn, htk, hm_N⟩⟩,
      xD := ⟨oex (b := .ve) xL_D (.own _ .here) sa_D ex_D ty_D kp_D, a_Doubled_init, tf_D, nf_D, ⟨hg_D, hk_D, ex_D, hd_D⟩, ⟨hg_D, hk_D, ex_D, hd_D, ha_D, hn, htk, hm_D⟩⟩,
      xT := ⟨oex (b := .ve) xL_T (.own _ .here) sa_T ex_T ty_T kp_T, a_TooMuch_init, tf_T, nf_T, ⟨hg_T, hk_T, ex_T, hd_T⟩, ⟨hg_T, hk_T, ex_T, hd_T, ha_T, hn, htk, hm_T⟩⟩,
      xA := ⟨oex (b := .ke) xL_A (.own _ .here) sa_A ex_A ty_A kp_A, a_NoGuest_init, tf_A, nf_A, ⟨hg_A, hk_A, ex_A, hd_A⟩, ⟨hg_A, hk_A, ex_A, hd_A, ha_A, hn, htk, hm_A⟩⟩,
      xF := ⟨oex (b := .le) xL_F (.own _ .here) sa_F ex_F ty_F kp_F, a_Full_init, tf_F, nf_F, ⟨hg_F, hk_F, ex_F, hd_F⟩, ⟨hg_F, hk_F, ex_F, hd_F, ha_F, hn, htk, hm_F⟩⟩,
      xH := ⟨oex (b := .ve) xL_H (.own _ .here) sa_H ex_H ty_H kp_H, a_NoShare_init, tf_H, nf_H, ⟨hg_H, hk_H, ex_H, hd_H⟩, ⟨hg_H, hk_H, ex_H, hd_H, ha_H, hn, htk, hm_H⟩⟩,
      xL := ⟨oex (b := .ve) xL_L (.own _ .here) sa_L ex_L ty_L kp_L, a_NoLog_init, tf_L, nf_L, ⟨hg_L, hk_L, ex_L, hd_L⟩, ⟨hg_L, hk_L, ex_L, hd_L, ha_L, hn, htk, hm_L⟩⟩,
      cl_Shares := ⟨pg_Shares, hdd_Shares, po_Shares, saa_Shares⟩, na_length := na_Shares_length, na_told := na_Shares_told, na_counts := na_Shares_counts, na_used := na_Shares_used, na_passed := na_Shares_passed, na_dealt := na_Shares_dealt }
  refine ⟨PySem.W.fnOf "law" "law" (defArgs s_law) (defBody s_law) (defScope s_law) .none kV_law dc_law pm_law an_law cd_law ct_law, fun s v => .of_eq rfl, fun base _ _ => ?_⟩
  have c_cell := CalD.mk' (P := l.prog) (w := w) (base := base) (mo a_cell_L) k_cell_L (ok_cell F_cell_L T) b_cell_L
  have c_box := CalD.mk' (P := l.prog) (w := w) (base := base) (mo a_box_L) k_box_L (ok_box F_box_L T) b_box_L
  have c_take := CalD.mk' (P := l.prog) (w := w) (base := base) (mo a_take_L) k_take_L (ok_take F_take_L T) b_take_L
  have o_GE : Own l.prog w K mg base CX0 1 f_GuestError_init _ ["self", "text"] (spGT K .ve) := ⟨ok_GE F_GuestError_init T, b_GuestError_init, k_GuestError_init⟩
  have o_KE : Own l.prog w K mg base CX0 1 f_Missing_init _ ["self", "text"] (spGT K .ke) := ⟨ok_KE F_Missing_init T, b_Missing_init, k_Missing_init⟩
  have o_BB : Own l.prog w K mg base CX0 1 f_Barred_init _ ["self", "text"] (spGT K .le) := ⟨ok_BB F_Barred_init T, b_Barred_init, k_Barred_init⟩
  have o_M : Own l.prog w K mg base CX0 2 f_NoNumber_init _ ["self", "found"] (spInitN "found" C_NoNumber) := ⟨ok_iM F_NoNumber_init T o_GE, b_NoNumber_init, k_NoNumber_init⟩
  have o_N : Own l.prog w K mg base CX0 2 f_NoName_init _ ["self", "found"] (spInitN "found" C_NoName) := ⟨ok_iN F_NoName_init T o_GE, b_NoName_init, k_NoName_init⟩
  have o_D : Own l.prog w K mg base CX0 2 f_Doubled_init _ ["self", "found"] (spInitN "found" C_Doubled) := ⟨ok_iD F_Doubled_init T o_GE, b_Doubled_init, k_Doubled_init⟩
  have o_T : Own l.prog w K mg base CX0 2 f_TooMuch_init _ ["self", "many"] (spInitN "many" C_TooMuch) := ⟨ok_iT F_TooMuch_init T o_GE, b_TooMuch_init, k_TooMuch_init⟩
  have o_A : Own l.prog w K mg base CX0 2 f_NoGuest_init _ ["self", "found"] (spInitN "found" C_NoGuest) := ⟨ok_iA F_NoGuest_init T o_KE, b_NoGuest_init, k_NoGuest_init⟩
  have o_F : Own l.prog w K mg base CX0 2 f_Full_init _ ["self", "many"] (spInitN "many" C_Full) := ⟨ok_iF F_Full_init T o_BB, b_Full_init, k_Full_init⟩
  have o_H : Own l.prog w K mg base CX0 2 f_NoShare_init _ ["self", "found"] (spInitN "found" C_NoShare) := ⟨ok_iH F_NoShare_init T o_GE, b_NoShare_init, k_NoShare_init⟩
  have o_L : Own l.prog w K mg base CX0 2 f_NoLog_init _ ["self", "found"] (spInitN "found" C_NoLog) := ⟨ok_iL F_NoLog_init T o_GE, b_NoLog_init, k_NoLog_init⟩
  have c_aw := CalD.mk' (P := l.prog) (w := w) (base := base) (mo a_all_within) k_all_within (ok_allW F_all_within T) b_all_within
  have c_nm := CalD.mk' (P := l.prog) (w := w) (base := base) (mo a_is_name) k_is_name (ok_name F_is_name T c_aw) b_is_name
  have c_wh := CalD.mk' (P := l.prog) (w := w) (base := base) (mo a_is_whole) k_is_whole (ok_whole F_is_whole T) b_is_whole
  have c_ckn := CalX.mk' (P := l.prog) (w := w) (base := base) (mo a_check_name) k_check_name (ok_ckn F_check_name T c_nm o_N) b_check_name
  have c_cnum := CalX.mk' (P := l.prog) (w := w) (base := base) (mo a_check_number) k_check_number (ok_cknum F_check_number T c_wh o_M) b_check_number
  have c_ckg := CalX.mk' (P := l.prog) (w := w) (base := base) (mo a_check_guest) k_check_guest (ok_ckg F_check_guest T c_nm o_A) b_check_guest
  have i_s : CalC l.prog w K mg base (L2.CX l.prog w) 5 C_Shares "Shares" (spInitS _) := ⟨_, _, _, ⟨mk_Shares, a_Shares_init, fn_Shares_init, kc_Shares⟩, ok_init F_Shares_init T c_cnum, b_Shares_init, mo aC_Shares⟩
  have m_prd : CalM l.prog w K mg base CX0 1 C_Shares "promised" (spPromised _) := ⟨_, _, _, ⟨a_Shares_promised, fn_Shares_promised, k_Shares_promised⟩, ok_promised F_Shares_promised T, b_Shares_promised⟩
  have m_cks : CalM l.prog w K mg base (L2.CX l.prog w) 5 C_Shares "_check_share" (spCkShare _) := ⟨_, _, _, ⟨a_Shares_check_share, fn_Shares_check_share, k_Shares_check_share⟩, ok_ckshare F_Shares_check_share T c_cnum, b_Shares_check_share⟩
  have m_ckp : CalM l.prog w K mg base (L2.CX l.prog w) 4 C_Shares "_check_promised" (spCkPromised _) := ⟨_, _, _, ⟨a_Shares_check_promised, fn_Shares_check_promised, k_Shares_check_promised⟩, ok_ckpromised F_Shares_check_promised T o_T, b_Shares_check_promised⟩
  have m_come : CalM l.prog w K mg base (L2.CX l.prog w) 6 C_Shares "come" (spCome _) := ⟨_, _, _, ⟨a_Shares_come, fn_Shares_come, k_Shares_come⟩, ok_come F_Shares_come T c_ckn m_cks m_prd m_ckp o_D o_F, b_Shares_come⟩
  have m_byp : CalM l.prog w K mg base CX0 1 C_Shares "_by_promise" (spChoose _ okP) := ⟨_, _, _, ⟨a_Shares_by_promise, fn_Shares_by_promise, k_Shares_by_promise⟩, ok_byp F_Shares_by_promise T, b_Shares_by_promise⟩
  have m_byc : CalM l.prog w K mg base CX0 1 C_Shares "_by_ceiling" (spChoose _ okC) := ⟨_, _, _, ⟨a_Shares_by_ceiling, fn_Shares_by_ceiling, k_Shares_by_ceiling⟩, ok_byc F_Shares_by_ceiling T, b_Shares_by_ceiling⟩
  have m_beg : CalM l.prog w K mg base CX0 1 C_Shares "_begin_stretch" (spBegin _) := ⟨_, _, _, ⟨a_Shares_begin_stretch, fn_Shares_begin_stretch, k_Shares_begin_stretch⟩, ok_begin F_Shares_begin_stretch T, b_Shares_begin_stretch⟩
  have m_deal : CalM l.prog w K mg base (L2.CX l.prog w) 5 C_Shares "deal" (spDeal _) := ⟨_, _, _, ⟨a_Shares_deal, fn_Shares_deal, k_Shares_deal⟩, ok_deal F_Shares_deal T c_ckg m_byp m_byc m_beg o_A, b_Shares_deal⟩
  have c_share := CalD.mk' (P := l.prog) (w := w) (base := base) (mo a_share_L) k_share_L (ok_share F_share_L T c_take) b_share_L
  have c_length := CalD.mk' (P := l.prog) (w := w) (base := base) (mo a_length_L) k_length_L (ok_length_L F_length_L T c_take) b_length_L
  have c_names := CalD.mk' (P := l.prog) (w := w) (base := base) (mo a_names_L) k_names_L (ok_names_L F_names_L T c_take) b_names_L
  have c_one := CalD.mk' (P := l.prog) (w := w) (base := base) (mo a_is_one_of) k_is_one_of (ok_one F_is_one_of T c_nm) b_is_one_of
  have c_nms := CalD.mk' (P := l.prog) (w := w) (base := base) (mo a_is_names) k_is_names (ok_namesIn F_is_names T c_one) b_is_names
  have c_lst := CalD.mk' (P := l.prog) (w := w) (base := base) (mo a_is_list) k_is_list (ok_isList F_is_list T) b_is_list
  have c_brk := CalD.mk' (P := l.prog) (w := w) (base := base) (mo a_is_broken) k_is_broken (ok_broken F_is_broken T) b_is_broken
  have c_may := CalD.mk' (P := l.prog) (w := w) (base := base) (mo a_may_come) k_may_come (ok_may F_may_come T i_s m_come) b_may_come
  have okf := ok_first (P := l.prog) (w := w) (base := base) F_first_broken T c_cnum c_may c_lst c_nms c_one c_brk o_H o_L
  have c_first := CalX.mk' (P := l.prog) (w := w) (base := base) (mo a_first_broken) k_first_broken okf b_first_broken
  have n_first : CalNX l.prog w K mg base 8 ["dealt", "guests", "ready", "length"] "first_broken" (spFirst K) swpV := CalNX.mk' (mo a_first_broken) k_first_broken okf (kbPlain F_first_broken 0 ["dealt", "guests", "ready", "length"] swpV (fun r1 r2 => vals_swp r1 r2) (fun _ _ _ _ _ _ us ws h1 h2 => match us, ws, h1, h2 with | [], [_, _, _, _], _, _ => rfl))
  have c_guests := CalD.mk' (P := l.prog) (w := w) (base := base) (mo a_guests_L) k_guests_L (ok_guests F_guests_L T c_take c_names c_share) b_guests_L
  have c_ready := CalD.mk' (P := l.prog) (w := w) (base := base) (mo a_ready_L) k_ready_L (ok_readyL F_ready_L T c_take) b_ready_L
  have c_dealt := CalD.mk' (P := l.prog) (w := w) (base := base) (mo a_dealt_L) k_dealt_L (ok_dealtL F_dealt_L T i_s m_come m_deal) b_dealt_L
  have c_breaks := CalD.mk' (P := l.prog) (w := w) (base := base) (mo a_breaks_L) k_breaks_L (ok_breaks F_breaks_L T) b_breaks_L
  have c_due := CalD.mk' (P := l.prog) (w := w) (base := base) (mo a_due_L) k_due_L (ok_dueL F_due_L T c_breaks) b_due_L
  have c_right := CalG.mk' (P := l.prog) (w := w) (base := base) (mo a_right_L) k_right_L (ok_right F_right_L T c_due c_first n_first) b_right_L
  exact ok_law F_law T c_cell c_box c_take c_length c_guests c_ready c_dealt c_first c_right
end K28
open PySem PySem.W PyProof.Rows
set_option maxHeartbeats 0 in
theorem PySem.Challenge.cw_guestsalone_k28_whole_first_broken_holds : PySem.Challenge.rw_guestsalone_k28_whole_first_broken.Holds := by
  w_on; o_law; k_head; (case hw => w_witness2)
  k_fill
  refine Bk.walk_ofG (l := PySem.Challenge.rw_guestsalone_k28_whole_first_broken) (n := 63) (k := 10) (x := "_law_script") (sp := fun w => K28.spLaw _) rfl (by decide) rfl ⟨rfl, by decide, by decide⟩ (fun w h Y => PySem.W.kIn_of Y) ?F (fun _ _ a ns hl _ hS => ⟨a, ns, rfl, hS, hl, fun _ => rfl⟩)
  case F =>
    intro w mg fa h KX G hmg
    refine' K28.all_mk KX G hmg ?aC_GuestError ?aC_Missing ?aC_Barred ?aC_NoNumber ?aC_NoName ?aC_NoLog ?aC_NoShare ?aC_Doubled ?aC_TooMuch ?aC_NoGuest ?aC_Full ?aC_Shares ?a_wall ?l_wall ?c_wall ?k_wall ?a_GuestError_init ?l_GuestError_init ?c_GuestError_init ?k_GuestError_init ?a_Missing_init ?l_Missing_init ?c_Missing_init ?k_Missing_init ?a_Barred_init ?l_Barred_init ?c_Barred_init ?k_Barred_init ?a_NoNumber_init ?l_NoNumber_init ?c_NoNumber_init ?k_NoNumber_init ?a_NoName_init ?l_NoName_init ?c_NoName_init ?k_NoName_init ?a_NoLog_init ?l_NoLog_init ?c_NoLog_init ?k_NoLog_init ?a_NoShare_init ?l_NoShare_init ?c_NoShare_init ?k_NoShare_init ?a_Doubled_init ?l_Doubled_init ?c_Doubled_init ?k_Doubled_init ?a_TooMuch_init ?l_TooMuch_init ?c_TooMuch_init ?k_TooMuch_init ?a_NoGuest_init ?l_NoGuest_init ?c_NoGuest_init ?k_NoGuest_init ?a_Full_init ?l_Full_init ?c_Full_init ?k_Full_init ?a_is_whole ?l_is_whole ?c_is_whole ?k_is_whole ?a_is_name ?l_is_name ?c_is_name ?k_is_name ?a_all_within ?l_all_within ?c_all_within ?k_all_within ?a_check_number ?l_check_number ?c_check_number ?k_check_number ?a_check_name ?l_check_name ?c_check_name ?k_check_name ?a_check_guest ?l_check_guest ?c_check_guest ?k_check_guest ?a_Shares_init ?l_Shares_init ?c_Shares_init ?k_Shares_init ?a_Shares_come ?l_Shares_come ?c_Shares_come ?k_Shares_come ?a_Shares_deal ?l_Shares_deal ?c_Shares_deal ?k_Shares_deal ?a_Shares_promised ?l_Shares_promised ?c_Shares_promised ?k_Shares_promised ?a_Shares_check_share ?l_Shares_check_share ?c_Shares_check_share ?k_Shares_check_share ?a_Shares_check_promised ?l_Shares_check_promised ?c_Shares_check_promised ?k_Shares_check_promised ?a_Shares_by_promise ?l_Shares_by_promise ?c_Shares_by_promise ?k_Shares_by_promise ?a_Shares_by_ceiling ?l_Shares_by_ceiling ?c_Shares_by_ceiling ?k_Shares_by_ceiling ?a_Shares_begin_stretch ?l_Shares_begin_stretch ?c_Shares_begin_stretch ?k_Shares_begin_stretch ?a_first_broken ?l_first_broken ?c_first_broken ?k_first_broken ?a_may_come ?l_may_come ?c_may_come ?k_may_come ?a_is_list ?l_is_list ?c_is_list ?k_is_list ?a_is_names ?l_is_names ?c_is_names ?k_is_names ?a_is_one_of ?l_is_one_of ?c_is_one_of ?k_is_one_of ?a_is_broken ?l_is_broken ?c_is_broken ?k_is_broken ?a_cell_L ?l_cell_L ?c_cell_L ?k_cell_L ?a_box_L ?l_box_L ?c_box_L ?k_box_L ?a_take_L ?l_take_L ?c_take_L ?k_take_L ?a_names_L ?l_names_L ?c_names_L ?k_names_L ?a_length_L ?l_length_L ?c_length_L ?k_length_L ?a_share_L ?l_share_L ?c_share_L ?k_share_L ?a_guests_L ?l_guests_L ?c_guests_L ?k_guests_L ?a_ready_L ?l_ready_L ?c_ready_L ?k_ready_L ?a_dealt_L ?l_dealt_L ?c_dealt_L ?k_dealt_L ?a_breaks_L ?l_breaks_L ?c_breaks_L ?k_breaks_L ?a_due_L ?l_due_L ?c_due_L ?k_due_L ?a_right_L ?l_right_L ?c_right_L ?k_right_L ?a_law ?l_law ?c_law ?k_law ?cMG ?cSH ?cLO ?cMD ?rd_GuestError ?ga_GuestError ?at_GuestError ?v_ValueError ?rd_Missing ?ga_Missing ?at_Missing ?v_KeyError ?rd_Barred ?ga_Barred ?at_Barred ?v_LookupError ?xL_M ?sa_M ?ex_M ?ty_M ?kp_M ?tf_M ?nf_M ?hg_M ?hk_M ?hd_M ?ha_M ?hm_M ?xL_N ?sa_N ?ex_N ?ty_N ?kp_N ?tf_N ?nf_N ?hg_N ?hk_N ?hd_N ?ha_N ?hm_N ?xL_D ?sa_D ?ex_D ?ty_D ?kp_D ?tf_D ?nf_D ?hg_D ?hk_D ?hd_D ?ha_D ?hm_D ?xL_T ?sa_T ?ex_T ?ty_T ?kp_T ?tf_T ?nf_T ?hg_T ?hk_T ?hd_T ?ha_T ?hm_T ?xL_A ?sa_A ?ex_A ?ty_A ?kp_A ?tf_A ?nf_A ?hg_A ?hk_A ?hd_A ?ha_A ?hm_A ?xL_F ?sa_F ?ex_F ?ty_F ?kp_F ?tf_F ?nf_F ?hg_F ?hk_F ?hd_F ?ha_F ?hm_F ?xL_H ?sa_H ?ex_H ?ty_H ?kp_H ?tf_H ?nf_H ?hg_H ?hk_H ?hd_H ?ha_H ?hm_H ?xL_L ?sa_L ?ex_L ?ty_L ?kp_L ?tf_L ?nf_L ?hg_L ?hk_L ?hd_L ?ha_L ?hm_L ?s_M_M ?s_N_M ?s_N_N ?s_D_M ?s_D_N ?s_D_D ?s_T_M ?s_T_N ?s_T_D ?s_T_T ?s_A_M ?s_A_N ?s_A_D ?s_A_T ?s_A_A ?s_F_M ?s_F_N ?s_F_D ?s_F_T ?s_F_A ?s_F_F ?s_H_M ?s_H_N ?s_H_D ?s_H_T ?s_H_A ?s_H_F ?s_H_H ?s_L_M ?s_L_N ?s_L_D ?s_L_T ?s_L_A ?s_L_F ?s_L_H ?s_L_L ?hn ?htk ?pg_Shares ?hdd_Shares ?po_Shares ?saa_Shares ?mk_Shares ?kc_Shares ?na_Shares_length ?na_Shares_told ?na_Shares_counts ?na_Shares_used ?na_Shares_passed ?na_Shares_dealt ?fn_Shares_init ?fn_Shares_come ?fn_Shares_deal ?fn_Shares_promised ?fn_Shares_check_share ?fn_Shares_check_promised ?fn_Shares_by_promise ?fn_Shares_by_ceiling ?fn_Shares_begin_stretch ?z_isinstance ?z_int ?z_bool ?z_str ?z_list ?z_tuple ?z_dict ?z_len ?z_max ?z_min ?z_range ?z_all ?z_sum ?z_repr ?z_enumerate ?z_ValueError ?z_LookupError ?z_KeyError
    (case aC_GuestError => k_is)
    (case aC_Missing => k_is)
    (case aC_Barred => k_is)
    (case aC_NoNumber => k_is)
    (case aC_NoName => k_is)
    (case aC_NoLog => k_is)
    (case aC_NoShare => k_is)
    (case aC_Doubled => k_is)
    (case aC_TooMuch => k_is)
    (case aC_NoGuest => k_is)
    (case aC_Full => k_is)
    (case aC_Shares => k_is)
    (case a_wall => k_is)
    (case l_wall => k_is)
    (case c_wall => k_is)
    (case k_wall => k_is)
    (case a_GuestError_init => k_is)
    (case l_GuestError_init => k_is)
    (case c_GuestError_init => k_is)
    (case k_GuestError_init => k_is)
    (case a_Missing_init => k_is)
    (case l_Missing_init => k_is)
    (case c_Missing_init => k_is)
    (case k_Missing_init => k_is)
    (case a_Barred_init => k_is)
    (case l_Barred_init => k_is)
    (case c_Barred_init => k_is)
    (case k_Barred_init => k_is)
    (case a_NoNumber_init => k_is)
    (case l_NoNumber_init => k_is)
    (case c_NoNumber_init => k_is)
    (case k_NoNumber_init => k_is)
    (case a_NoName_init => k_is)
    (case l_NoName_init => k_is)
    (case c_NoName_init => k_is)
    (case k_NoName_init => k_is)
    (case a_NoLog_init => k_is)
    (case l_NoLog_init => k_is)
    (case c_NoLog_init => k_is)
    (case k_NoLog_init => k_is)
    (case a_NoShare_init => k_is)
    (case l_NoShare_init => k_is)
    (case c_NoShare_init => k_is)
    (case k_NoShare_init => k_is)
    (case a_Doubled_init => k_is)
    (case l_Doubled_init => k_is)
    (case c_Doubled_init => k_is)
    (case k_Doubled_init => k_is)
    (case a_TooMuch_init => k_is)
    (case l_TooMuch_init => k_is)
    (case c_TooMuch_init => k_is)
    (case k_TooMuch_init => k_is)
    (case a_NoGuest_init => k_is)
    (case l_NoGuest_init => k_is)
    (case c_NoGuest_init => k_is)
    (case k_NoGuest_init => k_is)
    (case a_Full_init => k_is)
    (case l_Full_init => k_is)
    (case c_Full_init => k_is)
    (case k_Full_init => k_is)
    (case a_is_whole => k_is)
    (case l_is_whole => k_is)
    (case c_is_whole => k_is)
    (case k_is_whole => k_is)
    (case a_is_name => k_is)
    (case l_is_name => k_is)
    (case c_is_name => k_is)
    (case k_is_name => k_is)
    (case a_all_within => k_is)
    (case l_all_within => k_is)
    (case c_all_within => k_is)
    (case k_all_within => k_is)
    (case a_check_number => k_is)
    (case l_check_number => k_is)
    (case c_check_number => k_is)
    (case k_check_number => k_is)
    (case a_check_name => k_is)
    (case l_check_name => k_is)
    (case c_check_name => k_is)
    (case k_check_name => k_is)
    (case a_check_guest => k_is)
    (case l_check_guest => k_is)
    (case c_check_guest => k_is)
    (case k_check_guest => k_is)
    (case a_Shares_init => k_is)
    (case l_Shares_init => k_is)
    (case c_Shares_init => k_is)
    (case k_Shares_init => k_is)
    (case a_Shares_come => k_is)
    (case l_Shares_come => k_is)
    (case c_Shares_come => k_is)
    (case k_Shares_come => k_is)
    (case a_Shares_deal => k_is)
    (case l_Shares_deal => k_is)
    (case c_Shares_deal => k_is)
    (case k_Shares_deal => k_is)
    (case a_Shares_promised => k_is)
    (case l_Shares_promised => k_is)
    (case c_Shares_promised => k_is)
    (case k_Shares_promised => k_is)
    (case a_Shares_check_share => k_is)
    (case l_Shares_check_share => k_is)
    (case c_Shares_check_share => k_is)
    (case k_Shares_check_share => k_is)
    (case a_Shares_check_promised => k_is)
    (case l_Shares_check_promised => k_is)
    (case c_Shares_check_promised => k_is)
    (case k_Shares_check_promised => k_is)
    (case a_Shares_by_promise => k_is)
    (case l_Shares_by_promise => k_is)
    (case c_Shares_by_promise => k_is)
    (case k_Shares_by_promise => k_is)
    (case a_Shares_by_ceiling => k_is)
    (case l_Shares_by_ceiling => k_is)
    (case c_Shares_by_ceiling => k_is)
    (case k_Shares_by_ceiling => k_is)
    (case a_Shares_begin_stretch => k_is)
    (case l_Shares_begin_stretch => k_is)
    (case c_Shares_begin_stretch => k_is)
    (case k_Shares_begin_stretch => k_is)
    (case a_first_broken => k_is)
    (case l_first_broken => k_is)
    (case c_first_broken => k_is)
    (case k_first_broken => k_is)
    (case a_may_come => k_is)
    (case l_may_come => k_is)
    (case c_may_come => k_is)
    (case k_may_come => k_is)
    (case a_is_list => k_is)
    (case l_is_list => k_is)
    (case c_is_list => k_is)
    (case k_is_list => k_is)
    (case a_is_names => k_is)
    (case l_is_names => k_is)
    (case c_is_names => k_is)
    (case k_is_names => k_is)
    (case a_is_one_of => k_is)
    (case l_is_one_of => k_is)
    (case c_is_one_of => k_is)
    (case k_is_one_of => k_is)
    (case a_is_broken => k_is)
    (case l_is_broken => k_is)
    (case c_is_broken => k_is)
    (case k_is_broken => k_is)
    (case a_cell_L => k_is)
    (case l_cell_L => k_is)
    (case c_cell_L => k_is)
    (case k_cell_L => k_is)
    (case a_box_L => k_is)
    (case l_box_L => k_is)
    (case c_box_L => k_is)
    (case k_box_L => k_is)
    (case a_take_L => k_is)
    (case l_take_L => k_is)
    (case c_take_L => k_is)
    (case k_take_L => k_is)
    (case a_names_L => k_is)
    (case l_names_L => k_is)
    (case c_names_L => k_is)
    (case k_names_L => k_is)
    (case a_length_L => k_is)
    (case l_length_L => k_is)
    (case c_length_L => k_is)
    (case k_length_L => k_is)
    (case a_share_L => k_is)
    (case l_share_L => k_is)
    (case c_share_L => k_is)
    (case k_share_L => k_is)
    (case a_guests_L => k_is)
    (case l_guests_L => k_is)
    (case c_guests_L => k_is)
    (case k_guests_L => k_is)
    (case a_ready_L => k_is)
    (case l_ready_L => k_is)
    (case c_ready_L => k_is)
    (case k_ready_L => k_is)
    (case a_dealt_L => k_is)
    (case l_dealt_L => k_is)
    (case c_dealt_L => k_is)
    (case k_dealt_L => k_is)
    (case a_breaks_L => k_is)
    (case l_breaks_L => k_is)
    (case c_breaks_L => k_is)
    (case k_breaks_L => k_is)
    (case a_due_L => k_is)
    (case l_due_L => k_is)
    (case c_due_L => k_is)
    (case k_due_L => k_is)
    (case a_right_L => k_is)
    (case l_right_L => k_is)
    (case c_right_L => k_is)
    (case k_right_L => k_is)
    (case a_law => k_is)
    (case l_law => k_is)
    (case c_law => k_is)
    (case k_law => k_is)
    (case cMG => k_is)
    (case cSH => k_is)
    (case cLO => k_is)
    (case cMD => k_is)
    (case rd_GuestError => k_is)
    (case ga_GuestError => k_is)
    (case at_GuestError => k_is)
    (case v_ValueError => k_is)
    (case rd_Missing => k_is)
    (case ga_Missing => k_is)
    (case at_Missing => k_is)
    (case v_KeyError => k_is)
    (case rd_Barred => k_is)
    (case ga_Barred => k_is)
    (case at_Barred => k_is)
    (case v_LookupError => k_is)
    (case xL_M => k_is)
    (case sa_M => k_is)
    (case ex_M => k_is)
    (case ty_M => k_is)
    (case kp_M => k_is)
    (case tf_M => k_is)
    (case nf_M => k_is)
    (case hg_M => k_is)
    (case hk_M => k_is)
    (case hd_M => k_is)
    (case ha_M => k_is)
    (case hm_M => k_is)
    (case xL_N => k_is)
    (case sa_N => k_is)
    (case ex_N => k_is)
    (case ty_N => k_is)
    (case kp_N => k_is)
    (case tf_N => k_is)
    (case nf_N => k_is)
    (case hg_N => k_is)
    (case hk_N => k_is)
    (case hd_N => k_is)
    (case ha_N => k_is)
    (case hm_N => k_is)
    (case xL_D => k_is)
    (case sa_D => k_is)
    (case ex_D => k_is)
    (case ty_D => k_is)
    (case kp_D => k_is)
    (case tf_D => k_is)
    (case nf_D => k_is)
    (case hg_D => k_is)
    (case hk_D => k_is)
    (case hd_D => k_is)
    (case ha_D => k_is)
    (case hm_D => k_is)
    (case xL_T => k_is)
    (case sa_T => k_is)
    (case ex_T => k_is)
    (case ty_T => k_is)
    (case kp_T => k_is)
    (case tf_T => k_is)
    (case nf_T => k_is)
    (case hg_T => k_is)
    (case hk_T => k_is)
    (case hd_T => k_is)
    (case ha_T => k_is)
    (case hm_T => k_is)
    (case xL_A => k_is)
    (case sa_A => k_is)
    (case ex_A => k_is)
    (case ty_A => k_is)
    (case kp_A => k_is)
    (case tf_A => k_is)
    (case nf_A => k_is)
    (case hg_A => k_is)
    (case hk_A => k_is)
    (case hd_A => k_is)
    (case ha_A => k_is)
    (case hm_A => k_is)
    (case xL_F => k_is)
    (case sa_F => k_is)
    (case ex_F => k_is)
    (case ty_F => k_is)
    (case kp_F => k_is)
    (case tf_F => k_is)
    (case nf_F => k_is)
    (case hg_F => k_is)
    (case hk_F => k_is)
    (case hd_F => k_is)
    (case ha_F => k_is)
    (case hm_F => k_is)
    (case xL_H => k_is)
    (case sa_H => k_is)
    (case ex_H => k_is)
    (case ty_H => k_is)
    (case kp_H => k_is)
    (case tf_H => k_is)
    (case nf_H => k_is)
    (case hg_H => k_is)
    (case hk_H => k_is)
    (case hd_H => k_is)
    (case ha_H => k_is)
    (case hm_H => k_is)
    (case xL_L => k_is)
    (case sa_L => k_is)
    (case ex_L => k_is)
    (case ty_L => k_is)
    (case kp_L => k_is)
    (case tf_L => k_is)
    (case nf_L => k_is)
    (case hg_L => k_is)
    (case hk_L => k_is)
    (case hd_L => k_is)
    (case ha_L => k_is)
    (case hm_L => k_is)
    (case s_M_M => k_is)
    (case s_N_M => k_is)
    (case s_N_N => k_is)
    (case s_D_M => k_is)
    (case s_D_N => k_is)
    (case s_D_D => k_is)
    (case s_T_M => k_is)
    (case s_T_N => k_is)
    (case s_T_D => k_is)
    (case s_T_T => k_is)
    (case s_A_M => k_is)
    (case s_A_N => k_is)
    (case s_A_D => k_is)
    (case s_A_T => k_is)
    (case s_A_A => k_is)
    (case s_F_M => k_is)
    (case s_F_N => k_is)
    (case s_F_D => k_is)
    (case s_F_T => k_is)
    (case s_F_A => k_is)
    (case s_F_F => k_is)
    (case s_H_M => k_is)
    (case s_H_N => k_is)
    (case s_H_D => k_is)
    (case s_H_T => k_is)
    (case s_H_A => k_is)
    (case s_H_F => k_is)
    (case s_H_H => k_is)
    (case s_L_M => k_is)
    (case s_L_N => k_is)
    (case s_L_D => k_is)
    (case s_L_T => k_is)
    (case s_L_A => k_is)
    (case s_L_F => k_is)
    (case s_L_H => k_is)
    (case s_L_L => k_is)
    (case hn => k_is)
    (case htk => k_is)
    (case pg_Shares => k_is)
    (case hdd_Shares => k_is)
    (case po_Shares => k_is)
    (case saa_Shares => k_is)
    (case mk_Shares => k_is)
    (case kc_Shares => k_is)
    (case na_Shares_length => k_is)
    (case na_Shares_told => k_is)
    (case na_Shares_counts => k_is)
    (case na_Shares_used => k_is)
    (case na_Shares_passed => k_is)
    (case na_Shares_dealt => k_is)
    (case fn_Shares_init => k_is)
    (case fn_Shares_come => k_is)
    (case fn_Shares_deal => k_is)
    (case fn_Shares_promised => k_is)
    (case fn_Shares_check_share => k_is)
    (case fn_Shares_check_promised => k_is)
    (case fn_Shares_by_promise => k_is)
    (case fn_Shares_by_ceiling => k_is)
    (case fn_Shares_begin_stretch => k_is)
    (case z_isinstance => k_is)
    (case z_int => k_is)
    (case z_bool => k_is)
    (case z_str => k_is)
    (case z_list => k_is)
    (case z_tuple => k_is)
    (case z_dict => k_is)
    (case z_len => k_is)
    (case z_max => k_is)
    (case z_min => k_is)
    (case z_range => k_is)
    (case z_all => k_is)
    (case z_sum => k_is)
    (case z_repr => k_is)
    (case z_enumerate => k_is)
    (case z_ValueError => k_is)
    (case z_LookupError => k_is)
    (case z_KeyError => k_is)
