import PyProof.Rows.All
import Wide.All
import OpenK.AllK
import Wide.FinOn
import HandS.Base
import HandS.Call
import HandS.List
import HandS.Comp
import HandS.Ends
import HandS.Dict
import HandS.Iter
import HandS.Text
import HandS.Words
import HandS.Wide
import HandS.Flow
import HandS.Style
import HandS.IsInst
import HandS.ExcInit
import HandS.ExcIs
import HandS.Defaults
import HandS.Walk
import HandS.Codes
import KE.IntTextLaws
import PyProof.ReprRoads
import HandS.WordsExc
import HandS.TryMany
import HandS.ExcOwn
import HandS.ExcField
import KE.GoesEnum
import PyProof.ReprBulk
import HandS.WideBits
import PyProof.EqKinds
import PyProof.FactsAll.dict_1
import PyProof.FactsAll.subtypes_3
import PyProof.FactsAll.subtypes_4
import KE.KExcInit
import PyProof.ExcBaseAll.LookupError
import HandS.CallSlots
import HandS.Conv
import HandS.Deep
import KE.DataFind
import HandS.SetKeys
import HandS.Small
import HandS.SetFor
import HandS.WordsDict
import HandS.DictComp
import HandS.TupAny
import PyProof.SliceSyntax
import HandS.TryOnly
import KE.GoesEnumKw
import HandS.SetBool
import HandS.Strs
import HandS.TupMul
import HandS.SortRule
import PySem.Challenge.RW_guestsalone_k17_rooms_shared_and_written
set_option Elab.async false
set_option linter.all false
set_option maxRecDepth 100000
set_option maxHeartbeats 8000000
namespace Bk
open PySem PySem.Spec PyProof.Rows L2
/-! ## 1. rules of our own -/
section
variable {X : Cx} {CX : CXT} {k n : Nat} {f : Addr} {fd : FuncData} {ps ks : List Str} {sp : Sp} {E : XK} {x m : Str} {p p1 p2 pos : Pos} {e : Expr} {es : List Expr} {kws : List Keyword} {t tk ta : TA} {g : List Value → List Value → List Value} {gV : List V → List V → List V}
/-- f(k = v, ..): keywords alone -/
theorem pe_callN0 (F : FnOk X.prog X.w X.K X.mg X.base CX k f fd ps sp) (hr : Room k X.A) (hg : Gl X x) (hm : X.mg x = some (.ref f)) (hk : PySem.W.keepIn X.K (.ref f) = true) (hb : KBn X.K fd ps 0 ks g gV) (hx : Passes CX X E)
    (hkw : PK X kws tk) (hall : (backToKw pos (keywordEach kws X.env)).all (·.1.isSome) = true := by rfl) (hks : (backToKw pos (keywordEach kws X.env)).filterMap (·.1) = ks := by rfl)
    (hdb : (x == ("__debug__" : Str)) = false := by decide)
    (hpl : ((backTo pos (starEach [] X.env)).any (·.1) || (backToKw pos (keywordEach kws X.env)).any (·.1.isNone)) = false := by rfl) :
    PE X (.Call (.Name x p) [] kws pos) (tCallN 0 ks.length sp gV E tNil tk) := by
  refine ⟨fun pins s σ H Q I h => ?_⟩
  refine wpAny_Call_Name_kw (ld_glob I hg hm ?_ hdb)
  refine PySem.W.callWith_KW0 (h₀ := X.base) I.ok.mod.kin hk hall ?_ hpl
  refine thn (hkw.run pos pins s σ H _ I h) fun ws s2 ⟨zs, H2, I2, rz, l1, l2, q2⟩ => ⟨I2.kIn, ?_⟩
  rw [hks]
  exact run_fnN (us := []) (vs := []) F hr hb hx I2 .nil rz rfl l2 q2
/-- C.m(e, ..): m a plain def of the class at B (or above it), read off the class -/
theorem pe_cdef {B : Addr} {mc : Value} {ds : List Value} {dvs : List V} {pl : Sem Bool} (F : FnOk X.prog X.w X.K X.mg X.base CX k f fd ps sp) (hr : Room k X.A) (hg : Gl X x) (hm : X.mg x = some (.ref B))
    (rd : PySem.W.readsIn X.K B mc = true) (ga : PySem.W.specialIn X.K (.ref B) "__getattribute__" = some (some (.builtin "type.__getattribute__"))) (at_ : PySem.W.findCls X.K (.ref B) mc m = some (.val (.ref f)))
    (hk : PySem.W.keepIn X.K (.ref f) = true) (hb : Binds X.K fd ps ds) (hd : Vals dvs ds) (hx : Passes CX X E) (ha : PA X (e :: es) t)
    (ht : eval (.Call (.Attribute (.Name x p1) m p2) (e :: es) [] pos) X.env = (do
      let ov ← eval (.Name x p1) X.env
      standAt p2.atName
      let (f, first) ← holding [ov] (getMethod ov m pl)
      callWith pos f first (backTo pos (starEach (e :: es) X.env)) (backToKw pos (keywordEach [] X.env))) := by rfl)
    (hdb : (x == ("__debug__" : Str)) = false := by decide) (he : starEach (e :: es) X.env = (false, eval e X.env) :: starEach es X.env := by rfl) (hpl : (backTo pos (starEach es X.env)).any (·.1) = false := by rfl) :
    PE X (.Call (.Attribute (.Name x p1) m p2) (e :: es) [] pos) (tCall sp dvs E t) := by
  refine ⟨fun pins s σ H Q I h => ?_⟩
  refine PySem.W.methodCall_KW (pl := pl) (ld_glob I hg hm ?_ hdb) ht
  refine PySem.W.method_cls I.kIn ga (PySem.W.cls_value I.kIn rd at_ rfl ?_)
  have I1 := I.tok (s.toks + 1)
  refine PySem.W.callWith_K (h₀ := X.base) I.ok.mod.kin hk (thn (ha.run pos pins _ σ H _ I1 h) fun us s1 ⟨vs, H1, I2, r, q⟩ => ⟨I2.kIn, ?_⟩) he hpl
  exact run_fn F hr hb hd hx I2 r q
/-- C(e, ..) as a value, C an own exception class under ValueError whose own __init__ keeps sp -/
def tMkV (C : Addr) (sp : Sp) (dvs : List V) (ta : TA) : TE := fun σ H Q => ta σ H fun vs H1 => vs.length ≤ 1000 ∧ ∀ a, H1 a = none → sp (.ref a :: (vs ++ dvs)) (upd H1 a (exo a C none)) (fun v H2 => v = .non ∧ Q (.ref a) H2) (fun _ _ _ => False)
theorem pe_oex {C fI : Addr} {ds : List Value} {dvs : List V} (T : OexC X.K C) (iC : PySem.W.findIn X.K (.ref C) "__init__" = some (some (.ref fI))) (tI : PySem.W.typeIn X.K (.ref fI) = some (.type "function"))
    (F1 : FnOk X.prog X.w X.K X.mg X.base CX k fI fd ps sp) (hr : Room (k + 1) X.A) (hb : Binds X.K fd ps ds) (hd : Vals dvs ds) (hx : Passes CX X (fun _ _ _ => False)) (hg : Gl X x) (hm : X.mg x = some (.ref C)) (ha : PA X (e :: es) ta)
    (hdb : (x == ("__debug__" : Str)) = false := by decide) (he : starEach (e :: es) X.env = (false, eval e X.env) :: starEach es X.env := by rfl) (hpl : (backTo pos (starEach es X.env)).any (·.1) = false := by rfl) :
    PE X (.Call (.Name x p) (e :: es) [] pos) (tMkV C sp dvs ta) := by
  refine ⟨fun pins s σ H Q I h => ?_⟩
  obtain ⟨nm, q, N, bs, bm, sn, sub, ab, col, dd, k0, k1, k2, k3, k5, hC, hbm⟩ := T.cls
  refine wpAny_Call_Name_kw (ld_glob I hg hm ?_ hdb)
  refine PySem.W.callWith_K (h₀ := X.base) I.ok.mod.kin T.kC (thn (ha.run pos pins s σ H _ I h) fun us s1 ⟨vs, H1, I1, r1, hz, q1⟩ => ⟨I1.kIn, ?_⟩) he hpl
  show wpAny _ _ (call (.ref C) us) _ _ _
  obtain ⟨hp, g, dr, tk, os⟩ := s1
  have hsz : hp.objs.size ≤ hp.objs.size + 1 := Nat.le_succ _
  have hn : H1 (hp.objs.size + 1) = none := I1.hok.fresh hsz
  have hq := q1 (hp.objs.size + 1) hn
  have kk : ∀ b o, hp.get? b = some o → ((hp.push (PySem.W.kdv_tup us)).push (PySem.HandSPX.excO C hp.objs.size)).get? b = some o := fun b o e => Heap.get?_push_of_some _ (Heap.get?_push_of_some _ e)
  have hget : ((hp.push (PySem.W.kdv_tup us)).push (PySem.HandSPX.excO C hp.objs.size)).get? (hp.objs.size + 1) = some (PySem.HandSPX.excO C hp.objs.size) := by heap_get
  have I2 : Inv X pins σ (upd H1 (hp.objs.size + 1) (exo (hp.objs.size + 1) C none)) ⟨(hp.push (PySem.W.kdv_tup us)).push (PySem.HandSPX.excO C hp.objs.size), g, dr, tk, os⟩ :=
    I1.laid (t' := tk) (a := hp.objs.size + 1) (o := exo (hp.objs.size + 1) C none) (h' := (hp.push (PySem.W.kdv_tup us)).push (PySem.HandSPX.excO C hp.objs.size)) kk hsz (exo_ok hget)
  have r2 : Vals (V.ref (hp.objs.size + 1) :: (vs ++ dvs)) (Value.ref (hp.objs.size + 1) :: (us ++ ds)) := .cons rfl (r1.append hd)
  have hl : (Value.ref (hp.objs.size + 1) :: us ++ ds).length = ps.length := by
    have e := r2.length
    rw [F1.len _ _ _ _ hq] at e
    exact e.symm
  have hus : us.length ≤ sizeLine := by
    rw [← Paired.length r1, sizeLine_eq]
    omega
  refine wpAny_call (PySem.HandSPX.call_own F.excBase_ValueError (fun Y => PySem.HandSPX.refsVE_contains Y bm hbm) (I1.kIn _ _ hC) (PySem.W.looks_findIn I1.kIn iC) (fun self => PySem.W.bind_fn I1.kIn self tI) hus
    (codeAny_mono (F1.run _ X.stack _ _ ⟨Value.ref (hp.objs.size + 1) :: us, []⟩ (Value.ref (hp.objs.size + 1) :: (us ++ ds)) _ _ (fun _ _ _ => False) (hr.make C us []) (I2.env0.make C us []) (hb _ (Value.ref (hp.objs.size + 1) :: us) I2.kIn hl) r2 hq) fun r s' hq' => ?_))
  cases r with
  | error er => exact hx pins σ _ _ er s' I2 hq'
  | ok fl =>
    cases fl with
    | ret u =>
      obtain ⟨v, H2, I3, rv, ev, q2⟩ := I2.after hq'
      subst ev
      exact ⟨rv, .ref (hp.objs.size + 1), H2, I3, rfl, q2⟩
    | next => exact False.elim hq'
    | brk => exact False.elim hq'
    | cont => exact False.elim hq'
/-- repr of a truth -/
def reprB (b : Bool) : Str := if b then "True" else "False"
theorem reprB_inj {a b : Bool} : decide (V.str (reprB a) = V.str (reprB b)) = decide (a = b) := by
  cases a <;> cases b <;> decide +kernel
theorem call_repr_bl : CallR X (.builtin "repr") (fun xs H Q => ∃ b, xs = [.bl b] ∧ Q (.str (reprB b)) H) := by
  intro pins s σ H xs us Q I r h
  obtain ⟨b, rfl, q⟩ := h
  obtain ⟨u, rfl, rfl⟩ := vals1 r
  exact PySem.P.repr_of_bool ⟨.str _, H, I.tok _, ⟨_, rfl⟩, q⟩
end
/-! ### an exception as a value: isinstance, its field -/
end Bk
namespace PySem.W
open PySem PySem.Spec PySem.Calls PyProof.Rows
section
variable {prog : Program} {w : World} {A : Around} {E : Value → Shared → Prop} {s : Shared} {K : Frag} {x D : Addr} {ox : Obj} {od : Option Obj}
theorem bk_findObj {C : Addr} {name : Str} {a g : Value} (hc : (clsIn K C).isSome = true) (ha : findIn K (.ref C) name = some (some a)) (hg : specialIn K a "__get__" = some (some g)) (ht : takesIn K a = some true) : findObj K C od name = some (.bind g a) := by
  obtain ⟨cd, hc⟩ := Option.isSome_iff_exists.mp hc
  unfold findObj
  rw [hc, Option.bind_some, ha, Option.bind_some]
  simp [hg, ht]
theorem bk_class {Q : Option Value → Shared → Prop} (hga : findIn K (.ref D) "__getattribute__" = some (some (.builtin "BaseException.__getattribute__"))) (hgt : findIn K (.ref D) "__getattr__" = some none) (hsub : subIn K (.ref D) (.type "BaseException") = some true)
    (hdct : hasDictIn K D = true) (ha : findIn K (.ref D) "__class__" = some (some (.builtin "object.__class__")))
    (hn : specialIn K (.builtin "object.__class__") "__get__" = some (some (.builtin "getset_descriptor.__get__"))) (htk : takesIn K (.builtin "object.__class__") = some true) (hm : mroIn K D (.type "object") = some true)
    (X : K.In s.heap) (I : InstAt s.heap x ox D od) (h : Q (some (.ref D)) { s with toks := s.toks + 1 }) : wpAny (model prog w) A (getAttr? (.ref x) "__class__") Q E s := by
  have hf : findObj K D od "__class__" = some (.bind (.builtin "getset_descriptor.__get__") (.builtin "object.__class__")) := bk_findObj (by obtain ⟨cd, hc, _⟩ := any_some hdct; rw [hc]; rfl) ha hn htk
  obtain ⟨hp, g, d, t, os⟩ := s
  have L0 := I.type (M := model prog w)
  have L1 := looks_findIn (M := model prog w) X hga
  have L2 := looks_findIn (M := model prog w) X hgt
  have L3 := looks_find (M := model prog w) X I hf
  have sub : Looks (model prog w) hp (isInstance (.ref x) (.type "BaseException")) true := L0.andThen (looks_subIn X hsub)
  have hx0 : (false && onTheHeap (Value.builtin "BaseException.__getattribute__")) = false := rfl
  have hx2 : (Value.builtin "BaseException.__getattribute__" == Value.builtin "object.__getattribute__") = false := by decide +kernel
  have hx1 : (onTheHeap (Value.ref D) && Value.builtin "BaseException.__getattribute__" == Value.builtin "object.__getattribute__") = false := by rw [hx2]; rfl
  unfold getAttr? getAttrBy? getAttrBy
  refine wpAny_bind (wpAny_mkText (wpAny_bind (wpAny_attempt (wpAny_holding (wpAny_bind (L0.at (wpAny_bind (L1.at ?_))))))))
  show wpAny _ _ (if (onTheHeap (Value.ref D) && Value.builtin "BaseException.__getattribute__" == Value.builtin "object.__getattribute__") = true then _ else _) _ _ _
  rw [hx1, if_neg Bool.false_ne_true]
  unfold getAttrByItsOwn hookBefore
  refine wpAny_bind ?_
  rw [if_pos (show onTheHeap (Value.ref D) = true from rfl)]
  refine L2.at ?_
  refine wpAny_bind (wpAny_attempt (wpAny_holding ?_))
  unfold callGetattribute
  rw [hx0, if_neg Bool.false_ne_true]
  unfold boundAndCalled
  rw [PySem.F.excAttr_ValueError.ga.bind (.ref x)]
  refine wpAny_bind (wpAny_pure ?_)
  show wpAny _ _ (call (.builtin "BaseException.__getattribute__") [.ref x, .str "__class__" t]) _ _ _
  refine wpAny_call (codeAny_call_builtin PySem.F.excAttr_ValueError.ga.plain PySem.F.entry_bexc_ga ?_)
  refine @check_slot (model prog w) _ _ ⟨hp, g, d, t + 1, os⟩ "BaseException.__getattribute__" "BaseException" "__getattribute__" (.ref x) [.str "__class__" t] [] _ (by decide +kernel) (by decide +kernel) sub (PySem.F.args_bexc_ga (.ref x) (.str "__class__" t)) ?_
  unfold Builtin.«object.__getattribute__»
  refine wpAny_bind (wpAny_of_eq (a := ((Value.ref x : Value), [Value.str "__class__" t])) (by first | rfl | (simp only [slotArgs]; rfl)) ?_)
  refine wpAny_bind (wpAny_pure (wpAny_bind (L0.at (wpAny_bind (L3.at ?_)))))
  show wpAny _ _ (holding [Value.builtin "object.__class__"] (call (.builtin "getset_descriptor.__get__") [.builtin "object.__class__", .ref x, .ref D]) >>= ret) _ _ _
  refine wpAny_bind (wpAny_holding (wpAny_call (class_get (s := ⟨hp, g, d, t + 1, os⟩) (ox := ox) (od := od) X I hm ?_)))
  refine wpAny_pure ?_
  show wpAny _ _ (handedOut (.ref D)) _ _ _
  rw [handedOut_of (v := .ref D) rfl]
  first
    | exact wpAny_pure (wpAny_pure h)
    | exact wpAny_pure h
    | exact wpAny_pure (wpAny_bind (wpAny_pure (wpAny_pure h)))
theorem bk_kitx (hga : findIn K (.ref D) "__getattribute__" = some (some (.builtin "BaseException.__getattribute__"))) (hgt : findIn K (.ref D) "__getattr__" = some none) (hsub : subIn K (.ref D) (.type "BaseException") = some true) (hdct : hasDictIn K D = true) (ha : findIn K (.ref D) "__class__" = some (some (.builtin "object.__class__")))
    (hn : specialIn K (.builtin "object.__class__") "__get__" = some (some (.builtin "getset_descriptor.__get__"))) (htk : takesIn K (.builtin "object.__class__") = some true) (hm : mroIn K D (.type "object") = some true) :
    KitX K (.ref x) (.ref D) (fun h => InstAt h x ox D od) where
  ty := fun _ _ _ I => I.type
  it := fun _ _ X _ => by
    obtain ⟨cdD, hcD, _⟩ := any_some hdct
    unfold clsIn at hcD
    split at hcD
    · rename_i c' d' cd' sl' ho
      intro A' Q' E' s' k q
      unfold isType loadHead
      exact wpAny_bind (wpAny_loadPart (k _ _ (X _ _ ho)) (wpAny_pure q))
    · cases hcD
  ne := fun h tp dd its n sl X htp => by
    obtain ⟨cdD, hcD, _⟩ := any_some hdct
    refine Bool.eq_false_iff.mpr fun q => ?_
    have e : D = tp := Value.ref.inj (beq_iff_eq.mp q)
    subst e
    unfold clsIn at hcD
    split at hcD
    · rename_i c' d' cd' sl' ho
      have z := (X _ _ ho).symm.trans htp
      cases z
    · cases hcD
  ca := fun X I k => bk_class hga hgt hsub hdct ha hn htk hm X I k
end
end PySem.W
namespace Bk
open PySem PySem.Spec PyProof.Rows L2
/-- at a: an exception of the class at D, its own dict (at dx) holds fs -/
def XV (H : Hp) (a D dx : Addr) (fs : List (Str × V)) : Prop := H a = some (exo a D (some dx)) ∧ H dx = some (exd dx fs)
theorem xv_inst {X : Cx} {pins : List (Addr × Obj)} {σ : L2.St} {H : Hp} {s : Shared} {a D dx : Addr} {fs : List (Str × V)} (I : Inv X pins σ H s) (h : XV H a D dx fs) :
    ∃ (ox od : Obj) (mA : Str → Option Value), PySem.W.InstAt s.heap a ox D (some od) ∧ (∀ f, PySem.W.lookIn f od = some (mA f)) ∧ ∀ f, RelO (fs.lookup f) (mA f) := by
  obtain ⟨t1, ho⟩ := exo_at I.hok h.1
  obtain ⟨mA, hns, rel⟩ := exd_at I.hok h.2
  obtain ⟨od, hod, hl⟩ := lookIn_ns hns
  exact ⟨_, od, mA, ⟨ho, rfl, rfl, hod⟩, hl, rel⟩
/-- isinstance(e, c), e such an exception -/
def rIsX (K : PySem.W.Frag) : List V → Hp → VK → Prop := fun xs H Q => ∃ (a D dx : Addr) (fs : List (Str × V)) (c : V) (u : Value) (b : Bool), xs = [.ref a, c] ∧ XV H a D dx fs ∧ ExcC K D ∧ ClsV c u ∧ PySem.W.kitOne K (.ref D) u = some b ∧ Q (.bl b) H
theorem call_isX {X : Cx} : CallR X (.builtin "isinstance") (rIsX X.K) := by
  intro pins s σ H xs us Q I r h
  obtain ⟨a, D, dx, fs, c, u, b, rfl, xv, C, k, e, q⟩ := h
  obtain ⟨u1, u2, rfl, r1, r2⟩ := vals2 r
  have e2 := k.eq r2
  subst e2
  obtain rfl : u1 = Value.ref a := r1
  obtain ⟨ox, od, mA, J, _, _⟩ := xv_inst I xv
  exact PySem.W.kia_one (PySem.W.bk_kitx (ox := ox) (od := some od) C.hg C.hk C.hs C.hd C.ha C.hn C.ht C.hm) I.kIn J e (fun z => nomatch z) fun tk => ⟨.bl b, H, I.tok tk, rfl, q⟩
/-- isinstance of a value of any form met here -/
def rIs (K : PySem.W.Frag) : List V → Hp → VK → Prop := fun xs H Q => rIsi K xs H Q ∨ rIsX K xs H Q
theorem call_is {X : Cx} : CallR X (.builtin "isinstance") (rIs X.K) := CallR.or call_isi call_isX
end Bk

namespace Bk
open PySem PySem.Spec PyProof.Rows L2
/-! ## 2. a def that may be called by its name -/
structure Cal (P : Program) (w : World) (K : PySem.W.Frag) (mg : Str → Option Value) (base : Heap) (CX : CXT) (k : Nat) (x : Str) (sp : Sp) : Prop where
  ex : ∃ (f : Addr) (fd : FuncData) (ps : List Str) (ds : List Value) (dvs : List V), mg x = some (.ref f) ∧ PySem.W.keepIn K (.ref f) = true ∧ FnOk P w K mg base CX k f fd ps (fun vs H Q E => sp vs H Q E ∧ vs.length = ps.length) ∧ Binds K fd ps [] ∧ ds = [] ∧ dvs = []
/-- the same with keywords: n values by places, then those of the keywords ks; gV orders them -/
structure CalN (P : Program) (w : World) (K : PySem.W.Frag) (mg : Str → Option Value) (base : Heap) (CX : CXT) (k n : Nat) (ks : List Str) (x : Str) (sp : Sp) (gV : List V → List V → List V) : Prop where
  ex : ∃ (f : Addr) (fd : FuncData) (ps : List Str) (g : List Value → List Value → List Value), mg x = some (.ref f) ∧ PySem.W.keepIn K (.ref f) = true ∧ FnOk P w K mg base CX k f fd ps sp ∧ KBn K fd ps n ks g gV
/-- defaults fill up -/
structure CalD (P : Program) (w : World) (K : PySem.W.Frag) (mg : Str → Option Value) (base : Heap) (CX : CXT) (k : Nat) (x : Str) (sp : Sp) (dvs : List V) : Prop where
  ex : ∃ (f : Addr) (fd : FuncData) (ps : List Str) (ds : List Value), mg x = some (.ref f) ∧ PySem.W.keepIn K (.ref f) = true ∧ FnOk P w K mg base CX k f fd ps sp ∧ Binds K fd ps ds ∧ Vals dvs ds
/-- a method's def, by itself -/
structure Own (P : Program) (w : World) (K : PySem.W.Frag) (mg : Str → Option Value) (base : Heap) (CX : CXT) (k : Nat) (f : Addr) (fd : FuncData) (ps : List Str) (sp : Sp) : Prop where
  ok : FnOk P w K mg base CX k f fd ps sp
  bd : Binds K fd ps []
  kp : PySem.W.keepIn K (.ref f) = true
section
variable {X : Cx} {CX : CXT} {k j n : Nat} {ks : List Str} {sp : Sp} {E : XK} {x : Str} {p pos : Pos} {e : Expr} {es : List Expr} {kws : List Keyword} {t tk : TA} {gV : List V → List V → List V} {dvs : List V}
theorem pe_cal (c : CalD X.prog X.w X.K X.mg X.base CX0 k x sp []) (hr : Room j X.A) (hk : k ≤ j) (hg : Gl X x) (ha : PA X (e :: es) t)
    (hdb : (x == ("__debug__" : Str)) = false := by decide) (he : starEach (e :: es) X.env = (false, eval e X.env) :: starEach es X.env := by rfl) (hpl : (backTo pos (starEach es X.env)).any (·.1) = false := by rfl) :
    PE X (.Call (.Name x p) (e :: es) [] pos) (tCall sp [] E0 t) := by
  obtain ⟨f, fd, ps, ds, h1, h2, h3, h4, h5⟩ := c.ex
  exact pe_call h3 (hr.mono hk) hg h1 h2 h4 h5 pass0 ha hdb he hpl
theorem pe_calD (c : CalD X.prog X.w X.K X.mg X.base CX0 k x sp dvs) (hr : Room j X.A) (hk : k ≤ j) (hg : Gl X x) (ha : PA X (e :: es) t)
    (hdb : (x == ("__debug__" : Str)) = false := by decide) (he : starEach (e :: es) X.env = (false, eval e X.env) :: starEach es X.env := by rfl) (hpl : (backTo pos (starEach es X.env)).any (·.1) = false := by rfl) :
    PE X (.Call (.Name x p) (e :: es) [] pos) (tCall sp dvs E0 t) := by
  obtain ⟨f, fd, ps, ds, h1, h2, h3, h4, h5⟩ := c.ex
  exact pe_call h3 (hr.mono hk) hg h1 h2 h4 h5 pass0 ha hdb he hpl
theorem pe_cal0 (c : CalD X.prog X.w X.K X.mg X.base CX0 k x sp []) (hr : Room j X.A) (hk : k ≤ j) (hg : Gl X x) (hdb : (x == ("__debug__" : Str)) = false := by decide) :
    PE X (.Call (.Name x p) [] [] pos) (tCall sp [] E0 tNil) := by
  obtain ⟨f, fd, ps, ds, h1, h2, h3, h4, h5⟩ := c.ex
  exact pe_call0 h3 (hr.mono hk) hg h1 h2 h4 h5 pass0 hdb
theorem pe_calN (c : CalN X.prog X.w X.K X.mg X.base CX0 k n ks x sp gV) (hr : Room k X.A) (hg : Gl X x) (ha : PA X (e :: es) t) (hkw : PK X kws tk)
    (hall : (backToKw pos (keywordEach kws X.env)).all (·.1.isSome) = true := by rfl) (hks : (backToKw pos (keywordEach kws X.env)).filterMap (·.1) = ks := by rfl)
    (hdb : (x == ("__debug__" : Str)) = false := by decide) (he : starEach (e :: es) X.env = (false, eval e X.env) :: starEach es X.env := by rfl)
    (hpl : ((backTo pos (starEach (e :: es) X.env)).any (·.1) || (backToKw pos (keywordEach kws X.env)).any (·.1.isNone)) = false := by rfl) :
    PE X (.Call (.Name x p) (e :: es) kws pos) (tCallN n ks.length sp gV E0 t tk) := by
  obtain ⟨f, fd, ps, g, h1, h2, h3, h4⟩ := c.ex
  exact pe_callN h3 hr hg h1 h2 h4 pass0 ha hkw hall hks hdb he hpl
theorem pe_calN0 (c : CalN X.prog X.w X.K X.mg X.base CX0 k 0 ks x sp gV) (hr : Room k X.A) (hg : Gl X x) (hkw : PK X kws tk)
    (hall : (backToKw pos (keywordEach kws X.env)).all (·.1.isSome) = true := by rfl) (hks : (backToKw pos (keywordEach kws X.env)).filterMap (·.1) = ks := by rfl)
    (hdb : (x == ("__debug__" : Str)) = false := by decide)
    (hpl : ((backTo pos (starEach [] X.env)).any (·.1) || (backToKw pos (keywordEach kws X.env)).any (·.1.isNone)) = false := by rfl) :
    PE X (.Call (.Name x p) [] kws pos) (tCallN 0 ks.length sp gV E0 tNil tk) := by
  obtain ⟨f, fd, ps, g, h1, h2, h3, h4⟩ := c.ex
  exact pe_callN0 h3 hr hg h1 h2 h4 pass0 hkw hall hks hdb hpl
end
theorem CalD.mk' {P : Program} {w : World} {K : PySem.W.Frag} {mg : Str → Option Value} {base : Heap} {CX : CXT} {k : Nat} {x : Str} {sp : Sp} {f : Addr} {fd : FuncData} {ps : List Str} (g : mg x = some (.ref f)) (kp : PySem.W.keepIn K (.ref f) = true) (F : FnOk P w K mg base CX k f fd ps sp) (b : Binds K fd ps []) :
    CalD P w K mg base CX k x sp [] := ⟨f, fd, ps, [], g, kp, F, b, .nil⟩
/-! ## 3. going through a reading -/
section
variable {K : PySem.W.Frag} {σ : L2.St} {H : Hp} {ta tb tc te : TE} {t u : TT} {x y v : V} {Q : VK} {QB : Bool → Hp → Prop} {QL : List V → Hp → Prop} {r r' : R2} {D : Ends} {a b : TS} {tr : TA}
theorem r_var {i : Nat} (h : σ[i]? = some (some v)) (q : Q v H) : tVar i σ H Q := ⟨v, h, q⟩
theorem r_c (q : Q v H) : tC v σ H Q := q
theorem r_op (q : ta σ H fun x H1 => tb σ H1 fun y H2 => r x y H2 Q) : tOp r ta tb σ H Q := q
theorem r_un {r : V → Hp → VK → Prop} (q : ta σ H fun x H1 => r x H1 Q) : tUn r ta σ H Q := q
theorem r_I0 {g : Int → Int → V} {i j : Int} (q : Q (g i j) H) : rI0 g (.int i) (.int j) H Q := ⟨i, j, rfl, rfl, q⟩
theorem r_I {C : Int → Int → Prop} {g : Int → Int → V} {i j : Int} (c : C i j) (q : Q (g i j) H) : rI C g (.int i) (.int j) H Q := ⟨i, j, rfl, rfl, c, q⟩
theorem r_U {g : Int → V} {i : Int} (q : Q (g i) H) : rU g (.int i) H Q := ⟨i, rfl, q⟩
theorem r_eq (s : scal x y = true) (q : Q (.bl (decide (x = y))) H) : rEq x y H Q := ⟨s, q⟩
theorem r_ne (s : scal x y = true) (q : Q (.bl (!decide (x = y))) H) : rNe x y H Q := ⟨s, q⟩
theorem r_nil (q : QL [] H) : tNil σ H QL := q
theorem r_cons (q : ta σ H fun x H1 => tr σ H1 fun xs H2 => QL (x :: xs) H2) : tCons ta tr σ H QL := q
theorem r_call {sp : Sp} {dvs : List V} {E : XK} (q : tr σ H fun vs H1 => sp (vs ++ dvs) H1 Q E) : tCall sp dvs E tr σ H Q := q
theorem r_callN {n m : Nat} {sp : Sp} {gV : List V → List V → List V} {E : XK} {tk : TA} (q : tr σ H fun vs H1 => tk σ H1 fun zs H2 => vs.length = n ∧ zs.length = m ∧ sp (gV vs zs) H2 Q E) : tCallN n m sp gV E tr tk σ H Q := q
theorem r_cb {rc : List V → Hp → VK → Prop} (q : tr σ H fun vs H1 => rc vs H1 Q) : tCB rc tr σ H Q := q
theorem r_ret (q : te σ H D.rt) : tRet te D σ H := q
theorem r_seq (q : a { D with nx := b D } σ H) : tSeq a b D σ H := q
theorem r_asg {g : TG} (q : te σ H fun x H1 => g x σ H1 D.nx) : tAsg te g D σ H := q
theorem r_name {i : Nat} {Qs : L2.St → Hp → Prop} (q : Qs (σ.set i (some v)) H) : gName i v σ H Qs := q
theorem r_if (q : t σ H fun b' H1 => if b' = true then a D σ H1 else b D σ H1) : tIfS t a b D σ H := q
theorem r_next (q : D.nx σ H) : tNext D σ H := q
theorem r_drop (q : te σ H fun _ H1 => D.nx σ H1) : tDrop te D σ H := q
theorem r_test (q : te σ H fun x H' => ∃ k, x = .bl k ∧ QB k H') : tTest te σ H QB := q
theorem r_tB (q : te σ H fun x H' => ∃ k, x = .bl k ∧ QB k H') : tB te σ H QB := q
theorem r_isb {k : Bool} (q : QB k H) : ∃ k', V.bl k = .bl k' ∧ QB k' H := ⟨k, rfl, q⟩
theorem r_isv {k : Bool} {A : Bool → Prop} (q : A k) : ∃ k', V.bl k = .bl k' ∧ A k' := ⟨k, rfl, q⟩
theorem r_not (q : t σ H fun c H1 => QB (!c) H1) : tNot t σ H QB := q
theorem r_and (q : t σ H fun c H1 => if c = true then u σ H1 QB else QB false H1) : tAnd t u σ H QB := q
theorem r_or (q : t σ H fun c H1 => if c = true then QB true H1 else u σ H1 QB) : tOr t u σ H QB := q
theorem r_andV (q : ta σ H fun x H1 => ∃ c, x = .bl c ∧ if c = true then tb σ H1 Q else Q (.bl false) H1) : tAndV ta tb σ H Q := q
theorem r_orV (q : ta σ H fun x H1 => ∃ c, x = .bl c ∧ if c = true then Q (.bl true) H1 else tb σ H1 Q) : tOrV ta tb σ H Q := q
theorem r_notV (q : ta σ H fun x H1 => ∃ c, x = .bl c ∧ Q (.bl (!c)) H1) : tNotV ta σ H Q := q
theorem r_chain (q : ta σ H fun x H1 => tb σ H1 fun y H2 => r x y H2 fun z H3 => ∃ k, z = .bl k ∧ (if k = true then tc σ H3 fun w' H4 => r' y w' H4 Q else Q (.bl false) H3)) : tChain r r' ta tb tc σ H Q := q
theorem r_ifE (q : t σ H fun c H1 => if c = true then ta σ H1 Q else tb σ H1 Q) : tIf t ta tb σ H Q := q
theorem r_isN (q : Q (.bl (decide (x = .non))) H) : (fun x y H Q => y = V.non ∧ Q (.bl (decide (x = .non))) H : R2) x .non H Q := ⟨rfl, q⟩
def NewL (xs : List V) (H : Hp) (Q : VK) : Prop := xs.length ≤ sizeLine ∧ ∀ p, H p = none → Q (.ref p) (upd H p (.lst xs))
def NewT (xs : List V) (H : Hp) (Q : VK) : Prop := xs.length ≤ sizeLine ∧ ∀ p, H p = none → Q (.ref p) (upd H p (.tup xs))
theorem r_lst (q : tr σ H fun xs H1 => NewL xs H1 Q) : tLst tr σ H Q := q
theorem r_tup (q : tr σ H fun xs H1 => NewT xs H1 Q) : tTup tr σ H Q := q
theorem same_upd {p : Addr} {o : HO} (h : H p = none) : Same H (upd H p o) := fun b x e => by
  rw [upd_ne (ne_of_none e h)]
  exact e
/-- a new object: the heap behind it by what stands in it -/
theorem newL {xs : List V} (q : ∀ p H', H p = none → Same H H' → H' p = some (.lst xs) → Q (.ref p) H') (hl : xs.length ≤ 10000 := by exact Nat.le_of_ble_eq_true rfl) : NewL xs H Q :=
  ⟨Nat.le_trans hl (by decide), fun p hp => q p _ hp (same_upd hp) upd_same⟩
theorem newT {xs : List V} (q : ∀ p H', H p = none → Same H H' → H' p = some (.tup xs) → Q (.ref p) H') (hl : xs.length ≤ 10000 := by exact Nat.le_of_ble_eq_true rfl) : NewT xs H Q :=
  ⟨Nat.le_trans hl (by decide), fun p hp => q p _ hp (same_upd hp) upd_same⟩
def NewDK (kvs : List (Key × V)) (H : Hp) (Q : VK) : Prop := ∀ p, H p = none → Q (.ref p) (upd H p (.dK kvs))
theorem r_dnewK (q : NewDK [] H Q) : tDNewK σ H Q := q
theorem newDK {kvs : List (Key × V)} (q : ∀ p H', H p = none → Same H H' → H' p = some (.dK kvs) → Q (.ref p) H') : NewDK kvs H Q := fun p hp => q p _ hp (same_upd hp) upd_same
def MkV (C : Addr) (sp : Sp) (dvs vs : List V) (H : Hp) (Q : VK) : Prop := vs.length ≤ 1000 ∧ ∀ a, H a = none → sp (.ref a :: (vs ++ dvs)) (upd H a (exo a C none)) (fun v H2 => v = .non ∧ Q (.ref a) H2) (fun _ _ _ => False)
theorem r_mkV {C : Addr} {sp : Sp} {dvs : List V} (q : tr σ H fun vs H1 => MkV C sp dvs vs H1 Q) : tMkV C sp dvs tr σ H Q := q
def ForL (J : It) (g : TG) (tb : TS) (D : Ends) (σ : L2.St) (H : Hp) : Prop := ∃ W : Nat → Nat → L2.St → Hp → Prop, (∃ m, W 0 m σ H) ∧ ∀ i m σ H, W i m σ H →
  (J.stop i H ∧ D.nx σ H) ∨ (J.go i H ∧ ∃ N : L2.St → Hp → Prop, (∀ σ' H', N σ' H' → ∃ m', m' < m ∧ W (i + 1) m' σ' H') ∧ ∀ x H', J.yld i H x H' → g x σ H' fun σ2 H2 => tb { D with nx := N, ct := N, bk := D.nx } σ2 H2)
theorem r_for {wi : TI} {g : TG} (q : wi σ H fun J H1 => ForL J g a D σ H1) : tFor wi g a D σ H := q
theorem r_iList {tl : TE} {R : It → Hp → Prop} (q : tl σ H fun x H1 => ∃ p, x = .ref p ∧ (∃ xs, SqL K H1 p xs) ∧ R (Itl K p) H1) : iList K tl σ H R := q
theorem r_iTup {tl : TE} {R : It → Hp → Prop} (q : tl σ H fun x H1 => ∃ p, x = .ref p ∧ (∃ xs, SqT K H1 p xs) ∧ R (Itt K p) H1) : iTup K tl σ H R := q
theorem r_iRng1 {R : It → Hp → Prop} (q : tr σ H fun vs H1 => ∃ j : Int, vs = [.int j] ∧ -(2 ^ 62) ≤ j ∧ j < 2 ^ 62 ∧ R (Itr 0 j.toNat) H1) : iRng1 tr σ H R := q
theorem r_iRng2 {R : It → Hp → Prop} (q : tr σ H fun vs H1 => ∃ i j : Int, vs = [.int i, .int j] ∧ (-(2 ^ 62) ≤ i ∧ i < 2 ^ 62 ∧ -(2 ^ 62) ≤ j ∧ j < 2 ^ 62) ∧ R (Itr i (j - i).toNat) H1) : iRng2 tr σ H R := q
theorem r_ixL {p : Addr} {xs : List V} {i : Int} (h : SqL K H p xs) (ha : atI xs i = some v) (q : Q v H) : rIxL K (.ref p) (.int i) H Q := ⟨p, xs, i, v, rfl, rfl, h, ha, q⟩
theorem r_ixT {p : Addr} {xs : List V} {i : Int} (h : SqT K H p xs) (ha : atI xs i = some v) (q : Q v H) : rIxT K (.ref p) (.int i) H Q := ⟨p, xs, i, v, rfl, rfl, h, ha, q⟩
theorem r_gSub {to ti : TE} {ts : TSet} {Qs : L2.St → Hp → Prop} (q : to σ H fun o H1 => ti σ H1 fun i H2 => ts o i v H2 fun H3 => Qs σ H3) : gSub to ti ts v σ H Qs := q
theorem r_bm {T : String} {rm : V → List V → Hp → VK → Prop} {to : TE} (q : to σ H fun x H1 => tyV K T x H1 ∧ tr σ H1 fun xs H2 => rm x xs H2 Q) : tBM K T rm to tr σ H Q := q
theorem iteNF {A B : Prop} (h : B) : if (!true) = true then A else B := iteF h
theorem iteNT {A B : Prop} (h : A) : if (!false) = true then A else B := iteT h
theorem iteD {c A B : Prop} [Decidable c] (hc : c) (h : A) : if decide c = true then A else B := by rw [decide_eq_true hc]; exact iteT h
theorem iteDn {c A B : Prop} [Decidable c] (hc : ¬ c) (h : B) : if decide c = true then A else B := by rw [decide_eq_false hc]; exact iteF h
theorem iteND {c A B : Prop} [Decidable c] (hc : c) (h : B) : if (!decide c) = true then A else B := by rw [decide_eq_true hc]; exact iteF h
theorem iteNDn {c A B : Prop} [Decidable c] (hc : ¬ c) (h : A) : if (!decide c) = true then A else B := by rw [decide_eq_false hc]; exact iteT h
/-- a test that is open: both ways, by what it says -/
theorem iteC {c A B : Prop} [Decidable c] (h1 : c → A) (h2 : ¬ c → B) : if decide c = true then A else B := by
  by_cases h : c
  · exact iteD h (h1 h)
  · exact iteDn h (h2 h)
theorem iteNC {c A B : Prop} [Decidable c] (h1 : ¬ c → A) (h2 : c → B) : if (!decide c) = true then A else B := by
  by_cases h : c
  · exact iteND h (h2 h)
  · exact iteNDn h (h1 h)
theorem iteB {b : Bool} {A B : Prop} (h1 : b = true → A) (h2 : b = false → B) : if b = true then A else B := by
  cases b
  · exact iteF (h2 rfl)
  · exact iteT (h1 rfl)
theorem iteNB {b : Bool} {A B : Prop} (h1 : b = false → A) (h2 : b = true → B) : if (!b) = true then A else B := by
  cases b
  · exact iteT (h1 rfl)
  · exact iteF (h2 rfl)
theorem r_m1 {rm : V → List V → Hp → VK → Prop} {to te : TE} (q : to σ H fun x H1 => (∃ a, x = .str a) ∧ te σ H1 fun y H2 => rm x [y] H2 Q) : tM1 rm to te σ H Q := q
theorem r_len {z : Str} (h : z.length ≤ 100000) (q : Q (.int z.length) H) : ∃ z', [V.str z] = [V.str z'] ∧ z'.length ≤ sizeLine ∧ Q (.int z'.length) H := ⟨z, rfl, Nat.le_trans h (by decide), q⟩
theorem sqL {p : Addr} {xs : List V} (h : H p = some (.lst xs)) : SqL K H p xs := .inl (.inl h)
theorem sqT {p : Addr} {xs : List V} (h : H p = some (.tup xs)) : SqT K H p xs := .inl (.inl h)
end
end Bk

namespace Bk
open PySem PySem.Spec PyProof.Rows L2
/-! ## 4. what isinstance answers -/
def IsA (K : PySem.W.Frag) (H : Hp) (x : V) (T : String) (b : Bool) : Prop :=
  (∃ t, TyX K H x t ∧ PySem.W.kitOne K t (.type T) = some b) ∨ (∃ (a D dx : Addr) (fs : List (Str × V)), x = .ref a ∧ XV H a D dx fs ∧ ExcC K D ∧ PySem.W.kitOne K (.ref D) (.type T) = some b)
section
variable {K : PySem.W.Frag} {H H' : Hp} {x : V} {T : String} {b : Bool} {Q : VK}
theorem r_is (h : IsA K H x T b) (q : Q (.bl b) H) : rIs K [x, .ty T] H Q := by
  rcases h with ⟨t, h1, h2⟩ | ⟨a, D, dx, fs, rfl, h1, h2, h3⟩
  · exact .inl ⟨x, .ty T, t, .type T, b, rfl, .ty T, h1, h2, q⟩
  · exact .inr ⟨a, D, dx, fs, .ty T, .type T, b, rfl, h1, h2, .ty T, h3, q⟩
theorem isa_int {i : Int} (h : kitB "int" T = some b := by decide +kernel) : IsA K H (.int i) T b := .inl ⟨.type "int", .base (.int i), kit_ty h⟩
theorem isa_bl {c : Bool} (h : kitB "bool" T = some b := by decide +kernel) : IsA K H (.bl c) T b := .inl ⟨.type "bool", .base (.bl c), kit_ty h⟩
theorem isa_str {z : Str} (h : kitB "str" T = some b := by decide +kernel) : IsA K H (.str z) T b := .inl ⟨.type "str", .base (.str z), kit_ty h⟩
theorem isa_non (h : kitB "NoneType" T = some b := by decide +kernel) : IsA K H .non T b := .inl ⟨.type "NoneType", .base .non, kit_ty h⟩
theorem isa_lst {a : Addr} {xs : List V} (e : H a = some (.lst xs)) (h : kitB "list" T = some b := by decide +kernel) : IsA K H (.ref a) T b := .inl ⟨.type "list", .base (.lst e), kit_ty h⟩
theorem isa_tup {a : Addr} {xs : List V} (e : H a = some (.tup xs)) (h : kitB "tuple" T = some b := by decide +kernel) : IsA K H (.ref a) T b := .inl ⟨.type "tuple", .base (.tup e), kit_ty h⟩
theorem isa_dK {a : Addr} {kvs : List (Key × V)} (e : H a = some (.dK kvs)) (h : kitB "dict" T = some b := by decide +kernel) : IsA K H (.ref a) T b := .inl ⟨.type "dict", .base (.dK e), kit_ty h⟩
theorem isa_exc {a D dx : Addr} {fs : List (Str × V)} (e : XV H a D dx fs) (C : ExcC K D) (h : PySem.W.kitOne K (.ref D) (.type T) = some b) : IsA K H (.ref a) T b := .inr ⟨a, D, dx, fs, rfl, e, C, h⟩
end
/-! ## 5. the box of draws -/
def Box (a : Addr) (n : Nat) (H : Hp) : Prop := ∃ x y z : Int, H a = some (.lst [.int x, .int y, .int z]) ∧ 0 ≤ x ∧ 0 ≤ y ∧ y < 2147483629 ∧ 0 ≤ z ∧ z ≤ (n : Int)
/-- all but what stands at a is as it was -/
def But (a : Addr) (H H' : Hp) : Prop := ∀ b o, b ≠ a → H b = some o → H' b = some o
theorem But.refl {a : Addr} {H : Hp} : But a H H := fun _ _ _ h => h
theorem But.trans {a : Addr} {H H1 H2 : Hp} (x : But a H H1) (y : But a H1 H2) : But a H H2 := fun b o n e => y b o n (x b o n e)
theorem But.same {a : Addr} {H H1 H2 : Hp} (x : But a H H1) (y : Same H1 H2) : But a H H2 := fun b o n e => y b o (x b o n e)
theorem But.of {a : Addr} {H H1 : Hp} (y : Same H H1) : But a H H1 := fun b o _ e => y b o e
theorem But.upd {a : Addr} {H : Hp} {o : HO} : But a H (upd H a o) := fun b u n e => by rw [upd_ne n]; exact e
theorem Box.same {a : Addr} {n : Nat} {H H' : Hp} (h : Box a n H) (s : Same H H') : Box a n H' := by
  obtain ⟨x, y, z, e, r⟩ := h
  exact ⟨x, y, z, s _ _ e, r⟩
theorem Box.mono {a : Addr} {n m : Nat} {H : Hp} (h : Box a n H) (l : n ≤ m) : Box a m H := by
  obtain ⟨x, y, z, e, r1, r2, r3, r4, r5⟩ := h
  exact ⟨x, y, z, e, r1, r2, r3, r4, by omega⟩
theorem Box.ne {a p : Addr} {n : Nat} {H : Hp} (h : Box a n H) (hp : H p = none) : p ≠ a := by
  obtain ⟨x, y, z, e, _⟩ := h
  exact (ne_of_none e hp).symm
theorem Box.ne_tup {a p : Addr} {n : Nat} {H : Hp} {xs : List V} (h : Box a n H) (hp : H p = some (.tup xs)) : p ≠ a := by
  obtain ⟨x, y, z, e, _⟩ := h
  exact fun q => by rw [q, e] at hp; cases hp
def spCell (K : PySem.W.Frag) : Sp := fun vs H Q _ => ∃ (a : Addr) (ns : List Int) (k : Nat), vs = [.ref a, .int k] ∧ SqL K H a (ns.map V.int) ∧ k ≤ 100000 ∧ ∀ c, Q (.int c) H
def spBox : Sp := fun vs H Q _ => ∃ c : Int, vs = [.int c] ∧ ∀ p H', H p = none → Same H H' → Box p 0 H' → Q (.ref p) H'
def spTake : Sp := fun vs H Q _ => ∃ (a : Addr) (n : Nat) (size : Int), vs = [.ref a, .int size] ∧ Box a n H ∧ n < 1000000 ∧ 0 < size ∧ size < 2 ^ 128 ∧
  ∀ d H', 0 ≤ d → d < size → Box a (n + 1) H' → But a H H' → Q (.int d) H'
theorem cdiv {i j : Int} (h : 0 < j) (h2 : j < 2 ^ 128) : CDivW i j := wide_div (b := 128) h (by omega) (by decide) (by decide)
theorem cmul {i j : Int} (h1 : -(2 ^ 128) < i) (h2 : i < 2 ^ 128) (h3 : -(2 ^ 128) < j) (h4 : j < 2 ^ 128) : CMulW i j := wide_mul (a := 128) (b := 128) (by omega) (by omega) (by decide) (by decide) (by decide)
theorem at_map {ns : List Int} {k : Nat} (h : k < ns.length) : atI (ns.map V.int) ((k : Nat) : Int) = some (.int ns[k]) := atI_nat (by rw [List.getElem?_map, List.getElem?_eq_getElem h]; rfl)
end Bk

namespace Bk
open PySem PySem.Spec PyProof.Rows L2
theorem sameBut {H H' : Hp} {D : Addr} {o : HO} (h : Same H H') (n : H D = none) : Same H (upd H' D o) := fun b u e => by
  rw [upd_ne (ne_of_none e n)]
  exact h b u e
/-! ## 6. a comprehension over a text's signs, all of it -/
section
variable {K : PySem.W.Frag} {σ : L2.St} {H : Hp} {Q : VK} {te : TE}
/-- the list of p of each sign -/
theorem r_lcStr {i0 j : Nat} {vs : List Nat} {z : Str} (p : Nat → V) (hv : σ[i0]? = some (some (.str z))) (hz : z.length ≤ 100000)
    (hw : ∀ x, wipe ((wipe σ vs).set j (some x)) vs = wipe σ vs)
    (ht : ∀ (c : Nat) (H' : Hp) (Q' : VK), c ∈ z.cps.toList → Same H H' → (∀ H2, Same H' H2 → Q' (p c) H2) → te ((wipe σ vs).set j (some (.str ⟨#[c]⟩))) H' Q')
    (q : ∀ D H', H D = none → Same H H' → H' D = some (.lst (z.cps.toList.map p)) → Q (.ref D) H') :
    tLc (iStr (tVar i0)) (gName j) tYes te vs σ H Q := by
  refine ⟨_, hv, z, rfl, fun D hD => ?_⟩
  refine lc_it (n := z.cps.size) walk_str (fun i H' => Same H H' ∧ H' D = some (.lst ((z.cps.toList.take i).map p))) ⟨same_upd hD, by rw [upd_same]; rfl⟩ (fun _ _ _ _ => trivial) ?_ ?_
  · rintro i x H1 H2 hi ⟨sm, e⟩ ⟨rfl, c, hc, rfl⟩
    have hc' : z.cps.toList[i]? = some c := by rw [Array.getElem?_toList]; exact hc
    refine ⟨hw _, ?_⟩
    show te _ _ _
    refine ht c _ _ (List.mem_of_getElem? hc') sm fun H3 s3 => ⟨_, s3 _ _ e, ?_, sameBut (sm.trans s3) hD, ?_⟩
    · have l : ((z.cps.toList.take i).map p).length ≤ z.cps.size := by
        rw [List.length_map, List.length_take, Array.length_toList]
        omega
      have hz' : z.cps.size ≤ 100000 := hz
      exact Nat.lt_of_le_of_lt (Nat.le_trans l hz') (by decide)
    · rw [upd_same, List.take_add_one, hc', List.map_append]
      rfl
  · rintro H1 ⟨sm, e⟩
    refine q D H1 hD sm ?_
    rw [e]
    have l : z.cps.size = z.cps.toList.length := (Array.length_toList).symm
    rw [l, List.take_length]
/-- all([p(sign) for sign in text]) -/
theorem r_allStr {i0 j : Nat} {vs : List Nat} {z : Str} (p : Nat → Bool) (hv : σ[i0]? = some (some (.str z))) (hz : z.length ≤ 100000)
    (hw : ∀ x, wipe ((wipe σ vs).set j (some x)) vs = wipe σ vs)
    (ht : ∀ (c : Nat) (H' : Hp) (Q' : VK), c ∈ z.cps.toList → Same H H' → (∀ H2, Same H' H2 → Q' (.bl (p c)) H2) → te ((wipe σ vs).set j (some (.str ⟨#[c]⟩))) H' Q')
    (q : ∀ H', Same H H' → Q (.bl (z.cps.toList.all p)) H') :
    tCB (rAll K) (tCons (tLc (iStr (tVar i0)) (gName j) tYes te vs) tNil) σ H Q := by
  refine r_cb (r_cons ?_)
  refine r_lcStr (fun c => .bl (p c)) hv hz hw ht fun D H' nD sm e => ?_
  refine r_nil ⟨D, z.cps.toList.map p, rfl, sqL ?_, ?_⟩
  · rw [e, List.map_map]
    rfl
  · rw [List.all_map]
    exact q H' sm
end
/-! ## 7. draws, items, slices -/
section
variable {K : PySem.W.Frag} {σ : L2.St} {H : Hp} {Q : VK} {E : XK} {te : TE} {tl th : TO} {QO : Option Int → Hp → Prop}
theorem r_take {a : Addr} {n : Nat} {size : Int} (hB : Box a n H) (q : ∀ d H', 0 ≤ d → d < size → Box a (n + 1) H' → But a H H' → Q (.int d) H') (hn : n < 1000000 := by omega) (h0 : 0 < size := by decide) (h1 : size < 2 ^ 128 := by decide) : spTake [.ref a, .int size] H Q E :=
  ⟨a, n, size, rfl, hB, hn, h0, h1, q⟩
theorem r_ixS {z : Str} {d : Int} (h0 : 0 ≤ d) (h1 : d < (z.cps.toList.length : Int)) (hz : z.length ≤ 100000) (q : ∀ c, z.cps.toList[d.toNat]? = some c → Q (.str ⟨#[c]⟩) H) : rIxS (.str z) (.int d) H Q := by
  have l : d.toNat < z.cps.toList.length := by omega
  obtain ⟨c, hc⟩ : ∃ c, z.cps.toList[d.toNat]? = some c := ⟨_, List.getElem?_eq_getElem l⟩
  refine ⟨z, d, c, rfl, rfl, Nat.le_trans hz (by decide), ?_, q c hc⟩
  have e : d = ((d.toNat : Nat) : Int) := by omega
  rw [e]
  exact atI_nat hc
theorem r_ixLo {p : Addr} {xs : List V} {d : Int} (h : SqL K H p xs) (h0 : 0 ≤ d) (h1 : d < (xs.length : Int)) (q : ∀ v, v ∈ xs → xs[d.toNat]? = some v → Q v H) : rIxL K (.ref p) (.int d) H Q := by
  have l : d.toNat < xs.length := by omega
  obtain ⟨v, hv⟩ : ∃ v, xs[d.toNat]? = some v := ⟨_, List.getElem?_eq_getElem l⟩
  refine r_ixL h (v := v) ?_ (q v (List.mem_of_getElem? hv) hv)
  have e : d = ((d.toNat : Nat) : Int) := by omega
  rw [e]
  exact atI_nat hv
theorem r_sl {r : V → Option Int → Option Int → Hp → VK → Prop} (q : te σ H fun x H1 => tl σ H1 fun l H2 => th σ H2 fun u H3 => r x l u H3 Q) : tSl r te tl th σ H Q := q
theorem r_noPart (q : QO none H) : tNoPart σ H QO := q
theorem r_part (q : te σ H fun x H1 => ∃ i, x = .int i ∧ QO (some i) H1) : tPart te σ H QO := q
theorem r_isi {i : Int} {A : Int → Prop} (q : A i) : ∃ i', V.int i = .int i' ∧ A i' := ⟨i, rfl, q⟩
theorem r_slS {z : Str} {lo hi : Option Int} (hz : z.length ≤ 100000) (q : ∀ y : Str, y.length ≤ z.length → Q (.str y) H) : rSlS (.str z) lo hi H Q := ⟨z, rfl, Nat.le_trans hz (by decide), q _ (cutS_length z lo hi)⟩
end
theorem r_cut {a b : TS} {D : Ends} {σ : L2.St} {H : Hp} (Mid : L2.St → Hp → Prop) (h1 : a { D with nx := Mid } σ H) (h2 : ∀ σ' H', Mid σ' H' → b D σ' H') : C8.tCut a b D σ H := ⟨Mid, h1, h2⟩
theorem str_len_add (x y : Str) : (x ++ y).length = x.length + y.length := by
  have h : ∀ z : Str, z.length = z.cps.toList.length := fun z => (Array.length_toList).symm
  rw [h, h, h]; show (TL.tl (x ++ y)).length = _; rw [TL.tl_append]
  exact List.length_append
theorem lt1 {c d : Nat} : decide ([c] < [d]) = decide (c < d) := by
  by_cases h : c < d
  · rw [decide_eq_true h]
    exact decide_eq_true (List.Lex.rel h)
  · rw [decide_eq_false h]
    refine decide_eq_false fun z => ?_
    cases z with
    | rel q => exact h q
    | cons q => cases q
theorem sign_tl {c : Nat} : (⟨#[c]⟩ : Str).cps.toList = [c] := rfl
/-- a text begins with this sign -/
theorem starts1 (z : Str) (c : Nat) : Txt.startswith z ⟨#[c]⟩ = decide (z.cps.toList[0]? = some c) := by
  have h := PySem.StrLaws.subAt_one z c 0
  unfold Txt.startswith
  by_cases e : z.cps.toList[0]? = some c
  · obtain ⟨h1, h2⟩ := h.mpr e
    rw [decide_eq_true e, h2, decide_eq_true h1]
    rfl
  · rw [decide_eq_false e]
    by_cases h1 : 0 + (⟨#[c]⟩ : Str).length ≤ z.length
    · rw [decide_eq_true h1, Bool.true_and]
      exact Bool.eq_false_iff.mpr fun h2 => e (h.mp ⟨h1, h2⟩)
    · rw [decide_eq_false h1]
      rfl
end Bk

namespace Bk
open PySem PySem.Spec PyProof.Rows L2
/-! ## 9. defs that are run where no text is being told of a thing -/
structure FnG (P : Program) (w : World) (K : PySem.W.Frag) (mg : Str → Option Value) (base : Heap) (CX : CXT) (k : Nat) (f : Addr) (fd : FuncData) (ps : List Str) (sp : Sp) : Prop where
  len : ∀ vs H Q E, sp vs H Q E → vs.length = ps.length
  go : ∀ (A : Around) (ou : List Env) (s : Shared) (H : Hp) (ar : Args) (us : List Value) (vs : List V) (Q : VK) (E : XK), A.guards = some [] → Room k A → Env0 P w K mg base A ou s H → BindsTo s fd ar (ps.zip us) → Vals vs us → sp vs H Q E →
    codeAny (model P w) A (.call (.ref f) ar) (CR CX ou P w H s Q E) s
section
variable {P : Program} {w : World} {K : PySem.W.Frag} {mg : Str → Option Value} {base : Heap} {CX : CXT} {j k : Nat} {f : Addr} {fd : FuncData} {N ps : List Str} {sp : Sp} {x qual : Str} {st : Stmt}
theorem FnG.of (F : FnOk P w K mg base CX k f fd ps sp) : FnG P w K mg base CX k f fd ps sp := ⟨F.len, fun A ou s H ar us vs Q E _ => F.run A ou s H ar us vs Q E⟩
theorem FnG.up (F : FnG P w K mg base CX j f fd ps sp) (h : j ≤ k) : FnG P w K mg base CX k f fd ps sp := ⟨F.len, fun A ou s H ar us vs Q E g hr => F.go A ou s H ar us vs Q E g (hr.mono h)⟩
/-- by its body -/
theorem fun_okG (F : Fun K x qual st f fd) (S : FnScope N ps (defScope st)) (len : ∀ vs H Q E, sp vs H Q E → vs.length = ps.length)
    (hbody : ∀ (cdv : Value) (A : Around) (ou : List Env) (s : Shared) (H : Hp) (vs : List V) (Q : VK) (E : XK), (A.deeper (envOfC qual (defScope st) s.heap.objs.size f cdv)).guards = some [] → Room k (A.deeper (envOfC qual (defScope st) s.heap.objs.size f cdv)) → sp vs H Q E →
      ∃ t, PSs (cxOf CX0 P w K mg base N qual (defScope st) f cdv A ou s H E).nox (defBody st) t ∧ t { nx := fun _ H' => Q .non H', rt := Q } (start N vs) H) : FnG P w K mg base CX0 (k + 1) f fd ps sp := by
  obtain ⟨oc, od, kV, doc, pm, an, cdv, ct, osl, rfl, lk, hcd⟩ := F.ex
  refine ⟨len, fun A ou s H ar us vs Q E hg hr e0 hb rv hsp => ?_⟩
  have KX : K.In s.heap := e0.mod.kin.keeps fun b o z => (e0.bs b o z).1
  refine Att.call_fn KX (e0.mod.nolimit.keeps fun b o z => (e0.bs b o z).1) lk hcd hr.depth hb ?_ (fun s1 x1 => ?_) S.co S.gen S.kind
  · rw [List.all_eq_true]
    rintro ⟨n, v⟩ hy
    rcases S.par n (List.of_mem_zip hy).1 with q | q <;> simp [q]
  · obtain ⟨t, ht, hq⟩ := hbody cdv A ou s H vs Q E hg (hr.deeper _) hsp
    have I := inv_start (CX := CX0) (E := E) S hr.hd e0 (len _ _ _ _ hsp) rv x1
    refine wpAny_mono (ht.nox.run [] s1 (start N vs) H _ I hq) (fun fl s2 z => ?_) fun _ _ z => z
    cases fl with
    | ret u => exact let ⟨v, _, H2, J, r2, q2⟩ := z; ⟨v, H2, J.os, J.bare, J.base, J.hok, r2, q2⟩
    | next => exact let ⟨_, H2, J, q2⟩ := z; ⟨.non, H2, J.os, J.bare, J.base, J.hok, rfl, q2⟩
    | brk => exact (let ⟨_, _, _, q2⟩ := z; q2 : False).elim
    | cont => exact (let ⟨_, _, _, q2⟩ := z; q2 : False).elim
end
structure CalG (P : Program) (w : World) (K : PySem.W.Frag) (mg : Str → Option Value) (base : Heap) (CX : CXT) (k : Nat) (x : Str) (sp : Sp) : Prop where
  ex : ∃ (f : Addr) (fd : FuncData) (ps : List Str), mg x = some (.ref f) ∧ PySem.W.keepIn K (.ref f) = true ∧ FnG P w K mg base CX k f fd ps sp ∧ Binds K fd ps []
theorem CalG.mk' {P : Program} {w : World} {K : PySem.W.Frag} {mg : Str → Option Value} {base : Heap} {CX : CXT} {k : Nat} {x : Str} {sp : Sp} {f : Addr} {fd : FuncData} {ps : List Str} (g : mg x = some (.ref f)) (kp : PySem.W.keepIn K (.ref f) = true) (F : FnG P w K mg base CX k f fd ps sp) (b : Binds K fd ps []) :
    CalG P w K mg base CX k x sp := ⟨f, fd, ps, g, kp, F, b⟩
section
variable {X : Cx} {k j : Nat} {sp : Sp} {x : Str} {p pos : Pos} {e : Expr} {es : List Expr} {t : TA}
theorem pe_calG (c : CalG X.prog X.w X.K X.mg X.base CX0 k x sp) (ga : X.A.guards = some []) (hr : Room j X.A) (hk : k ≤ j) (hg : Gl X x) (ha : PA X (e :: es) t)
    (hdb : (x == ("__debug__" : Str)) = false := by decide) (he : starEach (e :: es) X.env = (false, eval e X.env) :: starEach es X.env := by rfl) (hpl : (backTo pos (starEach es X.env)).any (·.1) = false := by rfl) :
    PE X (.Call (.Name x p) (e :: es) [] pos) (tCall sp [] E0 t) := by
  obtain ⟨f, fd, ps, h1, h2, h3, h4⟩ := c.ex
  refine ⟨fun pins s σ H Q I h => wpAny_Call_Name_kw (ld_glob I hg h1 (PySem.W.callWith_K (h₀ := X.base) I.ok.mod.kin h2 (thn (ha.run pos pins s σ H _ I h) fun us s1 ⟨vs, H1, I1, r, q⟩ => ⟨I1.kIn, ?_⟩) he hpl) hdb)⟩
  have q' : sp vs H1 Q E0 := by have z : sp (vs ++ []) H1 Q E0 := q; rw [List.append_nil] at z; exact z
  have b := h4 s1 us I1.kIn (by rw [List.append_nil, ← r.length]; exact h3.len _ _ _ _ q')
  rw [List.append_nil] at b
  refine wpAny_call (codeAny_mono (h3.go X.A X.stack s1 H1 ⟨us, []⟩ us vs Q E0 ga (hr.mono hk) I1.env0 b r q') fun rr s2 z => ?_)
  match rr, z with
  | .ok (.ret _), z => exact I1.after z
end
/-! ### the head -/
section
variable {P : Program} {w : World} {K : PySem.W.Frag} {mg mb : Str → Option Value} {s : Shared} {a : Addr} {vs : List Value} {ns : List Int} {H : Hp}
theorem lawG_core {k : Nat} {fa : Addr} {fd : FuncData} {x : Str} {sp : Sp} (KX : K.In s.heap) (hns : s.heap.Ns mainGlobals mg) (hb : s.heap.Ns builtinsNs mb) (hbb : ∀ x : Str, x ≠ "__name__" → mb x = bootBuiltins x) (hlim : s.heap.NoLimit) (hg : s.gens = #[])
    (ha : s.heap.get? a = some { cls := .type "list", data := .seq vs.toArray }) (hr : Room k callerA)
    (F : ∀ base : Heap, K.In base → base.Ns mainGlobals mg → FnG P w K mg base CX0 k fa fd [x] sp) (hbind : ∀ (s : Shared) (u : Value), BindsTo s fd ⟨[u], []⟩ [(x, u)])
    (hO : Only H) (hq : sp [.ref a] H (fun v _ => v = .bl true) fun _ _ _ => False) (ok : HOk P w H s.heap) (hA : ∀ b, H b ≠ none → b = a ∧ K.lookup a = none) :
    codeAny (model P w) callerA (.call (.ref fa) ⟨[.ref a], []⟩) (fun r s' => r = .ok (.ret (.bool true)) ∧ OldK s.heap s'.heap ∧ s'.os = s.os ∧ AllBare s'.gens) s := by
  have un : ∀ {b : Addr} {o : Obj}, s.heap.get? b = some o → (b = a → K.lookup a ≠ none ∨ ∃ es ep, o.data = .dict es ep) → (hidT s.heap H).get? b = some o := fun {b o} e n => hidT_get e (by
    apply Classical.byContradiction
    intro z
    obtain ⟨rfl, kn⟩ := hA b z
    rcases n rfl with q | ⟨es, ep, q⟩
    · exact q kn
    · rw [ha] at e
      cases e
      exact nomatch q)
  have nsK : ∀ {b : Addr} {m : Str → Option Value}, s.heap.Ns b m → (hidT s.heap H).Ns b m := fun ⟨o, es, ep, e, d, r⟩ => ⟨o, es, ep, un e fun _ => .inr ⟨es, ep, d⟩, d, r⟩
  have hKb : K.In (hidT s.heap H) := fun b o e => un (KX b o e) fun z => .inl (by rw [← z, e]; exact Option.some_ne_none o)
  have e0 : Env0 P w K mg (hidT s.heap H) callerA [] s H := ⟨rfl, ⟨hKb, nsK hns, ⟨mb, nsK hb, hbb⟩, hlim.elim fun mc z => ⟨mc, nsK z.1, z.2⟩⟩, fun b o z => of_hidT z, Nat.le_of_eq (hidT_size _ _), trivial, fun _ z => absurd z List.not_mem_nil, ok, .of_eq hg⟩
  refine codeAny_mono ((F _ hKb (nsK hns)).go callerA [] s H ⟨[.ref a], []⟩ [.ref a] [.ref a] _ _ rfl hr e0 (hbind s (.ref a)) (.cons rfl .nil) hq) fun r s' h => ?_
  match r, h with
  | .ok (.ret u), h =>
    obtain ⟨v, H2, os, bare, un2, ok2, rv, q2⟩ := h
    obtain rfl : v = .bl true := q2
    obtain rfl : u = Value.bool true := rv
    refine ⟨rfl, OldK.of_keep fun b o e => ?_, os, bare⟩
    rcases hO b with z | ⟨ob, xs, z⟩
    · exact un2.keep b o e z List.not_mem_nil List.not_mem_nil
    · have o1 := (ok b _ z).1
      have o2 := (ok2 b _ (un2.frzs b ob _ z)).1
      rw [e] at o1
      rw [o1]
      exact o2
theorem lawG {k : Nat} {fa : Addr} {fd : FuncData} {x : Str} {sp : Sp} (KX : K.In s.heap) (hns : s.heap.Ns mainGlobals mg) (hb : s.heap.Ns builtinsNs mb) (hbb : ∀ x : Str, x ≠ "__name__" → mb x = bootBuiltins x) (hlim : s.heap.NoLimit) (hg : s.gens = #[])
    (ha : s.heap.get? a = some { cls := .type "list", data := .seq vs.toArray }) (hi : IntsAre vs ns) (hl : ns.length ≤ sizeLine) (hr : Room k callerA)
    (F : ∀ base : Heap, K.In base → base.Ns mainGlobals mg → FnG P w K mg base CX0 k fa fd [x] sp) (hbind : ∀ (s : Shared) (u : Value), BindsTo s fd ⟨[u], []⟩ [(x, u)])
    (hsp : ∀ H : Hp, Only H → SqL K H a (ns.map V.int) → sp [.ref a] H (fun v _ => v = .bl true) fun _ _ _ => False) :
    codeAny (model P w) callerA (.call (.ref fa) ⟨[.ref a], []⟩) (fun r s' => r = .ok (.ret (.bool true)) ∧ OldK s.heap s'.heap ∧ s'.os = s.os ∧ AllBare s'.gens) s := by
  have rv := vals_ints hi
  cases hk : K.lookup a with
  | some o =>
    have e := KX a o hk
    rw [ha] at e
    cases e
    exact lawG_core KX hns hb hbb hlim hg ha hr F hbind (fun _ => .inl rfl) (hsp (fun _ => none) (fun _ => .inl rfl) (.inr ⟨_, vs.toArray, _, hk, rfl, rfl, rfl, by rw [List.size_toArray, hi.length]; exact hl, rv⟩)) (fun b u z => nomatch z) fun b z => absurd rfl z
  | none =>
    have ke : (fun b => if b = a then some (HO.frz { cls := .type "list", data := .seq vs.toArray } (.lst (ns.map V.int))) else none) a = some (HO.frz { cls := .type "list", data := .seq vs.toArray } (.lst (ns.map V.int))) := if_pos rfl
    have only : ∀ b, (fun b => if b = a then some (HO.frz { cls := .type "list", data := .seq vs.toArray } (.lst (ns.map V.int))) else none) b ≠ none → b = a := fun b z => Classical.byContradiction fun n => z (if_neg n)
    have hO : Only (fun b => if b = a then some (HO.frz { cls := .type "list", data := .seq vs.toArray } (.lst (ns.map V.int))) else none) := fun b => by
      by_cases q : b = a
      · exact .inr ⟨_, _, if_pos q⟩
      · exact .inl (if_neg q)
    refine lawG_core KX hns hb hbb hlim hg ha hr F hbind hO (hsp _ hO (.inl (.inr ⟨_, ke⟩))) (fun b u z => ?_) fun b z => ⟨only b z, hk⟩
    obtain rfl := only b fun y => nomatch z.symm.trans y
    have z2 := ke.symm.trans z
    cases z2
    exact ⟨ha, by rw [List.length_map]; exact hl, vs, _, rv, ha⟩
end
theorem walk_ofG {l : PySem.W.OpenLaw} {n k : Nat} {q : Program} {loose : List Str} {XP : (Str → Option Value) → Heap → Prop} {YP : World → Heap → Prop} {d : DefRec} {K : Params → PySem.W.Frag} {sp : World → Sp} {x : Str}
    (hn : l.most = some n) (hn2 : n ≤ sizeLine) (hdf : d.params.defaults = []) (hr : Room k callerA) (hY : ∀ (w : World) (h : Heap), YP w h → (K w.params).In h)
    (F : ∀ (w : World) (mg : Str → Option Value) (fa : Addr) (h : Heap), (K w.params).In h → h.Ns mainGlobals mg → mg d.name = some (.ref fa) →
      ∃ fd : FuncData, (∀ (s : Shared) (u : Value), BindsTo s fd ⟨[u], []⟩ [(x, u)]) ∧ ∀ base : Heap, (K w.params).In base → base.Ns mainGlobals mg → FnG l.prog w (K w.params) mg base CX0 k fa fd [x] (sp w))
    (hsp : ∀ (w : World) (H : Hp) (a : Addr) (ns : List Int), ns.length ≤ n → Only H → SqL (K w.params) H a (ns.map V.int) → sp w [.ref a] H (fun v _ => v = .bl true) fun _ _ _ => False) :
    PySem.W.WalkO q loose XP YP l.row.toRowW d [] (fun f vs => PySem.call f vs) :=
  Att.attach_call hn hdf fun w s₀ s₁ mg mb fa o pm cd doc a vs ns G Y ho hd hcd hmg hobj hints hlen hg => by
    obtain ⟨fd, hb, hF⟩ := F w mg fa _ (hY w _ Y) G.T.g hmg
    exact lawG (hY w _ Y) G.T.g G.T.b G.T.builtins G.T.nolimit hg hobj hints (Nat.le_trans hlen hn2) hr hF hb fun H hO hS => hsp w H a ns hlen hO hS
/-! ## 10. a thing's text -/
mutual
theorem dp_flat {K : PySem.W.Frag} {H : Hp} : ∀ (d : PyData) (v : V), Dp K H v d → d.hasDict = false
  | .none, _, _ => by simp only [PyData.hasDict]
  | .bool _, _, _ => by simp only [PyData.hasDict]
  | .int _, _, _ => by simp only [PyData.hasDict]
  | .str _, _, _ => by simp only [PyData.hasDict]
  | .list ds, _, h => by
    cases h with
    | lst _ ha => simpa only [PyData.hasDict] using dp_flatAll ds _ ha
  | .tuple ds, _, h => by
    cases h with
    | tup _ ha => simpa only [PyData.hasDict] using dp_flatAll ds _ ha
  | .dict _, _, h => by cases h
theorem dp_flatAll {K : PySem.W.Frag} {H : Hp} : ∀ (ds : List PyData) (vs : List V), DpAll K H vs ds → PyData.hasDictAll ds = false
  | [], _, _ => by simp only [PyData.hasDictAll]
  | d :: ds, _, h => by
    cases h with
    | cons h1 h2 => simp only [PyData.hasDictAll, dp_flat d _ h1, dp_flatAll ds _ h2, Bool.or_false]
end
/-- z is how repr tells v -/
def Shw (K : PySem.W.Frag) (H : Hp) (v : V) (z : Str) : Prop := (∃ d, Dp K H v d ∧ d.showable = true ∧ d.shown.length ≤ sizeLine ∧ d.depth ≤ 60 ∧ z = d.shown) ∨ ∃ a, v = .ref a ∧ H a = some (.dK []) ∧ z = "{}"
section
variable {X : Cx} {j : Nat}
theorem call_repr_shw (ga : X.A.guards = some []) (hr : Room j X.A) : CallR X (.builtin "repr") (fun xs H Q => ∃ v z, xs = [v] ∧ Shw X.K H v z ∧ Q (.str z) H) := by
  intro pins s σ H xs us Q I r h
  obtain ⟨v, z, rfl, hs, q⟩ := h
  obtain ⟨u, rfl, rv⟩ := vals1 r
  have hu := hr.units
  rcases hs with ⟨d, hd, h1, h2, h3, rfl⟩ | ⟨a, rfl, ha, rfl⟩
  · have fin : ∀ {x : Str} {t : Nat}, x = d.shown → EP X pins σ Q (.str x s.toks) { s with toks := t } := fun {x t} e => ⟨.str _, H, I.tok _, ⟨_, rfl⟩, by rw [e]; exact q⟩
    have ref : ∀ {a : Addr}, v = .ref a → wpAny (model X.prog X.w) X.A (call (.builtin "repr") [u]) (EP X pins σ Q) X.xe s := fun {a} e => by
      subst e
      obtain rfl : u = Value.ref a := rv
      obtain ⟨as, rd⟩ := Dp.reads I d (.ref a) _ hd rfl
      exact repr_of_reads' rd h1 (PyData.noDict_hsm (dp_flat d _ hd)) ga (by omega) (fun _ _ e => e) (fun h' u tk hk => ⟨.str _, H, I.kept hk, ⟨_, rfl⟩, q⟩) h2
    cases hd with
    | non =>
      cases rv
      exact PySem.P.repr_of_none (fin (by simp only [PyData.shown]))
    | bl b =>
      cases rv
      exact PySem.P.repr_of_bool (fin (by simp only [PyData.shown]))
    | int i =>
      obtain ⟨t, rfl⟩ := rv
      exact PySem.P.repr_of_int (by simpa only [PyData.showable, decide_eq_true_eq] using h1) (fin (by simp only [PyData.shown]))
    | str x =>
      obtain ⟨t, rfl⟩ := rv
      exact PySem.P.repr_of_str (fin (by simp only [PyData.shown])) (by simpa only [PyData.shown] using h2)
    | lst _ _ => exact ref rfl
    | tup _ _ => exact ref rfl
  · obtain rfl : u = Value.ref a := rv
    obtain ⟨_, hm, vs, kv, o, es, ep, ho, hx, hde, _, pr, _⟩ := I.hok a _ ha
    cases kv
    have e0 : es.toList = [] := by
      have z := pr
      generalize es.toList = l at z
      cases z
      rfl
    have hc : o.cls = .type "dict" := hx.1
    have rd : Reads s.heap (.ref a) (.dict []) [a] := by
      have z : Reads s.heap (.ref a) (.dict []) (a :: [] ++ []) := .dict ho hc hde (by rw [e0]; exact .nil) (by rw [e0]; exact .nil)
      exact z
    have nm : sysModules ∉ [a] := fun z => by
      rw [List.mem_singleton.mp z] at hm
      exact absurd hm (by simp)
    have dp : (PyData.dict []).depth = 1 := by simp [PyData.depth, PyData.depthKv]
    have tx : (PyData.dict []).shown = ("{}" : Str) := by simp [PyData.shown, PyData.shownKv]; rfl
    refine repr_of_reads' rd (by simp only [PyData.showable, PyData.showableKv]) (fun _ => nm) ga (by rw [dp]; omega) (fun _ _ e => e) (fun h' u tk hk => ⟨.str _, H, I.kept hk, ⟨_, rfl⟩, ?_⟩) ?_
    · rw [tx]
      exact q
    · rw [tx]
      decide
end
end Bk

namespace Bk
open PySem PySem.Spec PyProof.Rows L2
/-! ## 11. try: .. except A as e: .. except B as e: .. , what none of them takes does not come -/
abbrev ClA := Value × Nat × (Addr → Value → Option Addr → TS)
def offI (i : Nat) (D : Ends) : Ends := { nx := fun τ G => D.nx (τ.set i none) G, rt := D.rt, bk := fun τ G => D.bk (τ.set i none) G, ct := fun τ G => D.ct (τ.set i none) G }
def wAM (K : PySem.W.Frag) (D : Ends) : List ClA → WX
  | [] => fun _ _ _ _ => False
  | q :: l => fun cls d τ G => ∃ b, PySem.W.exmOne K cls q.1 = some b ∧ (b = true → ∀ a, G a = none → q.2.2 a cls d (offI q.2.1 D) (τ.set q.2.1 (some (.ref a))) G) ∧ (b = false → wAM K D l cls d τ G)
inductive HdA (X : Cx) : List ExceptHandler → List ClA → Prop
  | stop {hds : List ExceptHandler} : HdA X hds []
  | more {x n : Str} {c : Value} {i : Nat} {ts : Addr → Value → Option Addr → TS} {b : Stmt} {bs : List Stmt} {p1 p2 : Pos} {hds : List ExceptHandler} {l : List ClA} (nm : Names X x c) (hi : X.N[i]? = some n) (hn : X.env.kindOf n = some .local)
      (su : ∀ (a : Addr) (oe : Obj) (cls : Value) (d : Option Addr) (pn : List (Addr × Obj)), Zc cls d oe → (∃ vs, oe.data = .fields vs) → PSs (X.suite a ((a, oe) :: pn)) (b :: bs) (ts a cls d)) (r : HdA X hds l) :
      HdA X (.ExceptHandler (some (.Name x p1)) (some n) (b :: bs) p2 :: hds) ((c, i, ts) :: l)
section
variable {X : Cx} {body : List Stmt} {h₀ : ExceptHandler} {hds : List ExceptHandler} {l : List ClA} {pos : Pos} {tb : WX → TS}
theorem ps_try_asM (st : X.stack = X.env :: X.outer) (fr : X.env.frame = some X.env.locals) (nd : X.N.Nodup)
    (hb : ∀ (W : WX) (pn : List (Addr × Obj)) (xe : Value → Shared → Prop), Takes (X.tr pn xe) W → PassesOwn (model X.prog X.w) X.A X.env xe → PSs (X.tr pn xe) body (tb W))
    (hh : HdA X (h₀ :: hds) l) : PS X (.Try body (h₀ :: hds) [] [] pos) (fun D τ G => tb (wAM X.K D l) D τ G) := by
  refine ⟨fun pins s τ G D I hq => wpAny_Try_except ?_⟩
  have ok := I.ok
  refine wpAny_mono ((hb (wAM X.K D l) (X.pn ++ pins) _ (fun u s2 z => ?_) PassesOwn.looking).run [] s τ G D (I.toTry _) hq) (fun fl s2 z => ?_) (fun _ _ z => z)
  · -- what came out of the body
    obtain ⟨a, B, sI, pins2, τ2, G2, cls, d, rfl, J2, nb, up, sky, na, os, ag, w⟩ := z
    have J : Inv X pins τ2 G2 sI := J2.ofTry ok
    refine Sky.land Zc.steady (show X.A.frames = some (X.env :: X.outer) by rw [ok.frames, st]) fr (by rw [← st]; exact sky) fun h3 fl3 up3 => ?_
    obtain ⟨o3, v3, g3, z3, d3⟩ := fl3.there
    have J3 : Inv X pins τ2 G2 { s2 with heap := h3 } := J.landed nb fl3.1 (up.trans up3) os ag
    have out : a ∉ frs (X.env :: X.outer) := fun m => by
      obtain ⟨_, o4, g4, n4⟩ := fl3.2.2.1.mem m
      rw [g3] at g4
      cases g4
      exact n4 _ d3
    have aL : a ≠ X.env.locals := fun e => out (List.mem_filterMap.mpr ⟨X.env, List.mem_cons_self, by rw [fr, e]⟩)
    have aF : a ∉ X.fs := fun m => by
      obtain ⟨e, me, q⟩ := List.mem_filterMap.mp m
      exact out (List.mem_filterMap.mpr ⟨e, List.mem_cons_of_mem _ me, q⟩)
    have S3 := J3.suite g3 d3 na aL aF
    have all : ∀ {hs : List ExceptHandler} {k : List ClA}, HdA X hs k → wAM X.K D k cls d τ2 G2 → wpAny (model X.prog X.w) X.A (handleBy (.ref a) X.env hs) (SP X pins D) X.xe { s2 with heap := h3 } := by
      intro hs k hk
      induction hk with
      | stop => exact fun z => z.elim
      | @more x n c i ts b bs p1 p2 hs2 k2 nm hi hn su r ih =>
        rintro ⟨yes, e1, w1, w2⟩
        refine wpAny_handleBy_cons (codeAny_handlers_test ?_) (fun q => nomatch q)
        have T1 : PySem.W.Looks (model X.prog X.w) h3 (typeOf (.ref a)) cls := fun A Q E s k q => wpAny_typeOf_ref (k _ _ g3) (by rw [z3.1]; exact q)
        have T2 := PySem.W.exm_one (M := model X.prog X.w) J3.kIn T1 e1
        have ask : ∀ {Q : Value → Shared → Prop} {E : Value → Shared → Prop}, Q c { s2 with heap := h3 } → wpAny (model X.prog X.w) (X.A.mark (some (.ref a))) (eval (.Name x p1) X.env) Q E { s2 with heap := h3 } := fun {Q E} q => by
          obtain ⟨g1, g2, m1 | ⟨m1, m2, m3⟩⟩ := nm
          · exact ld_glob (X := X.suite a ((a, o3) :: (X.pn ++ pins))) S3 g1 m1 q g2
          · exact ld_blt (X := X.suite a ((a, o3) :: (X.pn ++ pins))) S3 g1 m1 m2 q m3 g2
        refine ask (T2.here ?_)
        match yes, w1, w2 with
        | false, w1, w2 => exact ih (w2 rfl)
        | true, w1, w2 =>
          refine codeAny_handlers_suite_as (HandSPX.lands_againZ fl3 fun h4 fl4 up4 => ?_)
          obtain ⟨o4, v4, g4, z4, d4⟩ := fl4.there
          have S4 := (J.landed nb fl4.1 ((up.trans up3).trans up4) os ag : Inv X pins τ2 G2 { s2 with heap := h4 }).suite g4 d4 na aL aF
          refine store_ok (X := X.suite a ((a, o4) :: (X.pn ++ pins))) (v := .ref a) S4 nd hi (.inl hn) rfl (fun s5 S5 => ?_) (.inr hn)
          refine wpAny_mono ((su a o4 cls d (X.pn ++ pins) z4 ⟨_, d4⟩).run [] s5 _ G2 _ S5 (w1 rfl a na)) (fun fl s6 z6 => ?_) fun _ _ z6 => z6.elim
          have back : ∀ {τ6 : L2.St} {G6 : Hp} {R : Shared → Prop}, Inv (X.suite a ((a, o4) :: (X.pn ++ pins))) [] τ6 G6 s6 → (∀ s7, Inv X pins (τ6.set i none) G6 s7 → R s7) →
              wpAny (model X.prog X.w) X.A (do bindName X.env n .none; unbindBehindTheSuite X.env n p2) (fun _ s7 => R s7) X.xe s6 := fun {τ6 G6 R} S6 f => gone_ok (S6.unsuite ok) nd hi hn f
          match fl, z6 with
          | .next, ⟨_, _, S6, q6⟩ => exact back S6 fun s7 J7 => ⟨_, _, J7, q6⟩
          | .brk, ⟨_, _, S6, q6⟩ => exact back S6 fun s7 J7 => ⟨_, _, J7, q6⟩
          | .cont, ⟨_, _, S6, q6⟩ => exact back S6 fun s7 J7 => ⟨_, _, J7, q6⟩
          | .ret u, ⟨_, _, _, S6, r6, q6⟩ => exact back S6 fun s7 J7 => ⟨_, _, _, J7, r6, q6⟩
    exact all hh w
  · match fl, z with
    | .next, ⟨_, _, J, q⟩ => exact wpAny_execs_nil ⟨_, _, J.ofTry ok, q⟩
    | .brk, ⟨_, _, J, q⟩ => exact ⟨_, _, J.ofTry ok, q⟩
    | .cont, ⟨_, _, J, q⟩ => exact ⟨_, _, J.ofTry ok, q⟩
    | .ret u, ⟨_, _, _, J, r, q⟩ => exact ⟨_, _, _, J.ofTry ok, r, q⟩
end
end Bk

namespace Bk
open PySem PySem.Spec PyProof.Rows L2
/-! ## 12. enumerate of a tuple -/
theorem meets_enum1 {v : Value} {o : Obj} {S : Heap → Prop} (B : Begins v o S) :
    Meets (Builtin.«enumerate.__new__» ⟨[.type "enumerate", v], []⟩) (fun _ R s => S s.heap ∧
      R (.ok (.ret (.ref (s.heap.push o).objs.size))) { s with heap := (s.heap.push o).push { cls := .type "enumerate", data := .fields #[.none, .bool false, .ref s.heap.objs.size, rawInt 0, .none, .none] } }) :=
  .of_wp fun prog w A R s z => by
    obtain ⟨hp, g, d, tk, os⟩ := s
    obtain ⟨z1, z2⟩ := z
    have sub := sub_enumerate
    have it : ∀ {A' : Around} {E : Value → Shared → Prop} {Q : Value → Shared → Prop}, Q (.ref hp.objs.size) ⟨hp.push o, g, d, tk, os⟩ → wpAny (model prog w) A' (pyIter v) Q E ⟨hp, g, d, tk, os⟩ := fun q => B.iter prog w _ _ _ _ z1 q
    wp_walk using it
    refine wpAny_stack_any fun st => wpAny_pure ?_
    split
    · rename_i c _ _ _ _ _
      cases (c == Value.type "enumerate") <;> (wp_walk using it; exact ⟨_, rfl, z2⟩)
    · wp_walk using it
      exact ⟨_, rfl, z2⟩
theorem enum1 {prog : Program} {w : World} {A : Around} {E : Value → Shared → Prop} {s : Shared} {v : Value} {o : Obj} {S : Heap → Prop} {Q : Value → Shared → Prop} (B : Begins v o S) (z : S s.heap)
    (q : ∀ h', IsEnum h' (s.heap.objs.size + 1) s.heap.objs.size 0 .none → h'.get? s.heap.objs.size = some o → h'.objs.size = s.heap.objs.size + 2 → (∀ b u, s.heap.get? b = some u → h'.get? b = some u) → Q (.ref (s.heap.objs.size + 1)) { s with heap := h' }) :
    wpAny (model prog w) A (call (.type "enumerate") [v]) Q E s := by
  refine callType_new F.called_enumerate (by decide) (F.typeCall_enumerate_1 _) (F.newCall_enumerate_1 _) (fun u => F.args_object_init_2 u _) F.entry_enumerate_new (meets_enum1 B) ⟨z, ?_⟩
  have sz : (s.heap.push o).objs.size = s.heap.objs.size + 1 := Heap.size_push ..
  have top := Heap.get?_push_size (s.heap.push o) (o := { cls := .type "enumerate", data := .fields #[.none, .bool false, .ref s.heap.objs.size, rawInt 0, .none, .none] }) rfl
  show _ ∧ _
  rw [sz] at top ⊢
  exact ⟨⟨_, top, rfl⟩, q _ top (Heap.get?_push_of_some _ (Heap.get?_push_size _ B.free)) (by rw [Heap.size_push, sz]) fun b u e => Heap.get?_push_of_some _ (Heap.get?_push_of_some _ e)⟩
/-- the tuple's items in new pairs -/
def Itu (K : PySem.W.Frag) (a : Addr) : It :=
  ⟨fun i H => ∃ (xs : List V) (x : V), SqT K H a xs ∧ xs[i]? = some x, fun i H v H' => ∃ T x, v = .ref T ∧ H T = none ∧ H' = upd H T (.tup [.int (i : Nat), x]) ∧ ∀ xs, SqT K H a xs → xs[i]? = some x, fun i H => ∃ xs : List V, SqT K H a xs ∧ xs.length ≤ i⟩
theorem turn_enumT {P : Program} {w : World} {K : PySem.W.Frag} {elts : List Expr} {kk : Nat} {tpos : Pos} (a e it : Addr) (ai : a ≠ it) (ae : a ≠ e) :
    Turn P w K (.Tuple elts kk tpos) (Itu K a) [e, it] e (fun i h => (∃ old, IsEnum h e it ((i : Nat) : Int) old) ∧ h.IsTupleIter it a i ∧ e ≠ it) where
  mem := List.mem_cons_self
  obj := fun i h st b hb => by
    obtain ⟨⟨old, he⟩, ⟨o, ho, _, hd⟩, _⟩ := st
    rcases List.mem_cons.mp hb with z | z
    · subst z
      exact ⟨_, he, fun v q => nomatch q⟩
    · exact ⟨o, by rw [List.mem_singleton.mp z]; exact ho, fun v q => by rw [hd] at q; exact nomatch q⟩
  keep := fun i h h' st k => ⟨st.1.elim fun old z => ⟨old, k e List.mem_cons_self _ z⟩, st.2.1.at fun o q => k it (List.mem_cons_of_mem _ List.mem_cons_self) o q, st.2.2⟩
  item := by
    intro X hP hw hK hc i pins s σ H E I hf st hg
    subst hP hw hK
    obtain ⟨⟨old, he⟩, hit, ne⟩ := st
    obtain ⟨xs, x, hq, hx⟩ := hg
    obtain ⟨its, rv, p, _⟩ := I.tuple hq
    obtain ⟨u, hu, ru⟩ := rv.get hx
    have e1 := Heap.lt_size he
    have i1 : it < s.heap.objs.size := let ⟨_, q, _⟩ := hit; Heap.lt_size q
    have li : i < its.toArray.size := by
      rw [List.size_toArray]
      exact (List.getElem?_eq_some_iff.mp hu).1
    refine wpAny_pyNext_enum_itemD (Draws.tuple (show X.A.in1.handled = none from I.ok.hd hc) it a ai its.toArray) he ⟨hit, p⟩ li ne (fun z => ?_) fun v h' tk hv ho hs hT _ hk => ?_
    · rcases List.mem_cons.mp z with z | z
      · exact ne z
      · exact ae (List.mem_singleton.mp z).symm
    obtain rfl : v = u := by
      have hv' : its.toArray[i]? = some v := hv
      rw [List.getElem?_toArray, hu] at hv'
      exact (Option.some.inj hv').symm
    refine ⟨_, rfl, wpAny_letOwnedTupleGo_enum (s := { s with heap := h', toks := tk + 1 }) ho fun h2 he2 sb => ?_⟩
    have T2 : h2.get? s.heap.objs.size = some { cls := .type "tuple", data := .seq #[.int i tk, v] } := (sb.2 _ (Nat.ne_of_gt e1)).trans hT
    have fresh := I.hok.fresh (Nat.le_refl s.heap.objs.size)
    have J : Inv X pins σ (upd H s.heap.objs.size (.tup [.int (i : Nat), x])) { s with heap := h2, toks := tk + 1 } :=
      I.turnedNew (ch := [e, it]) (fun b ob hb q => (sb.2 b (fun z => hb (by simp [z]))).trans (hk b ob (fun z => hb (by simp [z])) (fun z => hb (by simp [z])) q)) hf (Nat.le_refl _)
        (show ObjOk X.prog X.w _ h2 _ (.tup [.int (i : Nat), x]) from ⟨Nat.le_of_ble_eq_true rfl, [.int i tk, v], .cons ⟨_, rfl⟩ (.cons ru .nil), ⟨_, T2, rfl, _, rfl⟩⟩)
    refine ⟨.ref s.heap.objs.size, _, J, rfl, ⟨_, x, rfl, fresh, rfl, fun ys hy => by rw [I.tuple_inj hy hq]; exact hx⟩, ⟨⟨v, ?_⟩, hs.1.at fun o q => (sb.2 it (Ne.symm ne)).trans q, ne⟩, fun b hb => ?_⟩
    · rw [show ((i + 1 : Nat) : Int) = (i : Int) + 1 by omega]
      exact he2
    · have lb : b < s.heap.objs.size := by
        rcases List.mem_cons.mp hb with z | z
        · rw [z]; exact e1
        · rw [List.mem_singleton.mp z]; exact i1
      rw [upd_ne (Nat.ne_of_lt lb)]
      exact (hf b hb).1
  done := by
    intro X hP hw hK hc i pins s σ H E I hf st hg
    subst hP hw hK
    obtain ⟨⟨old, he⟩, hit, ne⟩ := st
    obtain ⟨xs, hq, hx⟩ := hg
    obtain ⟨its, rv, p, _⟩ := I.tuple hq
    obtain ⟨f0, f1, f2, f3, f4, f5⟩ := hf it (List.mem_cons_of_mem _ List.mem_cons_self)
    have ln := rv.length
    have hn : its.toArray[i]? = none := by
      rw [List.getElem?_toArray]
      exact List.getElem?_eq_none (by omega)
    have hT : s.TypeIs (.ref e) "enumerate" := ⟨_, he, rfl⟩
    unfold pyNext
    refine wpAny_bind (wpAny_attempt (wpAny_callSpecial?_slot (name := Str.ofString "__next__") hT F.slot_enumerate_next
      (wpAny_call_entry F.slot_enumerate_next hT F.entry_enumerate_next ?_ (F.args_enumerate_next_1 _))))
    show wpAny (model X.prog X.w) _ (field (.ref e) 2 >>= _) _ _ _
    refine wpAny_bind (wpAny_field he rfl (x := .ref it) rfl ?_)
    refine wpAny_bind (wpAny_nextOf_tuple_end (I.ok.hd hc) hit p hn fun h' x he' hx' => ?_)
    obtain ⟨o, ho, hcl⟩ := hx'
    exact wpAny_bind (wpAny_isInstance (T := "StopIteration") (b := true) ⟨o, ho, hcl⟩ isSubtype_stop (wpAny_pure ⟨rfl, I.turned (t' := s.toks) (fun b o hb q => he' b o hb q) f0 f1 f3 f4 f5⟩))
  self := fun A i s Q E st h => let ⟨⟨_, he⟩, _⟩ := st; wpAny_pyIter_enum he h
def iEnumA (K : PySem.W.Frag) (ta : TA) : TI := fun σ H R => ta σ H fun vs H1 => ∃ a xs, vs = [.ref a] ∧ ((SqL K H1 a xs ∧ R (Ite K a) H1) ∨ (SqT K H1 a xs ∧ R (Itu K a) H1))
def iSeqA (K : PySem.W.Frag) (te : TE) : TI := fun σ H R => te σ H fun x H1 => ∃ a xs, x = .ref a ∧ ((SqL K H1 a xs ∧ R (Itl K a) H1) ∨ (SqT K H1 a xs ∧ R (Itt K a) H1))
section
variable {X : Cx} {e tg : Expr} {ta : TA} {te : TE} {p pos tpos : Pos} {elts : List Expr} {kk : Nat}
theorem pi_enumA (hg : Gl X "enumerate") (hm : X.mg "enumerate" = none) (ha : PA X [e] ta) (hs : starEach [e] X.env = [(false, eval e X.env)] := by rfl) : PI X (.Tuple elts kk tpos) (.Call (.Name "enumerate" p) [e] [] pos) (iEnumA X.K ta) := by
  refine ⟨fun pins s σ H R I h => Call_ (ld_blt I hg hm boot_enumerate (PyProof.Rows.callWith_type1 (thn (ha.run pos pins s σ H _ I h) fun us s1 ⟨vs, H1, I1, r1, q1⟩ => ?_) hs rfl))⟩
  obtain ⟨a, xs, rfl, q⟩ := q1
  obtain ⟨u, rfl, rv⟩ := vals1 r1
  obtain rfl : u = Value.ref a := rv
  have near : ∀ {b : Addr}, b ∈ [s1.heap.objs.size + 1, s1.heap.objs.size] → FpOk X pins H1 b := fun {b} hb => by
    have le : s1.heap.objs.size ≤ b := by
      rcases List.mem_cons.mp hb with z | z
      · rw [z]; exact Nat.le_succ _
      · rw [List.mem_singleton.mp z]; exact Nat.le_refl _
    exact I1.fpOk le (I1.hok.fresh le)
  rcases q with ⟨hq, q⟩ | ⟨hq, q⟩
  · obtain ⟨its, rv, p', hz⟩ := I1.list hq
    refine call_enumerate_list p'.isList fun h' he hit _ hk => wpAny_pyIter_enum he ?_
    exact ⟨s1.heap.objs.size + 1, [s1.heap.objs.size + 1, s1.heap.objs.size], _, _, H1, rfl, I1.kept (t' := s1.toks) hk, turn_enum a (s1.heap.objs.size + 1) s1.heap.objs.size, ⟨⟨.none, he⟩, hit, Nat.succ_ne_self _⟩, fun b hb => near hb, q⟩
  · obtain ⟨its, rv, p', hz⟩ := I1.tuple hq
    have la : a < s1.heap.objs.size := let ⟨_, z, _⟩ := p'; Heap.lt_size z
    refine enum1 (begins_tuple a its.toArray) p' fun h' he hit _ hk => wpAny_pyIter_enum he ?_
    exact ⟨s1.heap.objs.size + 1, [s1.heap.objs.size + 1, s1.heap.objs.size], _, _, H1, rfl, I1.kept (t' := s1.toks) hk, turn_enumT a (s1.heap.objs.size + 1) s1.heap.objs.size (Nat.ne_of_lt la) (Nat.ne_of_lt (Nat.lt_succ_of_lt la)), ⟨⟨.none, he⟩, ⟨_, hit, rfl, rfl⟩, Nat.succ_ne_self _⟩, fun b hb => near hb, q⟩
theorem pi_seqA (he : PE X e te) : PI X tg e (iSeqA X.K te) := by
  refine ⟨fun pins s σ H R I h => thn (he.run pins s σ H _ I h) fun v s1 ⟨x, H1, I1, r1, q1⟩ => ?_⟩
  obtain ⟨a, xs, rfl, q⟩ := q1
  obtain rfl : v = Value.ref a := r1
  have near : ∀ {b : Addr}, b ∈ [s1.heap.objs.size] → FpOk X pins H1 b := fun {b} hb => by
    rw [List.mem_singleton.mp hb]
    exact I1.fpOk (Nat.le_refl _) (I1.hok.fresh (Nat.le_refl _))
  have J : ∀ {o : Obj}, Inv X pins σ H1 { s1 with heap := s1.heap.push o } := fun {o} => I1.kept (t' := s1.toks) fun b u z => Heap.get?_push_of_some _ z
  rcases q with ⟨hq, q⟩ | ⟨hq, q⟩
  · obtain ⟨its, rv, p', hz⟩ := I1.list hq
    exact wpAny_pyIter_list p'.isList ⟨s1.heap.objs.size, [s1.heap.objs.size], _, _, H1, rfl, J, turn_list a _, ⟨_, Heap.get?_push_size _ rfl, rfl, rfl⟩, fun b hb => near hb, q⟩
  · obtain ⟨its, rv, p', hz⟩ := I1.tuple hq
    exact wpAny_pyIter_tuple (show s1.heap.IsTuple a its.toArray from p') ⟨s1.heap.objs.size, [s1.heap.objs.size], _, _, H1, rfl, J, turn_tuple a _, ⟨_, Heap.get?_push_size _ rfl, rfl, rfl⟩, fun b hb => near hb, q⟩
end
section
variable {K : PySem.W.Frag} {a : Addr} {xs : List V}
theorem walk_enumT : Walk (Itu K a) xs.length (fun H => SqT K H a xs) (YPair (fun i => some (.int (i : Nat))) (fun i => xs[i]?)) :=
  ⟨fun i _ hi q => ⟨xs, xs[i], q, List.getElem?_eq_getElem hi⟩, fun _ q => ⟨xs, q, Nat.le_refl _⟩, fun i H v H' _ q ⟨T, x, h1, h2, h3, h4⟩ => ⟨T, .int (i : Nat), x, h1, h2, h3, rfl, h4 xs q⟩⟩
end
end Bk

namespace Bk
open PySem PySem.Spec PyProof.Rows L2
/-! ## 13. defs that refuse -/
/-- what a refusal is: a new own exception of the class at C, v its only field -/
def Refuse (C : Addr) (v : V) (H : Hp) (E : XK) : Prop := ∀ d H', H d = none → Same H H' → H' d = some (.xd [("found", v)]) → E (.ref C) (some d) H'
theorem Refuse.same {C : Addr} {v : V} {H H' : Hp} {E : XK} (r : Refuse C v H E) (s : Same H H') (n : ∀ d, H' d = none → H d = none) : Refuse C v H' E := fun d H2 hd s2 e => r d H2 (n d hd) (s.trans s2) e
def noE : XK := fun _ _ _ => False
structure CalX (P : Program) (w : World) (K : PySem.W.Frag) (mg : Str → Option Value) (base : Heap) (k : Nat) (x : Str) (sp : Sp) : Prop where
  ex : ∃ (f : Addr) (fd : FuncData) (ps : List Str), mg x = some (.ref f) ∧ PySem.W.keepIn K (.ref f) = true ∧ FnOk P w K mg base (L2.CX P w) k f fd ps sp ∧ Binds K fd ps []
theorem CalX.mk' {P : Program} {w : World} {K : PySem.W.Frag} {mg : Str → Option Value} {base : Heap} {k : Nat} {x : Str} {sp : Sp} {f : Addr} {fd : FuncData} {ps : List Str} (g : mg x = some (.ref f)) (kp : PySem.W.keepIn K (.ref f) = true) (F : FnOk P w K mg base (L2.CX P w) k f fd ps sp) (b : Binds K fd ps []) :
    CalX P w K mg base k x sp := ⟨f, fd, ps, g, kp, F, b⟩
/-- with keywords alone -/
structure CalNX (P : Program) (w : World) (K : PySem.W.Frag) (mg : Str → Option Value) (base : Heap) (k : Nat) (ks : List Str) (x : Str) (sp : Sp) (gV : List V → List V → List V) : Prop where
  ex : ∃ (f : Addr) (fd : FuncData) (ps : List Str) (g : List Value → List Value → List Value), mg x = some (.ref f) ∧ PySem.W.keepIn K (.ref f) = true ∧ FnOk P w K mg base (L2.CX P w) k f fd ps sp ∧ KBn K fd ps 0 ks g gV
theorem CalNX.mk' {P : Program} {w : World} {K : PySem.W.Frag} {mg : Str → Option Value} {base : Heap} {k : Nat} {ks : List Str} {x : Str} {sp : Sp} {gV : List V → List V → List V} {f : Addr} {fd : FuncData} {ps : List Str} {g : List Value → List Value → List Value} (a : mg x = some (.ref f)) (kp : PySem.W.keepIn K (.ref f) = true)
    (F : FnOk P w K mg base (L2.CX P w) k f fd ps sp) (b : KBn K fd ps 0 ks g gV) : CalNX P w K mg base k ks x sp gV := ⟨f, fd, ps, g, a, kp, F, b⟩
section
variable {X : Cx} {k j : Nat} {ks : List Str} {sp : Sp} {x : Str} {p pos : Pos} {e : Expr} {es : List Expr} {kws : List Keyword} {t tk : TA} {W : WX} {gV : List V → List V → List V}
/-- in a def that may let it out itself -/
theorem pe_calX {E : XK} (c : CalX X.prog X.w X.K X.mg X.base k x sp) (hr : Room j X.A) (hk : k ≤ j) (hg : Gl X x) (tk : Takes X (fun cls d _ H => E cls d H)) (ha : PA X (e :: es) t)
    (hdb : (x == ("__debug__" : Str)) = false := by decide) (he : starEach (e :: es) X.env = (false, eval e X.env) :: starEach es X.env := by rfl) (hpl : (backTo pos (starEach es X.env)).any (·.1) = false := by rfl) :
    PE X (.Call (.Name x p) (e :: es) [] pos) (tCall sp [] E t) := by
  obtain ⟨f, fd, ps, h1, h2, h3, h4⟩ := c.ex
  exact pe_call h3 (hr.mono hk) hg h1 h2 h4 .nil (passes_call tk fun _ _ _ _ h => h) ha hdb he hpl
theorem pass_no : Passes (L2.CX X.prog X.w) X noE := fun _ _ _ _ _ _ _ z => by
  obtain ⟨_, _, _, _, _, _, _, _, _, _, _, _, q⟩ := z
  exact q.elim
/-- where it is not refused -/
theorem pe_calY (c : CalX X.prog X.w X.K X.mg X.base k x sp) (hr : Room j X.A) (hk : k ≤ j) (hg : Gl X x) (ha : PA X (e :: es) t)
    (hdb : (x == ("__debug__" : Str)) = false := by decide) (he : starEach (e :: es) X.env = (false, eval e X.env) :: starEach es X.env := by rfl) (hpl : (backTo pos (starEach es X.env)).any (·.1) = false := by rfl) :
    PE X (.Call (.Name x p) (e :: es) [] pos) (tCall sp [] noE t) := by
  obtain ⟨f, fd, ps, h1, h2, h3, h4⟩ := c.ex
  exact pe_call h3 (hr.mono hk) hg h1 h2 h4 .nil pass_no ha hdb he hpl
theorem pe_calNY (c : CalNX X.prog X.w X.K X.mg X.base k ks x sp gV) (hr : Room j X.A) (hk : k ≤ j) (hg : Gl X x) (hkw : PK X kws tk)
    (hall : (backToKw pos (keywordEach kws X.env)).all (·.1.isSome) = true := by rfl) (hks : (backToKw pos (keywordEach kws X.env)).filterMap (·.1) = ks := by rfl)
    (hdb : (x == ("__debug__" : Str)) = false := by decide)
    (hpl : ((backTo pos (starEach [] X.env)).any (·.1) || (backToKw pos (keywordEach kws X.env)).any (·.1.isNone)) = false := by rfl) :
    PE X (.Call (.Name x p) [] kws pos) (tCallN 0 ks.length sp gV noE tNil tk) := by
  obtain ⟨f, fd, ps, g, h1, h2, h3, h4⟩ := c.ex
  exact pe_callN0 h3 (hr.mono hk) hg h1 h2 h4 pass_no hkw hall hks hdb hpl
/-- in a try -/
theorem pe_calT (c : CalX X.prog X.w X.K X.mg X.base k x sp) (hr : Room j X.A) (hk : k ≤ j) (hg : Gl X x) (tk : Takes X W) (ha : PA X (e :: es) t)
    (hdb : (x == ("__debug__" : Str)) = false := by decide) (he : starEach (e :: es) X.env = (false, eval e X.env) :: starEach es X.env := by rfl) (hpl : (backTo pos (starEach es X.env)).any (·.1) = false := by rfl) :
    PE X (.Call (.Name x p) (e :: es) [] pos) (tCallS sp (WE W) t) := by
  obtain ⟨f, fd, ps, h1, h2, h3, h4⟩ := c.ex
  exact pe_callS h3 (hr.mono hk) hg h1 h2 h4 (passAt tk) ha hdb he hpl
end
section
variable {K : PySem.W.Frag} {σ : L2.St} {H : Hp} {Q : VK} {D : Ends} {l : List ClA} {q : ClA} {cls : Value} {d : Option Addr}
theorem r_callS {sp : Sp} {E : L2.St → XK} {t : TA} (z : t σ H fun vs H1 => sp vs H1 Q (E σ)) : tCallS sp E t σ H Q := z
theorem r_try {tb : WX → TS} (z : tb (wAM K D l) D σ H) : (fun D τ G => tb (wAM K D l) D τ G) D σ H := z
theorem w_hit (h : PySem.W.exmOne K cls q.1 = some true) (z : ∀ a, H a = none → q.2.2 a cls d (offI q.2.1 D) (σ.set q.2.1 (some (.ref a))) H) : wAM K D (q :: l) cls d σ H := ⟨true, h, fun _ => z, fun y => absurd y.symm Bool.false_ne_true⟩
theorem w_miss (h : PySem.W.exmOne K cls q.1 = some false) (z : wAM K D l cls d σ H) : wAM K D (q :: l) cls d σ H := ⟨false, h, fun y => absurd y Bool.false_ne_true, fun _ => z⟩
theorem r_raise {t : L2.St → Hp → XK → Prop} {W : WX} (z : t σ H fun cls d H' => W cls d σ H') : (fun (_ : Ends) (τ : L2.St) (G : Hp) => t τ G fun cls d G' => W cls d τ G') D σ H := z
/-- raise C(v), C's own __init__ being this -/
def spInit (C : Addr) : Sp := fun vs H Q _ => ∃ (a : Addr) (x : V), vs = [.ref a, x] ∧ H a = some (exo a C none) ∧ ∀ dx, H dx = none → dx ≠ a → Q .non (upd (upd H dx (exd dx [("found", x)])) a (exo a C (some dx)))
theorem r_mkO {C : Addr} {v : V} {E : XK} (z : Refuse C v H E) : [v].length ≤ 1000 ∧ ∀ a, H a = none → spInit C (.ref a :: ([v] ++ [])) (upd H a (exo a C none))
    (fun u H2 => u = .non ∧ ∃ (d : Addr) (fs : List (Str × V)), H2 a = some (exo a C (some d)) ∧ H2 d = some (exd d fs) ∧ H d = none ∧ E (.ref C) (some d) (upd (del H2 a) d (.xd fs))) (fun _ _ _ => False) := by
  refine ⟨Nat.le_of_ble_eq_true rfl, fun a ha => ⟨a, v, rfl, upd_same, fun dx hd ne => ⟨rfl, dx, [("found", v)], upd_same, ?_, ?_, ?_⟩⟩⟩
  · rw [upd_ne ne, upd_same]
  · rw [upd_ne ne] at hd
    exact hd
  · rw [upd_ne ne] at hd
    refine z dx _ hd (fun b o e => ?_) upd_same
    have h1 : b ≠ a := ne_of_none e ha
    have h2 : b ≠ dx := ne_of_none e hd
    rw [upd_ne h2]
    show del _ a b = some o
    unfold del
    rw [if_neg h1, upd_ne h1, upd_ne h2, upd_ne h1]
    exact e
end
/-! ## 14. isinstance of several classes -/
def rIs2 (K : PySem.W.Frag) : List V → Hp → VK → Prop := fun xs H Q => rIsi K xs H Q ∨ rIsiT K xs H Q
theorem call_is2 {X : Cx} : CallR X (.builtin "isinstance") (rIs2 X.K) := CallR.or call_isi call_isiT
def IsB (K : PySem.W.Frag) (H : Hp) (x : V) (T U : String) (b : Bool) : Prop := ∃ t, TyX K H x t ∧ PySem.W.kitAny K t [.type T, .type U] = some b
theorem kit2 {K : PySem.W.Frag} {t : Value} {T U : String} {a b : Bool} (h : PySem.W.kitOne K t (.type T) = some a) (h2 : PySem.W.kitOne K t (.type U) = some b) : PySem.W.kitAny K t [.type T, .type U] = some (a || b) := by
  cases a with
  | true => exact kitAny_cons h (fun z => nomatch z) (fun _ => rfl)
  | false => exact kitAny_cons h (fun _ => by cases b with
      | true => exact kitAny_cons h2 (fun z => nomatch z) (fun _ => rfl)
      | false => exact kitAny_cons h2 (fun _ => kitAny_nil) (fun z => nomatch z)) (fun z => nomatch z)
section
variable {K : PySem.W.Frag} {H H' : Hp} {x : V} {T U : String} {b c : Bool} {Q : VK} {tp : Addr}
theorem r_is2 (h : IsB K H x T U b) (e : H tp = some (.tup [.ty T, .ty U])) (q : Q (.bl b) H) : rIs2 K [x, .ref tp] H Q := by
  obtain ⟨t, h1, h2⟩ := h
  exact .inr ⟨x, tp, [.ty T, .ty U], t, [.type T, .type U], b, rfl, e, .cons (.ty T) (.cons (.ty U) .nil), h1, h2, q⟩
theorem r_is1 (h : ∃ t, TyX K H x t ∧ PySem.W.kitOne K t (.type T) = some b) (q : Q (.bl b) H) : rIs2 K [x, .ty T] H Q := by
  obtain ⟨t, h1, h2⟩ := h
  exact .inl ⟨x, .ty T, t, .type T, b, rfl, .ty T, h1, h2, q⟩
end
/-! ## 15. a comprehension, by what each turn gives -/
section
variable {J : It} {n : Nat} {G : Hp → Prop} {Y : Nat → Hp → V → Hp → Prop} {g : TG} {tt : TT} {te : TE} {vs : List Nat} {σ : L2.St} {H : Hp} {D : Addr} {Q : VK}
theorem lc_by (w : Walk J n G Y) (p : Nat → Option V) (hD : H D = none) (hn : n ≤ 10000) (hG : ∀ H', Same H H' → G H')
    (hs : ∀ i x H1 H2 (Q' : VK) (R' : Hp → Prop), i < n → Same H H1 → Y i H1 x H2 → (∀ v, p i = some v → ∀ H3, Same H1 H3 → Q' v H3) → (p i = none → ∀ H3, Same H1 H3 → R' H3) →
      g x (wipe σ vs) H2 fun τ H3 => wipe τ vs = wipe σ vs ∧ tt τ H3 fun b H4 => if b = true then te τ H4 Q' else R' H4)
    (q : ∀ H', Same H H' → H' D = some (.lst ((List.range n).filterMap p)) → Q (.ref D) H') :
    ∃ W : Nat → Nat → Hp → Prop, (∃ m, W 0 m (upd H D (.lst []))) ∧ ∀ i m H, W i m H →
      (J.stop i H ∧ Q (.ref D) H) ∨ (J.go i H ∧ ∃ Nx : Hp → Prop, (∀ H', Nx H' → ∃ m', m' < m ∧ W (i + 1) m' H') ∧ ∀ x H', J.yld i H x H' → g x (wipe σ vs) H' fun σ2 H2 => wipe σ2 vs = wipe σ vs ∧ tt σ2 H2 fun b H3 =>
        if b = true then te σ2 H3 fun y H4 => ∃ acc, H4 D = some (.lst acc) ∧ acc.length < sizeLine ∧ Nx (upd H4 D (.lst (acc ++ [y]))) else Nx H3) := by
  refine lc_it w (fun i G => Same H G ∧ G D = some (.lst ((List.range i).filterMap p))) ⟨same_upd hD, by rw [upd_same]; rfl⟩ (fun i G _ z => hG G z.1) (fun i x H1 H2 hi ⟨sm, e⟩ y => ?_) fun G z => q G z.1 z.2
  refine hs i x H1 H2 _ _ hi sm y (fun v hv H3 s3 => ⟨_, s3 _ _ e, ?_, sameBut (sm.trans s3) hD, ?_⟩) fun hv H3 s3 => ⟨sm.trans s3, ?_⟩
  · have l := List.length_filterMap_le p (List.range i)
    rw [List.length_range] at l
    exact Nat.lt_of_le_of_lt (Nat.le_trans l (Nat.le_trans (Nat.le_of_lt hi) hn)) (by decide)
  · rw [upd_same, List.range_succ, List.filterMap_append]
    simp only [List.filterMap_cons, List.filterMap_nil, hv]
  · rw [s3 _ _ e, List.range_succ, List.filterMap_append]
    simp only [List.filterMap_cons, List.filterMap_nil, hv, List.append_nil]
end
end Bk

namespace Bk
open PySem PySem.Spec PyProof.Rows L2
/-! ## 8. binding with keywords -/
theorem vals_rev : ∀ {zs : List V} {ws : List Value}, Vals zs ws → Vals zs.reverse ws.reverse
  | _, _, .nil => .nil
  | _, _, .cons r t => by
    rw [List.reverse_cons, List.reverse_cons]
    exact (vals_rev t).append (.cons r .nil)
section
variable {K : PySem.W.Frag} {x qual : Str} {params : Arguments} {body : List Stmt} {scope : Scope} {kws : List (Str × V)} {f : Addr} {fd : FuncData} {ps : List Str}
theorem kbinds0 (F : FunD K x qual params body scope [] kws f fd) (n : Nat) (ks : List Str) (ms : List (Str × V)) (g : {α : Type} → List α → List α → List α → List α) (hk : kws ≠ []) (hms : ∀ q ∈ ms, q ∈ kws)
    (hrel : ∀ {vs mz zs : List V} {us mv ws : List Value}, Vals vs us → Vals mz mv → Vals zs ws → Vals (g vs mz zs) (g us mv ws))
    (h : ∀ (D : Addr) (doc pm : Value) (an : Option Addr) (cdv ct : Value) (us mv ws : List Value), us.length = n → mv.length = ms.length → ws.length = ks.length →
      KwChain D ((ms.map (·.1)).zip mv) (bindArgs (PySem.W.fnOf x qual params body scope .none (.ref D) doc pm an cdv ct) ⟨us, ks.zip ws⟩) (ps.zip (g us mv ws))) :
    ∃ mv : List Value, KBn K fd ps n ks (fun us ws => g us mv ws) (fun vs zs => g vs (ms.map (·.2)) zs) := by
  obtain ⟨oc, od, dV, kV, doc, pm, an, cdv, ct, osl, rfl, lk, hcd, hD, hK⟩ := F.ex
  rcases hD with ⟨_, rfl⟩ | ⟨e, _⟩
  · rcases hK with e | ⟨D, rfl, hq⟩
    · exact absurd e hk
    · obtain ⟨mv, hl, rk, hks⟩ := kwd_vals (ms := ms) fun q hm => hq q (hms q hm)
      refine ⟨mv, ⟨fun s us ws X l1 l2 => ?_, fun r1 r2 => hrel r1 rk r2⟩⟩
      exact BindsTo.of_looks fun M => KwChain.looks X hks (h D doc pm an cdv ct us mv ws l1 hl l2)
  · exact absurd rfl e
/-- keywords alone or beside values, no defaults -/
theorem kbPlain {st : Stmt} {f : Addr} {fd : FuncData} (F : Fun K x qual st f fd) (n : Nat) (ks : List Str) (g : {α : Type} → List α → List α → List α)
    (hrel : ∀ {vs zs : List V} {us ws : List Value}, Vals vs us → Vals zs ws → Vals (g vs zs) (g us ws))
    (h : ∀ (kV doc pm : Value) (an : Option Addr) (cdv ct : Value) (us ws : List Value), us.length = n → ws.length = ks.length → bindArgs (PySem.W.fnOf x qual (defArgs st) (defBody st) (defScope st) .none kV doc pm an cdv ct) ⟨us, ks.zip ws⟩ = pure (ps.zip (g us ws))) :
    KBn K fd ps n ks (fun us ws => g us ws) (fun vs zs => g vs zs) := by
  obtain ⟨oc, od, kV, doc, pm, an, cdv, ct, osl, rfl, lk, hcd⟩ := F.ex
  exact ⟨fun s us ws X l1 l2 => .of_eq (h kV doc pm an cdv ct us ws l1 l2), fun r1 r2 => hrel r1 r2⟩
end
theorem kit_sub {K : PySem.W.Frag} {C : Addr} {T : String} {b : Bool} (hm : PySem.W.kitMeta T = true) (h : PySem.W.subIn K (.ref C) (.type T) = some b) : PySem.W.kitOne K (.ref C) (.type T) = some b := by
  unfold PySem.W.kitOne PySem.W.kitCls
  rw [if_neg (fun z => by cases (beq_iff_eq.mp z))]
  show (if PySem.W.kitMeta T = true then PySem.W.subIn K (.ref C) (.type T) else none) = some b
  rw [if_pos hm]
  exact h
theorem CalN.mk' {P : Program} {w : World} {K : PySem.W.Frag} {mg : Str → Option Value} {base : Heap} {CX : CXT} {k n : Nat} {ks : List Str} {x : Str} {sp : Sp} {gV : List V → List V → List V} {f : Addr} {fd : FuncData} {ps : List Str} {g : List Value → List Value → List Value} (a : mg x = some (.ref f)) (kp : PySem.W.keepIn K (.ref f) = true) (F : FnOk P w K mg base CX k f fd ps sp) (b : KBn K fd ps n ks g gV) :
    CalN P w K mg base CX k n ks x sp gV := ⟨f, fd, ps, g, a, kp, F, b⟩
/-! ### within a comprehension: K by name -/
theorem call_isK {X : Cx} {K : PySem.W.Frag} (h : X.K = K) : CallR X (.builtin "isinstance") (rIs K) := by
  subst h
  exact call_is
theorem pg_tupK {X : Cx} {K : PySem.W.Frag} {es : List Expr} {k : Nat} {t : TGs} {n : Nat} {pos : Pos} (e : X.K = K) (hc : X.calm = true) (h : PGs X es t) (hn : (assignEach es X.env).length = n := by rfl) (hst : (assignEach es X.env).findIdx? (·.1) = none := by rfl) :
    PG X (.Tuple es k pos) (gTup K n t) := by
  subst e
  exact pg_tup hc h hn hst
theorem butSame {p : Addr} {H H1 H2 : Hp} (s : Same H H1) (n : H p = none) (b : But p H1 H2) : Same H H2 := fun c o e => b c o (ne_of_none e n) (s c o e)
end Bk

namespace Bk
open PySem PySem.Spec PyProof.Rows L2
/-! ## 16. things whose text is short -/
mutual
def smallD : PyData → Bool
  | .none | .bool _ => true
  | .int i => decide (i.natAbs < 10 ^ 38)
  | .str x => x.cps.toList.all fun c => decide (c < 16 ^ 8)
  | .list xs | .tuple xs => smallL xs
  | .dict _ => false
def smallL : List PyData → Bool
  | [] => true
  | x :: xs => smallD x && smallL xs
end
mutual
theorem small_ok : ∀ d : PyData, smallD d = true → d.showable = true ∧ d.leavesShort 40 = true
  | .none, _ => ⟨rfl, rfl⟩
  | .bool _, _ => ⟨rfl, rfl⟩
  | .int i, h => by
    have h' : i.natAbs < 10 ^ 38 := by simpa only [smallD, decide_eq_true_eq] using h
    have l1 := int_text_length_le10 (k := 38) (by decide) h'
    refine ⟨?_, ?_⟩
    · simp only [PyData.showable, decide_eq_true_eq]
      by_cases z : i.natAbs = 0
      · rw [z]; decide
      · have z2 := (Nat.log2_lt z (k := 128)).mpr (Nat.lt_of_lt_of_le h' (by decide))
        omega
    · simp only [PyData.leavesShort]
      refine decide_eq_true ?_
      have e : (PyData.shown (.int i)).length = (toString i).length := by
        simp only [PyData.shown]
        exact PySem.ofString_length _
      omega
  | .str x, h => ⟨by simp only [PyData.showable], by simpa only [smallD, PyData.leavesShort] using h⟩
  | .list xs, h => by simpa only [PyData.showable, PyData.leavesShort] using small_okL xs (by simpa only [smallD] using h)
  | .tuple xs, h => by simpa only [PyData.showable, PyData.leavesShort] using small_okL xs (by simpa only [smallD] using h)
  | .dict _, h => by simp only [smallD] at h; exact nomatch h
theorem small_okL : ∀ xs : List PyData, smallL xs = true → PyData.showableAll xs = true ∧ PyData.leavesShortAll 40 xs = true
  | [], _ => ⟨rfl, rfl⟩
  | x :: xs, h => by
    have h' : smallD x = true ∧ smallL xs = true := by simpa only [smallL, Bool.and_eq_true] using h
    obtain ⟨a, b⟩ := small_ok x h'.1
    obtain ⟨c, d⟩ := small_okL xs h'.2
    exact ⟨by simp only [PyData.showableAll, a, c, Bool.and_true], by simp only [PyData.leavesShortAll, b, d, Bool.and_true]⟩
end
section
variable {K : PySem.W.Frag} {H H' : Hp} {v : V} {a : Addr} {xs : List V}
theorem shw_of {d : PyData} (h : Dp K H v d) (s : smallD d = true) (b : d.bulk ≤ 20000) (e : d.depth ≤ 60) : Shw K H v d.shown := by
  obtain ⟨h1, h2⟩ := small_ok d s
  have h3 := PyData.shown_le_bulk 40 (by decide) d h2
  exact .inl ⟨d, h, h1, by rw [sizeLine_eq]; omega, e, rfl⟩
theorem shw_dK (e : H a = some (.dK [])) : Shw K H (.ref a) "{}" := .inr ⟨a, rfl, e, rfl⟩
/-- a thing within a list -/
def Itm (K : PySem.W.Frag) (H : Hp) (v : V) : Prop := ∃ d, Dp K H v d ∧ smallD d = true ∧ d.bulk ≤ 100 ∧ d.depth ≤ 20
theorem itm_shw (h : Itm K H v) : ∃ z, Shw K H v z := let ⟨_, h1, h2, h3, h4⟩ := h; ⟨_, shw_of h1 h2 (by omega) (by omega)⟩
theorem itms : ∀ {xs : List V}, (∀ y ∈ xs, Itm K H y) → ∃ ds, DpAll K H xs ds ∧ smallL ds = true ∧ PyData.bulkAll ds ≤ 101 * xs.length ∧ PyData.depthAll ds ≤ 20
  | [], _ => ⟨[], .nil, rfl, Nat.le_refl _, Nat.zero_le _⟩
  | y :: ys, h => by
    obtain ⟨d, h1, h2, h3, h4⟩ := h y List.mem_cons_self
    obtain ⟨ds, g1, g2, g3, g4⟩ := itms fun z hz => h z (List.mem_cons_of_mem _ hz)
    refine ⟨d :: ds, .cons h1 g1, by simp only [smallL, h2, g2, Bool.and_true], ?_, ?_⟩
    · simp only [PyData.bulkAll, List.length_cons]
      omega
    · simp only [PyData.depthAll]
      omega
theorem shw_lst (h : SqL K H a xs) (i : ∀ y ∈ xs, Itm K H y) (l : xs.length ≤ 150) : ∃ z, Shw K H (.ref a) z := by
  obtain ⟨ds, g1, g2, g3, g4⟩ := itms i
  exact ⟨_, shw_of (.lst h g1) (by simpa only [smallD] using g2) (by simp only [PyData.bulk]; omega) (by simp only [PyData.depth]; omega)⟩
theorem shw_tup (h : SqT K H a xs) (i : ∀ y ∈ xs, Itm K H y) (l : xs.length ≤ 150) : ∃ z, Shw K H (.ref a) z := by
  obtain ⟨ds, g1, g2, g3, g4⟩ := itms i
  exact ⟨_, shw_of (.tup h g1) (by simpa only [smallD] using g2) (by simp only [PyData.bulk]; omega) (by simp only [PyData.depth]; omega)⟩
/-! scalars -/
def datS : V → PyData
  | .bl b => .bool b
  | .int i => .int i
  | .str z => .str z
  | _ => .none
def smS : V → Bool
  | .non | .bl _ => true
  | .int i => decide (i.natAbs < 10 ^ 38)
  | .str z => decide (z.length ≤ 90) && z.cps.toList.all fun c => decide (c < 16 ^ 8)
  | _ => false
theorem datS_ok (h : smS v = true) : Dp K H v (datS v) ∧ smallD (datS v) = true ∧ (datS v).bulk ≤ 100 ∧ (datS v).depth = 0 := by
  cases v with
  | non => exact ⟨.non, by simp only [datS, smallD], by simp [datS, PyData.bulk], by simp only [datS, PyData.depth]⟩
  | bl b => exact ⟨.bl b, by simp only [datS, smallD], by simp [datS, PyData.bulk], by simp only [datS, PyData.depth]⟩
  | int i => exact ⟨.int i, by simpa only [datS, smallD, smS] using h, by simp [datS, PyData.bulk], by simp only [datS, PyData.depth]⟩
  | str z =>
    have h' : z.length ≤ 90 ∧ (z.cps.toList.all fun c => decide (c < 16 ^ 8)) = true := by
      have z2 := Bool.and_eq_true_iff.mp (show (decide (z.length ≤ 90) && z.cps.toList.all fun c => decide (c < 16 ^ 8)) = true from h)
      exact ⟨of_decide_eq_true z2.1, z2.2⟩
    have hz : z.cps.size ≤ 90 := h'.1
    exact ⟨.str z, by simpa only [datS, smallD] using h'.2, by simp only [datS, PyData.bulk]; omega, by simp only [datS, PyData.depth]⟩
  | _ => exact nomatch h
theorem itm_sc (h : smS v = true) : Itm K H v := let ⟨h1, h2, h3, h4⟩ := datS_ok h; ⟨_, h1, h2, h3, by omega⟩
theorem shw_sc (h : smS v = true) : Shw K H v (datS v).shown := let ⟨h1, h2, h3, h4⟩ := datS_ok h; shw_of h1 h2 (by omega) (by omega)
theorem datSs : ∀ {xs : List V}, xs.all smS = true → DpAll K H xs (xs.map datS) ∧ smallL (xs.map datS) = true ∧ PyData.bulkAll (xs.map datS) ≤ 101 * xs.length ∧ PyData.depthAll (xs.map datS) = 0
  | [], _ => ⟨.nil, rfl, Nat.le_refl _, rfl⟩
  | y :: ys, h => by
    rw [List.all_cons, Bool.and_eq_true] at h
    obtain ⟨h1, h2, h3, h4⟩ := datS_ok (K := K) (H := H) h.1
    obtain ⟨g1, g2, g3, g4⟩ := datSs h.2
    rw [List.map_cons]
    refine ⟨.cons h1 g1, by simp only [smallL, h2, g2, Bool.and_true], ?_, ?_⟩
    · simp only [PyData.bulkAll, List.length_cons]
      omega
    · simp only [PyData.depthAll, h4, g4]
      rfl
theorem shw_lsc (h : SqL K H a xs) (i : xs.all smS = true) (l : xs.length ≤ 150) : Shw K H (.ref a) (PyData.list (xs.map datS)).shown := by
  obtain ⟨g1, g2, g3, g4⟩ := datSs (K := K) (H := H) i
  exact shw_of (.lst h g1) (by simpa only [smallD] using g2) (by simp only [PyData.bulk]; omega) (by simp only [PyData.depth]; omega)
theorem shw_tsc (h : SqT K H a xs) (i : xs.all smS = true) (l : xs.length ≤ 150) : Shw K H (.ref a) (PyData.tuple (xs.map datS)).shown := by
  obtain ⟨g1, g2, g3, g4⟩ := datSs (K := K) (H := H) i
  exact shw_of (.tup h g1) (by simpa only [smallD] using g2) (by simp only [PyData.bulk]; omega) (by simp only [PyData.depth]; omega)
end
theorem smS_int {i : Int} (h : i.natAbs < 10 ^ 38) : smS (.int i) = true := decide_eq_true h
theorem smS_bls {bs : List Bool} : (bs.map V.bl).all smS = true := by
  rw [List.all_map]
  exact List.all_eq_true.mpr fun _ _ => rfl
end Bk

namespace Bk
open PySem PySem.Spec PyProof.Rows L2
/-! ## 18. what k03 left for all -/
theorem seqT {K : PySem.W.Frag} {H H' : Hp} {a : Addr} {xs : List V} (s : Same H H') (h : SqT K H a xs) : SqT K H' a xs := by
  rcases h with (h | ⟨o, h⟩) | h
  · exact .inl (.inl (s _ _ h))
  · exact .inl (.inr ⟨o, s _ _ h⟩)
  · exact .inr h
theorem Refuse.on {C : Addr} {v : V} {H H' : Hp} {E : XK} (r : Refuse C v H E) (s : Same H H') : Refuse C v H' E := fun d H2 hd s2 e => r d H2 (s.free hd) (s.trans s2) e
section
variable {K : PySem.W.Frag} {H : Hp} {a : Addr} {T U : String} {b c : Bool}
theorem isb_lst {xs : List V} (e : H a = some (.lst xs)) (h : kitB "list" T = some b := by decide +kernel) (h2 : kitB "list" U = some c := by decide +kernel) : IsB K H (.ref a) T U (b || c) := ⟨.type "list", .base (.lst e), kit2 (kit_ty h) (kit_ty h2)⟩
theorem isb_tup {xs : List V} (e : H a = some (.tup xs)) (h : kitB "tuple" T = some b := by decide +kernel) (h2 : kitB "tuple" U = some c := by decide +kernel) : IsB K H (.ref a) T U (b || c) := ⟨.type "tuple", .base (.tup e), kit2 (kit_ty h) (kit_ty h2)⟩
theorem isb_dK {kvs : List (Key × V)} (e : H a = some (.dK kvs)) (h : kitB "dict" T = some b := by decide +kernel) (h2 : kitB "dict" U = some c := by decide +kernel) : IsB K H (.ref a) T U (b || c) := ⟨.type "dict", .base (.dK e), kit2 (kit_ty h) (kit_ty h2)⟩
theorem isb_int {i : Int} (h : kitB "int" T = some b := by decide +kernel) (h2 : kitB "int" U = some c := by decide +kernel) : IsB K H (.int i) T U (b || c) := ⟨.type "int", .base (.int i), kit2 (kit_ty h) (kit_ty h2)⟩
theorem isb_bl {k : Bool} (h : kitB "bool" T = some b := by decide +kernel) (h2 : kitB "bool" U = some c := by decide +kernel) : IsB K H (.bl k) T U (b || c) := ⟨.type "bool", .base (.bl k), kit2 (kit_ty h) (kit_ty h2)⟩
theorem isb_str {z : Str} (h : kitB "str" T = some b := by decide +kernel) (h2 : kitB "str" U = some c := by decide +kernel) : IsB K H (.str z) T U (b || c) := ⟨.type "str", .base (.str z), kit2 (kit_ty h) (kit_ty h2)⟩
theorem isb_non (h : kitB "NoneType" T = some b := by decide +kernel) (h2 : kitB "NoneType" U = some c := by decide +kernel) : IsB K H .non T U (b || c) := ⟨.type "NoneType", .base .non, kit2 (kit_ty h) (kit_ty h2)⟩
end
theorem r_yes {σ : L2.St} {H : Hp} {te : TE} {Q : VK} {R : Hp → Prop} (q : te σ H Q) : tYes σ H (fun b H4 => if b = true then te σ H4 Q else R H4) := by
  show if true = true then te σ H Q else R H
  exact iteT q
section
variable {K : PySem.W.Frag} {σ : L2.St} {H : Hp} {Q : VK} {i0 j j1 j2 : Nat} {vs : List Nat} {a : Addr} {xs : List V} {te : TE} {tt : TT}
/-- over a list or a tuple -/
theorem lcA (p : Nat → V) (hv : σ[i0]? = some (some (.ref a))) (hs : SqL K H a xs ∨ SqT K H a xs) (hl : xs.length ≤ 10000) (hw : ∀ x, wipe ((wipe σ vs).set j (some x)) vs = wipe σ vs)
    (ht : ∀ (i : Nat) (y : V) (H' : Hp) (Q' : VK), xs[i]? = some y → Same H H' → (∀ H2, Same H' H2 → Q' (p i) H2) → te ((wipe σ vs).set j (some y)) H' Q')
    (q : ∀ D H', H D = none → Same H H' → H' D = some (.lst ((List.range xs.length).map p)) → Q (.ref D) H') : tLc (iSeqA K (tVar i0)) (gName j) tYes te vs σ H Q := by
  have go : ∀ {J : It} {G : Hp → Prop}, Walk J xs.length G (YAt xs) → (∀ H', Same H H' → G H') → ∀ D, H D = none → _ := fun {J G} wk hG D hD =>
    lc_by (g := gName j) (tt := tYes) (te := te) (vs := vs) (σ := σ) (Q := Q) wk (fun i => some (p i)) hD hl hG (fun i y H1 H2 Q' R' hi sm ⟨e, hy⟩ h1 _ => ⟨hw _, by
      subst e
      exact r_yes (ht i y H2 Q' hy sm (h1 _ rfl))⟩) fun H' sm e => q D H' hD sm (by
      rw [e]
      show some (HO.lst (List.filterMap (some ∘ p) _)) = _
      rw [List.filterMap_eq_map])
  refine ⟨_, hv, a, xs, rfl, ?_⟩
  rcases hs with hs | hs
  · exact .inl ⟨hs, go walk_list fun H' sm => sm.seq hs⟩
  · exact .inr ⟨hs, go walk_tup fun H' sm => seqT sm hs⟩
/-- enumerate of a list or a tuple, some left out -/
theorem lcE (p : Nat → V → Option V) (hv : σ[i0]? = some (some (.ref a))) (hs : SqL K H a xs ∨ SqT K H a xs) (hl : xs.length ≤ 10000) (hw : ∀ x y, wipe (((wipe σ vs).set j1 (some x)).set j2 (some y)) vs = wipe σ vs)
    (ht : ∀ (i : Nat) (y : V) (H' : Hp) (Q' : VK) (R' : Hp → Prop), xs[i]? = some y → Same H H' → (∀ v, p i y = some v → ∀ H2, Same H' H2 → Q' v H2) → (p i y = none → ∀ H2, Same H' H2 → R' H2) →
      tt (((wipe σ vs).set j1 (some (.int i))).set j2 (some y)) H' fun b H4 => if b = true then te (((wipe σ vs).set j1 (some (.int i))).set j2 (some y)) H4 Q' else R' H4)
    (q : ∀ D H', H D = none → Same H H' → H' D = some (.lst ((List.range xs.length).filterMap fun i => xs[i]?.bind (p i))) → Q (.ref D) H') :
    tLc (iEnumA K (tCons (tVar i0) tNil)) (gTup K 2 (gCons (gName j1) (gCons (gName j2) gNil))) tt te vs σ H Q := by
  have go : ∀ {J : It} {G : Hp → Prop}, Walk J xs.length G (YPair (fun i => some (.int (i : Nat))) (fun i => xs[i]?)) → (∀ H', Same H H' → G H') → ∀ D, H D = none → _ := fun {J G} wk hG D hD =>
    lc_by (g := gTup K 2 (gCons (gName j1) (gCons (gName j2) gNil))) (tt := tt) (te := te) (vs := vs) (σ := σ) (Q := Q) wk (fun i => xs[i]?.bind (p i)) hD hl hG (fun i v H1 H2 Q' R' hi sm ⟨Tn, x, y, e1, nT, e2, hx, hy⟩ h1 h2 => by
      subst e1 e2
      injection hx with hx
      subst hx
      have sT := same_upd (o := .tup [.int (i : Nat), y]) nT
      have ey : xs[i]?.bind (p i) = p i y := by
        rw [show xs[i]? = some y from hy]
        rfl
      refine ⟨Tn, _, rfl, sqT upd_same, rfl, .int i, _, rfl, y, _, rfl, rfl, hw _ _, ?_⟩
      exact ht i y _ Q' R' hy (sm.trans sT) (fun v hv H3 s3 => h1 v (by rw [ey]; exact hv) H3 (sT.trans s3)) fun hn H3 s3 => h2 (by rw [ey]; exact hn) H3 (sT.trans s3)) fun H' sm e => q D H' hD sm e
  refine ⟨_, hv, a, xs, rfl, ?_⟩
  rcases hs with hs | hs
  · exact .inl ⟨hs, go walk_enum fun H' sm => sm.seq hs⟩
  · exact .inr ⟨hs, go walk_enumT fun H' sm => seqT sm hs⟩
end
theorem map_getD {α : Type} (f : V → α) (d : V) (xs : List V) : (List.range xs.length).map (fun i => f (xs.getD i d)) = xs.map f := by
  refine List.ext_getElem (by simp) fun i h1 h2 => ?_
  simp only [List.getElem_map, List.getElem_range]
  have h : i < xs.length := by simpa using h1
  rw [List.getD_eq_getElem?_getD, List.getElem?_eq_getElem h]
  rfl
/-! ## 17. comprehensions over a list, a tuple, a range -/
section
variable {K : PySem.W.Frag} {σ : L2.St} {H : Hp} {Q : VK} {i0 j : Nat} {vs : List Nat} {a : Addr} {xs : List V} {te : TE}
theorem lc_map {J : It} {n : Nat} {G : Hp → Prop} {Y : Nat → Hp → V → Hp → Prop} {D : Addr} (wk : Walk J n G Y) (hY : ∀ i H1 x H2, i < n → Y i H1 x H2 → H2 = H1) (p : Nat → V) (hl : n ≤ 10000) (hG : ∀ H', Same H H' → G H') (hw : ∀ x, wipe ((wipe σ vs).set j (some x)) vs = wipe σ vs)
    (ht : ∀ (i : Nat) (y : V) (H1 H' : Hp) (Q' : VK), i < n → Y i H1 y H' → Same H H' → (∀ H2, Same H' H2 → Q' (p i) H2) → te ((wipe σ vs).set j (some y)) H' Q')
    (q : ∀ D H', H D = none → Same H H' → H' D = some (.lst ((List.range n).map p)) → Q (.ref D) H') (hD : H D = none) : ∃ W : Nat → Nat → Hp → Prop, (∃ m, W 0 m (upd H D (.lst []))) ∧ ∀ i m H, W i m H →
      (J.stop i H ∧ Q (.ref D) H) ∨ (J.go i H ∧ ∃ Nx : Hp → Prop, (∀ H', Nx H' → ∃ m', m' < m ∧ W (i + 1) m' H') ∧ ∀ x H', J.yld i H x H' → gName j x (wipe σ vs) H' fun σ2 H2 => wipe σ2 vs = wipe σ vs ∧ tYes σ2 H2 fun b H3 =>
        if b = true then te σ2 H3 fun y H4 => ∃ acc, H4 D = some (.lst acc) ∧ acc.length < sizeLine ∧ Nx (upd H4 D (.lst (acc ++ [y]))) else Nx H3) :=
  lc_by (g := gName j) (tt := tYes) (te := te) (vs := vs) (σ := σ) (Q := Q) wk (fun i => some (p i)) hD hl hG (fun i y H1 H2 Q' R' hi sm e h1 _ => ⟨hw _, by
    obtain rfl := hY i _ _ _ hi e
    exact r_yes (ht i y H2 H2 Q' hi e sm (h1 _ rfl))⟩) fun H' sm e => q D H' hD sm (by
      rw [e]
      show some (HO.lst (List.filterMap (some ∘ p) _)) = _
      rw [List.filterMap_eq_map])
theorem lcT (p : Nat → V) (hv : σ[i0]? = some (some (.ref a))) (hs : SqT K H a xs) (hl : xs.length ≤ 10000) (hw : ∀ x, wipe ((wipe σ vs).set j (some x)) vs = wipe σ vs)
    (ht : ∀ (i : Nat) (y : V) (H' : Hp) (Q' : VK), xs[i]? = some y → Same H H' → (∀ H2, Same H' H2 → Q' (p i) H2) → te ((wipe σ vs).set j (some y)) H' Q')
    (q : ∀ D H', H D = none → Same H H' → H' D = some (.lst ((List.range xs.length).map p)) → Q (.ref D) H') : tLc (iTup K (tVar i0)) (gName j) tYes te vs σ H Q :=
  ⟨_, hv, a, rfl, ⟨xs, hs⟩, fun D hD => lc_map (j := j) walk_tup (fun _ _ _ _ _ z => z.1) p hl (fun H' sm => seqT sm hs) hw (fun i y H1 H' Q' _ e sm k => ht i y H' Q' e.2 sm k) q hD⟩
theorem lcL (p : Nat → V) (hv : σ[i0]? = some (some (.ref a))) (hs : SqL K H a xs) (hl : xs.length ≤ 10000) (hw : ∀ x, wipe ((wipe σ vs).set j (some x)) vs = wipe σ vs)
    (ht : ∀ (i : Nat) (y : V) (H' : Hp) (Q' : VK), xs[i]? = some y → Same H H' → (∀ H2, Same H' H2 → Q' (p i) H2) → te ((wipe σ vs).set j (some y)) H' Q')
    (q : ∀ D H', H D = none → Same H H' → H' D = some (.lst ((List.range xs.length).map p)) → Q (.ref D) H') : tLc (iList K (tVar i0)) (gName j) tYes te vs σ H Q :=
  ⟨_, hv, a, rfl, ⟨xs, hs⟩, fun D hD => lc_map (j := j) walk_list (fun _ _ _ _ _ z => z.1) p hl (fun H' sm => sm.seq hs) hw (fun i y H1 H' Q' _ e sm k => ht i y H' Q' e.2 sm k) q hD⟩
/-- what is drawn at each turn: the box changes -/
theorem lcDraw {n m : Nat} {bx : Addr} (p : V → Prop) (hb : Box bx m H) (hl : n ≤ 1000) (hw : ∀ x, wipe ((wipe σ vs).set j (some x)) vs = wipe σ vs)
    (ht : ∀ (i : Nat) (H' : Hp) (Q' : VK), i < n → Box bx (m + i) H' → (∀ v H2, p v → Box bx (m + i + 1) H2 → But bx H' H2 → Q' v H2) → te ((wipe σ vs).set j (some (.int i))) H' Q')
    (q : ∀ D H' xs, H D = none → But bx H H' → Box bx (m + n) H' → H' D = some (.lst xs) → xs.length = n → (∀ v ∈ xs, p v) → Q (.ref D) H') : tLc (iRng1 (tCons (tC (.int n)) tNil)) (gName j) tYes te vs σ H Q := by
  refine ⟨_, rfl, by omega, by omega, fun D hD => ?_⟩
  have nD : D ≠ bx := hb.ne hD
  rw [Int.toNat_natCast]
  refine lc_it (g := gName j) (tt := tYes) (te := te) (vs := vs) (σ := σ) (n := n) walk_range (fun i G => But bx H G ∧ Box bx (m + i) G ∧ ∃ xs, G D = some (.lst xs) ∧ xs.length = i ∧ ∀ v ∈ xs, p v)
    ⟨.of (same_upd hD), hb.same (same_upd hD), [], upd_same, rfl, fun _ z => nomatch z⟩ (fun _ _ _ _ => trivial) (fun i x H1 H2 hi ⟨bt, hB, xs, e, l, hp⟩ y => ?_) fun G ⟨bt, hB, xs, e, l, hp⟩ => q D G xs hD bt hB e l hp
  obtain ⟨rfl, rfl⟩ := y
  refine ⟨hw _, ?_⟩
  show te ((wipe σ vs).set j (some (.int (0 + (i : Int))))) _ _
  rw [Int.zero_add]
  refine ht i H2 _ hi hB fun v H3 pv hB3 b3 => ⟨xs, b3 _ _ nD e, by rw [l]; exact Nat.lt_of_lt_of_le hi (Nat.le_trans hl (by decide)), ?_, ?_, xs ++ [v], upd_same, by rw [List.length_append, l]; rfl, fun u hu => ?_⟩
  · exact fun b o ne e0 => by
      have z := b3 _ _ ne (bt _ _ ne e0)
      rw [upd_ne (ne_of_none e0 hD)]
      exact z
  · obtain ⟨x1, y1, z1, eB, r⟩ := hB3
    exact ⟨x1, y1, z1, by rw [upd_ne nD.symm]; exact eB, r⟩
  · rcases List.mem_append.mp hu with z | z
    · exact hp u z
    · rw [List.mem_singleton.mp z]; exact pv
end
/-- except C as e: return (tag, e.found) -/
theorem caught_at {K : PySem.W.Frag} {C d : Addr} {i : Nat} {σ : L2.St} {H' : Hp} {D : Ends} {l : List ClA} {v : V} {tag : Str} (e : PySem.W.exmOne K (.ref C) (.ref C) = some true) (hi : i < σ.length) (ed : H' d = some (.xd [("found", v)]))
    (q : ∀ p H2, H' p = none → Same H' H2 → H2 p = some (.tup [.str tag, v]) → D.rt (.ref p) H2) :
    wAM K D ((.ref C, i, fun a cls d => tRet (tTup (tCons (tC (.str tag)) (tCons (tXf a cls d C "found" (tVar i)) tNil)))) :: l) (.ref C) (some d) σ H' := by
  refine w_hit e fun a na => ?_
  show tRet (tTup (tCons (tC (.str tag)) (tCons (tXf a (.ref C) (some d) C "found" (tVar i)) tNil))) (offI i D) (σ.set i (some (.ref a))) H'
  refine r_ret (r_tup (r_cons (r_c (r_cons ?_))))
  refine ⟨.ref a, List.getElem?_set_self hi, rfl, rfl, d, _, v, rfl, ed, rfl, ?_⟩
  exact r_nil (newT fun p H2 np s2 e2 => q p H2 np s2 e2)
theorem fm_congr {α β : Type} {f g : α → Option β} : ∀ {l : List α}, (∀ x ∈ l, f x = g x) → l.filterMap f = l.filterMap g
  | [], _ => rfl
  | x :: l, h => by
    rw [List.filterMap_cons, List.filterMap_cons, h x List.mem_cons_self, fm_congr fun y hy => h y (List.mem_cons_of_mem _ hy)]
section
variable {K : PySem.W.Frag} {H : Hp} {x y : V} {Q : VK}
theorem r_neSame {d : PyData} (h1 : Dp K H x d) (h2 : Dp K H y d) (s : SeqAt.shaped d = true) (q : Q (.bl false) H) : rNeD K x y H Q :=
  ⟨d, d, h1, h2, s, s, by rw [SeqAt.eqv_refl d (SeqAt.canLay_of_shaped s)]; exact q⟩
end
theorem box_upd {bx a : Addr} {n : Nat} {H : Hp} {o : HO} (h : Box bx n H) (ne : a ≠ bx) : Box bx n (upd H a o) := by
  obtain ⟨x, y, z, e, r⟩ := h
  exact ⟨x, y, z, by rw [upd_ne ne.symm]; exact e, r⟩
theorem but_upd {bx a : Addr} {H0 H : Hp} {o : HO} (b : But bx H0 H) (fr : H0 a = none) : But bx H0 (upd H a o) := fun c u ne e => by
  rw [upd_ne (ne_of_none e fr)]
  exact b c u ne e
theorem cut_to {xs : List V} {m : Nat} (h : m ≤ xs.length) : cutV xs none (some (m : Int)) = xs.take m := by
  unfold cutV
  rw [HT.sIx_none, HT.sIx_nat, Nat.min_eq_left h, List.drop_zero, Nat.sub_zero]
theorem cut_from {xs : List V} {m : Nat} (h : m ≤ xs.length) : cutV xs (some (m : Int)) none = xs.drop m := by
  unfold cutV
  rw [HT.sIx_none, HT.sIx_nat, Nat.min_eq_left h]
  exact List.take_of_length_le (by rw [List.length_drop]; exact Nat.le_refl _)
section
variable {H : Hp} {Q : VK} {a b : Addr} {xs ys : List V} {lo hi : Option Int}
theorem r_slL {K : PySem.W.Frag} (h : SqL K H a xs) (e : cutV xs lo hi = ys) (q : ∀ p H', H p = none → Same H H' → H' p = some (.lst ys) → Q (.ref p) H') : rSlL K (.ref a) lo hi H Q :=
  ⟨a, xs, rfl, h, fun p n => q p _ n (same_upd n) (by rw [upd_same, e])⟩
theorem r_cat (h1 : H a = some (.lst xs)) (h2 : H b = some (.lst ys)) (q : ∀ p H', H p = none → Same H H' → H' p = some (.lst (xs ++ ys)) → Q (.ref p) H') (l : xs.length + ys.length ≤ 10000 := by omega) : rCat (.ref a) (.ref b) H Q :=
  ⟨a, b, xs, ys, rfl, rfl, h1, h2, Nat.le_trans l (by decide), fun p n => q p _ n (same_upd n) upd_same⟩
end
theorem shw_tup2 {K : PySem.W.Frag} {H : Hp} {a b : Addr} {xs : List V} (h : SqT K H a xs) (h2 : SqT K H b xs) (i : ∀ y ∈ xs, Itm K H y) (l : xs.length ≤ 150) : ∃ z, Shw K H (.ref a) z ∧ Shw K H (.ref b) z := by
  obtain ⟨ds, g1, g2, g3, g4⟩ := itms i
  exact ⟨_, shw_of (.tup h g1) (by simpa only [smallD] using g2) (by simp only [PyData.bulk]; omega) (by simp only [PyData.depth]; omega),
    shw_of (.tup h2 g1) (by simpa only [smallD] using g2) (by simp only [PyData.bulk]; omega) (by simp only [PyData.depth]; omega)⟩
theorem but_none {a c : Addr} {H G : Hp} (b : But a H G) (ne : c ≠ a) (h : G c = none) : H c = none := by
  cases e : H c with
  | none => rfl
  | some o => exact nomatch h.symm.trans (b _ _ ne e)
theorem r_par {i j : Nat} {ta : TA} {D : Ends} {σ : L2.St} {H : Hp} (q : ta σ H fun vs H1 => ∃ v w, vs = [v, w] ∧ D.nx ((σ.set i (some v)).set j (some w)) H1) : tPar i j ta D σ H := q
theorem small_int {i : Int} (h0 : -100000 ≤ i) (h1 : i ≤ 100000) : smS (.int i) = true := smS_int (Nat.lt_of_lt_of_le (show i.natAbs < 1000000 by omega) (by decide))
structure Exc (K : PySem.W.Frag) (C f : Addr) : Prop where
  ox : OexC K C
  i : PySem.W.findIn K (.ref C) "__init__" = some (some (.ref f))
  t : PySem.W.typeIn K (.ref f) = some (.type "function")
  nf : PySem.W.findIn K (.ref C) "found" = some none
  xf : XfC K C
def spGE (K : PySem.W.Frag) : Sp := fun vs H Q _ => ∃ (a C : Addr) (x : V), vs = [.ref a, x] ∧ OexC K C ∧ H a = some (exo a C none) ∧ Q .non H
def wholeV (x : V) (lo hi : Int) : Bool := match x with
  | .int i => decide (lo ≤ i) && decide (i ≤ hi)
  | _ => false
/-- a thing of which isinstance(.., int) is known -/
def WD (K : PySem.W.Frag) (H : Hp) (x : V) : Prop := (∃ i, x = .int i) ∨ (∃ b, x = .bl b) ∨ (IsA K H x "int" false ∧ ∀ l h, wholeV x l h = false)
def spWhole (K : PySem.W.Frag) : Sp := fun vs H Q _ => ∃ (x : V) (lo hi : Int), vs = [x, .int lo, .int hi] ∧ WD K H x ∧ Q (.bl (wholeV x lo hi)) H
def wd (x : V) : Bool := wholeV x 0 4095
def spIsWord (K : PySem.W.Frag) : Sp := fun vs H Q _ => ∃ x : V, vs = [x] ∧ WD K H x ∧ Q (.bl (wd x)) H
def spCheck (K : PySem.W.Frag) (CW : Addr) : Sp := fun vs H Q E => ∃ x : V, vs = [x] ∧ WD K H x ∧ ((wd x = true ∧ Q .non H) ∨ (wd x = false ∧ Refuse CW x H E))
theorem wd_int {i : Int} (h0 : 0 ≤ i) (h1 : i ≤ 4095) : wd (.int i) = true := by
  show (decide (0 ≤ i) && decide (i ≤ 4095)) = true
  rw [decide_eq_true h0, decide_eq_true h1]
  rfl
end Bk

namespace Bk
open PySem PySem.Spec PyProof.Rows L2
/-! ## 19. a text is no dict -/
theorem str_not_dict (x : Str) (t : Tok) (d : Addr) (o : Obj) (es : Array DictEntry) (ep : Nat) (hd : o.data = .dict es ep) (hc : o.cls = .type "dict") :
    Meets (Builtin.«str.__eq__» ⟨[.str x t, .ref d], []⟩) (fun _ R s => s.heap.get? d = some o ∧ R (.ok (.ret .notImplemented)) s) :=
  .of_wp fun prog w A R s h => by
    obtain ⟨hp, g, dr, tk, os⟩ := s
    obtain ⟨hl, h⟩ := h
    obtain ⟨c, dd, dt, sl⟩ := o
    subst hd hc
    wp_walk using wpAny_load hl
    exact ⟨_, rfl, h⟩
theorem dict_not_str (x : Str) (t : Tok) (d : Addr) (o : Obj) (es : Array DictEntry) (ep : Nat) (hd : o.data = .dict es ep) (hc : o.cls = .type "dict") :
    Meets (Builtin.«dict.__eq__» ⟨[.ref d, .str x t], []⟩) (fun _ R s => s.heap.get? d = some o ∧ R (.ok (.ret .notImplemented)) s) :=
  .of_wp fun prog w A R s h => by
    obtain ⟨hp, g, dr, tk, os⟩ := s
    obtain ⟨hl, h⟩ := h
    obtain ⟨c, dd, dt, sl⟩ := o
    subst hd hc
    have f1 := F.sub_str_dict
    wp_walk using wpAny_load hl
    exact ⟨_, rfl, h⟩
def rEqSD : R2 := fun x y H Q => ∃ (z : Str) (a : Addr) (kvs : List (Key × V)), x = .str z ∧ y = .ref a ∧ H a = some (.dK kvs) ∧ Q (.bl false) H
section
variable {X : Cx}
theorem op_eqSD (hu : X.A.units < cLine) : OpR X (compareOp .Eq) rEqSD := by
  intro pins s σ H x y v u Q I rx ry h
  obtain ⟨z, a, kvs, rfl, rfl, e, q⟩ := h
  obtain ⟨t, rfl⟩ := rx
  obtain rfl : u = Value.ref a := ry
  obtain ⟨_, _, vs, _, o, es, ep, ho, hx, hd, _⟩ := I.hok a _ e
  have hc : o.cls = .type "dict" := hx.1
  exact SeqAt.rc_eq_decline_or (k := false) (typeIs_str s z t) ⟨_, ho, hc⟩ (by decide) F.sub_dict_str F.slot_str_eq F.slot_dict_eq_refl
    (fun _ hq => call_meets F.slot_str_eq (typeIs_str s z t) F.entry_str_eq (F.args_str_eq_2 _ _) (str_not_dict z t a o es ep hd hc) ⟨ho, hq⟩)
    (fun _ hq => call_meets F.slot_dict_eq_refl ⟨_, ho, hc⟩ F.entry_dict_eq (F.args_dict_eq_2 _ _) (dict_not_str z t a o es ep hd hc) ⟨ho, hq⟩)
    (fun _ hq => wpAny_of_eq (rfl : isSame (.str z t) (.ref a) = pure false) hq) (.inr hu) ⟨.bl false, H, I, rfl, q⟩
/-- a text beside any thing -/
def rEqS (K : PySem.W.Frag) : R2 := fun x y H Q => (rEq x y H Q ∨ rEqD K x y H Q) ∨ rEqSD x y H Q
theorem op_eqS (hu : X.A.units + 64 < cLine) : OpR X (compareOp .Eq) (rEqS X.K) := OpR.or (OpR.or op_eq (op_eqD hu)) (op_eqSD (by omega))
end
/-! ## 20. refusing defs called with keywords beside values, or with defaults -/
structure CalMX (P : Program) (w : World) (K : PySem.W.Frag) (mg : Str → Option Value) (base : Heap) (k n : Nat) (ks : List Str) (x : Str) (sp : Sp) (gV : List V → List V → List V) : Prop where
  ex : ∃ (f : Addr) (fd : FuncData) (ps : List Str) (g : List Value → List Value → List Value), mg x = some (.ref f) ∧ PySem.W.keepIn K (.ref f) = true ∧ FnOk P w K mg base (L2.CX P w) k f fd ps sp ∧ KBn K fd ps n ks g gV
theorem CalMX.mk' {P : Program} {w : World} {K : PySem.W.Frag} {mg : Str → Option Value} {base : Heap} {k n : Nat} {ks : List Str} {x : Str} {sp : Sp} {gV : List V → List V → List V} {f : Addr} {fd : FuncData} {ps : List Str} {g : List Value → List Value → List Value} (a : mg x = some (.ref f)) (kp : PySem.W.keepIn K (.ref f) = true)
    (F : FnOk P w K mg base (L2.CX P w) k f fd ps sp) (b : KBn K fd ps n ks g gV) : CalMX P w K mg base k n ks x sp gV := ⟨f, fd, ps, g, a, kp, F, b⟩
structure CalXD (P : Program) (w : World) (K : PySem.W.Frag) (mg : Str → Option Value) (base : Heap) (k : Nat) (x : Str) (sp : Sp) (dvs : List V) : Prop where
  ex : ∃ (f : Addr) (fd : FuncData) (ps : List Str) (ds : List Value), mg x = some (.ref f) ∧ PySem.W.keepIn K (.ref f) = true ∧ FnOk P w K mg base (L2.CX P w) k f fd ps sp ∧ Binds K fd ps ds ∧ Vals dvs ds
def tCallNS (n m : Nat) (sp : Sp) (gV : List V → List V → List V) (E : L2.St → XK) (t tk : TA) : TE := fun σ H Q => t σ H fun vs H1 => tk σ H1 fun zs H2 => vs.length = n ∧ zs.length = m ∧ sp (gV vs zs) H2 Q (E σ)
section
variable {X : Cx} {k j n : Nat} {ks : List Str} {sp : Sp} {x : Str} {p pos : Pos} {e : Expr} {es : List Expr} {kws : List Keyword} {t tk : TA} {W : WX} {gV : List V → List V → List V} {dvs : List V}
theorem r_callNS {n m : Nat} {E : L2.St → XK} {σ : L2.St} {H : Hp} {Q : VK} (q : t σ H fun vs H1 => tk σ H1 fun zs H2 => vs.length = n ∧ zs.length = m ∧ sp (gV vs zs) H2 Q (E σ)) : tCallNS n m sp gV E t tk σ H Q := q
theorem pe_calMY (c : CalMX X.prog X.w X.K X.mg X.base k n ks x sp gV) (hr : Room j X.A) (hk : k ≤ j) (hg : Gl X x) (ha : PA X (e :: es) t) (hkw : PK X kws tk)
    (hall : (backToKw pos (keywordEach kws X.env)).all (·.1.isSome) = true := by rfl) (hks : (backToKw pos (keywordEach kws X.env)).filterMap (·.1) = ks := by rfl)
    (hdb : (x == ("__debug__" : Str)) = false := by decide) (he : starEach (e :: es) X.env = (false, eval e X.env) :: starEach es X.env := by rfl)
    (hpl : ((backTo pos (starEach (e :: es) X.env)).any (·.1) || (backToKw pos (keywordEach kws X.env)).any (·.1.isNone)) = false := by rfl) :
    PE X (.Call (.Name x p) (e :: es) kws pos) (tCallN n ks.length sp gV noE t tk) := by
  obtain ⟨f, fd, ps, g, h1, h2, h3, h4⟩ := c.ex
  exact pe_callN h3 (hr.mono hk) hg h1 h2 h4 pass_no ha hkw hall hks hdb he hpl
theorem pe_calYD (c : CalXD X.prog X.w X.K X.mg X.base k x sp dvs) (hr : Room j X.A) (hk : k ≤ j) (hg : Gl X x) (ha : PA X (e :: es) t)
    (hdb : (x == ("__debug__" : Str)) = false := by decide) (he : starEach (e :: es) X.env = (false, eval e X.env) :: starEach es X.env := by rfl) (hpl : (backTo pos (starEach es X.env)).any (·.1) = false := by rfl) :
    PE X (.Call (.Name x p) (e :: es) [] pos) (tCall sp dvs noE t) := by
  obtain ⟨f, fd, ps, ds, h1, h2, h3, h4, h5⟩ := c.ex
  exact pe_call h3 (hr.mono hk) hg h1 h2 h4 h5 pass_no ha hdb he hpl
/-- in a try -/
theorem pe_calMT (c : CalMX X.prog X.w X.K X.mg X.base k n ks x sp gV) (hr : Room j X.A) (hk : k ≤ j) (hg : Gl X x) (tkW : Takes X W) (ha : PA X (e :: es) t) (hkw : PK X kws tk)
    (hall : (backToKw pos (keywordEach kws X.env)).all (·.1.isSome) = true := by rfl) (hks : (backToKw pos (keywordEach kws X.env)).filterMap (·.1) = ks := by rfl)
    (hdb : (x == ("__debug__" : Str)) = false := by decide) (he : starEach (e :: es) X.env = (false, eval e X.env) :: starEach es X.env := by rfl)
    (hpl : ((backTo pos (starEach (e :: es) X.env)).any (·.1) || (backToKw pos (keywordEach kws X.env)).any (·.1.isNone)) = false := by rfl) :
    PE X (.Call (.Name x p) (e :: es) kws pos) (tCallNS n ks.length sp gV (WE W) t tk) := by
  obtain ⟨f, fd, ps, g, h1, h2, h3, h4⟩ := c.ex
  refine ⟨fun pins s σ H Q I h => ?_⟩
  refine wpAny_Call_Name_kw (ld_glob I hg h1 (PySem.W.callWith_KW (h₀ := X.base) I.ok.mod.kin h2 hall (thn (ha.run pos pins s σ H _ I h) fun us s1 ⟨vs, H1, I1, r, q⟩ => ?_) hpl he) hdb)
  refine thn (hkw.run pos pins s1 σ H1 _ I1 q) fun ws s2 ⟨zs, H2, I2, rz, l1, l2, q2⟩ => ⟨I2.kIn, ?_⟩
  rw [hks]
  refine wpAny_call (codeAny_mono (h3.run X.A X.stack s2 H2 ⟨us, ks.zip ws⟩ (g us ws) (gV vs zs) Q (WE W σ) (hr.mono hk) I2.env0 (h4.to s2 us ws I2.kIn (r.length.symm.trans l1) (rz.length.symm.trans l2)) (h4.rel r rz) q2) fun rr s3 z => ?_)
  match rr, z with
  | .error u, z => exact passAt tkW σ pins H2 s2 u s3 I2 z
  | .ok (.ret _), z => exact I2.after z
end
theorem ix_listK {X : Cx} {K : PySem.W.Frag} (h : X.K = K) : IxR X (rIxL K) := by
  subst h
  exact ix_list
theorem ix_tupK {X : Cx} {K : PySem.W.Frag} (h : X.K = K) : IxR X (rIxT K) := by
  subst h
  exact ix_tup
end Bk

namespace Bk
open PySem PySem.Spec PySem.Calls PyProof.Rows L2
/-! ## 20a. own exception classes under ValueError, LookupError or KeyError -/
/-- what a built-in __init__ of errors must be -/
structure IniF (B initId : String) : Prop where
  init : Slot B "__init__" initId
  entry : entryFor table initId = some Builtin.«BaseException.__init__»
  split : splitId initId = some (B, "__init__")
  kind : builtinKind initId = some .slot
  row : Manifest.signature? initId = some ⟨.positional, "*", B, .self, [⟨"args", .varPos, false⟩]⟩
  noStar : (B != "*") = true
theorem inf_of {B newId initId : String} (F : ExcCallFacts B newId initId) : IniF B initId := ⟨F.init, F.initEntry, F.initSplit, F.initKind, F.initRow, F.noStar⟩
theorem inf_KE : IniF "KeyError" "KeyError.__init__" where
  init := .of (owner := "KeyError") (n := "__init__") (by rw [typeLookup_type, builtinLookup_eq_fast]; kernel_rfl) (by decide +kernel) (by decide +kernel) (by decide +kernel)
    (by first | exact .inl (by decide +kernel) | exact .inr (by decide +kernel)) (by rw [isSubtype_type]; kernel_rfl)
  entry := entryFor_alias (id' := "BaseException.__init__") (by rw [fastTable_eq_tree]; kernel_rfl) (by first | rfl | decide +kernel) (by decide +kernel) (by rw [fastTable_eq_tree]; kernel_rfl)
  split := by kernel_rfl
  kind := by kernel_rfl
  row := by kernel_rfl
  noStar := by decide +kernel
section
variable {M : Model} {prog : Program} {w : World} {A : Around} {E : Value → Shared → Prop} {R : Result → Shared → Prop} {h : Heap} {g : Array GenState} {d : Drawn} {t : Nat} {os : OsState}
variable {nm q : Str} {C N : Addr} {bs bm bmB : List Value} {hdct : Bool} {sn : List Str} {sub : List Value} {ab : Bool} {col : Option Bool} {dd : Option Addr} {k0 k1 k2 k3 k5 : Option Value} {B newId i0 IB initId : String} {rest : List Value}
theorem checkNewW (F : ExcBaseFacts B newId i0 bmB) (hB : bm.contains (.type B) = true) {Q : Unit → Shared → Prop} (hC : h.get? C = some (excClassObj nm q C N bs bm hdct sn sub ab col dd k0 k1 k2 k3 k5 newId)) (hq : Q () ⟨h, g, d, t, os⟩) :
    wpAny M A (checkBuiltinCall newId ⟨.ref C :: rest, []⟩) Q E ⟨h, g, d, t, os⟩ := by
  have cB : (Value.ref C :: bm).contains (.type B) = true := by rw [List.contains_cons, hB, Bool.or_true]
  have star := F.noStar
  simp only [checkBuiltinCall, F.newKind, F.newSplit, F.newRow]
  repeat (first | refine wpAny_loadPart_at hC ?_ | (refine wpAny_isSubtype_exc hC ?_; rw [cB]) | refine wpAny_staticBase_exc hC ?_ | refine wpAny_madeBy_exc hC ?_ | simp only [bne_self_eq_false, Bool.false_eq_true, if_false] | wp_step)
  exact hq
theorem checkInitW (F : IniF IB initId) (hI : bm.contains (.type IB) = true) {e : Addr} {oe : Obj} {Q : Unit → Shared → Prop} (hC : h.get? C = some (excClassObj nm q C N bs bm hdct sn sub ab col dd k0 k1 k2 k3 k5 newId)) (he : h.get? e = some oe) (hcls : oe.cls = .ref C) (hq : Q () ⟨h, g, d, t, os⟩) :
    wpAny M A (checkBuiltinCall initId ⟨.ref e :: rest, []⟩) Q E ⟨h, g, d, t, os⟩ := by
  have cI : (Value.ref C :: bm).contains (.type IB) = true := by rw [List.contains_cons, hI, Bool.or_true]
  have star := F.noStar
  simp only [checkBuiltinCall, F.kind, F.split, F.row]
  repeat (first | (with_reducible refine wpAny_loadPart_at he ?_; rw [hcls]) | with_reducible refine wpAny_loadPart_at hC ?_ | (with_reducible refine wpAny_isSubtype_exc hC ?_; rw [cI]) | wp_step)
  refine wpAny_onRaise ?_
  rw [show ∀ (a b : String) (n : Nat), Bind.check ⟨.positional, "*", IB, .self, [⟨"args", .varPos, false⟩]⟩ a b n (List.map (fun x => x.fst) ({ pos := Value.ref e :: rest } : Args).kw) = pure () from fun a b n => check_star_args _ _ _ _ _ _]
  exact wpAny_pure hq
theorem newW (F : ExcBaseFacts B newId i0 bmB) (hB : bm.contains (.type B) = true) (hA : bm.contains (.type "AttributeError") = false) (hN : bm.contains (.type "NameError") = false) (hC : h.get? C = some (excClassObj nm q C N bs bm hdct sn sub ab col dd k0 k1 k2 k3 k5 newId)) (hrest : rest.length ≤ sizeLine)
    (hq : R (.ok (.ret (.ref (h.objs.size + 1)))) ⟨(h.push (PySem.W.kdv_tup rest)).push (PySem.HandSPX.excO C h.objs.size), g, d, t, os⟩) : codeAny (model prog w) A (.builtin newId ⟨.ref C :: rest, []⟩) R ⟨h, g, d, t, os⟩ := by
  have hends := F.ends
  have cB : (Value.ref C :: bm).contains (.type B) = true := by rw [List.contains_cons, hB, Bool.or_true]
  have cA : (Value.ref C :: bm).contains (.type "AttributeError") = false := by rw [List.contains_cons, hA]; rfl
  have cN : (Value.ref C :: bm).contains (.type "NameError") = false := by rw [List.contains_cons, hN]; rfl
  refine codeAny_builtinAt F.entry ?_
  unfold Builtin.«BaseException.__new__»
  refine PySem.wpAt_bind ?_
  show PySem.wpAt _ _ _ (stack >>= _) _ _ _
  refine PySem.wpAt_bind (PySem.wpAt_stack fun p below => PySem.wpAt_of_wpAny ?_)
  wp_walk
  refine PySem.wpAt_of_wpAny ?_
  rw [F.owner]
  repeat (first | with_reducible refine wpAny_madeHere_exc F.canon hC ?_ | with_reducible refine wpAny_loadPart_at hC ?_ | (with_reducible refine wpAny_isSubtype_exc hC ?_; first | rw [cB] | rw [cA] | rw [cN]) | wp_step)
  show R _ _
  rw [Heap.size_push]
  exact hq
theorem typeCallW (F : ExcBaseFacts B newId i0 bmB) (hB : bm.contains (.type B) = true) (hA : bm.contains (.type "AttributeError") = false) (hN : bm.contains (.type "NameError") = false) {fI : Addr} {Q : Fin → Shared → Prop} (hC : h.get? C = some (excClassObj nm q C N bs bm hdct sn sub ab col dd k0 k1 k2 k3 k5 newId))
    (hi : PySem.W.Looks (model prog w) h (typeLookup (.ref C) "__init__") (some (.ref fI))) (hb : ∀ self, PySem.W.Looks (model prog w) h (bindSpecial (.ref fI) self) (.ref fI, [self])) (hrest : rest.length ≤ sizeLine) {kw : List (Str × Value)} {Af : Around}
    (hq : codeAny (model prog w) A (.call (.ref fI) ⟨.ref (h.objs.size + 1) :: rest, []⟩) (fun r s' => match r with | .ok (.ret v) => v = .none ∧ Q (.done (.ret (.ref (h.objs.size + 1)))) s' | .ok _ => False | .error e => E e s') ⟨(h.push (PySem.W.kdv_tup rest)).push (PySem.HandSPX.excO C h.objs.size), g, d, t, os⟩) :
    wpAny (model prog w) A (Builtin.«type.__call__» ⟨.ref C :: rest, []⟩) Q E ⟨h, g, d, t, os⟩ := by
  repeat (first | with_reducible refine wpAny_loadPart_at hC ?_ | with_reducible refine wpAny_madeBy_exc hC ?_ | wp_step)
  refine codeAny_call_builtin_code (Code.quiet_builtin _ F.quiet) (checkNewW F hB hC ?_)
  refine newW F hB hA hN hC hrest ?_
  show wpAny _ _ _ _ _ _
  have k : ∀ c o, h.get? c = some o → ((h.push (PySem.W.kdv_tup rest)).push (PySem.HandSPX.excO C h.objs.size)).get? c = some o := fun c o e => Heap.get?_push_of_some _ (Heap.get?_push_of_some _ e)
  have hC1 := k _ _ hC
  have hget : ((h.push (PySem.W.kdv_tup rest)).push (PySem.HandSPX.excO C h.objs.size)).get? (h.objs.size + 1) = some (PySem.HandSPX.excO C h.objs.size) := by heap_get
  have cC : (Value.ref C :: bm).contains (.ref C) = true := by simp
  have i1 := hi.keeps k
  have b1 := (hb (.ref (h.objs.size + 1))).keeps k
  unfold isInstance
  repeat (first | with_reducible refine wpAny_loadPart_at hget ?_ | (with_reducible refine wpAny_isSubtype_exc hC1 ?_; rw [cC]) | wp_step)
  show wpAny _ _ (typeLookup (.ref C) _) _ _ _
  refine i1.at (wpAny_holding (wpAny_bind (b1.at (wpAny_bind (wpAny_call (codeAny_mono hq fun r s' z => ?_))))))
  rcases r with e | (v | _ | _ | _) <;> first | exact z | exact z.elim | skip
  obtain ⟨rfl, z⟩ := z
  first
    | exact wpAny_pure (wpAny_pure z)
    | (wp_walk; exact z)
theorem callW (F : ExcBaseFacts B newId i0 bmB) (hB : bm.contains (.type B) = true) (hA : bm.contains (.type "AttributeError") = false) (hN : bm.contains (.type "NameError") = false) {fI : Addr} (hC : h.get? C = some (excClassObj nm q C N bs bm hdct sn sub ab col dd k0 k1 k2 k3 k5 newId))
    (hi : PySem.W.Looks (model prog w) h (typeLookup (.ref C) "__init__") (some (.ref fI))) (hb : ∀ self, PySem.W.Looks (model prog w) h (bindSpecial (.ref fI) self) (.ref fI, [self])) (hrest : rest.length ≤ sizeLine)
    (hq : codeAny (model prog w) (A.under (.builtin "type.__call__" ⟨.ref C :: rest, []⟩)) (.call (.ref fI) ⟨.ref (h.objs.size + 1) :: rest, []⟩) (PySem.W.InitBack (h.objs.size + 1) R) ⟨(h.push (PySem.W.kdv_tup rest)).push (PySem.HandSPX.excO C h.objs.size), g, d, t, os⟩) :
    codeAny (model prog w) A (.call (.ref C) ⟨rest, []⟩) R ⟨h, g, d, t, os⟩ := by
  have f1 := PySem.tc_lookup
  have f2 := PySem.tc_bind (.ref C)
  have hTy : (⟨h, g, d, t, os⟩ : Shared).TypeIs (.ref C) "type" := ⟨_, hC, rfl⟩
  refine codeAny_of_tree ?_
  show wpAny _ _ (callAny (.ref C) _) _ _ _
  repeat (any_goals (first | assumption | with_reducible refine wpAny_loadPart_at hC ?_ | wp_step))
  refine ⟨rfl, codeAny_call_builtin_at (Code.quiet_builtin _ (by decide +kernel)) entry_typeCall (wpAny_check_type_call_sub hC (typeCallW F hB hA hN hC hi hb hrest (kw := []) (Af := A) ?_))⟩
  refine codeAny_mono hq fun r s' z => ?_
  rcases r with e | (v | _ | _ | _) <;> exact z
theorem initW (F : IniF IB initId) (hI : bm.contains (.type IB) = true) {e t0 : Addr} (hC : h.get? C = some (excClassObj nm q C N bs bm hdct sn sub ab col dd k0 k1 k2 k3 k5 newId)) (he : h.get? e = some (PySem.HandSPX.excO C t0)) (hrest : rest.length ≤ sizeLine)
    (hq : ∀ h' t1, (∀ c o, c ≠ e → h.get? c = some o → h'.get? c = some o) → h'.get? e = some (PySem.HandSPX.excO C t1) → R (.ok (.ret .none)) ⟨h', g, d, t, os⟩) : codeAny (model prog w) A (.call (.builtin initId) ⟨.ref e :: rest, []⟩) R ⟨h, g, d, t, os⟩ := by
  refine codeAny_call_builtin F.init.plain F.entry (checkInitW F hI hC he rfl ?_)
  wp_walk
  refine hq _ h.objs.size (fun c o hc ho => ?_) ?_
  · rw [Heap.get?_update_other _ _ (Ne.symm hc)]
    exact Heap.get?_push_of_some _ ho
  · rw [Heap.get?_update_self _ (Heap.get?_push_of_some _ he) rfl]
    rfl
end
inductive Bs where
  | ve
  | le
  | ke
def Bs.nm : Bs → String
  | .ve => "ValueError"
  | .le => "LookupError"
  | .ke => "KeyError"
/-- whose __new__ it is -/
def Bs.nb : Bs → String
  | .ve => "ValueError"
  | _ => "LookupError"
def Bs.new : Bs → String
  | .ve => "ValueError.__new__"
  | _ => "LookupError.__new__"
def Bs.init : Bs → String
  | .ve => "ValueError.__init__"
  | .le => "LookupError.__init__"
  | .ke => "KeyError.__init__"
def Bs.tl : Bs → List Value
  | .ve => [.type "ValueError", .type "Exception", .type "BaseException", .type "object"]
  | .le => [.type "LookupError", .type "Exception", .type "BaseException", .type "object"]
  | .ke => [.type "KeyError", .type "LookupError", .type "Exception", .type "BaseException", .type "object"]
theorem Bs.f : ∀ b : Bs, ∃ i0 bmB, ExcBaseFacts b.nb b.new i0 bmB
  | .ve => ⟨_, _, F.excBase_ValueError⟩
  | .le => ⟨_, _, F.excBase_LookupError⟩
  | .ke => ⟨_, _, F.excBase_LookupError⟩
theorem Bs.i : ∀ b : Bs, IniF b.nm b.init
  | .ve => inf_of F.excBase_ValueError.toExcCallFacts
  | .le => inf_of F.excBase_LookupError.toExcCallFacts
  | .ke => inf_KE
theorem pass_KE (self : Value) : refuseLoop self "__setattr__" [.type "KeyError", .type "LookupError", .type "Exception", .type "BaseException", .type "object"] = pure () := by kernel_rfl
theorem Bs.pass : ∀ (b : Bs) (self : Value), refuseLoop self "__setattr__" b.tl = pure ()
  | .ve, self => F.store_ValueError.passes self
  | .le, self => F.store_LookupError.passes self
  | .ke, self => pass_KE self
theorem Bs.obj (b : Bs) : b.tl.contains (.type "object") = true := by cases b <;> decide +kernel
theorem Bs.hB (b : Bs) : b.tl.contains (.type b.nb) = true := by cases b <;> decide +kernel
theorem Bs.hI (b : Bs) : b.tl.contains (.type b.nm) = true := by cases b <;> decide +kernel
theorem Bs.hA (b : Bs) : b.tl.contains (.type "AttributeError") = false := by cases b <;> decide +kernel
theorem Bs.hN (b : Bs) : b.tl.contains (.type "NameError") = false := by cases b <;> decide +kernel
/-- own classes, then the built-in one's line -/
inductive Tail (b : Bs) : List Value → Prop
  | here : Tail b b.tl
  | own (C : Addr) {l : List Value} : Tail b l → Tail b (.ref C :: l)
section
variable {b : Bs} {l : List Value}
theorem Tail.pass (h : Tail b l) (self : Value) : refuseLoop self "__setattr__" l = pure () := by
  induction h with
  | here => exact b.pass self
  | own C _ ih => rw [refuseLoop_ref]; exact ih
theorem Tail.has (h : Tail b l) (X : String) : l.contains (.type X) = b.tl.contains (.type X) := by
  induction h with
  | here => rfl
  | own C _ ih => rw [List.contains_cons, ih]; rfl
theorem Tail.ne (h : Tail b l) : l.isEmpty = false := by
  cases h with
  | here => cases b <;> rfl
  | own C _ => rfl
end
section
open Builtin Builtin.ObjectAttr
variable {prog : Program} {w : World} {A : Around} {E : Value → Shared → Prop} {R : Result → Shared → Prop} {hp : Heap} {g : Array GenState} {d : Drawn} {t : Nat} {os : OsState}
/-- the first field of an exception -/
theorem osaT {K : PySem.W.Frag} {b : Bs} {name : Str} {tk : Tok} {v : Value} {x C : Addr} {fv : Array Value} {cd : ClassData} (X : K.In hp) (hx : hp.get? x = some { cls := .ref C, data := .fields fv }) (hcd : PySem.W.clsIn K C = some cd) (hm : Tail b cd.mro) (hh : cd.hasDict = true) (ha : PySem.W.findIn K (.ref C) name = some none)
    (hq : ∀ h' tk' dx, (∀ c o, c ≠ x → hp.get? c = some o → h'.get? c = some o) → hp.objs.size ≤ dx → dx ≠ x → h'.get? x = some { cls := .ref C, dict := some dx, data := .fields fv } → h'.Ns1 dx (fun y => if y = name then some v else none) → R (.ok (.ret .none)) ⟨h', g, d, tk', os⟩) :
    codeAny (model prog w) A (.call (.builtin "object.__setattr__") ⟨[.ref x, .str name tk, v], []⟩) R ⟨hp, g, d, t, os⟩ := by
  have I : PySem.W.InstAt hp x { cls := .ref C, data := .fields fv } C none := ⟨hx, rfl, rfl, trivial⟩
  have SF := F.store_object
  have hob : cd.mro.contains (.type "object") = true := (hm.has "object").trans b.obj
  have hxs : x ≠ hp.objs.size := Nat.ne_of_lt (Heap.lt_size hx)
  have isO : PySem.W.Looks (model prog w) hp (isInstance (.ref x) (.type "object")) true :=
    I.type.andThen (PySem.W.looks_mroIn X (by unfold PySem.W.mroIn; rw [hcd, Option.bind_some, if_neg (by rw [hm.ne]; decide), hob]))
  have lineL : PySem.W.Looks (model prog w) hp (mroOf (.ref C)) cd.mro := (PySem.W.looks_clsIn X hcd).andThen .now
  have noTaker : PySem.W.Looks (model prog w) hp (storeTaker? none) none := .now
  have clsL : PySem.W.Looks (model prog w) hp (classData C) cd := PySem.W.looks_clsIn X hcd
  refine codeAny_call_builtin SF.slot.plain SF.entry (@PySem.W.check_slot (model prog w) _ _ ⟨hp, g, d, t, os⟩ "object.__setattr__" "object" "__setattr__" (.ref x) [.str name tk, v] [] _ SF.kind SF.split isO (SF.args (.ref x) (.str name tk) v) ?_)
  rw [PySem.W.osa_eq, refuse_eq]
  refine wpAny_bind (wpAny_bind (I.type.at (wpAny_bind (lineL.at ?_))))
  rw [hm.pass]
  refine wpAny_pure (wpAny_bind (I.type.at (wpAny_bind ((PySem.W.looks_findIn X ha).at (wpAny_bind (noTaker.at ?_))))))
  show wpAny _ _ (storeInOwnDict (.ref x) (.ref C) (.str name tk) name v false) _ _ _
  obtain ⟨nm, bs, mro, ns, qn, hd, sn, sb, ab, col, del⟩ := cd
  dsimp only at hh
  subst hh
  unfold storeInOwnDict ownDictForStores
  repeat (first | with_reducible refine PySem.HandSPX.store_in_new ?_ ?_ | with_reducible refine wpAny_loadPart_at hx ?_ | with_reducible refine clsL.at ?_ | wp_step)
  · exact ⟨_, #[], _, (Heap.get?_update_ne _ _ _ _ hxs.symm).trans (Heap.get?_push_at rfl rfl), rfl, fun e he => absurd he (by simp), fun _ => rfl⟩
  · intro h' tk' hn' hs
    have hx1 : (hp.push { cls := .type "dict", data := .dict #[] }).get? x = some { cls := .ref C, data := .fields fv } := Heap.get?_push_of_some _ hx
    refine hq h' tk' hp.objs.size (fun c o hc ho => ?_) (Nat.le_refl _) hxs.symm ?_ hn'
    · have z1 := hs.2 c (Nat.ne_of_lt (Heap.lt_size ho))
      exact z1.trans ((Heap.get?_update_ne _ _ _ _ hc).trans (Heap.get?_push_of_some _ ho))
    · exact (hs.2 x hxs).trans (Heap.get?_update_self _ hx1 rfl)
end
/-- what the written part says of the class -/
structure OexT (K : PySem.W.Frag) (b : Bs) (C : Addr) : Prop where
  cls : ∃ nm q N bs bm sn sub ab col dd k0 k1 k2 k3 k5, K.lookup C = some (excClassObj nm q C N bs bm true sn sub ab col dd k0 k1 k2 k3 k5 b.new) ∧ Tail b bm
  sa : PySem.W.findIn K (.ref C) "__setattr__" = some (some (.builtin "object.__setattr__"))
  exC : PySem.W.subIn K (.ref C) (.type "BaseException") = some true
  tyC : PySem.W.typeIn K (.ref C) = some (.type "type")
  kC : PySem.W.keepIn K (.ref C) = true
section
variable {X : Cx} {pins : List (Addr × Obj)} {σ : L2.St} {H : Hp} {s : Shared} {a C dx : Addr} {f : Str} {y : V} {u : Value} {b : Bs} {Q : Unit → Shared → Prop} {E : Value → Shared → Prop} {A : Around}
theorem ost_newT (T : OexT X.K b C) (I : Inv X pins σ H s) (e : H a = some (exo a C none)) (hno : PySem.W.findIn X.K (.ref C) f = some none) (ry : RelV y u)
    (h : ∀ dx s', H dx = none → dx ≠ a → Inv X pins σ (upd (upd H dx (exd dx [(f, y)])) a (exo a C (some dx))) s' → Q () s') : wpAny (model X.prog X.w) A (setAttr (.ref a) f u) Q E s := by
  obtain ⟨nm, q, N, bs, bm, sn, sub, ab, col, dd, k0, k1, k2, k3, k5, hC, hbm⟩ := T.cls
  obtain ⟨t1, ho⟩ := exo_at I.hok e
  obtain ⟨hp, g, d, t, os⟩ := s
  have hcl : PySem.W.clsIn X.K C = some { name := nm, bases := bs, mro := .ref C :: bm, ns := N, qualname := q, hasDict := true, slotNames := sn, subclasses := sub, abstract := ab, collection := col, hasDel := false } := by
    unfold PySem.W.clsIn
    rw [hC] <;> rfl
  refine PySem.W.set_plain I.kIn (ox := { cls := .ref C, dict := none, data := .fields #[.ref t1, .none, .none, .none, .bool false, .none] }) (od := none) ⟨ho, rfl, rfl, trivial⟩ T.sa ?_
  refine osaT I.kIn ho hcl (.own C hbm) rfl hno fun h' tk' dx k dn dne hx hn => ?_
  have hnd : H dx = none := I.hok.fresh dn
  have nd : ∀ {c : Addr} {o : Obj}, hp.get? c = some o → c ≠ dx := fun {c o} z => Nat.ne_of_lt (Nat.lt_of_lt_of_le (Heap.lt_size z) dn)
  have na : ∀ {c : Addr}, H c = none → c ≠ a := fun {c} n z => by
    rw [z, e] at n
    exact nomatch n
  have un : Un X.fs [] H (upd (upd H dx (exd dx [(f, y)])) a (exo a C (some dx))) hp h' := by
    refine ⟨fun c o z n _ _ => k c o (na n) z, fun c o z n _ _ => ⟨o.slots, k c o (na n) z⟩, fun c o z n _ => by rw [upd_ne (na n), upd_ne (nd z)]; exact n, fun c o z _ => ?_, fun c xs z => ?_, fun c o v z => ?_, fun c ps z => ⟨#[], ?_⟩⟩
    · by_cases hc : c = a
      · exact ⟨_, by rw [hc]; exact hx⟩
      · exact ⟨o, k c o hc z⟩
    · rw [upd_ne (at_ne e z exo_tup), upd_ne (ne_of_none z hnd)]; exact z
    · rw [upd_ne (at_ne e z exo_frz), upd_ne (ne_of_none z hnd)]; exact z
    · rw [upd_ne (at_ne e z exo_tbl), upd_ne (ne_of_none z hnd), z]; simp
  refine h dx _ hnd dne (I.un (t' := tk') un fun c o z => ?_)
  by_cases hc : c = a
  · subst hc
    rw [upd_same] at z
    obtain rfl := Option.some.inj z
    exact exo_ok hx
  · rw [upd_ne hc] at z
    by_cases hd : c = dx
    · subst hd
      rw [upd_same] at z
      obtain rfl := Option.some.inj z
      exact exd_ok hn (relO_put (fs := []) ry fun _ => True.intro)
    · rw [upd_ne hd] at z
      refine (I.hok c o z).stay (fun c2 v hc2 z2 => k c2 v ?_ z2) (fun c2 z2 => ?_) fun c2 xs z2 => ?_
      · rcases hc2 with q2 | q2
        · rw [q2]; exact hc
        · exact at_ne e q2 exo_own
      · rw [upd_ne (at_ne e z2 exo_own), upd_ne (ne_of_none z2 hnd)]; exact z2
      · rw [upd_ne (at_ne e z2 exo_tup), upd_ne (ne_of_none z2 hnd)]; exact z2
/-- the built-in class's __init__: nothing of it is told -/
theorem oinitT {us : List Value} {Q : Value → Shared → Prop} (T : OexT X.K b C) (I : Inv X pins σ H s) (e : H a = some (exo a C none)) (hl : us.length ≤ sizeLine) (h : ∀ s', Inv X pins σ H s' → Q .none s') : wpAny (model X.prog X.w) A (call (.builtin b.init) (.ref a :: us)) Q E s := by
  obtain ⟨nm, q, N, bs, bm, sn, sub, ab, col, dd, k0, k1, k2, k3, k5, hC, hbm⟩ := T.cls
  obtain ⟨t1, ho⟩ := exo_at I.hok e
  obtain ⟨hp, g, d, t, os⟩ := s
  refine wpAny_call (initW b.i ((hbm.has _).trans b.hI) (I.kIn _ _ hC) ho hl fun h' t2 k hx => ?_)
  have J := I.write (t' := t) (x := a) (e := a) (o := exo a C none) (by rw [e]; exact True.intro) (.inl rfl) k ⟨_, hx⟩ (exo_ok hx)
  have eu : upd H a (exo a C none) = H := funext fun c => by
    by_cases hc : c = a
    · rw [hc, upd_same, e]
    · rw [upd_ne hc]
  exact h _ (eu ▸ J)
end
def tBaI (K : PySem.W.Frag) (b : Bs) (ta : TA) : TE := fun σ H Q => ta σ H fun vs H1 => ∃ (a C : Addr) (ws : List V), vs = .ref a :: ws ∧ ws.length ≤ 1000 ∧ OexT K b C ∧ H1 a = some (exo a C none) ∧ Q .non H1
/-- self.f = e, the first one -/
def tOsN (K : PySem.W.Frag) (f : Str) (to te : TE) : TS := fun D σ H => te σ H fun y H1 => to σ H1 fun x H2 => ∃ (b : Bs) (a C : Addr), x = .ref a ∧ OexT K b C ∧ PySem.W.findIn K (.ref C) f = some none ∧
  H2 a = some (exo a C none) ∧ ∀ dx, H2 dx = none → dx ≠ a → D.nx σ (upd (upd H2 dx (exd dx [(f, y)])) a (exo a C (some dx)))
section
variable {X : Cx} {o e : Expr} {es : List Expr} {to te : TE} {ta : TA} {f : Str} {p p' p1 p2 pos : Pos}
theorem typ_LE : typeOf (.type "LookupError") = pure (.type "type") := by kernel_rfl
theorem pe_veI {pl : Sem Bool} (hg : Gl X "ValueError") (hm : X.mg "ValueError" = none) (vV : PySem.W.findCls X.K (.type "ValueError") (.type "type") "__init__" = some (.val (.builtin "ValueError.__init__"))) (ha : PA X (e :: es) ta)
    (hc : eval (.Call (.Attribute (.Name "ValueError" p1) "__init__" p2) (e :: es) [] pos) X.env = (do
      let ov ← eval (.Name "ValueError" p1) X.env
      standAt p2.atName
      let (f, first) ← holding [ov] (getMethod ov "__init__" pl)
      callWith pos f first (backTo pos (starEach (e :: es) X.env)) (backToKw pos (keywordEach [] X.env))) := by rfl)
    (he : starEach (e :: es) X.env = (false, eval e X.env) :: starEach es X.env := by rfl) (hpl : (backTo pos (starEach es X.env)).any (·.1) = false := by rfl) :
    PE X (.Call (.Attribute (.Name "ValueError" p1) "__init__" p2) (e :: es) [] pos) (tBaI X.K .ve ta) := by
  refine ⟨fun pins s σ H Q I h => PySem.W.methodCall_KW (ld_blt I hg hm PyProof.Rows.Boot.«ValueError» ?_ (by decide) (by decide)) hc⟩
  obtain ⟨m, fr⟩ := I.fr
  refine PySem.W.method_type fr I.ok.mod.kin PySem.OEX.typ_VE (by decide +kernel) vV (by decide +kernel) ?_
  refine PyProof.Rows.callWith_method1 (thn (ha.run pos pins _ σ H _ (I.tok _) h) fun us s1 ⟨vs, H1, I1, r1, a, C, ws, ev, hl, T, ea, q⟩ => ?_) he hpl
  subst ev
  cases r1 with
  | @cons _ u0 _ ur ra rw' =>
    obtain rfl : u0 = Value.ref a := ra
    exact oinitT T I1 ea (by rw [← Paired.length rw', sizeLine_eq]; omega) fun s' J => ⟨.non, H1, J, rfl, q⟩
theorem pe_leI {pl : Sem Bool} (hg : Gl X "LookupError") (hm : X.mg "LookupError" = none) (vV : PySem.W.findCls X.K (.type "LookupError") (.type "type") "__init__" = some (.val (.builtin "LookupError.__init__"))) (ha : PA X (e :: es) ta)
    (hc : eval (.Call (.Attribute (.Name "LookupError" p1) "__init__" p2) (e :: es) [] pos) X.env = (do
      let ov ← eval (.Name "LookupError" p1) X.env
      standAt p2.atName
      let (f, first) ← holding [ov] (getMethod ov "__init__" pl)
      callWith pos f first (backTo pos (starEach (e :: es) X.env)) (backToKw pos (keywordEach [] X.env))) := by rfl)
    (he : starEach (e :: es) X.env = (false, eval e X.env) :: starEach es X.env := by rfl) (hpl : (backTo pos (starEach es X.env)).any (·.1) = false := by rfl) :
    PE X (.Call (.Attribute (.Name "LookupError" p1) "__init__" p2) (e :: es) [] pos) (tBaI X.K .le ta) := by
  refine ⟨fun pins s σ H Q I h => PySem.W.methodCall_KW (ld_blt I hg hm PyProof.Rows.Boot.«LookupError» ?_ (by decide) (by decide)) hc⟩
  obtain ⟨m, fr⟩ := I.fr
  refine PySem.W.method_type fr I.ok.mod.kin typ_LE (by decide +kernel) vV (by decide +kernel) ?_
  refine PyProof.Rows.callWith_method1 (thn (ha.run pos pins _ σ H _ (I.tok _) h) fun us s1 ⟨vs, H1, I1, r1, a, C, ws, ev, hl, T, ea, q⟩ => ?_) he hpl
  subst ev
  cases r1 with
  | @cons _ u0 _ ur ra rw' =>
    obtain rfl : u0 = Value.ref a := ra
    exact oinitT T I1 ea (by rw [← Paired.length rw', sizeLine_eq]; omega) fun s' J => ⟨.non, H1, J, rfl, q⟩
theorem typ_KE : typeOf (.type "KeyError") = pure (.type "type") := by kernel_rfl
theorem pe_keI {pl : Sem Bool} (hg : Gl X "KeyError") (hm : X.mg "KeyError" = none) (vV : PySem.W.findCls X.K (.type "KeyError") (.type "type") "__init__" = some (.val (.builtin "KeyError.__init__"))) (ha : PA X (e :: es) ta)
    (hc : eval (.Call (.Attribute (.Name "KeyError" p1) "__init__" p2) (e :: es) [] pos) X.env = (do
      let ov ← eval (.Name "KeyError" p1) X.env
      standAt p2.atName
      let (f, first) ← holding [ov] (getMethod ov "__init__" pl)
      callWith pos f first (backTo pos (starEach (e :: es) X.env)) (backToKw pos (keywordEach [] X.env))) := by rfl)
    (he : starEach (e :: es) X.env = (false, eval e X.env) :: starEach es X.env := by rfl) (hpl : (backTo pos (starEach es X.env)).any (·.1) = false := by rfl) :
    PE X (.Call (.Attribute (.Name "KeyError" p1) "__init__" p2) (e :: es) [] pos) (tBaI X.K .ke ta) := by
  refine ⟨fun pins s σ H Q I h => PySem.W.methodCall_KW (ld_blt I hg hm PyProof.Rows.Boot.«KeyError» ?_ (by decide) (by decide)) hc⟩
  obtain ⟨m, fr⟩ := I.fr
  refine PySem.W.method_type fr I.ok.mod.kin typ_KE (by decide +kernel) vV (by decide +kernel) ?_
  refine PyProof.Rows.callWith_method1 (thn (ha.run pos pins _ σ H _ (I.tok _) h) fun us s1 ⟨vs, H1, I1, r1, a, C, ws, ev, hl, T, ea, q⟩ => ?_) he hpl
  subst ev
  cases r1 with
  | @cons _ u0 _ ur ra rw' =>
    obtain rfl : u0 = Value.ref a := ra
    exact oinitT T I1 ea (by rw [← Paired.length rw', sizeLine_eq]; omega) fun s' J => ⟨.non, H1, J, rfl, q⟩
theorem ps_osN (ho : PE X o to) (he : PE X e te) (hs : swapsWith e (some (.Attribute o f p')) pos.line X.env = pure false := by rfl) : PS X (.Assign [.Attribute o f p'] e pos) (tOsN X.K f to te) := by
  refine ⟨fun pins s σ H D I h => plainObj_wpAny_Assign_Attribute (thn (he.run pins s σ H _ I h) fun v s1 ⟨y, H1, I1, r1, q1⟩ => thn (ho.run pins s1 σ H1 _ I1 q1) fun u s2 ⟨x, H2, I2, r2, b, a, C, ex, T, hno, ea, q⟩ => ?_) hs⟩
  subst ex
  obtain rfl : u = Value.ref a := r2
  exact ost_newT T I2 ea hno r1 fun dx s' n ne J => ⟨σ, _, J, q dx n ne⟩
/-- C(e, ..) that is raised -/
theorem pmk_oexT {b : Bs} {CX : CXT} {x : Str} {C fI : Addr} {k : Nat} {fd : FuncData} {ps : List Str} {sp : Sp} {ds : List Value} {dvs : List V} (T : OexT X.K b C) (iC : PySem.W.findIn X.K (.ref C) "__init__" = some (some (.ref fI))) (tI : PySem.W.typeIn X.K (.ref fI) = some (.type "function"))
    (F1 : FnOk X.prog X.w X.K X.mg X.base CX k fI fd ps sp) (hr : Room (k + 1) X.A) (hb : Binds X.K fd ps ds) (hd : Vals dvs ds) (hx : Passes CX X (fun _ _ _ => False)) (hg : Gl X x) (hm : X.mg x = some (.ref C)) (ha : PA X (e :: es) ta)
    (hdb : (x == ("__debug__" : Str)) = false := by decide) (he : starEach (e :: es) X.env = (false, eval e X.env) :: starEach es X.env := by rfl) (hpl : (backTo pos (starEach es X.env)).any (·.1) = false := by rfl) :
    PMk X (.Call (.Name x p) (e :: es) [] pos) (tMkO C sp dvs ta) := by
  intro pins s σ H Q I h
  obtain ⟨nm, q, N, bs, bm, sn, sub, ab, col, dd, k0, k1, k2, k3, k5, hC, hbm⟩ := T.cls
  refine wpAny_Call_Name_kw (ld_glob I hg hm ?_ hdb)
  refine PySem.W.callWith_K (h₀ := X.base) I.ok.mod.kin T.kC (thn (ha.run pos pins s σ H _ I h) fun us s1 ⟨vs, H1, I1, r1, hz, q1⟩ => ⟨I1.kIn, ?_⟩) he hpl
  show wpAny _ _ (call (.ref C) us) _ _ _
  obtain ⟨hp, g, dr, tk, os⟩ := s1
  have hsz : hp.objs.size ≤ hp.objs.size + 1 := Nat.le_succ _
  have hq := q1 (hp.objs.size + 1) (I1.hok.fresh hsz)
  have hget : ((hp.push (PySem.W.kdv_tup us)).push (PySem.HandSPX.excO C hp.objs.size)).get? (hp.objs.size + 1) = some (PySem.HandSPX.excO C hp.objs.size) := by heap_get
  have kk : ∀ c o, hp.get? c = some o → ((hp.push (PySem.W.kdv_tup us)).push (PySem.HandSPX.excO C hp.objs.size)).get? c = some o := fun c o z => Heap.get?_push_of_some _ (Heap.get?_push_of_some _ z)
  have I2 : Inv X pins σ (upd H1 (hp.objs.size + 1) (exo (hp.objs.size + 1) C none)) ⟨(hp.push (PySem.W.kdv_tup us)).push (PySem.HandSPX.excO C hp.objs.size), g, dr, tk, os⟩ :=
    I1.laid (t' := tk) (a := hp.objs.size + 1) (o := exo (hp.objs.size + 1) C none) (h' := (hp.push (PySem.W.kdv_tup us)).push (PySem.HandSPX.excO C hp.objs.size)) kk hsz (exo_ok hget)
  have r2 : Vals (V.ref (hp.objs.size + 1) :: (vs ++ dvs)) (Value.ref (hp.objs.size + 1) :: (us ++ ds)) := .cons rfl (r1.append hd)
  have hl : (Value.ref (hp.objs.size + 1) :: us ++ ds).length = ps.length := r2.length.symm.trans (F1.len _ _ _ _ hq)
  have hus : us.length ≤ sizeLine := by rw [← Paired.length r1, sizeLine_eq]; omega
  obtain ⟨i0, bmB, bf⟩ := b.f
  refine wpAny_call (callW bf ((hbm.has _).trans b.hB) ((hbm.has _).trans b.hA) ((hbm.has _).trans b.hN) (I1.kIn _ _ hC) (PySem.W.looks_findIn I1.kIn iC) (fun self => PySem.W.bind_fn I1.kIn self tI) hus
    (codeAny_mono (F1.run _ X.stack _ _ ⟨Value.ref (hp.objs.size + 1) :: us, []⟩ (Value.ref (hp.objs.size + 1) :: (us ++ ds)) _ _ (fun _ _ _ => False) (hr.make C us []) (I2.env0.make C us []) (hb _ (Value.ref (hp.objs.size + 1) :: us) I2.kIn hl) r2 hq) fun r s' hq' => ?_))
  match r, hq' with
  | .error er, hq' => exact hx pins σ _ _ er s' I2 hq'
  | .ok (.ret u), hq' =>
    obtain ⟨v, H2, os2, bare2, un2, hok2, rv, ev, d, fs, ea, ed, hd1, q2⟩ := hq'
    subst ev
    obtain ⟨h2, g2, d2, t2, os'⟩ := s'
    exact ⟨rv, mk_end (raises_own T.exC T.tyC) I1 hsz kk un2 hok2 os2 bare2 ea ed hd1 q2⟩
end
/-- Base.__init__(self, text) of an own family -/
def spGT (K : PySem.W.Frag) (b : Bs) : Sp := fun vs H Q _ => ∃ (a C : Addr) (x : V), vs = [.ref a, x] ∧ OexT K b C ∧ H a = some (exo a C none) ∧ Q .non H
end Bk

namespace Bk
open PySem PySem.Spec PyProof.Rows L2
/-! ## 21. methods of own classes: what is raised is wished for at the caller's slots -/
structure CalM (P : Program) (w : World) (K : PySem.W.Frag) (mg : Str → Option Value) (base : Heap) (CX : CXT) (k : Nat) (C : Addr) (m : Str) (sp : Sp) : Prop where
  ex : ∃ (f : Addr) (fd : FuncData) (ps : List Str), Meth K C m f ∧ FnOk P w K mg base CX k f fd ps sp ∧ Binds K fd ps []
structure CalMK (P : Program) (w : World) (K : PySem.W.Frag) (mg : Str → Option Value) (base : Heap) (CX : CXT) (k n : Nat) (ks : List Str) (C : Addr) (m : Str) (sp : Sp) (gV : List V → List V → List V) : Prop where
  ex : ∃ (f : Addr) (fd : FuncData) (ps : List Str) (g : List Value → List Value → List Value), Meth K C m f ∧ FnOk P w K mg base CX k f fd ps sp ∧ KBn K fd ps (n + 1) ks g gV
/-- C(..) of a class whose objects are plain -/
structure CalC (P : Program) (w : World) (K : PySem.W.Frag) (mg : Str → Option Value) (base : Heap) (CX : CXT) (k : Nat) (C : Addr) (x : Str) (sp : Sp) : Prop where
  ex : ∃ (f : Addr) (fd : FuncData) (ps : List Str), Mk K C f ∧ FnOk P w K mg base CX k f fd ps sp ∧ Binds K fd ps [] ∧ mg x = some (.ref C)
def tMeS (C : Addr) (m : Str) (sp : Sp) (E : L2.St → XK) (ta : TE) (t : TA) : TE := fun σ H Q => ta σ H fun x H1 => ∃ a dx fs, x = .ref a ∧ H1 a = some (.ins C dx fs) ∧ fs.lookup m = none ∧ t σ H1 fun vs H2 => sp (x :: vs) H2 Q (E σ)
def tMeK (C : Addr) (m : Str) (j : Nat) (sp : Sp) (gV : List V → List V → List V) (E : L2.St → XK) (ta : TE) (tk : TA) : TE := fun σ H Q => ta σ H fun x H1 => ∃ a dx fs, x = .ref a ∧ H1 a = some (.ins C dx fs) ∧ fs.lookup m = none ∧ tk σ H1 fun zs H2 => zs.length = j ∧ sp (gV [x] zs) H2 Q (E σ)
def tMkS (C : Addr) (sp : Sp) (E : L2.St → XK) (t : TA) : TE := fun σ H Q => t σ H fun vs H1 => ∀ x dx, H1 x = none → H1 dx = none → dx ≠ x →
  sp (.ref x :: vs) (upd (upd H1 dx (.own x)) x (.ins C dx [])) (fun v H2 => v = .non ∧ Q (.ref x) H2) (E σ)
section
variable {X : Cx} {CX : CXT} {k j n : Nat} {ks : List Str} {f C : Addr} {fd : FuncData} {ps : List Str} {sp : Sp} {E : L2.St → XK} {x m : Str} {p pos apos : Pos} {e o : Expr} {es : List Expr} {kws : List Keyword} {ta : TE} {t tk : TA} {W : WX} {gV : List V → List V → List V} {g : List Value → List Value → List Value}
theorem ps0 : ∀ σ, PassesAt CX0 X σ ((fun _ => E0) σ) := fun _ _ _ _ _ _ _ h => h.elim
theorem psY : ∀ σ, PassesAt (L2.CX X.prog X.w) X σ ((fun _ => noE) σ) := fun σ pins H s e s' I h => pass_no (X := X) pins σ H s e s' I h
theorem psX {E : XK} (tk : Takes X (fun cls d _ H => E cls d H)) : ∀ σ, PassesAt (L2.CX X.prog X.w) X σ ((fun _ => E) σ) := fun σ pins H s e s' I h => passes_call tk (fun _ _ _ _ z => z) pins σ H s e s' I h
theorem psT (tk : Takes X W) : ∀ σ, PassesAt (L2.CX X.prog X.w) X σ (WE W σ) := passAt tk
/-- o.m(e, ..) -/
theorem pe_mth {pl : Sem Bool} (he : PE X o ta) (cl : Cls X.K C) (c : CalM X.prog X.w X.K X.mg X.base CX k C m sp) (hr : Room j X.A) (hk : k ≤ j) (hx : ∀ σ, PassesAt CX X σ (E σ)) (ha : PA X (e :: es) t)
    (hst : starEach (e :: es) X.env = (false, eval e X.env) :: starEach es X.env := by rfl) (hpl : (backTo pos (starEach es X.env)).any (·.1) = false := by rfl)
    (ht : eval (.Call (.Attribute o m apos) (e :: es) [] pos) X.env = (do
      let ov ← eval o X.env
      standAt apos.atName
      let (f, first) ← holding [ov] (getMethod ov m pl)
      callWith pos f first (backTo pos (starEach (e :: es) X.env)) (backToKw pos (keywordEach [] X.env))) := by rfl) :
    PE X (.Call (.Attribute o m apos) (e :: es) [] pos) (tMeS C m sp E ta t) := by
  obtain ⟨f, fd, ps, hm, F, hb⟩ := c.ex
  refine ⟨fun pins s σ H Q I h => ?_⟩
  refine PySem.W.methodCall_KW (pl := pl) (thn (he.run pins s σ H _ I h) fun u s1 ⟨x, H1, I1, rx, a, dx, fs, ex, ea, l, q⟩ => ?_) ht
  subst ex
  obtain rfl : u = Value.ref a := rx
  refine getmeth_ok I1 ea cl hm l ?_
  refine PySem.W.callWith_K (first := [.ref a]) (h₀ := X.base) I.ok.mod.kin hm.kp (thn (ha.run pos pins s1 σ H1 _ I1 q) fun us s2 ⟨vs, H2, I2, r, q2⟩ => ⟨I2.kIn, ?_⟩) hst hpl
  exact run_fnS (us := .ref a :: us) (vs := .ref a :: vs) F (hr.mono hk) hb (hx σ) I2 (.cons rfl r) q2
/-- o.m() -/
theorem pe_mth0 {pl : Sem Bool} (he : PE X o ta) (cl : Cls X.K C) (c : CalM X.prog X.w X.K X.mg X.base CX k C m sp) (hr : Room j X.A) (hk : k ≤ j) (hx : ∀ σ, PassesAt CX X σ (E σ))
    (ht : eval (.Call (.Attribute o m apos) [] [] pos) X.env = (do
      let ov ← eval o X.env
      standAt apos.atName
      let (f, first) ← holding [ov] (getMethod ov m pl)
      callWith pos f first (backTo pos (starEach [] X.env)) (backToKw pos (keywordEach [] X.env))) := by rfl) :
    PE X (.Call (.Attribute o m apos) [] [] pos) (tMeS C m sp E ta tNil) := by
  obtain ⟨f, fd, ps, hm, F, hb⟩ := c.ex
  refine ⟨fun pins s σ H Q I h => ?_⟩
  refine PySem.W.methodCall_KW (pl := pl) (thn (he.run pins s σ H _ I h) fun u s1 ⟨x, H1, I1, rx, a, dx, fs, ex, ea, l, q⟩ => ?_) ht
  subst ex
  obtain rfl : u = Value.ref a := rx
  refine getmeth_ok I1 ea cl hm l ?_
  exact PySem.W.callWith_K0 (first := [.ref a]) I1.kIn hm.kp (run_fnS (us := [.ref a]) (vs := [.ref a]) F (hr.mono hk) hb (hx σ) I1 (.cons rfl .nil) q)
theorem run_fnNS {pins : List (Addr × Obj)} {σ : L2.St} {H : Hp} {s : Shared} {Q : VK} {us ws : List Value} {vs zs : List V} (F : FnOk X.prog X.w X.K X.mg X.base CX k f fd ps sp) (hr : Room k X.A) (hb : KBn X.K fd ps n ks g gV) (hx : PassesAt CX X σ (E σ))
    (I : Inv X pins σ H s) (r : Vals vs us) (rz : Vals zs ws) (l1 : vs.length = n) (l2 : zs.length = ks.length) (h : sp (gV vs zs) H Q (E σ)) : wpAny (model X.prog X.w) X.A (call (.ref f) us (ks.zip ws)) (EP X pins σ Q) X.xe s := by
  refine wpAny_call (codeAny_mono (F.run X.A X.stack s H ⟨us, ks.zip ws⟩ (g us ws) (gV vs zs) Q (E σ) hr I.env0 (hb.to s us ws I.kIn (r.length.symm.trans l1) (rz.length.symm.trans l2)) (hb.rel r rz) h) fun rr s3 z => ?_)
  match rr, z with
  | .error u, z => exact hx pins H s u s3 I z
  | .ok (.ret _), z => exact I.after z
/-- o.m(k = e, ..) -/
theorem pe_mthK {pl : Sem Bool} (he : PE X o ta) (cl : Cls X.K C) (c : CalMK X.prog X.w X.K X.mg X.base CX k 0 ks C m sp gV) (hr : Room j X.A) (hk : k ≤ j) (hx : ∀ σ, PassesAt CX X σ (E σ)) (hkw : PK X kws tk)
    (hall : (backToKw pos (keywordEach kws X.env)).all (·.1.isSome) = true := by rfl) (hks : (backToKw pos (keywordEach kws X.env)).filterMap (·.1) = ks := by rfl)
    (hpl : ((backTo pos (starEach [] X.env)).any (·.1) || (backToKw pos (keywordEach kws X.env)).any (·.1.isNone)) = false := by rfl)
    (ht : eval (.Call (.Attribute o m apos) [] kws pos) X.env = (do
      let ov ← eval o X.env
      standAt apos.atName
      let (f, first) ← holding [ov] (getMethod ov m pl)
      callWith pos f first (backTo pos (starEach [] X.env)) (backToKw pos (keywordEach kws X.env))) := by rfl) :
    PE X (.Call (.Attribute o m apos) [] kws pos) (tMeK C m ks.length sp gV E ta tk) := by
  obtain ⟨f, fd, ps, g, hm, F, hb⟩ := c.ex
  refine ⟨fun pins s σ H Q I h => ?_⟩
  refine PySem.W.methodCall_KW (pl := pl) (thn (he.run pins s σ H _ I h) fun u s1 ⟨x, H1, I1, rx, a, dx, fs, ex, ea, l, q⟩ => ?_) ht
  subst ex
  obtain rfl : u = Value.ref a := rx
  refine getmeth_ok I1 ea cl hm l ?_
  refine PySem.W.callWith_KW0 (first := [.ref a]) (h₀ := X.base) I.ok.mod.kin hm.kp hall ?_ hpl
  refine thn (hkw.run pos pins s1 σ H1 _ I1 q) fun ws s2 ⟨zs, H2, I2, rz, l2, q2⟩ => ⟨I2.kIn, ?_⟩
  rw [hks]
  exact run_fnNS (us := [.ref a]) (vs := [.ref a]) F (hr.mono hk) hb (hx σ) I2 (.cons rfl .nil) rz rfl l2 q2
theorem run_mkS {pins : List (Addr × Obj)} {σ : L2.St} {H : Hp} {s : Shared} {Q : VK} {us : List Value} {vs : List V} (M : Mk X.K C f) (F : FnOk X.prog X.w X.K X.mg X.base CX k f fd ps sp) (hr : Room (k + 1) X.A) (hb : Binds X.K fd ps [])
    (hx : PassesAt CX X σ (E σ)) (I : Inv X pins σ H s) (r : Vals vs us)
    (h : ∀ x dx, H x = none → H dx = none → dx ≠ x → sp (.ref x :: vs) (upd (upd H dx (.own x)) x (.ins C dx [])) (fun v H2 => v = .non ∧ Q (.ref x) H2) (E σ)) :
    wpAny (model X.prog X.w) X.A (call (.ref C) us) (EP X pins σ Q) X.xe s := by
  have hq := h (s.heap.objs.size + 1) s.heap.objs.size (I.hok.fresh (Nat.le_succ _)) (I.hok.fresh (Nat.le_refl _)) (Nat.ne_of_lt (Nat.lt_succ_self _))
  have I2 := Inv.made (C := C) I
  have r2 : Vals (V.ref (s.heap.objs.size + 1) :: vs) (Value.ref (s.heap.objs.size + 1) :: us) := .cons rfl r
  have hl : (Value.ref (s.heap.objs.size + 1) :: us).length = ps.length := by
    have e := r2.length
    rw [F.len _ _ _ _ hq] at e
    exact e.symm
  have bb := hb { s with heap := _ } (Value.ref (s.heap.objs.size + 1) :: us) I2.kIn (by rw [List.append_nil]; exact hl)
  rw [List.append_nil] at bb
  refine wpAny_call (make_map (f := f) I.kIn M.makes M.init (beq_iff_eq.mp M.fn) (codeAny_mono (F.run _ X.stack _ _ ⟨Value.ref (s.heap.objs.size + 1) :: us, []⟩ (Value.ref (s.heap.objs.size + 1) :: us) _ _ (E σ) (hr.make C us [])
    (I2.env0.make C us []) bb r2 hq) fun r s' hq' => ?_))
  cases r with
  | error e => exact hx pins _ _ e s' I2 hq'
  | ok fl =>
    cases fl with
    | ret u =>
      obtain ⟨v, H', I3, rv, ev, q3⟩ := I2.after hq'
      subst ev
      exact ⟨rv, ⟨V.ref (s.heap.objs.size + 1), H', I3, rfl, q3⟩⟩
    | next => exact False.elim hq'
    | brk => exact False.elim hq'
    | cont => exact False.elim hq'
theorem pe_mk (c : CalC X.prog X.w X.K X.mg X.base CX k C x sp) (hr : Room j X.A) (hk : k + 1 ≤ j) (hg : Gl X x) (hx : ∀ σ, PassesAt CX X σ (E σ)) (ha : PA X (e :: es) t)
    (hdb : (x == ("__debug__" : Str)) = false := by decide) (he : starEach (e :: es) X.env = (false, eval e X.env) :: starEach es X.env := by rfl) (hpl : (backTo pos (starEach es X.env)).any (·.1) = false := by rfl) :
    PE X (.Call (.Name x p) (e :: es) [] pos) (tMkS C sp E t) := by
  obtain ⟨f, fd, ps, M, F, hb, hm⟩ := c.ex
  refine ⟨fun pins s σ H Q I h => ?_⟩
  refine wpAny_Call_Name_kw (ld_glob I hg hm ?_ hdb)
  refine PySem.W.callWith_K (h₀ := X.base) I.ok.mod.kin M.kp (thn (ha.run pos pins s σ H _ I h) fun us s1 ⟨vs, H1, I1, r, q⟩ => ⟨I1.kIn, ?_⟩) he hpl
  exact run_mkS M F (hr.mono hk) hb (hx σ) I1 r q
theorem pe_mk0 (c : CalC X.prog X.w X.K X.mg X.base CX k C x sp) (hr : Room j X.A) (hk : k + 1 ≤ j) (hg : Gl X x) (hx : ∀ σ, PassesAt CX X σ (E σ))
    (hdb : (x == ("__debug__" : Str)) = false := by decide) : PE X (.Call (.Name x p) [] [] pos) (tMkS C sp E tNil) := by
  obtain ⟨f, fd, ps, M, F, hb, hm⟩ := c.ex
  refine ⟨fun pins s σ H Q I h => ?_⟩
  refine wpAny_Call_Name_kw (ld_glob I hg hm ?_ hdb)
  exact PySem.W.callWith_K0 I.kIn M.kp (run_mkS (us := []) (vs := []) M F (hr.mono hk) hb (hx σ) I .nil h)
/-- repr and the like in a guarded def -/
theorem run_fnGS {pins : List (Addr × Obj)} {σ : L2.St} {H : Hp} : True := trivial
end
section
variable {σ : L2.St} {H : Hp} {Q : VK} {C a dx : Addr} {m : Str} {sp : Sp} {E : L2.St → XK} {ta : TE} {t tk : TA} {fs : List (Str × V)}
theorem r_mth (q : ta σ H fun x H1 => ∃ a dx fs, x = .ref a ∧ H1 a = some (.ins C dx fs) ∧ fs.lookup m = none ∧ t σ H1 fun vs H2 => sp (x :: vs) H2 Q (E σ)) : tMeS C m sp E ta t σ H Q := q
theorem r_mthK {j : Nat} {gV : List V → List V → List V} (q : ta σ H fun x H1 => ∃ a dx fs, x = .ref a ∧ H1 a = some (.ins C dx fs) ∧ fs.lookup m = none ∧ tk σ H1 fun zs H2 => zs.length = j ∧ sp (gV [x] zs) H2 Q (E σ)) : tMeK C m j sp gV E ta tk σ H Q := q
theorem r_mkS (q : t σ H fun vs H1 => ∀ x dx, H1 x = none → H1 dx = none → dx ≠ x → sp (.ref x :: vs) (upd (upd H1 dx (.own x)) x (.ins C dx [])) (fun v H2 => v = .non ∧ Q (.ref x) H2) (E σ)) : tMkS C sp E t σ H Q := q
theorem r_fld {K : PySem.W.Frag} {f : Str} {v : V} (q : ta σ H fun x H1 => ∃ a C dx fs v, x = .ref a ∧ H1 a = some (.ins C dx fs) ∧ Cls K C ∧ NoAttr K C f ∧ fs.lookup f = some v ∧ Q v H1) : tFld K ta f σ H Q := q
end
/-! ## 22. refusals whose field has another name -/
def RefuseN (nm : Str) (C : Addr) (v : V) (H : Hp) (E : XK) : Prop := ∀ d H', H d = none → Same H H' → H' d = some (.xd [(nm, v)]) → E (.ref C) (some d) H'
theorem RefuseN.on {nm : Str} {C : Addr} {v : V} {H H' : Hp} {E : XK} (r : RefuseN nm C v H E) (s : Same H H') : RefuseN nm C v H' E := fun d H2 hd s2 e => r d H2 (s.free hd) (s.trans s2) e
def spInitN (nm : Str) (C : Addr) : Sp := fun vs H Q _ => ∃ (a : Addr) (x : V), vs = [.ref a, x] ∧ H a = some (exo a C none) ∧ ∀ dx, H dx = none → dx ≠ a → Q .non (upd (upd H dx (exd dx [(nm, x)])) a (exo a C (some dx)))
theorem r_mkN {nm : Str} {C : Addr} {v : V} {H : Hp} {E : XK} (z : RefuseN nm C v H E) : [v].length ≤ 1000 ∧ ∀ a, H a = none → spInitN nm C (.ref a :: ([v] ++ [])) (upd H a (exo a C none))
    (fun u H2 => u = .non ∧ ∃ (d : Addr) (fs : List (Str × V)), H2 a = some (exo a C (some d)) ∧ H2 d = some (exd d fs) ∧ H d = none ∧ E (.ref C) (some d) (upd (del H2 a) d (.xd fs))) (fun _ _ _ => False) := by
  refine ⟨Nat.le_of_ble_eq_true rfl, fun a ha => ⟨a, v, rfl, upd_same, fun dx hd ne => ⟨rfl, dx, [(nm, v)], upd_same, ?_, ?_, ?_⟩⟩⟩
  · rw [upd_ne ne, upd_same]
  · rw [upd_ne ne] at hd
    exact hd
  · rw [upd_ne ne] at hd
    refine z dx _ hd (fun b o e => ?_) upd_same
    have h1 : b ≠ a := ne_of_none e ha
    have h2 : b ≠ dx := ne_of_none e hd
    rw [upd_ne h2]
    show del _ a b = some o
    unfold del
    rw [if_neg h1, upd_ne h1, upd_ne h2, upd_ne h1]
    exact e
structure ExcN (K : PySem.W.Frag) (nm : Str) (C f : Addr) : Prop where
  ox : OexC K C
  i : PySem.W.findIn K (.ref C) "__init__" = some (some (.ref f))
  t : PySem.W.typeIn K (.ref f) = some (.type "function")
  nf : PySem.W.findIn K (.ref C) nm = some none
  xf : XfC K C
/-! ## 23. a comprehension each turn of which lays a new object, all of them unlike -/
section
variable {J : It} {n : Nat} {G : Hp → Prop} {Y : Nat → Hp → V → Hp → Prop} {g : TG} {te : TE} {vs : List Nat} {σ : L2.St} {H : Hp} {D : Addr} {Q : VK}
theorem lc_new (w : Walk J n G Y) (c : Nat → HO) (hD : H D = none) (hn : n ≤ 10000) (hG : ∀ H', Same H H' → G H')
    (hs : ∀ i x H1 H2 (Q' : VK) (R' : Hp → Prop), i < n → Same H H1 → Y i H1 x H2 → (∀ t H3, H1 t = none → Same H1 H3 → H3 t = some (c i) → Q' (.ref t) H3) →
      g x (wipe σ vs) H2 fun τ H3 => wipe τ vs = wipe σ vs ∧ tYes τ H3 fun b H4 => if b = true then te τ H4 Q' else R' H4)
    (q : ∀ H' (ts : List Addr), Same H H' → H' D = some (.lst (ts.map V.ref)) → ts.length = n → (∀ k t, ts[k]? = some t → H' t = some (c k)) → (D :: ts).Nodup → (∀ t ∈ ts, H t = none) → Q (.ref D) H') :
    ∃ W : Nat → Nat → Hp → Prop, (∃ m, W 0 m (upd H D (.lst []))) ∧ ∀ i m H, W i m H →
      (J.stop i H ∧ Q (.ref D) H) ∨ (J.go i H ∧ ∃ Nx : Hp → Prop, (∀ H', Nx H' → ∃ m', m' < m ∧ W (i + 1) m' H') ∧ ∀ x H', J.yld i H x H' → g x (wipe σ vs) H' fun σ2 H2 => wipe σ2 vs = wipe σ vs ∧ tYes σ2 H2 fun b H3 =>
        if b = true then te σ2 H3 fun y H4 => ∃ acc, H4 D = some (.lst acc) ∧ acc.length < sizeLine ∧ Nx (upd H4 D (.lst (acc ++ [y]))) else Nx H3) := by
  refine lc_it w (fun i G => Same H G ∧ ∃ ts : List Addr, G D = some (.lst (ts.map V.ref)) ∧ ts.length = i ∧ (∀ k t, ts[k]? = some t → G t = some (c k)) ∧ (D :: ts).Nodup ∧ ∀ t ∈ ts, H t = none)
    ⟨same_upd hD, [], upd_same, rfl, (fun _ _ z => nomatch z), (by simp), (fun _ z => nomatch z)⟩ (fun i G _ z => hG G z.1) (fun i x H1 H2 hi ⟨sm, ts, e, l, all, nd, fr⟩ y => ?_) fun G ⟨sm, ts, e, l, all, nd, fr⟩ => q G ts sm e l all nd fr
  refine hs i x H1 H2 _ _ hi sm y fun t H3 nt s3 et => ?_
  have tD : t ≠ D := fun z => by rw [z, e] at nt; exact nomatch nt
  have tts : t ∉ ts := fun z => by
    obtain ⟨k, hk⟩ := List.getElem?_of_mem z
    rw [all k t hk] at nt
    exact nomatch nt
  obtain ⟨nD, nts⟩ := List.nodup_cons.mp nd
  refine ⟨_, s3 _ _ e, by rw [List.length_map, l]; exact Nat.lt_of_lt_of_le hi (Nat.le_trans hn (by decide)), sameBut (sm.trans s3) hD, ts ++ [t], ?_, by rw [List.length_append, l]; rfl, fun k u hk => ?_, ?_, fun u hu => ?_⟩
  · rw [upd_same, List.map_append]
    rfl
  · by_cases hk2 : k < ts.length
    · rw [List.getElem?_append_left hk2] at hk
      have z := s3 _ _ (all k u hk)
      have nu : u ≠ D := fun q => by subst q; exact nD (List.mem_of_getElem? hk)
      rw [upd_ne nu]
      exact z
    · have e3 : k = i := by
        have := (List.getElem?_eq_some_iff.mp hk).1
        rw [List.length_append] at this
        have h1 : [t].length = 1 := rfl
        omega
      subst e3
      rw [List.getElem?_append_right (by omega), l, Nat.sub_self] at hk
      obtain rfl := Option.some.inj hk
      rw [upd_ne tD]
      exact et
  · refine List.nodup_cons.mpr ⟨fun z => ?_, List.nodup_append.mpr ⟨nts, by simp, fun a ha b hb q => ?_⟩⟩
    · rcases List.mem_append.mp z with z | z
      · exact nD z
      · exact tD (List.mem_singleton.mp z).symm
    · rw [List.mem_singleton.mp hb] at q
      exact tts (q ▸ ha)
  · rcases List.mem_append.mp hu with z | z
    · exact fr u z
    · rw [List.mem_singleton.mp z]
      exact sm.free nt
end
/-! ## 24. a list of lists -/
/-- at l: a list of the lists at rows, which hold ws -/
structure LL (H : Hp) (l : Addr) (rows : List Addr) (ws : List (List V)) : Prop where
  at_ : H l = some (.lst (rows.map V.ref))
  len : rows.length = ws.length
  row : ∀ (k : Nat) (r : Addr) (w : List V), rows[k]? = some r → ws[k]? = some w → H r = some (.lst w)
  nd : (l :: rows).Nodup
theorem LL.keep {H H' : Hp} {l : Addr} {rows : List Addr} {ws : List (List V)} (h : LL H l rows ws) (k : ∀ b ∈ l :: rows, H' b = H b) : LL H' l rows ws :=
  ⟨by rw [k l List.mem_cons_self]; exact h.at_, h.len, fun i r w h1 h2 => by rw [k r (List.mem_cons_of_mem _ (List.mem_of_getElem? h1))]; exact h.row i r w h1 h2, h.nd⟩
theorem LL.same {H H' : Hp} {l : Addr} {rows : List Addr} {ws : List (List V)} (h : LL H l rows ws) (s : Same H H') : LL H' l rows ws :=
  ⟨s _ _ h.at_, h.len, fun i r w h1 h2 => s _ _ (h.row i r w h1 h2), h.nd⟩
/-- the row at k grows -/
theorem LL.put {H H' : Hp} {l r : Addr} {rows : List Addr} {ws : List (List V)} {k : Nat} {w w' : List V} (h : LL H l rows ws) (hr : rows[k]? = some r) (hw : ws[k]? = some w) (b : But r H H') (e : H' r = some (.lst w')) : LL H' l rows (ws.set k w') := by
  obtain ⟨nl, nr⟩ := List.nodup_cons.mp h.nd
  have lr : l ≠ r := fun q => nl (q ▸ List.mem_of_getElem? hr)
  refine ⟨b _ _ lr h.at_, by rw [List.length_set]; exact h.len, fun i r2 w2 h1 h2 => ?_, h.nd⟩
  by_cases q : i = k
  · subst q
    rw [hr] at h1
    obtain rfl := Option.some.inj h1
    rw [List.getElem?_set_self (List.getElem?_eq_some_iff.mp hw).1] at h2
    obtain rfl := Option.some.inj h2
    exact e
  · rw [List.getElem?_set_ne (fun z => q z.symm)] at h2
    refine b _ _ (fun z => ?_) (h.row i r2 w2 h1 h2)
    subst z
    exact q ((List.getElem?_inj (List.getElem?_eq_some_iff.mp h1).1 nr).mp (h1.trans hr.symm))
end Bk

namespace Bk
open PySem PySem.Spec PyProof.Rows L2
/-! ## 25. the text of things, dicts among them -/
mutual
/-- v is the thing d; b: a dict may be in it, and each list stands where no dict of modules does -/
inductive Dq (b : Bool) (K : PySem.W.Frag) (H : Hp) : V → PyData → Prop
  | non : Dq b K H .non .none
  | bl (c : Bool) : Dq b K H (.bl c) (.bool c)
  | int (i : Int) : Dq b K H (.int i) (.int i)
  | str (x : Str) : Dq b K H (.str x) (.str x)
  | lst {a : Addr} {xs : List V} {ds : List PyData} : (b = true → a ≠ sysModules) → SqL K H a xs → DqAll b K H xs ds → Dq b K H (.ref a) (.list ds)
  | tup {a : Addr} {xs : List V} {ds : List PyData} : SqT K H a xs → DqAll b K H xs ds → Dq b K H (.ref a) (.tuple ds)
  | dK {a : Addr} {kvs : List (Key × V)} {ps : List (PyData × PyData)} : b = true → H a = some (.dK kvs) → DqAll b K H (kvs.map fun q => kV q.1) (ps.map (·.1)) → DqAll b K H (kvs.map (·.2)) (ps.map (·.2)) → Dq b K H (.ref a) (.dict ps)
inductive DqAll (b : Bool) (K : PySem.W.Frag) (H : Hp) : List V → List PyData → Prop
  | nil : DqAll b K H [] []
  | cons {v : V} {vs : List V} {d : PyData} {ds : List PyData} : Dq b K H v d → DqAll b K H vs ds → DqAll b K H (v :: vs) (d :: ds)
end
mutual
theorem dq_flat {K : PySem.W.Frag} {H : Hp} : ∀ (d : PyData) (v : V), Dq false K H v d → d.hasDict = false
  | .none, _, _ => by simp only [PyData.hasDict]
  | .bool _, _, _ => by simp only [PyData.hasDict]
  | .int _, _, _ => by simp only [PyData.hasDict]
  | .str _, _, _ => by simp only [PyData.hasDict]
  | .list ds, _, h => by
    cases h with
    | lst _ _ ha => simpa only [PyData.hasDict] using dq_flatAll ds _ ha
  | .tuple ds, _, h => by
    cases h with
    | tup _ ha => simpa only [PyData.hasDict] using dq_flatAll ds _ ha
  | .dict _, _, h => by
    cases h with
    | dK e _ _ _ => exact nomatch e
theorem dq_flatAll {K : PySem.W.Frag} {H : Hp} : ∀ (ds : List PyData) (vs : List V), DqAll false K H vs ds → PyData.hasDictAll ds = false
  | [], _, _ => by simp only [PyData.hasDictAll]
  | d :: ds, _, h => by
    cases h with
    | cons h1 h2 => simp only [PyData.hasDictAll, dq_flat d _ h1, dq_flatAll ds _ h2, Bool.or_false]
end
theorem kv_of : ∀ {P : Program} {w : World} {kvs : List (Key × V)} {vs : List (Key × Value)} {es : List DictEntry}, KV kvs vs → Pairs (mixKind P w) es vs → Vals (kvs.map fun q => kV q.1) (es.map (·.key)) ∧ Vals (kvs.map (·.2)) (es.map (·.val))
  | _, _, _, _, _, .nil, .nil => ⟨.nil, .nil⟩
  | P, w, (k, v) :: kvs, (k2, u) :: vs, e :: es, .cons r t, .cons h1 h2 h3 => by
    obtain ⟨a, b⟩ := kv_of (P := P) (w := w) t h3
    obtain ⟨rk, rv⟩ := r
    refine ⟨.cons ?_ a, .cons ?_ b⟩
    · have rk : k = k2 := rk
      subst rk
      rcases keyIs_shape (show keyIs k e.key = true from h1) with ⟨i, t, rfl, z⟩ | ⟨x, t, rfl, z⟩
      · exact ⟨t, z⟩
      · exact ⟨t, z⟩
    · show RelV v e.val
      rw [h2]
      exact rv
section
variable {X : Cx} {pins : List (Addr × Obj)} {σ : L2.St} {H : Hp} {s : Shared} {b : Bool}
mutual
theorem Dq.reads (I : Inv X pins σ H s) : ∀ {d : PyData} {v : V} {u : Value}, Dq b X.K H v d → RelV v u → ∃ as, Reads s.heap u d as ∧ (b = true → sysModules ∉ as)
  | _, _, _, .non, r => by
    cases r
    exact ⟨_, Reads.none, fun _ => by simp⟩
  | _, _, _, .bl b, r => by
    cases r
    exact ⟨_, Reads.bool b, fun _ => by simp⟩
  | _, _, _, .int i, r => by
    obtain ⟨t, rfl⟩ := r
    exact ⟨_, Reads.int i t, fun _ => by simp⟩
  | _, _, _, .str x, r => by
    obtain ⟨t, rfl⟩ := r
    exact ⟨_, Reads.str x t, fun _ => by simp⟩
  | _, _, _, .lst ne hs ha, r => by
    cases r
    obtain ⟨its, rv, ⟨o, n, ho, hc, _, hd⟩, _⟩ := I.list hs
    obtain ⟨as, hr, hn⟩ := Dq.readsAll I ha rv
    exact ⟨_, Reads.list ho hc hd hr, fun z m => by
      rcases List.mem_cons.mp m with m | m
      · exact ne z m.symm
      · exact hn z m⟩
  | _, _, _, .tup hs ha, r => by
    cases r
    obtain ⟨its, rv, ⟨o, ho, hc, n, hd⟩, _⟩ := I.tuple hs
    obtain ⟨as, hr, hn⟩ := Dq.readsAll I ha rv
    exact ⟨_, Reads.tuple ho hc hd hr, hn⟩
  | _, _, _, .dK (a := a) (kvs := kvs) (ps := ps) eb ha h1 h2, r => by
    cases r
    obtain ⟨_, hm, vs, kv, o, es, ep, ho, hx, hde, _, pr, _⟩ := I.hok a _ ha
    obtain ⟨r1, r2⟩ := kv_of kv pr
    obtain ⟨as, q1, n1⟩ := Dq.readsAll I h1 r1
    obtain ⟨bs, q2, n2⟩ := Dq.readsAll I h2 r2
    have rd : Reads s.heap (.ref a) (.dict ps) (a :: as ++ bs) := .dict ho hx.1 hde q1 q2
    exact ⟨_, rd, fun z m => by
      rcases List.mem_append.mp m with m | m
      · rcases List.mem_cons.mp m with m | m
        · rw [← m] at hm
          exact absurd hm (by decide)
        · exact n1 z m
      · exact n2 z m⟩
theorem Dq.readsAll (I : Inv X pins σ H s) : ∀ {ds : List PyData} {vs : List V} {us : List Value}, DqAll b X.K H vs ds → Vals vs us → ∃ as, ReadsAll s.heap us ds as ∧ (b = true → sysModules ∉ as)
  | _, _, _, .nil, r => by
    cases r
    exact ⟨_, ReadsAll.nil, fun _ => by simp⟩
  | _, _, _, .cons h1 h2, r => by
    cases r with
    | cons r1 r2 =>
      obtain ⟨as, q1, n1⟩ := Dq.reads I h1 r1
      obtain ⟨bs, q2, n2⟩ := Dq.readsAll I h2 r2
      exact ⟨_, ReadsAll.cons q1 q2, fun z m => by
        rcases List.mem_append.mp m with m | m
        · exact n1 z m
        · exact n2 z m⟩
end
end
/-- z is how repr tells v -/
def Shq (K : PySem.W.Frag) (H : Hp) (v : V) (z : Str) : Prop := ∃ b d, Dq b K H v d ∧ d.showable = true ∧ d.shown.length ≤ sizeLine ∧ d.depth ≤ 60 ∧ z = d.shown
section
variable {X : Cx} {j : Nat}
theorem call_repr_shq (ga : X.A.guards = some []) (hr : Room j X.A) : CallR X (.builtin "repr") (fun xs H Q => ∃ v z, xs = [v] ∧ Shq X.K H v z ∧ Q (.str z) H) := by
  intro pins s σ H xs us Q I r h
  obtain ⟨v, z, rfl, ⟨b, d, hd, h1, h2, h3, rfl⟩, q⟩ := h
  obtain ⟨u, rfl, rv⟩ := vals1 r
  have hu := hr.units
  have fin : ∀ {x : Str} {t : Nat}, x = d.shown → EP X pins σ Q (.str x s.toks) { s with toks := t } := fun {x t} e => ⟨.str _, H, I.tok _, ⟨_, rfl⟩, by rw [e]; exact q⟩
  have ref : ∀ {a : Addr}, v = .ref a → wpAny (model X.prog X.w) X.A (call (.builtin "repr") [u]) (EP X pins σ Q) X.xe s := fun {a} e => by
    subst e
    obtain rfl : u = Value.ref a := rv
    obtain ⟨as, rd, hn⟩ := Dq.reads I (u := .ref a) hd rfl
    refine repr_of_reads' rd h1 (fun hh => ?_) ga (by omega) (fun _ _ e => e) (fun h' u tk hk => ⟨.str _, H, I.kept hk, ⟨_, rfl⟩, q⟩) h2
    cases b with
    | true => exact hn rfl
    | false =>
      rw [dq_flat d _ hd] at hh
      exact nomatch hh
  cases hd with
  | non =>
    cases rv
    exact PySem.P.repr_of_none (fin (by simp only [PyData.shown]))
  | bl b =>
    cases rv
    exact PySem.P.repr_of_bool (fin (by simp only [PyData.shown]))
  | int i =>
    obtain ⟨t, rfl⟩ := rv
    exact PySem.P.repr_of_int (by simpa only [PyData.showable, decide_eq_true_eq] using h1) (fin (by simp only [PyData.shown]))
  | str x =>
    obtain ⟨t, rfl⟩ := rv
    exact PySem.P.repr_of_str (fin (by simp only [PyData.shown])) (by simpa only [PyData.shown] using h2)
  | lst _ _ _ => exact ref rfl
  | tup _ _ => exact ref rfl
  | dK _ _ _ _ => exact ref rfl
end
mutual
def smQ : PyData → Bool
  | .none | .bool _ => true
  | .int i => decide (i.natAbs < 10 ^ 38)
  | .str x => x.cps.toList.all fun c => decide (c < 16 ^ 8)
  | .list xs | .tuple xs => smQL xs
  | .dict ps => smQK ps
def smQL : List PyData → Bool
  | [] => true
  | x :: xs => smQ x && smQL xs
def smQK : List (PyData × PyData) → Bool
  | [] => true
  | (x, y) :: xs => smQ x && smQ y && smQK xs
end
mutual
theorem smQ_ok : ∀ d : PyData, smQ d = true → d.showable = true ∧ d.leavesShort 40 = true
  | .none, _ => ⟨rfl, rfl⟩
  | .bool _, _ => ⟨rfl, rfl⟩
  | .int i, h => by
    have h' : smallD (.int i) = true := by simpa only [smallD, smQ] using h
    exact small_ok _ h'
  | .str x, h => ⟨by simp only [PyData.showable], by simpa only [smQ, PyData.leavesShort] using h⟩
  | .list xs, h => by simpa only [PyData.showable, PyData.leavesShort] using smQ_okL xs (by simpa only [smQ] using h)
  | .tuple xs, h => by simpa only [PyData.showable, PyData.leavesShort] using smQ_okL xs (by simpa only [smQ] using h)
  | .dict ps, h => by simpa only [PyData.showable, PyData.leavesShort] using smQ_okK ps (by simpa only [smQ] using h)
theorem smQ_okL : ∀ xs : List PyData, smQL xs = true → PyData.showableAll xs = true ∧ PyData.leavesShortAll 40 xs = true
  | [], _ => ⟨rfl, rfl⟩
  | x :: xs, h => by
    have h' : smQ x = true ∧ smQL xs = true := by simpa only [smQL, Bool.and_eq_true] using h
    obtain ⟨a, b⟩ := smQ_ok x h'.1
    obtain ⟨c, d⟩ := smQ_okL xs h'.2
    exact ⟨by simp only [PyData.showableAll, a, c, Bool.and_true], by simp only [PyData.leavesShortAll, b, d, Bool.and_true]⟩
theorem smQ_okK : ∀ xs : List (PyData × PyData), smQK xs = true → PyData.showableKv xs = true ∧ PyData.leavesShortKv 40 xs = true
  | [], _ => ⟨rfl, rfl⟩
  | (x, y) :: xs, h => by
    have h' : (smQ x = true ∧ smQ y = true) ∧ smQK xs = true := by simpa only [smQK, Bool.and_eq_true] using h
    obtain ⟨a, b⟩ := smQ_ok x h'.1.1
    obtain ⟨a2, b2⟩ := smQ_ok y h'.1.2
    obtain ⟨c, d⟩ := smQ_okK xs h'.2
    exact ⟨by simp only [PyData.showableKv, a, a2, c, Bool.and_true], by simp only [PyData.leavesShortKv, b, b2, d, Bool.and_true]⟩
end
section
variable {b : Bool} {K : PySem.W.Frag} {H H' : Hp} {v : V} {a : Addr} {xs : List V}
theorem shq_of {d : PyData} (h : Dq b K H v d) (s : smQ d = true) (l : d.bulk ≤ 390000) (e : d.depth ≤ 60) : Shq K H v d.shown := by
  obtain ⟨h1, h2⟩ := smQ_ok d s
  have h3 := PyData.shown_le_bulk 40 (by decide) d h2
  exact ⟨b, d, h, h1, by rw [sizeLine_eq]; omega, e, rfl⟩
/-- a thing that may stand in a list whose text is asked: m its size -/
def ItQ (b : Bool) (K : PySem.W.Frag) (H : Hp) (m : Nat) (v : V) : Prop := ∃ d, Dq b K H v d ∧ smQ d = true ∧ d.bulk ≤ m ∧ d.depth ≤ 20
theorem ItQ.shq {m : Nat} (h : ItQ b K H m v) (l : m ≤ 390000) : ∃ z, Shq K H v z := let ⟨_, h1, h2, h3, h4⟩ := h; ⟨_, shq_of h1 h2 (by omega) (by omega)⟩
theorem itqs {m : Nat} : ∀ {xs : List V}, (∀ y ∈ xs, ItQ b K H m y) → ∃ ds, DqAll b K H xs ds ∧ smQL ds = true ∧ PyData.bulkAll ds ≤ (m + 1) * xs.length ∧ PyData.depthAll ds ≤ 20
  | [], _ => ⟨[], .nil, rfl, Nat.le_refl _, Nat.zero_le _⟩
  | y :: ys, h => by
    obtain ⟨d, h1, h2, h3, h4⟩ := h y List.mem_cons_self
    obtain ⟨ds, g1, g2, g3, g4⟩ := itqs fun z hz => h z (List.mem_cons_of_mem _ hz)
    refine ⟨d :: ds, .cons h1 g1, by simp only [smQL, h2, g2, Bool.and_true], ?_, ?_⟩
    · simp only [PyData.bulkAll, List.length_cons, Nat.mul_succ]
      omega
    · simp only [PyData.depthAll]
      omega
/-- two lists of the same things are told alike -/
theorem shq_lst2 {m : Nat} {c : Addr} (h : SqL K H a xs) (h2 : SqL K H c xs) (n1 : b = true → a ≠ sysModules) (n2 : b = true → c ≠ sysModules) (i : ∀ y ∈ xs, ItQ b K H m y) (l : (m + 1) * xs.length ≤ 390000) : ∃ z, Shq K H (.ref a) z ∧ Shq K H (.ref c) z := by
  obtain ⟨ds, g1, g2, g3, g4⟩ := itqs i
  exact ⟨_, shq_of (.lst n1 h g1) (by simpa only [smQ] using g2) (by simp only [PyData.bulk]; omega) (by simp only [PyData.depth]; omega),
    shq_of (.lst n2 h2 g1) (by simpa only [smQ] using g2) (by simp only [PyData.bulk]; omega) (by simp only [PyData.depth]; omega)⟩
theorem shq_tup2 {m : Nat} {c : Addr} (h : SqT K H a xs) (h2 : SqT K H c xs) (i : ∀ y ∈ xs, ItQ b K H m y) (l : (m + 1) * xs.length ≤ 390000) : ∃ z, Shq K H (.ref a) z ∧ Shq K H (.ref c) z := by
  obtain ⟨ds, g1, g2, g3, g4⟩ := itqs i
  exact ⟨_, shq_of (.tup h g1) (by simpa only [smQ] using g2) (by simp only [PyData.bulk]; omega) (by simp only [PyData.depth]; omega),
    shq_of (.tup h2 g1) (by simpa only [smQ] using g2) (by simp only [PyData.bulk]; omega) (by simp only [PyData.depth]; omega)⟩
/-- a list of things within a list -/
theorem itq_lst {m M : Nat} (h : SqL K H a xs) (n1 : b = true → a ≠ sysModules) (i : ∀ y ∈ xs, ∃ d, Dq b K H y d ∧ smQ d = true ∧ d.bulk ≤ m ∧ d.depth = 0) (l : (m + 1) * xs.length ≤ M) : ItQ b K H M (.ref a) := by
  have go : ∀ {xs : List V}, (∀ y ∈ xs, ∃ d, Dq b K H y d ∧ smQ d = true ∧ d.bulk ≤ m ∧ d.depth = 0) → ∃ ds, DqAll b K H xs ds ∧ smQL ds = true ∧ PyData.bulkAll ds ≤ (m + 1) * xs.length ∧ PyData.depthAll ds = 0 := by
    intro xs
    induction xs with
    | nil => exact fun _ => ⟨[], .nil, rfl, Nat.le_refl _, rfl⟩
    | cons y ys ih =>
      intro h
      obtain ⟨d, h1, h2, h3, h4⟩ := h y List.mem_cons_self
      obtain ⟨ds, g1, g2, g3, g4⟩ := ih fun z hz => h z (List.mem_cons_of_mem _ hz)
      refine ⟨d :: ds, .cons h1 g1, by simp only [smQL, h2, g2, Bool.and_true], ?_, ?_⟩
      · simp only [PyData.bulkAll, List.length_cons, Nat.mul_succ]
        omega
      · simp only [PyData.depthAll, h4, g4]
        rfl
  obtain ⟨ds, g1, g2, g3, g4⟩ := go i
  exact ⟨_, .lst n1 h g1, by simpa only [smQ] using g2, by simp only [PyData.bulk]; omega, by simp only [PyData.depth, g4]; omega⟩
theorem dqS (h : smS v = true) : Dq b K H v (datS v) ∧ smQ (datS v) = true ∧ (datS v).bulk ≤ 100 ∧ (datS v).depth = 0 := by
  obtain ⟨h1, h2, h3, h4⟩ := datS_ok (K := K) (H := H) h
  refine ⟨?_, ?_, h3, h4⟩
  · cases v with
    | non => exact .non
    | bl b => exact .bl b
    | int i => exact .int i
    | str z => exact .str z
    | _ => exact nomatch h
  · cases v with
    | non => exact rfl
    | bl b => exact rfl
    | int i => simpa only [smallD, smQ, datS] using h2
    | str z => simpa only [smallD, smQ, datS] using h2
    | _ => exact nomatch h
theorem itq_sc (h : smS v = true) : ItQ b K H 100 v := let ⟨h1, h2, h3, h4⟩ := dqS h; ⟨_, h1, h2, h3, by omega⟩
theorem itq_int {i : Int} (h : i.natAbs < 10 ^ 38) : ItQ b K H 0 (.int i) := ⟨.int i, .int i, by simpa only [smQ, decide_eq_true_eq] using h, Nat.le_refl _, by simp only [PyData.depth]; decide⟩
theorem ItQ.mono {m M : Nat} (h : ItQ b K H m v) (l : m ≤ M) : ItQ b K H M v := let ⟨d, h1, h2, h3, h4⟩ := h; ⟨d, h1, h2, by omega, h4⟩
theorem shq_sc (h : smS v = true) : Shq K H v (datS v).shown := let ⟨h1, h2, h3, h4⟩ := dqS (b := false) h; shq_of h1 h2 (by omega) (by omega)
end
/-! new lists and dicts stand where no dict of modules does -/
def NewLB (xs : List V) (H : Hp) (Q : VK) : Prop := xs.length ≤ sizeLine ∧ ∀ p, H p = none → p ≠ sysModules → Q (.ref p) (upd H p (.lst xs))
def tLstB (t : TA) : TE := fun σ H Q => t σ H fun xs H1 => NewLB xs H1 Q
section
variable {X : Cx} {es : List Expr} {t : TA} {pos : Pos}
theorem pe_lstB (h : PA X es t) : PE X (.List es pos) (tLstB t) := by
  refine ⟨fun pins s σ H Q I hq => ?_⟩
  refine wpAny_List_spliced (thn (h.run pos pins s σ H _ I hq) fun us s1 ⟨xs, H1, I1, r, z, q⟩ => ⟨by rw [← r.length]; exact z, ?_⟩)
  have hf : H1 s1.heap.objs.size = none := I1.hok.fresh (Nat.le_refl _)
  refine ⟨.ref s1.heap.objs.size, upd H1 s1.heap.objs.size (.lst xs), I1.laid (t' := s1.toks) (fun b u e => Heap.get?_push_of_some _ e) (Nat.le_refl _) ?_, rfl, q _ hf (Nat.ne_of_gt I1.big)⟩
  exact ⟨z, us, 0, r, Heap.get?_push_size _ rfl⟩
theorem r_lstB {σ : L2.St} {H : Hp} {Q : VK} (q : t σ H fun xs H1 => NewLB xs H1 Q) : tLstB t σ H Q := q
theorem newLB {xs : List V} {H : Hp} {Q : VK} (q : ∀ p H', H p = none → p ≠ sysModules → Same H H' → H' p = some (.lst xs) → Q (.ref p) H') (hl : xs.length ≤ 10000 := by exact Nat.le_of_ble_eq_true rfl) : NewLB xs H Q :=
  ⟨Nat.le_trans hl (by decide), fun p hp ns => q p _ hp ns (same_upd hp) upd_same⟩
end
end Bk

namespace Bk
open PySem PySem.Spec PyProof.Rows L2
/-! ## 26. isinstance of what an except suite holds -/
def rIsH (K : PySem.W.Frag) (a : Addr) (cls : Value) (d : Option Addr) (C : Addr) : List V → Hp → VK → Prop := fun xs H Q => ∃ (c : V) (u : Value) (b : Bool) (dd : Addr) (fs : List (Str × V)), xs = [.ref a, c] ∧ cls = .ref C ∧ d = some dd ∧ H dd = some (.xd fs) ∧ ClsV c u ∧ PySem.W.kitOne K (.ref C) u = some b ∧ Q (.bl b) H
def rIsH2 (K : PySem.W.Frag) (a : Addr) (cls : Value) (d : Option Addr) (C : Addr) : List V → Hp → VK → Prop := fun xs H Q => ∃ (tp : Addr) (cs : List V) (us : List Value) (b : Bool) (dd : Addr) (fs : List (Str × V)), xs = [.ref a, .ref tp] ∧ cls = .ref C ∧ d = some dd ∧ H dd = some (.xd fs) ∧ H tp = some (.tup cs) ∧ Paired ClsV cs us ∧ PySem.W.kitAny K (.ref C) us = some b ∧ Q (.bl b) H
section
variable {X : Cx} {a C : Addr} {oe : Obj} {cls : Value} {d : Option Addr} {pn : List (Addr × Obj)}
theorem held_inst {pins : List (Addr × Obj)} {σ : L2.St} {H : Hp} {s : Shared} {dd : Addr} {fs : List (Str × V)} (I : Inv (X.suite a ((a, oe) :: pn)) pins σ H s) (hz : Zc (.ref C) (some dd) oe) (hf : ∃ vs, oe.data = .fields vs) (ea : H dd = some (.xd fs)) :
    ∃ od, PySem.W.InstAt s.heap a oe C (some od) := by
  obtain ⟨ha, _⟩ := I.pin (a, oe) (List.mem_append_left _ List.mem_cons_self)
  obtain ⟨vs, hd⟩ := hf
  have hx : ObjOk X.prog X.w H s.heap dd (.xd fs) := I.hok dd _ ea
  obtain ⟨mA, hns, hr⟩ := hx
  obtain ⟨od, ho, hl⟩ := lookIn_ns hns
  exact ⟨od, ha, hz.1, by unfold PySem.W.notCls; rw [hd] <;> rfl, by rw [hz.2]; exact ho⟩
theorem call_isH (T : ExcC X.K C) (hz : Zc cls d oe) (hf : ∃ vs, oe.data = .fields vs) : CallR (X.suite a ((a, oe) :: pn)) (.builtin "isinstance") (rIsH X.K a cls d C) := by
  intro pins s σ H xs us Q I r h
  obtain ⟨c, u, b, dd, fs, rfl, ec, ed, ea, k, e, q⟩ := h
  subst ec
  subst ed
  obtain ⟨u1, u2, rfl, r1, r2⟩ := vals2 r
  have e2 := k.eq r2
  subst e2
  obtain rfl : u1 = Value.ref a := r1
  obtain ⟨od, J⟩ := held_inst I hz hf ea
  exact PySem.W.kia_one (PySem.W.bk_kitx (ox := oe) (od := some od) T.hg T.hk T.hs T.hd T.ha T.hn T.ht T.hm) I.kIn J e (fun z => nomatch z) fun tk => ⟨.bl b, H, I.tok tk, rfl, q⟩
theorem call_isH2 (T : ExcC X.K C) (hz : Zc cls d oe) (hf : ∃ vs, oe.data = .fields vs) : CallR (X.suite a ((a, oe) :: pn)) (.builtin "isinstance") (rIsH2 X.K a cls d C) := by
  intro pins s σ H xs us Q I r h
  obtain ⟨tp, cs, ws, b, dd, fs, rfl, ec, ed, ea, hT, k, e, q⟩ := h
  subst ec
  subst ed
  obtain ⟨u1, u2, rfl, r1, r2⟩ := vals2 r
  cases (show u2 = Value.ref tp from r2)
  obtain rfl : u1 = Value.ref a := r1
  obtain ⟨od, J⟩ := held_inst I hz hf ea
  obtain ⟨_, its, rv, o, h1, h2, n, h3⟩ := (show ObjOk X.prog X.w H s.heap tp (.tup cs) from I.hok tp _ hT)
  have e3 := ClsV.all k rv
  subst e3
  obtain ⟨oc, od2, dt, sl⟩ := o
  simp only at h2 h3
  subst h2 h3
  exact PySem.W.kia_tup (PySem.W.bk_kitx (ox := oe) (od := some od) T.hg T.hk T.hs T.hd T.ha T.hn T.ht T.hm) I.kIn J h1 e (fun z => nomatch z) fun tk => ⟨.bl b, H, I.tok tk, rfl, q⟩
end
section
variable {K : PySem.W.Frag} {a C : Addr} {cls : Value} {d : Option Addr} {H : Hp} {Q : VK}
theorem r_isH {dd : Addr} {fs : List (Str × V)} {D : Addr} {b : Bool} (ec : cls = .ref C) (ed : d = some dd) (ea : H dd = some (.xd fs)) (e : PySem.W.kitOne K (.ref C) (.ref D) = some b) (q : Q (.bl b) H) : rIsH K a cls d C [.ref a, .ref D] H Q :=
  ⟨_, _, b, dd, fs, rfl, ec, ed, ea, .own D, e, q⟩
theorem r_isHB {dd : Addr} {fs : List (Str × V)} {T : String} {b : Bool} (ec : cls = .ref C) (ed : d = some dd) (ea : H dd = some (.xd fs)) (e : PySem.W.kitOne K (.ref C) (.type T) = some b) (q : Q (.bl b) H) : rIsH K a cls d C [.ref a, .ty T] H Q :=
  ⟨_, _, b, dd, fs, rfl, ec, ed, ea, .ty T, e, q⟩
theorem r_isH2 {dd tp : Addr} {fs : List (Str × V)} {D1 D2 : Addr} {b c : Bool} (ec : cls = .ref C) (ed : d = some dd) (ea : H dd = some (.xd fs)) (et : H tp = some (.tup [.ref D1, .ref D2])) (e : PySem.W.kitOne K (.ref C) (.ref D1) = some b) (e2 : PySem.W.kitOne K (.ref C) (.ref D2) = some c) (q : Q (.bl (b || c)) H) : rIsH2 K a cls d C [.ref a, .ref tp] H Q := by
  refine ⟨tp, _, [.ref D1, .ref D2], _, dd, fs, rfl, ec, ed, ea, et, .cons (.own D1) (.cons (.own D2) .nil), ?_, q⟩
  cases b with
  | true => exact kitAny_cons e (fun z => nomatch z) (fun _ => rfl)
  | false => exact kitAny_cons e (fun _ => by cases c with
      | true => exact kitAny_cons e2 (fun z => nomatch z) (fun _ => rfl)
      | false => exact kitAny_cons e2 (fun _ => kitAny_nil) (fun z => nomatch z)) (fun z => nomatch z)
theorem kit_own {D : Addr} {b : Bool} (self : PySem.W.subIn K (.ref C) (.ref C) = some true) (hdct : PySem.W.hasDictIn K D = true) (ht : PySem.W.typeIn K (.ref D) = some (.type "type")) (h : PySem.W.subIn K (.ref C) (.ref D) = some b) : PySem.W.kitOne K (.ref C) (.ref D) = some b := by
  obtain ⟨cd, hc, _⟩ := PySem.W.any_some hdct
  unfold PySem.W.kitOne
  by_cases e : C = D
  · subst e
    rw [self] at h
    obtain rfl := Option.some.inj h
    rw [if_pos (beq_self_eq_true _)]
  · rw [if_neg (fun z => e (by injection (beq_iff_eq.mp z)))]
    show (if ((PySem.W.clsIn K D).isSome && PySem.W.typeIn K (.ref D) == some (.type "type")) = true then PySem.W.subIn K (.ref C) (.ref D) else none) = some b
    rw [if_pos (by rw [hc, ht]; rfl)]
    exact h
end
theorem call_list_ofK {X : Cx} {K : PySem.W.Frag} (h : X.K = K) : CallR X (.type "list") (fun xs H Q => ∃ p ys, xs = [.ref p] ∧ (SqL K H p ys ∨ SqT K H p ys) ∧ ∀ l, H l = none → Q (.ref l) (upd H l (.lst ys))) := by
  subst h
  exact call_list_of
theorem call_len_seqK {X : Cx} {K : PySem.W.Frag} (h : X.K = K) : CallR X (.builtin "len") (fun xs H Q => ∃ p ys, xs = [.ref p] ∧ (SqL K H p ys ∨ SqT K H p ys) ∧ Q (.int ys.length) H) := by
  subst h
  exact call_len_seq
/-- all that is asked of an own exception class -/
structure ExcA (K : PySem.W.Frag) (b : Bs) (nm : Str) (C f : Addr) : Prop where
  ox : OexT K b C
  i : PySem.W.findIn K (.ref C) "__init__" = some (some (.ref f))
  t : PySem.W.typeIn K (.ref f) = some (.type "function")
  nf : PySem.W.findIn K (.ref C) nm = some none
  xf : XfC K C
  xc : ExcC K C
/-! ## 26a. comprehensions that lay new things -/
section
variable {K : PySem.W.Frag} {σ : L2.St} {H : Hp} {Q : VK} {j : Nat} {vs : List Nat} {te tl : TE} {a : Addr} {xs : List V}
theorem lcNewR (n : Nat) (c : Nat → HO) (hl : n ≤ 1000) (hw : ∀ x, wipe ((wipe σ vs).set j (some x)) vs = wipe σ vs)
    (ht : ∀ (i : Nat) (H1 : Hp) (Q' : VK), i < n → Same H H1 → (∀ t H3, H1 t = none → Same H1 H3 → H3 t = some (c i) → Q' (.ref t) H3) → te ((wipe σ vs).set j (some (.int (0 + (i : Int))))) H1 Q')
    (q : ∀ D H' (ts : List Addr), H D = none → Same H H' → H' D = some (.lst (ts.map V.ref)) → ts.length = n → (∀ k t, ts[k]? = some t → H' t = some (c k)) → (D :: ts).Nodup → (∀ t ∈ ts, H t = none) → Q (.ref D) H') :
    tLc (iRng1 (tCons (tC (.int n)) tNil)) (gName j) tYes te vs σ H Q := by
  refine ⟨_, rfl, by omega, by omega, fun D hD => ?_⟩
  rw [Int.toNat_natCast]
  refine lc_new (g := gName j) (te := te) (vs := vs) (σ := σ) (Q := Q) walk_range c hD (by omega) (fun _ _ => trivial) (fun i x H1 H2 Q' R' hi sm y k => ?_) fun H' ts s e l all nd fr => q D H' ts hD s e l all nd fr
  obtain ⟨rfl, rfl⟩ := y
  refine ⟨hw _, r_yes ?_⟩
  exact ht i H2 Q' hi sm k
theorem lcNewL (c : Nat → HO) (hv : ∀ QQ : VK, QQ (.ref a) H → tl σ H QQ) (hs : SqL K H a xs) (hl : xs.length ≤ 10000) (hw : ∀ x, wipe ((wipe σ vs).set j (some x)) vs = wipe σ vs)
    (ht : ∀ (i : Nat) (y : V) (H1 : Hp) (Q' : VK), xs[i]? = some y → Same H H1 → (∀ t H3, H1 t = none → Same H1 H3 → H3 t = some (c i) → Q' (.ref t) H3) → te ((wipe σ vs).set j (some y)) H1 Q')
    (q : ∀ D H' (ts : List Addr), H D = none → Same H H' → H' D = some (.lst (ts.map V.ref)) → ts.length = xs.length → (∀ k t, ts[k]? = some t → H' t = some (c k)) → (D :: ts).Nodup → (∀ t ∈ ts, H t = none) → Q (.ref D) H') :
    tLc (iList K tl) (gName j) tYes te vs σ H Q := by
  refine hv _ ⟨a, rfl, ⟨xs, hs⟩, fun D hD => ?_⟩
  refine lc_new (g := gName j) (te := te) (vs := vs) (σ := σ) (Q := Q) walk_list c hD hl (fun _ s => s.seq hs) (fun i x H1 H2 Q' R' hi sm y k => ?_) fun H' ts s e l all nd fr => q D H' ts hD s e l all nd fr
  obtain ⟨rfl, hx⟩ := y
  exact ⟨hw _, r_yes (ht i x H2 Q' hx sm k)⟩
end
/-! ## 27. a count -/
def countV (x : V) : Bool := match x with
  | .int i => decide (0 ≤ i)
  | _ => false
/-- a thing of which isinstance(.., int) is known -/
def WC (K : PySem.W.Frag) (H : Hp) (x : V) : Prop := (∃ i, x = .int i) ∨ (∃ b, x = .bl b) ∨ (IsA K H x "int" false ∧ (∀ l h, wholeV x l h = false) ∧ countV x = false)
theorem WC.wd {K : PySem.W.Frag} {H : Hp} {x : V} (h : WC K H x) : WD K H x := by
  rcases h with h | h | ⟨h1, h2, _⟩
  · exact .inl h
  · exact .inr (.inl h)
  · exact .inr (.inr ⟨h1, h2⟩)
def spCount (K : PySem.W.Frag) : Sp := fun vs H Q _ => ∃ x : V, vs = [x] ∧ WC K H x ∧ Q (.bl (countV x)) H
def spCheckN (K : PySem.W.Frag) (C : Addr) : Sp := fun vs H Q E => ∃ (x : V) (lo hi : Int), vs = [x, .int lo, .int hi] ∧ WD K H x ∧ ((wholeV x lo hi = true ∧ Q .non H) ∨ (wholeV x lo hi = false ∧ Refuse C x H E))
def spCheckC (K : PySem.W.Frag) (C : Addr) : Sp := fun vs H Q E => ∃ x : V, vs = [x] ∧ WC K H x ∧ ((countV x = true ∧ Q .non H) ∨ (countV x = false ∧ Refuse C x H E))
theorem whole_int {i lo hi : Int} (h0 : lo ≤ i) (h1 : i ≤ hi) : wholeV (.int i) lo hi = true := by
  show (decide (lo ≤ i) && decide (i ≤ hi)) = true
  rw [decide_eq_true h0, decide_eq_true h1]
  rfl
theorem count_int {i : Int} (h0 : 0 ≤ i) : countV (.int i) = true := decide_eq_true h0
end Bk

namespace Bk
open PySem PySem.Spec PyProof.Rows L2
/-! ## 28. return [tag, e.f, isinstance(e, G) and not isinstance(e, (B1, B2))] -/
def tHit (K : PySem.W.Frag) (i : Nat) (C G B1 B2 : Addr) (tag nm : Str) (a : Addr) (cls : Value) (d : Option Addr) : TS :=
  tRet (tLstB (tCons (tC (.str tag)) (tCons (tXf a cls d C nm (tVar i)) (tCons (tAndV (tCB (rIsH K a cls d C) (tCons (tVar i) (tCons (tC (.ref G)) tNil)))
    (tNotV (tCB (rIsH2 K a cls d C) (tCons (tVar i) (tCons (tTup (tCons (tC (.ref B1)) (tCons (tC (.ref B2)) tNil))) tNil))))) tNil))))
theorem caught_lst {K : PySem.W.Frag} {C d G B1 B2 : Addr} {i : Nat} {σ : L2.St} {H' : Hp} {D : Ends} {l : List ClA} {v : V} {tag nm : Str} (e : PySem.W.exmOne K (.ref C) (.ref C) = some true) (hi : i < σ.length) (ed : H' d = some (.xd [(nm, v)]))
    (kG : PySem.W.kitOne K (.ref C) (.ref G) = some true) (k1 : PySem.W.kitOne K (.ref C) (.ref B1) = some false) (k2 : PySem.W.kitOne K (.ref C) (.ref B2) = some false)
    (q : ∀ p H2, H' p = none → p ≠ sysModules → Same H' H2 → H2 p = some (.lst [.str tag, v, .bl true]) → D.rt (.ref p) H2) :
    wAM K D ((.ref C, i, fun a cls d => tHit K i C G B1 B2 tag nm a cls d) :: l) (.ref C) (some d) σ H' := by
  refine w_hit e fun a na => ?_
  show tHit K i C G B1 B2 tag nm a (.ref C) (some d) (offI i D) (σ.set i (some (.ref a))) H'
  have hv : (σ.set i (some (V.ref a)))[i]? = some (some (.ref a)) := List.getElem?_set_self hi
  refine r_ret (r_lstB (r_cons (r_c (r_cons ?_))))
  refine ⟨.ref a, hv, rfl, rfl, d, _, v, rfl, ed, by rw [List.lookup_cons, beq_self_eq_true], ?_⟩
  refine r_cons (r_andV (r_cb (r_cons (r_var hv (r_cons (r_c (r_nil (r_isH rfl rfl ed kG ⟨true, rfl, iteT ?_⟩))))))))
  refine r_notV (r_cb (r_cons (r_var hv (r_cons (r_tup (r_cons (r_c (r_cons (r_c (r_nil (newT fun tp H2 nt st et => ?_)))))))))))
  refine r_nil (r_isH2 rfl rfl (st _ _ ed) et k1 k2 ⟨_, rfl, r_nil (newLB fun p H3 np ns s3 e3 => q p H3 (st.free np) ns (st.trans s3) e3)⟩)
theorem r_disp1 {σ : L2.St} {H : Hp} {Q : VK} {k : Key} {v : V} (q : ∀ p H', H p = none → Same H H' → H' p = some (.dK [(k, v)]) → Q (.ref p) H') : tDisp [(tC (kV k), tC v)] σ H Q := by
  intro p np
  refine ⟨upd_same, [(k, v)], rfl, (by show 1 ≤ 15; decide), ?_⟩
  refine q p _ np (fun b o e => ?_) upd_same
  rw [upd_ne (ne_of_none e np), upd_ne (ne_of_none e np)]
  exact e
/-! ## 29. things of a known depth -/
section
variable {b : Bool} {K : PySem.W.Frag} {H H' : Hp} {v : V} {a : Addr} {xs : List V}
def ItD (b : Bool) (K : PySem.W.Frag) (H : Hp) (m k : Nat) (v : V) : Prop := ∃ d, Dq b K H v d ∧ smQ d = true ∧ d.bulk ≤ m ∧ d.depth ≤ k
theorem ItD.q {m k : Nat} (h : ItD b K H m k v) (l : k ≤ 20) : ItQ b K H m v := let ⟨d, h1, h2, h3, h4⟩ := h; ⟨d, h1, h2, h3, by omega⟩
theorem ItD.mono {m k M L : Nat} (h : ItD b K H m k v) (l : m ≤ M) (l2 : k ≤ L) : ItD b K H M L v := let ⟨d, h1, h2, h3, h4⟩ := h; ⟨d, h1, h2, by omega, by omega⟩
theorem itds {m k : Nat} : ∀ {xs : List V}, (∀ y ∈ xs, ItD b K H m k y) → ∃ ds, DqAll b K H xs ds ∧ smQL ds = true ∧ PyData.bulkAll ds ≤ (m + 1) * xs.length ∧ PyData.depthAll ds ≤ k
  | [], _ => ⟨[], .nil, rfl, Nat.le_refl _, Nat.zero_le _⟩
  | y :: ys, h => by
    obtain ⟨d, h1, h2, h3, h4⟩ := h y List.mem_cons_self
    obtain ⟨ds, g1, g2, g3, g4⟩ := itds fun z hz => h z (List.mem_cons_of_mem _ hz)
    refine ⟨d :: ds, .cons h1 g1, by simp only [smQL, h2, g2, Bool.and_true], ?_, ?_⟩
    · simp only [PyData.bulkAll, List.length_cons, Nat.mul_succ]
      omega
    · simp only [PyData.depthAll]
      omega
theorem itd_lst {m k M : Nat} (h : SqL K H a xs) (n1 : b = true → a ≠ sysModules) (i : ∀ y ∈ xs, ItD b K H m k y) (l : (m + 1) * xs.length ≤ M) : ItD b K H M (k + 1) (.ref a) := by
  obtain ⟨ds, g1, g2, g3, g4⟩ := itds i
  exact ⟨_, .lst n1 h g1, by simpa only [smQ] using g2, by simp only [PyData.bulk]; omega, by simp only [PyData.depth]; omega⟩
theorem itd_tup {m k M : Nat} (h : SqT K H a xs) (i : ∀ y ∈ xs, ItD b K H m k y) (l : (m + 1) * xs.length ≤ M) : ItD b K H M (k + 1) (.ref a) := by
  obtain ⟨ds, g1, g2, g3, g4⟩ := itds i
  exact ⟨_, .tup h g1, by simpa only [smQ] using g2, by simp only [PyData.bulk]; omega, by simp only [PyData.depth]; omega⟩
theorem itd_sc (h : smS v = true) : ItD b K H 100 0 v := let ⟨h1, h2, h3, h4⟩ := dqS h; ⟨_, h1, h2, h3, by omega⟩
/-- a dict of scalars, by keys that are scalars -/
theorem itd_dK {kvs : List (Key × V)} (e : H a = some (.dK kvs)) (h : ∀ q ∈ kvs, smS (kV q.1) = true ∧ smS q.2 = true) (l : kvs.length ≤ 5) : ItD true K H 2000 1 (.ref a) := by
  have go : ∀ {l : List (Key × V)}, (∀ q ∈ l, smS (kV q.1) = true ∧ smS q.2 = true) → ∃ ps : List (PyData × PyData), DqAll true K H (l.map fun q => kV q.1) (ps.map (·.1)) ∧ DqAll true K H (l.map (·.2)) (ps.map (·.2)) ∧ smQK ps = true ∧ PyData.bulkKv ps ≤ 202 * l.length ∧ PyData.depthKv ps = 0 := by
    intro l
    induction l with
    | nil => exact fun _ => ⟨[], .nil, .nil, rfl, Nat.le_refl _, rfl⟩
    | cons q r ih =>
      intro h
      obtain ⟨h1, h2⟩ := h q List.mem_cons_self
      obtain ⟨a1, a2, a3, a4⟩ := dqS (b := true) (K := K) (H := H) h1
      obtain ⟨b1, b2, b3, b4⟩ := dqS (b := true) (K := K) (H := H) h2
      obtain ⟨ps, g1, g2, g3, g4, g5⟩ := ih fun z hz => h z (List.mem_cons_of_mem _ hz)
      refine ⟨(datS (kV q.1), datS q.2) :: ps, .cons a1 g1, .cons b1 g2, by simp only [smQK, a2, b2, g3, Bool.and_true], ?_, ?_⟩
      · simp only [PyData.bulkKv, List.length_cons]
        omega
      · simp only [PyData.depthKv, a4, b4, g5]
        rfl
  obtain ⟨ps, g1, g2, g3, g4, g5⟩ := go h
  exact ⟨.dict ps, .dK rfl e g1 g2, by simpa only [smQ] using g3, by simp only [PyData.bulk]; omega, by simp only [PyData.depth, g5]; omega⟩
end
section
variable {b : Bool} {K : PySem.W.Frag} {H H' : Hp} {v : V} {a : Addr} {xs : List V}
theorem dqSs : ∀ {xs : List V}, xs.all smS = true → DqAll b K H xs (xs.map datS) ∧ smQL (xs.map datS) = true ∧ PyData.bulkAll (xs.map datS) ≤ 101 * xs.length ∧ PyData.depthAll (xs.map datS) = 0
  | [], _ => ⟨.nil, rfl, Nat.le_refl _, rfl⟩
  | y :: ys, h => by
    rw [List.all_cons, Bool.and_eq_true] at h
    obtain ⟨h1, h2, h3, h4⟩ := dqS (b := b) (K := K) (H := H) h.1
    obtain ⟨g1, g2, g3, g4⟩ := dqSs h.2
    rw [List.map_cons]
    refine ⟨.cons h1 g1, by simp only [smQL, h2, g2, Bool.and_true], ?_, ?_⟩
    · simp only [PyData.bulkAll, List.length_cons]
      omega
    · simp only [PyData.depthAll, h4, g4]
      rfl
/-- a list of scalars: its text hangs on them alone -/
theorem shq_lsc (h : SqL K H a xs) (i : xs.all smS = true) (l : xs.length ≤ 3000) : Shq K H (.ref a) (PyData.list (xs.map datS)).shown := by
  obtain ⟨g1, g2, g3, g4⟩ := dqSs (b := false) (K := K) (H := H) i
  exact shq_of (b := false) (.lst (fun z => Bool.noConfusion z) h g1) (by simpa only [smQ] using g2) (by simp only [PyData.bulk]; omega) (by simp only [PyData.depth]; omega)
theorem shq_tsc (h : SqT K H a xs) (i : xs.all smS = true) (l : xs.length ≤ 3000) : Shq K H (.ref a) (PyData.tuple (xs.map datS)).shown := by
  obtain ⟨g1, g2, g3, g4⟩ := dqSs (b := false) (K := K) (H := H) i
  exact shq_of (b := false) (.tup h g1) (by simpa only [smQ] using g2) (by simp only [PyData.bulk]; omega) (by simp only [PyData.depth]; omega)
end
/-! ## 30. odd things -/
/-- a thing that is no number of any use; fp: its lists; m: how many things a list of it has at most -/
inductive OddV (H : Hp) (m : Nat) : List Addr → V → Prop
  | sc {v : V} (h : smS v = true) (hw : ∀ lo hi, 0 ≤ lo → wholeV v lo hi = false) (hc : countV v = false) : OddV H m [] v
  | tup {a : Addr} {xs : List V} (e : H a = some (.tup xs)) (h : ∀ y ∈ xs, smS y = true) (l : xs.length ≤ 5) : OddV H m [] (.ref a)
  | dK {a : Addr} {kvs : List (Key × V)} (e : H a = some (.dK kvs)) (h : ∀ q ∈ kvs, smS (kV q.1) = true ∧ smS q.2 = true) (l : kvs.length ≤ 5) : OddV H m [] (.ref a)
  | lst {a : Addr} {xs : List V} {fp : List Addr} (e : H a = some (.lst xs)) (ns : a ≠ sysModules) (l : xs.length ≤ m) (h : ∀ y ∈ xs, smS y = true ∨ ∃ c ∈ fp, y = .ref c) (na : a ∉ fp) (hf : ∀ c ∈ fp, c ≠ sysModules ∧ ∃ ys, H c = some (.lst ys) ∧ (∀ y ∈ ys, smS y = true) ∧ ys.length ≤ 5) : OddV H m (a :: fp) (.ref a)
section
variable {K : PySem.W.Frag} {H H' : Hp} {m n : Nat} {fp : List Addr} {v : V} {bx : Addr}
/-- what may change -/
theorem OddV.keep (o : OddV H m fp v) (k : ∀ b ∈ fp, H' b = H b) (t : ∀ b xs, H b = some (.tup xs) → H' b = some (.tup xs)) (d : ∀ b kvs, H b = some (.dK kvs) → H' b = some (.dK kvs)) (l : m ≤ n) : OddV H' n fp v := by
  cases o with
  | sc h hw hc => exact .sc h hw hc
  | tup e h l => exact .tup (t _ _ e) h l
  | dK e h l => exact .dK (d _ _ e) h l
  | lst e ns l1 h na hf =>
    exact .lst (by rw [k _ List.mem_cons_self]; exact e) ns (by omega) h na fun c hc => by
      obtain ⟨h1, ys, h2, h3⟩ := hf c hc
      exact ⟨h1, ys, by rw [k _ (List.mem_cons_of_mem _ hc)]; exact h2, h3⟩
/-- the lists among them stand -/
theorem OddV.there (o : OddV H m fp v) : ∀ b ∈ fp, ∃ xs, H b = some (.lst xs) := by
  cases o with
  | sc h hw hc => exact fun b z => nomatch z
  | tup e h l => exact fun b z => nomatch z
  | dK e h l => exact fun b z => nomatch z
  | lst e ns l1 h na hf =>
    intro b hb
    rcases List.mem_cons.mp hb with z | z
    · exact ⟨_, by rw [z]; exact e⟩
    · obtain ⟨_, ys, h2, _⟩ := hf b z
      exact ⟨ys, h2⟩
theorem OddV.same (o : OddV H m fp v) (s : Same H H') : OddV H' m fp v := o.keep (fun b hb => by
    obtain ⟨xs, e⟩ := o.there b hb
    rw [e]; exact s _ _ e) (fun b xs e => s _ _ e) (fun b kvs e => s _ _ e) (Nat.le_refl _)
/-- what stands at bx, a list that is none of these, may change -/
theorem OddV.but {xs : List V} (o : OddV H m fp v) (eb : H bx = some (.lst xs)) (n : bx ∉ fp) (s : But bx H H') : OddV H' m fp v := o.keep (fun b hb => by
    obtain ⟨xs, e⟩ := o.there b hb
    rw [e]; exact s _ _ (fun z => n (z ▸ hb)) e) (fun b xs e => s _ _ (fun z => by rw [z, eb] at e; exact nomatch e) e) (fun b kvs e => s _ _ (fun z => by rw [z, eb] at e; exact nomatch e) e) (Nat.le_refl _)
theorem OddV.wc (o : OddV H m fp v) : WC K H v ∧ countV v = false ∧ ∀ lo hi, 0 ≤ lo → wholeV v lo hi = false := by
  cases o with
  | @sc v h hw hc =>
    refine ⟨?_, hc, hw⟩
    cases v with
    | int i => exact .inl ⟨i, rfl⟩
    | bl b => exact .inr (.inl ⟨b, rfl⟩)
    | non => exact .inr (.inr ⟨isa_non, fun _ _ => rfl, rfl⟩)
    | str z => exact .inr (.inr ⟨isa_str, fun _ _ => rfl, rfl⟩)
    | _ => exact nomatch h
  | tup e h l => exact ⟨.inr (.inr ⟨isa_tup e, fun _ _ => rfl, rfl⟩), rfl, fun _ _ _ => rfl⟩
  | dK e h l => exact ⟨.inr (.inr ⟨isa_dK e, fun _ _ => rfl, rfl⟩), rfl, fun _ _ _ => rfl⟩
  | lst e ns l1 h na hf => exact ⟨.inr (.inr ⟨isa_lst e, fun _ _ => rfl, rfl⟩), rfl, fun _ _ _ => rfl⟩
theorem OddV.it (o : OddV H m fp v) : ItQ true K H (2000 + 700 * m) v := by
  cases o with
  | sc h hw hc => exact ((itd_sc h).q (by decide)).mono (by omega)
  | tup e h l => exact ((itd_tup (m := 100) (k := 0) (M := 2000) (sqT e) (fun y hy => itd_sc (h y hy)) (by omega)).q (by decide)).mono (by omega)
  | dK e h l => exact ((itd_dK e h l).q (by decide)).mono (by omega)
  | lst e ns l1 h na hf =>
    refine ((itd_lst (m := 600) (k := 1) (M := 2000 + 700 * m) (sqL e) (fun _ => ns) (fun y hy => ?_) (by
      have := Nat.mul_le_mul_left 601 l1
      omega)).q (by decide)).mono (by omega)
    rcases h y hy with z | ⟨c, hc, rfl⟩
    · exact (itd_sc z).mono (by omega) (by omega)
    · obtain ⟨n1, ys, h2, h3, h4⟩ := hf c hc
      exact (itd_lst (m := 100) (k := 0) (M := 600) (sqL h2) (fun _ => n1) (fun y hy => itd_sc (h3 y hy)) (by omega)).mono (by omega) (by omega)
/-- a list among them grows by a scalar -/
theorem OddV.grow {a : Addr} {xs : List V} {y : V} (o : OddV H m fp v) (ea : H a = some (.lst xs)) (hy : smS y = true) (h : v = .ref a ∨ a ∉ fp) : OddV (upd H a (.lst (xs ++ [y]))) (m + 1) fp v := by
  rcases h with rfl | h
  · cases o with
    | sc h hw hc => exact nomatch h
    | tup e h l => rw [ea] at e; exact nomatch e
    | dK e h l => rw [ea] at e; exact nomatch e
    | @lst _ xs2 fp2 e ns l1 h na hf =>
      rw [ea] at e
      obtain rfl : xs = xs2 := by injection (Option.some.inj e)
      refine .lst upd_same ns (by rw [List.length_append]; exact Nat.succ_le_succ l1) (fun z hz => ?_) na fun c hc => ?_
      · rcases List.mem_append.mp hz with z1 | z1
        · exact h z z1
        · rw [List.mem_singleton.mp z1]; exact .inl hy
      · obtain ⟨n1, ys, h2, h3⟩ := hf c hc
        exact ⟨n1, ys, by rw [upd_ne (fun q => na (by rw [← q]; exact hc))]; exact h2, h3⟩
  · refine o.keep (fun b hb => upd_ne fun z => h (z ▸ hb)) (fun b ys e => ?_) (fun b kvs e => ?_) (Nat.le_succ _)
    · rw [upd_ne (fun z => by rw [z, ea] at e; exact nomatch e)]; exact e
    · rw [upd_ne (fun z => by rw [z, ea] at e; exact nomatch e)]; exact e
/-- isinstance(v, list) -/
theorem OddV.isl (o : OddV H m fp v) : (IsA K H v "list" false ∧ fp = []) ∨ ∃ a xs, v = .ref a ∧ H a = some (.lst xs) ∧ a ∈ fp ∧ xs.length ≤ m := by
  cases o with
  | @sc v h hw hc =>
    refine .inl ⟨?_, rfl⟩
    cases v with
    | int i => exact isa_int
    | bl b => exact isa_bl
    | non => exact isa_non
    | str z => exact isa_str
    | _ => exact nomatch h
  | tup e h l => exact .inl ⟨isa_tup e, rfl⟩
  | dK e h l => exact .inl ⟨isa_dK e, rfl⟩
  | lst e ns l1 h na hf => exact .inr ⟨_, _, rfl, e, List.mem_cons_self, l1⟩
end
end Bk

namespace Bk
open PySem PySem.Spec PySem.Calls PyProof.Rows L2
/-! ## 31. own exceptions made with keywords, as values -/
section
variable {M : Model} {prog : Program} {w : World} {A : Around} {E : Value → Shared → Prop} {R : Result → Shared → Prop} {h : Heap} {g : Array GenState} {d : Drawn} {t : Nat} {os : OsState}
variable {nm q : Str} {C N : Addr} {bs bm bmB : List Value} {hdct : Bool} {sn : List Str} {sub : List Value} {ab : Bool} {col : Option Bool} {dd : Option Addr} {k0 k1 k2 k3 k5 : Option Value} {B newId i0 IB initId : String} {rest : List Value}
variable {kw : List (Str × Value)}
theorem checkTypeK {Q : Unit → Shared → Prop} (hC : h.get? C = some (excClassObj nm q C N bs bm hdct sn sub ab col dd k0 k1 k2 k3 k5 newId)) (hq : Q () ⟨h, g, d, t, os⟩) : wpAny M A (checkBuiltinCall "type.__call__" ⟨.ref C :: rest, kw⟩) Q E ⟨h, g, d, t, os⟩ := by
  have f3 := tc_sub
  have hT : (⟨h, g, d, t, os⟩ : Shared).TypeIs (.ref C) "type" := ⟨_, hC, rfl⟩
  simp only [checkBuiltinCall, tc_kind, tc_split]
  repeat (any_goals (first | assumption | with_reducible refine wpAny_loadPart_at hC ?_ | with_reducible refine wpAny_onRaise ?_ | with_reducible refine wpAny_map ?_ | wp_step))
theorem checkNewK (F : ExcBaseFacts B newId i0 bmB) (hB : bm.contains (.type B) = true) {Q : Unit → Shared → Prop} (hC : h.get? C = some (excClassObj nm q C N bs bm hdct sn sub ab col dd k0 k1 k2 k3 k5 newId)) (hq : Q () ⟨h, g, d, t, os⟩) :
    wpAny M A (checkBuiltinCall newId ⟨.ref C :: rest, kw⟩) Q E ⟨h, g, d, t, os⟩ := by
  have cB : (Value.ref C :: bm).contains (.type B) = true := by rw [List.contains_cons, hB, Bool.or_true]
  have star := F.noStar
  simp only [checkBuiltinCall, F.newKind, F.newSplit, F.newRow]
  repeat (first | refine wpAny_loadPart_at hC ?_ | (refine wpAny_isSubtype_exc hC ?_; rw [cB]) | refine wpAny_staticBase_exc hC ?_ | refine wpAny_madeBy_exc hC ?_ | simp only [bne_self_eq_false, Bool.false_eq_true, if_false] | wp_step)
  exact hq
theorem newK (F : ExcBaseFacts B newId i0 bmB) (hB : bm.contains (.type B) = true) (hA : bm.contains (.type "AttributeError") = false) (hN : bm.contains (.type "NameError") = false) (hC : h.get? C = some (excClassObj nm q C N bs bm hdct sn sub ab col dd k0 k1 k2 k3 k5 newId)) (hrest : rest.length ≤ sizeLine)
    (hq : R (.ok (.ret (.ref (h.objs.size + 1)))) ⟨(h.push (PySem.W.kdv_tup rest)).push (PySem.HandSPX.excO C h.objs.size), g, d, t, os⟩) : codeAny (model prog w) A (.builtin newId ⟨.ref C :: rest, kw⟩) R ⟨h, g, d, t, os⟩ := by
  have hends := F.ends
  have cB : (Value.ref C :: bm).contains (.type B) = true := by rw [List.contains_cons, hB, Bool.or_true]
  have cA : (Value.ref C :: bm).contains (.type "AttributeError") = false := by rw [List.contains_cons, hA]; rfl
  have cN : (Value.ref C :: bm).contains (.type "NameError") = false := by rw [List.contains_cons, hN]; rfl
  refine codeAny_builtinAt F.entry ?_
  unfold Builtin.«BaseException.__new__»
  refine PySem.wpAt_bind ?_
  show PySem.wpAt _ _ _ (stack >>= _) _ _ _
  refine PySem.wpAt_bind (PySem.wpAt_stack fun p below => PySem.wpAt_of_wpAny ?_)
  wp_walk
  refine PySem.wpAt_of_wpAny ?_
  rw [F.owner]
  repeat (first | with_reducible refine wpAny_madeHere_exc F.canon hC ?_ | with_reducible refine wpAny_loadPart_at hC ?_ | (with_reducible refine wpAny_isSubtype_exc hC ?_; first | rw [cB] | rw [cA] | rw [cN]) | wp_step)
  show R _ _
  rw [Heap.size_push]
  exact hq
theorem typeCallK (F : ExcBaseFacts B newId i0 bmB) (hB : bm.contains (.type B) = true) (hA : bm.contains (.type "AttributeError") = false) (hN : bm.contains (.type "NameError") = false) {fI : Addr} {Q : Fin → Shared → Prop} (hC : h.get? C = some (excClassObj nm q C N bs bm hdct sn sub ab col dd k0 k1 k2 k3 k5 newId))
    (hi : PySem.W.Looks (model prog w) h (typeLookup (.ref C) "__init__") (some (.ref fI))) (hb : ∀ self, PySem.W.Looks (model prog w) h (bindSpecial (.ref fI) self) (.ref fI, [self])) (hrest : rest.length ≤ sizeLine)
    (hq : codeAny (model prog w) A (.call (.ref fI) ⟨.ref (h.objs.size + 1) :: rest, kw⟩) (fun r s' => match r with | .ok (.ret v) => v = .none ∧ Q (.done (.ret (.ref (h.objs.size + 1)))) s' | .ok _ => False | .error e => E e s') ⟨(h.push (PySem.W.kdv_tup rest)).push (PySem.HandSPX.excO C h.objs.size), g, d, t, os⟩) :
    wpAny (model prog w) A (Builtin.«type.__call__» ⟨.ref C :: rest, kw⟩) Q E ⟨h, g, d, t, os⟩ := by
  repeat (first | with_reducible refine wpAny_loadPart_at hC ?_ | with_reducible refine wpAny_madeBy_exc hC ?_ | wp_step)
  refine codeAny_call_builtin_code (Code.quiet_builtin _ F.quiet) (checkNewK F hB hC ?_)
  refine newK F hB hA hN hC hrest ?_
  show wpAny _ _ _ _ _ _
  have k : ∀ c o, h.get? c = some o → ((h.push (PySem.W.kdv_tup rest)).push (PySem.HandSPX.excO C h.objs.size)).get? c = some o := fun c o e => Heap.get?_push_of_some _ (Heap.get?_push_of_some _ e)
  have hC1 := k _ _ hC
  have hget : ((h.push (PySem.W.kdv_tup rest)).push (PySem.HandSPX.excO C h.objs.size)).get? (h.objs.size + 1) = some (PySem.HandSPX.excO C h.objs.size) := by heap_get
  have cC : (Value.ref C :: bm).contains (.ref C) = true := by simp
  have i1 := hi.keeps k
  have b1 := (hb (.ref (h.objs.size + 1))).keeps k
  unfold isInstance
  repeat (first | with_reducible refine wpAny_loadPart_at hget ?_ | (with_reducible refine wpAny_isSubtype_exc hC1 ?_; rw [cC]) | wp_step)
  show wpAny _ _ (typeLookup (.ref C) _) _ _ _
  refine i1.at (wpAny_holding (wpAny_bind (b1.at (wpAny_bind (wpAny_call (codeAny_mono hq fun r s' z => ?_))))))
  rcases r with e | (v | _ | _ | _) <;> first | exact z | exact z.elim | skip
  obtain ⟨rfl, z⟩ := z
  first
    | exact wpAny_pure (wpAny_pure z)
    | (wp_walk; exact z)
theorem callK (F : ExcBaseFacts B newId i0 bmB) (hB : bm.contains (.type B) = true) (hA : bm.contains (.type "AttributeError") = false) (hN : bm.contains (.type "NameError") = false) {fI : Addr} (hC : h.get? C = some (excClassObj nm q C N bs bm hdct sn sub ab col dd k0 k1 k2 k3 k5 newId))
    (hi : PySem.W.Looks (model prog w) h (typeLookup (.ref C) "__init__") (some (.ref fI))) (hb : ∀ self, PySem.W.Looks (model prog w) h (bindSpecial (.ref fI) self) (.ref fI, [self])) (hrest : rest.length ≤ sizeLine)
    (hq : codeAny (model prog w) (A.under (.builtin "type.__call__" ⟨.ref C :: rest, kw⟩)) (.call (.ref fI) ⟨.ref (h.objs.size + 1) :: rest, kw⟩) (PySem.W.InitBack (h.objs.size + 1) R) ⟨(h.push (PySem.W.kdv_tup rest)).push (PySem.HandSPX.excO C h.objs.size), g, d, t, os⟩) :
    codeAny (model prog w) A (.call (.ref C) ⟨rest, kw⟩) R ⟨h, g, d, t, os⟩ := by
  have f1 := PySem.tc_lookup
  have f2 := PySem.tc_bind (.ref C)
  have hTy : (⟨h, g, d, t, os⟩ : Shared).TypeIs (.ref C) "type" := ⟨_, hC, rfl⟩
  refine codeAny_of_tree ?_
  show wpAny _ _ (callAny (.ref C) _) _ _ _
  repeat (any_goals (first | assumption | with_reducible refine wpAny_loadPart_at hC ?_ | wp_step))
  refine ⟨rfl, codeAny_call_builtin_at (Code.quiet_builtin _ (by decide +kernel)) entry_typeCall (checkTypeK hC (typeCallK F hB hA hN hC hi hb hrest ?_))⟩
  refine codeAny_mono hq fun r s' z => ?_
  rcases r with e | (v | _ | _ | _) <;> exact z
end
end Bk

namespace Bk
open PySem PySem.Spec PySem.Calls PyProof.Rows L2
/-! ## 32. own exceptions as values -/
section
open Builtin Builtin.ObjectAttr
variable {prog : Program} {w : World} {A : Around} {E : Value → Shared → Prop} {R : Result → Shared → Prop} {hp : Heap} {g : Array GenState} {d : Drawn} {t : Nat} {os : OsState}
/-- a further field -/
theorem osaT2 {K : PySem.W.Frag} {b : Bs} {name : Str} {tk : Tok} {v : Value} {x C dx : Addr} {fv : Array Value} {cd : ClassData} {m0 : Str → Option Value} {nl : List Str} (X : K.In hp) (hx : hp.get? x = some { cls := .ref C, dict := some dx, data := .fields fv }) (hns : hp.Ns1 dx m0) (hw : Within m0 nl) (hz : nl.length ≤ 1000) (hcd : PySem.W.clsIn K C = some cd)
    (hm : Tail b cd.mro) (hh : cd.hasDict = true) (ha : PySem.W.findIn K (.ref C) name = some none) (hq : ∀ h' tk', (∀ c o, c ≠ dx → hp.get? c = some o → h'.get? c = some o) → h'.Ns1 dx (fun y => if y = name then some v else m0 y) → R (.ok (.ret .none)) ⟨h', g, d, tk', os⟩) :
    codeAny (model prog w) A (.call (.builtin "object.__setattr__") ⟨[.ref x, .str name tk, v], []⟩) R ⟨hp, g, d, t, os⟩ := by
  obtain ⟨oD, _, _, hoD, _, _⟩ := hns.count hw
  have I : PySem.W.InstAt hp x { cls := .ref C, dict := some dx, data := .fields fv } C (some oD) := ⟨hx, rfl, rfl, hoD⟩
  have SF := F.store_object
  have hob : cd.mro.contains (.type "object") = true := (hm.has "object").trans b.obj
  have isO : PySem.W.Looks (model prog w) hp (isInstance (.ref x) (.type "object")) true :=
    I.type.andThen (PySem.W.looks_mroIn X (by unfold PySem.W.mroIn; rw [hcd, Option.bind_some, if_neg (by rw [hm.ne]; decide), hob]))
  have lineL : PySem.W.Looks (model prog w) hp (mroOf (.ref C)) cd.mro := (PySem.W.looks_clsIn X hcd).andThen .now
  have noTaker : PySem.W.Looks (model prog w) hp (storeTaker? none) none := .now
  have clsL : PySem.W.Looks (model prog w) hp (classData C) cd := PySem.W.looks_clsIn X hcd
  refine codeAny_call_builtin SF.slot.plain SF.entry (@PySem.W.check_slot (model prog w) _ _ ⟨hp, g, d, t, os⟩ "object.__setattr__" "object" "__setattr__" (.ref x) [.str name tk, v] [] _ SF.kind SF.split isO (SF.args (.ref x) (.str name tk) v) ?_)
  rw [PySem.W.osa_eq, refuse_eq]
  refine wpAny_bind (wpAny_bind (I.type.at (wpAny_bind (lineL.at ?_))))
  rw [hm.pass]
  refine wpAny_pure (wpAny_bind (I.type.at (wpAny_bind ((PySem.W.looks_findIn X ha).at (wpAny_bind (noTaker.at ?_))))))
  show wpAny _ _ (storeInOwnDict (.ref x) (.ref C) (.str name tk) name v false) _ _ _
  obtain ⟨nm, bs, mro, ns, qn, hd, sn, sb, ab, col, del⟩ := cd
  dsimp only at hh
  subst hh
  unfold storeInOwnDict ownDictForStores
  repeat (first | with_reducible refine PySem.OEX.store_in_old hns hw hz ?_ | with_reducible refine wpAny_loadPart_at hx ?_ | with_reducible refine clsL.at ?_ | wp_step)
  exact fun h' tk' hn' hs => hq h' tk' (fun c o hc ho => (hs.2 c hc).trans ho) hn'
end
section
variable {X : Cx} {pins : List (Addr × Obj)} {σ : L2.St} {H : Hp} {s : Shared} {a C dx : Addr} {f : Str} {y : V} {u : Value} {b : Bs} {fs : List (Str × V)} {Q : Unit → Shared → Prop} {E : Value → Shared → Prop} {A : Around}
theorem ost_oldT (T : OexT X.K b C) (I : Inv X pins σ H s) (e : H a = some (exo a C (some dx))) (ed : H dx = some (exd dx fs)) (hl : fs.length ≤ 900) (hno : PySem.W.findIn X.K (.ref C) f = some none) (ry : RelV y u)
    (h : ∀ s', Inv X pins σ (upd H dx (exd dx ((f, y) :: fs))) s' → Q () s') : wpAny (model X.prog X.w) A (setAttr (.ref a) f u) Q E s := by
  obtain ⟨nm, q, N, bs, bm, sn, sub, ab, col, dd, k0, k1, k2, k3, k5, hC, hbm⟩ := T.cls
  obtain ⟨t1, ho⟩ := exo_at I.hok e
  obtain ⟨mA, hns, rel⟩ := exd_at I.hok ed
  have hw := within_of rel
  obtain ⟨hp, g, d, t, os⟩ := s
  obtain ⟨oD, _, _, hoD, _, _⟩ := hns.count hw
  have hcl : PySem.W.clsIn X.K C = some { name := nm, bases := bs, mro := .ref C :: bm, ns := N, qualname := q, hasDict := true, slotNames := sn, subclasses := sub, abstract := ab, collection := col, hasDel := false } := by
    unfold PySem.W.clsIn
    rw [hC] <;> rfl
  refine PySem.W.set_plain I.kIn (ox := { cls := .ref C, dict := some dx, data := .fields #[.ref t1, .none, .none, .none, .bool false, .none] }) (od := some oD) ⟨ho, rfl, rfl, hoD⟩ T.sa ?_
  refine osaT2 I.kIn ho hns hw (by rw [List.length_map]; omega) hcl (.own C hbm) rfl hno fun h' tk' k hn => ?_
  have hd : ∃ o, h'.get? dx = some o := by
    obtain ⟨o, _, _, e', _⟩ := hn
    exact ⟨o, e'⟩
  exact h _ (I.write (t' := tk') (x := dx) (e := dx) (o := exd dx ((f, y) :: fs)) (by rw [ed]; exact True.intro) (.inl rfl) k hd (exd_ok hn (relO_put ry rel)))
end
/-- self.f = e, a further one -/
def tOsO (K : PySem.W.Frag) (f : Str) (to te : TE) : TS := fun D σ H => te σ H fun y H1 => to σ H1 fun x H2 => ∃ (b : Bs) (a C dx : Addr) (fs : List (Str × V)), x = .ref a ∧ OexT K b C ∧ PySem.W.findIn K (.ref C) f = some none ∧
  H2 a = some (exo a C (some dx)) ∧ H2 dx = some (exd dx fs) ∧ fs.length ≤ 900 ∧ D.nx σ (upd H2 dx (exd dx ((f, y) :: fs)))
theorem ps_osO {X : Cx} {o e : Expr} {to te : TE} {f : Str} {p' pos : Pos} (ho : PE X o to) (he : PE X e te) (hs : swapsWith e (some (.Attribute o f p')) pos.line X.env = pure false := by rfl) : PS X (.Assign [.Attribute o f p'] e pos) (tOsO X.K f to te) := by
  refine ⟨fun pins s σ H D I h => plainObj_wpAny_Assign_Attribute (thn (he.run pins s σ H _ I h) fun v s1 ⟨y, H1, I1, r1, q1⟩ => thn (ho.run pins s1 σ H1 _ I1 q1) fun u s2 ⟨x, H2, I2, r2, b, a, C, dx, fs, ex, T, hno, ea, ed, hl, q⟩ => ?_) hs⟩
  subst ex
  obtain rfl : u = Value.ref a := r2
  exact ost_oldT T I2 ea ed hl hno r1 fun s' J => ⟨σ, _, J, q⟩
/-- C(..), C an own exception class: a value -/
structure CalO (P : Program) (w : World) (K : PySem.W.Frag) (mg : Str → Option Value) (base : Heap) (k n : Nat) (ks : List Str) (C : Addr) (x : Str) (sp : Sp) (gV : List V → List V → List V) : Prop where
  ex : ∃ (b : Bs) (fI : Addr) (fd : FuncData) (ps : List Str) (g : List Value → List Value → List Value), OexT K b C ∧ PySem.W.findIn K (.ref C) "__init__" = some (some (.ref fI)) ∧ PySem.W.typeIn K (.ref fI) = some (.type "function") ∧ FnOk P w K mg base CX0 k fI fd ps sp ∧ KBn K fd ps (n + 1) ks g gV ∧ mg x = some (.ref C)
theorem kbn_of {K : PySem.W.Frag} {fd : FuncData} {ps : List Str} {m : Nat} (b : Binds K fd ps []) (h : ps.length = m) : KBn K fd ps m [] (fun us _ => us) (fun vs _ => vs) :=
  ⟨fun s us ws X l1 l2 => by
    have z := b s us X (by rw [List.append_nil, l1, h])
    rw [List.append_nil] at z
    exact z, fun r1 _ => r1⟩
def tMkO1 (C : Addr) (n m : Nat) (sp : Sp) (gV : List V → List V → List V) (t tk : TA) : TE := fun σ H Q => t σ H fun vs H1 => tk σ H1 fun zs H2 => vs.length = n ∧ zs.length = m ∧ n ≤ 1000 ∧ ∀ a, H2 a = none →
  sp (gV (.ref a :: vs) zs) (upd H2 a (exo a C none)) (fun v H3 => v = .non ∧ Q (.ref a) H3) (fun _ _ _ => False)
section
variable {X : Cx} {k j n : Nat} {ks : List Str} {C : Addr} {x : Str} {sp : Sp} {gV : List V → List V → List V} {t tk : TA} {e : Expr} {es : List Expr} {kws : List Keyword} {p pos : Pos}
theorem run_oeK {b : Bs} {fI : Addr} {fd : FuncData} {ps : List Str} {g : List Value → List Value → List Value} {pins : List (Addr × Obj)} {σ : L2.St} {H : Hp} {s : Shared} {Q : VK} {us ws : List Value} {vs zs : List V} (T : OexT X.K b C) (iC : PySem.W.findIn X.K (.ref C) "__init__" = some (some (.ref fI))) (tI : PySem.W.typeIn X.K (.ref fI) = some (.type "function"))
    (F1 : FnOk X.prog X.w X.K X.mg X.base CX0 k fI fd ps sp) (hr : Room (k + 1) X.A) (hb : KBn X.K fd ps (n + 1) ks g gV) (I1 : Inv X pins σ H s) (r1 : Vals vs us) (rz : Vals zs ws) (l1 : vs.length = n) (l2 : zs.length = ks.length) (hn : n ≤ 1000)
    (q1 : ∀ a, H a = none → sp (gV (.ref a :: vs) zs) (upd H a (exo a C none)) (fun v H3 => v = .non ∧ Q (.ref a) H3) (fun _ _ _ => False)) : wpAny (model X.prog X.w) X.A (call (.ref C) us (ks.zip ws)) (EP X pins σ Q) X.xe s := by
  obtain ⟨nm, q, N, bs, bm, sn, sub, ab, col, dd, k0, k1, k2, k3, k5, hC, hbm⟩ := T.cls
  obtain ⟨hp, g1, dr, tk, os⟩ := s
  have hsz : hp.objs.size ≤ hp.objs.size + 1 := Nat.le_succ _
  have hq := q1 (hp.objs.size + 1) (I1.hok.fresh hsz)
  have hget : ((hp.push (PySem.W.kdv_tup us)).push (PySem.HandSPX.excO C hp.objs.size)).get? (hp.objs.size + 1) = some (PySem.HandSPX.excO C hp.objs.size) := by heap_get
  have kk : ∀ c o, hp.get? c = some o → ((hp.push (PySem.W.kdv_tup us)).push (PySem.HandSPX.excO C hp.objs.size)).get? c = some o := fun c o z => Heap.get?_push_of_some _ (Heap.get?_push_of_some _ z)
  have I2 : Inv X pins σ (upd H (hp.objs.size + 1) (exo (hp.objs.size + 1) C none)) ⟨(hp.push (PySem.W.kdv_tup us)).push (PySem.HandSPX.excO C hp.objs.size), g1, dr, tk, os⟩ :=
    I1.laid (t' := tk) (a := hp.objs.size + 1) (o := exo (hp.objs.size + 1) C none) (h' := (hp.push (PySem.W.kdv_tup us)).push (PySem.HandSPX.excO C hp.objs.size)) kk hsz (exo_ok hget)
  have rr1 : Vals (V.ref (hp.objs.size + 1) :: vs) (Value.ref (hp.objs.size + 1) :: us) := .cons rfl r1
  have e1 : (Value.ref (hp.objs.size + 1) :: us).length = n + 1 := rr1.length.symm.trans (congrArg Nat.succ l1)
  have e2 : ws.length = ks.length := rz.length.symm.trans l2
  have hus : us.length ≤ sizeLine := by rw [← Paired.length r1, l1, sizeLine_eq]; omega
  obtain ⟨i0, bmB, bf⟩ := b.f
  refine wpAny_call (callK bf ((hbm.has _).trans b.hB) ((hbm.has _).trans b.hA) ((hbm.has _).trans b.hN) (I1.kIn _ _ hC) (PySem.W.looks_findIn I1.kIn iC) (fun self => PySem.W.bind_fn I1.kIn self tI) hus
    (codeAny_mono (F1.run _ X.stack _ _ ⟨Value.ref (hp.objs.size + 1) :: us, ks.zip ws⟩ (g (Value.ref (hp.objs.size + 1) :: us) ws) _ _ (fun _ _ _ => False) (hr.make C us (ks.zip ws)) (I2.env0.make C us (ks.zip ws)) (hb.to _ (Value.ref (hp.objs.size + 1) :: us) ws I2.kIn e1 e2) (hb.rel rr1 rz) hq) fun r s' hq' => ?_))
  match r, hq' with
  | .error er, hq' => exact (hq' : False).elim
  | .ok (.ret u), hq' =>
    obtain ⟨v, H2, I3, rv, ev, q2⟩ := I2.after hq'
    subst ev
    exact ⟨rv, .ref (hp.objs.size + 1), H2, I3, rfl, q2⟩
theorem pe_oeP (c : CalO X.prog X.w X.K X.mg X.base k n [] C x sp gV) (hr : Room j X.A) (hk : k + 1 ≤ j) (hg : Gl X x) (ha : PA X (e :: es) t)
    (hdb : (x == ("__debug__" : Str)) = false := by decide) (he : starEach (e :: es) X.env = (false, eval e X.env) :: starEach es X.env := by rfl) (hpl : (backTo pos (starEach es X.env)).any (·.1) = false := by rfl) :
    PE X (.Call (.Name x p) (e :: es) [] pos) (tMkO1 C n 0 sp gV t tNil) := by
  obtain ⟨b, fI, fd, ps, g, T, iC, tI, F1, hb, hm⟩ := c.ex
  refine ⟨fun pins s σ H Q I h => ?_⟩
  refine wpAny_Call_Name_kw (ld_glob I hg hm ?_ hdb)
  refine PySem.W.callWith_K (h₀ := X.base) I.ok.mod.kin T.kC (thn (ha.run pos pins s σ H _ I h) fun us s1 ⟨vs, H1, I1, r1, l1, l2, hn, q1⟩ => ⟨I1.kIn, ?_⟩) he hpl
  exact run_oeK (ws := []) (zs := []) T iC tI F1 (hr.mono hk) hb I1 r1 .nil l1 rfl hn q1
theorem pe_oe0 (c : CalO X.prog X.w X.K X.mg X.base k 0 [] C x sp gV) (hr : Room j X.A) (hk : k + 1 ≤ j) (hg : Gl X x) (hdb : (x == ("__debug__" : Str)) = false := by decide) :
    PE X (.Call (.Name x p) [] [] pos) (tMkO1 C 0 0 sp gV tNil tNil) := by
  obtain ⟨b, fI, fd, ps, g, T, iC, tI, F1, hb, hm⟩ := c.ex
  refine ⟨fun pins s σ H Q I h => ?_⟩
  obtain ⟨_, _, hn, q1⟩ := h
  refine wpAny_Call_Name_kw (ld_glob I hg hm ?_ hdb)
  exact PySem.W.callWith_K0 I.kIn T.kC (run_oeK (us := []) (vs := []) (ws := []) (zs := []) T iC tI F1 (hr.mono hk) hb I .nil .nil rfl rfl hn q1)
theorem pe_oeK (c : CalO X.prog X.w X.K X.mg X.base k 0 ks C x sp gV) (hr : Room j X.A) (hk : k + 1 ≤ j) (hg : Gl X x) (hkw : PK X kws tk)
    (hall : (backToKw pos (keywordEach kws X.env)).all (·.1.isSome) = true := by rfl) (hks : (backToKw pos (keywordEach kws X.env)).filterMap (·.1) = ks := by rfl)
    (hdb : (x == ("__debug__" : Str)) = false := by decide) (hpl : ((backTo pos (starEach [] X.env)).any (·.1) || (backToKw pos (keywordEach kws X.env)).any (·.1.isNone)) = false := by rfl) :
    PE X (.Call (.Name x p) [] kws pos) (tMkO1 C 0 ks.length sp gV tNil tk) := by
  obtain ⟨b, fI, fd, ps, g, T, iC, tI, F1, hb, hm⟩ := c.ex
  refine ⟨fun pins s σ H Q I h => ?_⟩
  refine wpAny_Call_Name_kw (ld_glob I hg hm ?_ hdb)
  refine PySem.W.callWith_KW0 (h₀ := X.base) I.ok.mod.kin T.kC hall ?_ hpl
  refine thn (hkw.run pos pins s σ H _ I h) fun ws s2 ⟨zs, H2, I2, rz, _, l2, hn, q2⟩ => ⟨I2.kIn, ?_⟩
  rw [hks]
  exact run_oeK (us := []) (vs := []) T iC tI F1 (hr.mono hk) hb I2 .nil rz rfl l2 hn q2
end
section
variable {σ : L2.St} {H : Hp} {Q : VK} {C : Addr} {n m : Nat} {sp : Sp} {gV : List V → List V → List V} {t tk : TA}
theorem r_mkO1 (q : t σ H fun vs H1 => tk σ H1 fun zs H2 => vs.length = n ∧ zs.length = m ∧ n ≤ 1000 ∧ ∀ a, H2 a = none → sp (gV (.ref a :: vs) zs) (upd H2 a (exo a C none)) (fun v H3 => v = .non ∧ Q (.ref a) H3) (fun _ _ _ => False)) : tMkO1 C n m sp gV t tk σ H Q := q
end
/-- at a: an exception of the class at D; its own dict, if it has one, holds fs -/
def XVo (H : Hp) (a D : Addr) (d : Option Addr) (fs : List (Str × V)) : Prop := H a = some (exo a D d) ∧ match d with
  | none => fs = []
  | some dx => H dx = some (exd dx fs)
def rIsV (K : PySem.W.Frag) : List V → Hp → VK → Prop := fun xs H Q => ∃ (a D : Addr) (d : Option Addr) (fs : List (Str × V)) (c : V) (u : Value) (b : Bool), xs = [.ref a, c] ∧ XVo H a D d fs ∧ ExcC K D ∧ ClsV c u ∧ PySem.W.kitOne K (.ref D) u = some b ∧ Q (.bl b) H
theorem call_isV {X : Cx} : CallR X (.builtin "isinstance") (rIsV X.K) := by
  intro pins s σ H xs us Q I r h
  obtain ⟨a, D, d, fs, c, u, b, rfl, xv, C, k, e, q⟩ := h
  obtain ⟨u1, u2, rfl, r1, r2⟩ := vals2 r
  have e2 := k.eq r2
  subst e2
  obtain rfl : u1 = Value.ref a := r1
  obtain ⟨ho, hd⟩ := xv
  match d, ho, hd with
  | none, ho, _ =>
    obtain ⟨t1, g⟩ := exo_at I.hok ho
    exact PySem.W.kia_one (PySem.W.bk_kitx (od := none) C.hg C.hk C.hs C.hd C.ha C.hn C.ht C.hm) I.kIn ⟨g, rfl, rfl, trivial⟩ e (fun z => nomatch z) fun tk => ⟨.bl b, H, I.tok tk, rfl, q⟩
  | some dx, ho, hd =>
    obtain ⟨ox, od, mA, J, _, _⟩ := xv_inst I (show XV H a D dx fs from ⟨ho, hd⟩)
    exact PySem.W.kia_one (PySem.W.bk_kitx (ox := ox) (od := some od) C.hg C.hk C.hs C.hd C.ha C.hn C.ht C.hm) I.kIn J e (fun z => nomatch z) fun tk => ⟨.bl b, H, I.tok tk, rfl, q⟩
def tXv (K : PySem.W.Frag) (f : Str) (te : TE) : TE := fun σ H Q => te σ H fun x H1 => ∃ (a D dx : Addr) (fs : List (Str × V)) (v : V), x = .ref a ∧ XV H1 a D dx fs ∧ XfC K D ∧ PySem.W.findIn K (.ref D) f = some none ∧ fs.lookup f = some v ∧ Q v H1
theorem pe_xv {X : Cx} {e : Expr} {te : TE} {pos : Pos} {n : Str} (he : PE X e te) (hb : attributeBase e n X.env (eval e X.env) = eval e X.env := by rfl) : PE X (.Attribute e n pos) (tXv X.K n te) := by
  refine ⟨fun pins s σ H Q I h => attr_of hb (thn (he.run pins s σ H _ I h) fun u s1 ⟨x, H1, I1, rx, a, D, dx, fs, v, ex, xv, T, hno, l, q⟩ => ?_)⟩
  subst ex
  obtain rfl : u = Value.ref a := rx
  obtain ⟨ox, od, mA, J, hl, hr⟩ := xv_inst I1 xv
  obtain ⟨u, hu, ru⟩ := RelO.some_of (v := v) (o := mA n) (by rw [← l]; exact hr n)
  exact HandSPX.exc_get I1.kIn J T.ga T.gg T.exC (PySem.W.findObj_own T.hdC hno rfl (by rw [hl, hu])) (handed_of ru) ⟨v, H1, I1.tok _, ru, q⟩
theorem r_dispV {σ : L2.St} {H : Hp} {Q : VK} {k : Key} {v : V} {i : Nat} (hv : σ[i]? = some (some v)) (q : ∀ p H', H p = none → Same H H' → H' p = some (.dK [(k, v)]) → Q (.ref p) H') : tDisp [(tC (kV k), tVar i)] σ H Q := by
  intro p np
  refine ⟨v, hv, upd_same, [(k, v)], rfl, (by show 1 ≤ 15; decide), ?_⟩
  refine q p _ np (fun b o e => ?_) upd_same
  rw [upd_ne (ne_of_none e np), upd_ne (ne_of_none e np)]
  exact e
end Bk

namespace Bk
open PySem PySem.Spec PyProof.Rows L2
/-! ## 33. l.remove(x) of data -/
def rRemD (K : PySem.W.Frag) : V → List V → Hp → VK → Prop := fun x vs H Q => ∃ (l : Addr) (xs : List V) (ds : List PyData) (y : V) (d : PyData) (j : Nat), x = .ref l ∧ vs = [y] ∧ H l = some (.lst xs) ∧ DpAll K H xs ds ∧ Dp K H y d ∧
  PyData.plainAll ds = true ∧ d.plain = true ∧ d.depth ≤ 60 ∧ SeqAt.dataPlace ds d = some j ∧ Q .non (upd H l (.lst (xs.eraseIdx j)))
theorem mt_removeD {X : Cx} (hu : X.A.units + 64 < cLine) : MtM X "list.remove" (rRemD X.K) := by
  intro pins s σ H x vs v us Q I rx rv h
  obtain ⟨l, xs, ds, y, d, j, rfl, rfl, hH, hxs, hy, pa, pd, hd, hp, q⟩ := h
  cases rx
  obtain ⟨u, rfl, ru⟩ := rv.one
  obtain ⟨z, its, n, r, hl, e⟩ := I.lstM hH
  obtain ⟨as, h4⟩ := Dp.readsAll I ds _ its hxs r
  obtain ⟨bs, r1⟩ := Dp.reads I d y u hy ru
  have hpl : s.heap.IsList l its.toArray := ⟨_, e, rfl, n, rfl⟩
  refine SeqAt.remove_list_data hpl (show ReadsAll s.heap its.toArray.toList ds as from h4) r1 pa pd ?_ hp (by rw [List.size_toArray, ← hl]; exact z) ?_
  · have h2 : min (PyData.depthAll ds) d.depth ≤ d.depth := Nat.min_le_right _ _
    omega
  · refine ⟨.non, _, I.lset (t' := s.toks) (its' := its.eraseIdx j) hH e ?_ (r.eraseIdx j) ?_, rfl, q⟩
    · show its.toArray.eraseIdxIfInBounds j = (its.eraseIdx j).toArray
      rw [List.eraseIdxIfInBounds_toArray]
    · have := List.length_eraseIdx_le xs j
      omega
end Bk

namespace Bk
open PySem PySem.Spec PyProof.Rows L2
/-! ## 34. a list of asks, tuples of a name and a number -/
def askD (p : Str × Nat) : PyData := .tuple [.str p.1, .int p.2]
structure AL (H : Hp) (l : Addr) (ts : List Addr) (as : List (Str × Nat)) : Prop where
  at_ : H l = some (.lst (ts.map V.ref))
  len : ts.length = as.length
  row : ∀ (k : Nat) (t : Addr) (p : Str × Nat), ts[k]? = some t → as[k]? = some p → H t = some (.tup [.str p.1, .int p.2])
theorem eqv_ask (q p : Str × Nat) : PyData.eqv (askD q) (askD p) = decide (q = p) := by
  obtain ⟨a, i⟩ := q
  obtain ⟨b, j⟩ := p
  simp only [askD, PyData.eqv, PyData.eqvAll, Bool.and_true]
  by_cases h : a = b
  · subst h
    by_cases h2 : i = j
    · subst h2
      rw [beq_self_eq_true, beq_self_eq_true, decide_eq_true rfl]
      rfl
    · rw [beq_self_eq_true, decide_eq_false (fun z => h2 (Prod.mk.inj z).2), Bool.true_and]
      exact beq_eq_false_iff_ne.mpr fun z => h2 (by omega)
  · rw [decide_eq_false (fun z => h (Prod.mk.inj z).1), beq_eq_false_iff_ne.mpr h, Bool.false_and]
theorem in_ask (as : List (Str × Nat)) (p : Str × Nat) : ((as.map askD).any fun z => PyData.eqv z (askD p)) = decide (p ∈ as) := by
  rw [List.any_map]
  induction as with
  | nil => exact (decide_eq_false (fun z => nomatch z)).symm
  | cons q r ih =>
    rw [List.any_cons, ih]
    show (PyData.eqv (askD q) (askD p) || _) = _
    rw [eqv_ask]
    by_cases h : q = p
    · subst h
      rw [decide_eq_true rfl, decide_eq_true List.mem_cons_self, Bool.true_or]
    · rw [decide_eq_false h, Bool.false_or]
      exact decide_eq_decide.mpr ⟨List.mem_cons_of_mem _, fun z => (List.mem_cons.mp z).elim (fun w => absurd w.symm h) id⟩
theorem place_ask (as : List (Str × Nat)) (p : Str × Nat) : SeqAt.dataPlace (as.map askD) (askD p) = as.findIdx? (fun q => decide (q = p)) := by
  unfold SeqAt.dataPlace
  rw [List.findIdx?_map]
  congr 1
  funext q
  exact eqv_ask q p
theorem plain_ask (as : List (Str × Nat)) : PyData.plainAll (as.map askD) = true := by
  induction as with
  | nil => rfl
  | cons q r ih => rw [List.map_cons]; simp only [PyData.plainAll, askD, PyData.plain, ih, Bool.and_true]
def asOk (as : List (Str × Nat)) : Prop := ∀ p ∈ as, PyData.strOk p.1 = true
theorem lay_ask {as : List (Str × Nat)} (h : asOk as) : PyData.canLayAll0 (as.map askD) = true ∧ PyData.depthAll (as.map askD) ≤ 1 := by
  induction as with
  | nil => exact ⟨rfl, Nat.zero_le _⟩
  | cons q r ih =>
    have ih := ih fun p hp => h p (List.mem_cons_of_mem _ hp)
    rw [List.map_cons]
    refine ⟨by simp only [PyData.canLayAll0, askD, PyData.canLay0, ih.1, h q List.mem_cons_self, Bool.and_true], ?_⟩
    have h2 := ih.2
    simp only [PyData.depthAll, askD, PyData.depth]
    omega
theorem sh_ask {as : List (Str × Nat)} (ok : asOk as) : SeqAt.shaped (.list (as.map askD)) = true := by
  have h := (lay_ask ok).2
  unfold SeqAt.shaped
  simp only [PyData.canLay0, (lay_ask ok).1, PyData.depth, Bool.true_and, decide_eq_true_eq]
  exact decide_eq_true (Nat.le_trans (Nat.succ_le_succ h) (show 2 ≤ 64 by decide))
theorem sh_ask1 {p : Str × Nat} (h : PyData.strOk p.1 = true) : SeqAt.shaped (askD p) = true := by
  unfold SeqAt.shaped
  simp only [askD, PyData.canLay0, PyData.canLayAll0, PyData.depth, PyData.depthAll, h, Bool.true_and]
  decide
section
variable {K : PySem.W.Frag} {H H' : Hp} {l : Addr} {ts : List Addr} {as : List (Str × Nat)}
theorem dp_ask {t : Addr} {p : Str × Nat} (e : H t = some (.tup [.str p.1, .int p.2])) : Dp K H (.ref t) (askD p) := .tup (sqT e) (.cons (.str _) (.cons (.int _) .nil))
theorem dps_of {ts : List Addr} {as : List (Str × Nat)} (hl : ts.length = as.length) (hr : ∀ (k : Nat) (t : Addr) (p : Str × Nat), ts[k]? = some t → as[k]? = some p → H t = some (.tup [.str p.1, .int p.2])) : DpAll K H (ts.map V.ref) (as.map askD) := by
  induction ts generalizing as with
  | nil =>
    cases as with
    | nil => exact .nil
    | cons _ _ => exact nomatch hl
  | cons t r ih =>
    cases as with
    | nil => exact nomatch hl
    | cons p q =>
      refine .cons (dp_ask (hr 0 t p rfl rfl)) (ih (Nat.succ.inj hl) fun k u v h1 h2 => hr (k + 1) u v h1 h2)
theorem AL.dps (a : AL H l ts as) : DpAll K H (ts.map V.ref) (as.map askD) := dps_of a.len a.row
theorem AL.dp (a : AL H l ts as) : Dp K H (.ref l) (.list (as.map askD)) := .lst (sqL a.at_) a.dps
theorem AL.keep (a : AL H l ts as) (kl : H' l = H l) (kt : ∀ t ∈ ts, H' t = H t) : AL H' l ts as :=
  ⟨by rw [kl]; exact a.at_, a.len, fun k t p h1 h2 => by rw [kt t (List.mem_of_getElem? h1)]; exact a.row k t p h1 h2⟩
theorem AL.same (a : AL H l ts as) (s : Same H H') : AL H' l ts as := ⟨s _ _ a.at_, a.len, fun k t p h1 h2 => s _ _ (a.row k t p h1 h2)⟩
theorem AL.tup (a : AL H l ts as) : ∀ t ∈ ts, ∃ xs, H t = some (.tup xs) := fun t ht => by
  obtain ⟨k, hk⟩ := List.getElem?_of_mem ht
  have h : k < as.length := by rw [← a.len]; exact (List.getElem?_eq_some_iff.mp hk).1
  exact ⟨_, a.row k t _ hk (List.getElem?_eq_getElem h)⟩
/-- x in l -/
theorem AL.mem (a : AL H l ts as) {x : V} {p : Str × Nat} {Q : VK} (ok : asOk as) (hp : PyData.strOk p.1 = true) (h : Dp K H x (askD p)) (q : Q (.bl (decide (p ∈ as))) H) : rInD K x (.ref l) H Q :=
  ⟨_, _, h, a.dp, sh_ask1 hp, sh_ask ok, by rw [in_ask]; exact q⟩
/-- l.append(t) -/
theorem AL.push (a : AL H l ts as) {t : Addr} {p : Str × Nat} (e : H t = some (.tup [.str p.1, .int p.2])) : AL (upd H l (.lst (ts.map V.ref ++ [.ref t]))) l (ts ++ [t]) (as ++ [p]) := by
  have ne : ∀ {u xs}, H u = some (.tup xs) → u ≠ l := fun e z => by rw [z, a.at_] at e; exact nomatch e
  refine ⟨by rw [upd_same, List.map_append]; rfl, by rw [List.length_append, List.length_append, a.len]; rfl, fun k u v h1 h2 => ?_⟩
  by_cases hk : k < ts.length
  · rw [List.getElem?_append_left hk] at h1
    rw [List.getElem?_append_left (by rw [← a.len]; exact hk)] at h2
    have z := a.row k u v h1 h2
    rw [upd_ne (ne z)]
    exact z
  · rw [List.getElem?_append_right (by omega)] at h1
    rw [List.getElem?_append_right (by rw [← a.len]; omega), ← a.len] at h2
    have k0 : k - ts.length = 0 := by
      have := (List.getElem?_eq_some_iff.mp h1).1
      simp at this
      omega
    rw [k0] at h1 h2
    obtain rfl : t = u := Option.some.inj h1
    obtain rfl : p = v := Option.some.inj h2
    rw [upd_ne (ne e)]
    exact e
theorem map_erase {α β : Type} (f : α → β) : ∀ (l : List α) (j : Nat), (l.map f).eraseIdx j = (l.eraseIdx j).map f
  | [], _ => rfl
  | _ :: _, 0 => rfl
  | x :: r, j + 1 => by
    show f x :: (r.map f).eraseIdx j = f x :: (r.eraseIdx j).map f
    rw [map_erase f r j]
/-- l.remove(x) -/
theorem AL.cut (a : AL H l ts as) (j : Nat) : AL (upd H l (.lst ((ts.map V.ref).eraseIdx j))) l (ts.eraseIdx j) (as.eraseIdx j) := by
  have ne : ∀ {u xs}, H u = some (.tup xs) → u ≠ l := fun e z => by rw [z, a.at_] at e; exact nomatch e
  refine ⟨by rw [upd_same, map_erase], by rw [List.length_eraseIdx, List.length_eraseIdx, a.len], fun k u v h1 h2 => ?_⟩
  rw [List.getElem?_eraseIdx] at h1 h2
  split at h1
  · rename_i hk
    rw [if_pos hk] at h2
    have z := a.row k u v h1 h2
    rw [upd_ne (ne z)]
    exact z
  · rename_i hk
    rw [if_neg hk] at h2
    have z := a.row (k + 1) u v h1 h2
    rw [upd_ne (ne z)]
    exact z
end
end Bk

namespace Bk
open PySem PySem.Spec PyProof.Rows L2
/-! ## 34. l.count(x) of data, a text times a number -/
def rCntD (K : PySem.W.Frag) : V → List V → Hp → VK → Prop := fun x vs H Q => ∃ (l : Addr) (xs : List V) (ds : List PyData) (y : V) (d : PyData), x = .ref l ∧ vs = [y] ∧ H l = some (.lst xs) ∧ DpAll K H xs ds ∧ Dp K H y d ∧
  PyData.plainAll ds = true ∧ d.plain = true ∧ d.depth ≤ 60 ∧ Q (.int (ds.countP (fun z => PyData.eqv z d) : Nat)) H
theorem mt_countD {X : Cx} (hu : X.A.units + 64 < cLine) : MtR X "list.count" (rCntD X.K) := by
  intro pins s σ H x vs v us Q I rx rv h
  obtain ⟨l, xs, ds, y, d, rfl, rfl, hH, hxs, hy, pa, pd, hd, q⟩ := h
  cases rx
  obtain ⟨u, rfl, ru⟩ := rv.one
  obtain ⟨z, its, n, r, hl, e⟩ := I.lstM hH
  obtain ⟨as, h4⟩ := Dp.readsAll I ds _ its hxs r
  obtain ⟨bs, r1⟩ := Dp.reads I d y u hy ru
  have hpl : s.heap.IsList l its.toArray := ⟨_, e, rfl, n, rfl⟩
  refine SeqAt.count_list_data hpl (show ReadsAll s.heap its.toArray.toList ds as from h4) r1 pa pd ?_ ?_
  · have h2 : min (PyData.depthAll ds) d.depth ≤ d.depth := Nat.min_le_right _ _
    omega
  · exact ⟨.int (ds.countP (fun z => PyData.eqv z d) : Nat), H, I.tok _, ⟨_, rfl⟩, q⟩
theorem op_mul01 {X : Cx} : OpR X (binaryOp .Mult) (fun x y H Q => ∃ (z : Str) (k : Int), x = .str z ∧ y = .int k ∧ (k = 0 ∨ k = 1) ∧ Q (.str (if k = 0 then Str.empty else z)) H) := by
  intro pins s σ H x y v u Q I rx ry h
  obtain ⟨z, k, rfl, rfl, hk, q⟩ := h
  obtain ⟨t, rfl⟩ := rx
  obtain ⟨t2, rfl⟩ := ry
  rcases hk with rfl | rfl
  · refine P.mul_str (by decide) (fun h => absurd (by decide) h) (fun h => absurd (by decide) h) ?_
    rw [if_pos (by decide)]
    exact ⟨by decide, V.str Str.empty, H, I.tok _, ⟨_, rfl⟩, q⟩
  · refine P.mul_str (by decide) (fun _ h => ?_) (fun _ h => ?_) ?_
    · simp at h
    · simp at h
    · rw [if_neg (by decide), if_pos (by rfl)]
      exact ⟨.str z, H, I, ⟨_, rfl⟩, q⟩
theorem op_eqDK {X : Cx} {K : PySem.W.Frag} (h : X.K = K) (hu : X.A.units + 64 < cLine) : OpR X (compareOp .Eq) (rEqD K) := by
  subst h
  exact op_eqD hu
theorem op_neDK {X : Cx} {K : PySem.W.Frag} (h : X.K = K) (hu : X.A.units + 64 < cLine) : OpR X (compareOp .NotEq) (rNeD K) := by
  subst h
  exact op_neD hu
/-- len of an own object -/
def rLenO (C : Addr) (sp : Sp) : List V → Hp → VK → Prop := fun xs H Q => ∃ (a dx : Addr) (fs : List (Str × V)), xs = [.ref a] ∧ H a = some (.ins C dx fs) ∧ sp [.ref a] H (fun v H' => ∃ n : Nat, v = .int n ∧ (n : Int) < 2 ^ 63 ∧ Q v H') E0
theorem call_lenO {X : Cx} {k j : Nat} {C : Addr} {sp : Sp} (c : CalM X.prog X.w X.K X.mg X.base CX0 k C "__len__" sp) (hr : Room j X.A) (hk : k + 1 ≤ j) : CallR X (.builtin "len") (rLenO C sp) := by
  obtain ⟨f, fd, ps, hm, F, hb⟩ := c.ex
  intro pins s σ H xs us Q I r h
  obtain ⟨a, dx, fs, rfl, e, h⟩ := h
  obtain ⟨u, rfl, ru⟩ := r.one
  obtain rfl : u = Value.ref a := ru
  have w := I.hok a _ e
  unfold L2.ObjOk at w
  obtain ⟨w1, w2, w3, w4, mA, w5, w6, w7⟩ := w
  obtain ⟨m, fr⟩ := I.fr
  obtain ⟨od, hod⟩ : ∃ od, s.heap.get? dx = some od := by
    obtain ⟨es, ep, h1, h2⟩ := w5
    exact ⟨_, h2.1⟩
  refine PySem.W.len_K (C := C) (f := f) (ox := PySem.W.instObj C dx) (od := some od) fr I.ok.mod.kin ⟨w4, rfl, rfl, hod⟩ hm.at_ hm.fn ?_
  have hrr : Room k X.A.in1 := ⟨hr.hd, by have := hr.dp; show X.A.depth + 3 * k + 5 < _; omega, by have := hr.un; show X.A.units + 1 + 16 * k + 200 < _; omega⟩
  have hl : [Value.ref a].length = ps.length := by
    have e1 := F.len _ _ _ _ h
    exact e1
  have bb := hb s [Value.ref a] I.kIn (by rw [List.append_nil]; exact hl)
  rw [List.append_nil] at bb
  refine wpAny_call (codeAny_mono (F.run X.A.in1 X.stack s H ⟨[.ref a], []⟩ [.ref a] [.ref a] _ E0 hrr I.env0.in1 bb (.cons rfl .nil) h) fun rr s3 z => ?_)
  match rr, z with
  | .ok (.ret u), z =>
    obtain ⟨v, H', I3, rv, n, rfl, hn, q⟩ := I.after z
    obtain ⟨t, rfl⟩ := rv
    exact ⟨⟨by omega, hn⟩, V.int n, H', I3.tok _, ⟨_, rfl⟩, q⟩
  | .error u, z => exact z.elim
end Bk

namespace Bk
open PySem PySem.Spec PyProof.Rows L2
/-! ## 35. names, dicts by names -/
def allW (f l : Nat) (z : Str) : Bool := z.cps.toList.all fun c => decide (f ≤ c) && decide (c ≤ l)
def spAllW : Sp := fun vs H Q _ => ∃ (z F L : Str) (f l : Nat), vs = [.str z, .str F, .str L] ∧ F.cps.toList = [f] ∧ L.cps.toList = [l] ∧ z.length ≤ 1000 ∧ ∀ H', Same H H' → Q (.bl (allW f l z)) H'
def nameOk (z : Str) : Bool := decide (1 ≤ z.length ∧ z.length ≤ 8) && allW 97 122 z
def spName (K : PySem.W.Frag) : Sp := fun vs H Q _ => ∃ x : V, vs = [x] ∧ ((∃ z : Str, x = .str z ∧ z.length ≤ 1000 ∧ ∀ H', Same H H' → Q (.bl (nameOk z)) H') ∨ (IsA K H x "str" false ∧ Q (.bl false) H))
theorem str_of_name {x : Str} (h : nameOk x = true) : PyData.strOk x = true := by
  have h2 := (Bool.and_eq_true_iff.mp h).2
  unfold PyData.strOk
  rw [← Array.all_toList]
  refine List.all_eq_true.mpr fun c hc => decide_eq_true ?_
  have := List.all_eq_true.mp h2 c hc
  rw [Bool.and_eq_true] at this
  have := of_decide_eq_true this.2
  omega
theorem len_of_name {x : Str} (h : nameOk x = true) : 1 ≤ x.length ∧ x.length ≤ 8 := of_decide_eq_true (Bool.and_eq_true_iff.mp h).1
theorem nd_le {α : Type} [DecidableEq α] : ∀ {l m : List α}, l.Nodup → (∀ x ∈ l, x ∈ m) → l.length ≤ m.length
  | [], _, _, _ => Nat.zero_le _
  | a :: r, m, h, s => by
    have h2 := List.nodup_cons.mp h
    have z := nd_le (l := r) (m := m.erase a) h2.2 fun x hx => (List.mem_erase_of_ne (fun e => h2.1 (by rw [← e]; exact hx))).mpr (s x (List.mem_cons_of_mem _ hx))
    have ha := s a List.mem_cons_self
    rw [List.length_erase_of_mem ha] at z
    have : 0 < m.length := List.length_pos_of_mem ha
    rw [List.length_cons]
    omega
theorem inV_str {x : Str} {row : List Str} : inV (.str x) (row.map V.str) = decide (x ∈ row) := by
  unfold inV
  rw [List.any_map]
  induction row with
  | nil => exact (decide_eq_false (fun z => nomatch z)).symm
  | cons y r ih =>
    rw [List.any_cons, ih]
    show (decide (_ = _) || _) = _
    by_cases h : x = y
    · subst h
      rw [decide_eq_true rfl, Bool.true_or, decide_eq_true List.mem_cons_self]
    · rw [decide_eq_false (fun z => h (by first | exact z.symm | (injection z with z; first | exact z | exact z.symm))), Bool.false_or]
      exact decide_eq_decide.mpr ⟨List.mem_cons_of_mem _, fun z => (List.mem_cons.mp z).elim (fun w => absurd w h) id⟩
theorem rng_get {α : Type} (d : α) (l : List α) : (List.range l.length).map (fun i => l.getD i d) = l := by
  refine List.ext_getElem (by rw [List.length_map, List.length_range]) fun i h1 h2 => ?_
  rw [List.getElem_map, List.getElem_range, List.getD_eq_getElem?_getD, List.getElem?_eq_getElem h2]
  rfl
theorem rng_fm {α β : Type} (d : α) (l : List α) (f : α → Option β) : (List.range l.length).filterMap (fun i => f (l.getD i d)) = l.filterMap f := by
  conv => rhs; rw [← rng_get d l]
  rw [List.filterMap_map]
  rfl
section
variable {K : PySem.W.Frag} {σ : L2.St} {H : Hp} {Q : VK} {j : Nat} {vs : List Nat} {tt : TT} {te tl : TE} {a : Addr} {xs : List V}
theorem lcLF (p : Nat → Option V) (hv : ∀ QQ : VK, QQ (.ref a) H → tl σ H QQ) (hs : SqL K H a xs) (hl : xs.length ≤ 10000) (hw : ∀ x, wipe ((wipe σ vs).set j (some x)) vs = wipe σ vs)
    (ht : ∀ (i : Nat) (y : V) (H1 : Hp) (Q' : VK) (R' : Hp → Prop), xs[i]? = some y → Same H H1 → (∀ v, p i = some v → ∀ H3, Same H1 H3 → Q' v H3) → (p i = none → ∀ H3, Same H1 H3 → R' H3) →
      tt ((wipe σ vs).set j (some y)) H1 fun b H4 => if b = true then te ((wipe σ vs).set j (some y)) H4 Q' else R' H4)
    (q : ∀ D H', H D = none → Same H H' → H' D = some (.lst ((List.range xs.length).filterMap p)) → Q (.ref D) H') : tLc (iList K tl) (gName j) tt te vs σ H Q := by
  refine hv _ ⟨a, rfl, ⟨xs, hs⟩, fun D hD => ?_⟩
  refine lc_by (g := gName j) (tt := tt) (te := te) (vs := vs) (σ := σ) (Q := Q) walk_list p hD hl (fun _ s => s.seq hs) (fun i x H1 H2 Q' R' hi sm y h1 h2 => ?_) fun H' s e => q D H' hD s e
  obtain ⟨rfl, hx⟩ := y
  exact ⟨hw _, ht i x _ Q' R' hx sm h1 h2⟩
end
theorem units65 {k : Nat} {A : Around} (r : Room k A) : A.units + 65 < cLine := by
  have := r.un
  omega
theorem putF_old {f : Str} {v u : V} : ∀ {fs : List (Str × V)}, fs.lookup f = some u → (putF f v fs).length = fs.length
  | [], h => nomatch h
  | (g, w) :: r, h => by
    unfold putF
    split
    · rfl
    · rename_i hg
      rw [List.lookup_cons] at h
      have hb : (f == g) = false := beq_eq_false_iff_ne.mpr fun z => hg (by first | exact z | exact z.symm)
      rw [hb] at h
      rw [List.length_cons, List.length_cons, putF_old h]
theorem fm_flt {α β : Type} (c : α → Prop) [DecidablePred c] (g : α → β) : ∀ l : List α, l.filterMap (fun z => if c z then none else some (g z)) = (l.filter fun z => decide (¬ c z)).map g
  | [] => rfl
  | a :: r => by
    rw [List.filterMap_cons, List.filter_cons]
    by_cases h : c a
    · rw [if_pos h, decide_eq_false (fun z => z h), fm_flt c g r]
      simp
    · rw [if_neg h, decide_eq_true h, if_pos rfl, List.map_cons, fm_flt c g r]
theorem r_while {c : TT} {tb : TS} {D : Ends} {σ : L2.St} {H : Hp} (W : Nat → L2.St → Hp → Prop) (h0 : ∃ m, W m σ H) (hs : ∀ m σ H, W m σ H → c σ H fun b H1 => if b = true then ∃ N : L2.St → Hp → Prop, (∀ σ' H', N σ' H' → ∃ m', m' < m ∧ W m' σ' H') ∧ tb { D with nx := N, ct := N, bk := D.nx } σ H1 else D.nx σ H1) : tWhile c tb D σ H := ⟨W, h0, hs⟩
theorem units1 {k : Nat} {A : Around} (r : Room k A) : A.units + 1 < cLine := by
  have := r.un
  omega
theorem r_dget {te ti : TE} {σ : L2.St} {H : Hp} {Q : VK} (h : te σ H fun x H1 => ti σ H1 fun y H2 => ∃ (a : Addr) (v : V), x = .ref a ∧ DGet H2 a y (some v) ∧ Q v H2) : tDGet te ti σ H Q := h
section
variable {K : PySem.W.Frag} {σ : L2.St} {H : Hp} {Q : VK} {j : Nat} {vs : List Nat} {tt : TT} {te tl : TE} {d : Addr} {kvs : List (Key × V)}
theorem lcKeys (p : Nat → Option V) (hd : H d = some (.dK kvs)) (hl : kvs.length ≤ 10000) (hw : ∀ x, wipe ((wipe σ vs).set j (some x)) vs = wipe σ vs)
    (hv : ∀ (od : Obj) (QQ : VK), QQ (.ref d) (upd H d (.frz od (.dK kvs))) → tl σ (upd H d (.frz od (.dK kvs))) QQ)
    (ht : ∀ (i : Nat) (k : Key) (y : V) (od : Obj) (H1 : Hp) (Q' : VK) (R' : Hp → Prop), kvs[i]? = some (k, y) → H1 d = some (.frz od (.dK kvs)) → (∀ b u, b ≠ d → H b = some u → H1 b = some u) → (∀ v, p i = some v → ∀ H3, Same H1 H3 → Q' v H3) → (p i = none → ∀ H3, Same H1 H3 → R' H3) →
      tt ((wipe σ vs).set j (some (kV k))) H1 fun b H4 => if b = true then te ((wipe σ vs).set j (some (kV k))) H4 Q' else R' H4)
    (q : ∀ D H', H D = none → Same H H' → H' D = some (.lst ((List.range kvs.length).filterMap p)) → Q (.ref D) H') : tLockE (tLc (iKeys tl) (gName j) tt te vs) σ H Q := by
  refine ⟨d, .dK kvs, hd, trivial, fun od => ?_⟩
  have f0 : ∀ b u, b ≠ d → H b = some u → upd H d (.frz od (.dK kvs)) b = some u := fun b u nb eb => by rw [upd_ne nb]; exact eb
  have e0 : upd H d (.frz od (.dK kvs)) d = some (.frz od (.dK kvs)) := upd_same
  have z0 : ∀ {D : Addr}, upd H d (.frz od (.dK kvs)) D = none → H D = none ∧ D ≠ d := fun {D} z => by
    by_cases h : D = d
    · rw [h, upd_same] at z; exact nomatch z
    · rw [upd_ne h] at z; exact ⟨z, h⟩
  refine hv od _ ⟨d, od, rfl, .inl ⟨kvs, e0, fun D hD => ?_⟩⟩
  refine lc_by (g := gName j) (tt := tt) (te := te) (vs := vs) (σ := σ) (Q := fun v H' => H' d = some (.frz od (.dK kvs)) ∧ Q v (upd H' d (.dK kvs))) walk_keys p hD hl (fun H' s => s _ _ e0) (fun i x H1 H2 Q' R' hi sm y h1 h2 => ?_) fun H' s e => ?_
  · obtain ⟨rfl, k, v, hk, rfl⟩ := y
    exact ⟨hw _, ht i k v od H2 Q' R' hk (sm _ _ e0) (fun b u nb eb => sm _ _ (f0 b u nb eb)) h1 h2⟩
  · obtain ⟨hD1, hD2⟩ := z0 hD
    refine ⟨s _ _ e0, q D _ hD1 (fun b u eb => ?_) (by rw [upd_ne hD2]; exact e)⟩
    by_cases h : b = d
    · rw [h, upd_same, ← hd, ← h]
      exact eb
    · rw [upd_ne h]
      exact s _ _ (f0 b u h eb)
end
theorem eqv_nil {ds : List PyData} : PyData.eqv (.list ds) (.list []) = decide (ds = []) := by
  cases ds with
  | nil => rfl
  | cons a r => rfl
section
variable {σ : L2.St} {H : Hp} {Q : VK} {i j : Nat} {a b : Addr} {z x : Str} {kvs lvs : List (Key × V)} {y : V}
theorem r_dgT (hv : σ[i]? = some (some (.ref a))) (e : Rd H a (.dK kvs)) (hx : valV kvs (.inr z : Key) = some y) (q : Q y H) : tDGet (tVar i) (tC (.str z)) σ H Q := ⟨_, hv, a, y, rfl, .inl ⟨kvs, .inr z, e, rfl, hx.symm⟩, q⟩
theorem r_dg2 (hv : σ[i]? = some (some (.ref a))) (e : Rd H a (.dK kvs)) (hx : valV kvs (.inr z : Key) = some (.ref b)) (e2 : Rd H b (.dK lvs)) (hj : σ[j]? = some (some (.str x))) (h2 : valV lvs (.inr x : Key) = some y) (q : Q y H) :
    tDGet (tDGet (tVar i) (tC (.str z))) (tVar j) σ H Q := r_dgT hv e hx ⟨_, hj, b, y, rfl, .inl ⟨lvs, .inr x, e2, rfl, h2.symm⟩, q⟩
end
theorem ne_ct {H : Hp} {a b : Addr} {u w : HO} (h : H a = some u) (h2 : H b = some w) (n : u ≠ w) : a ≠ b := fun z => n (by rw [z, h2] at h; exact (Option.some.inj h).symm)
theorem r_dget2 {td ty tx : TE} {σ : L2.St} {H : Hp} {Q : VK} (h : td σ H fun x H1 => ∃ a, x = .ref a ∧ IsD H1 a ∧ ty σ H1 fun y H2 => tx σ H2 fun z H3 => ∃ o, DGet H3 a y o ∧ Q (o.getD z) H3) : tDGet2 td ty tx σ H Q := h
theorem r_dgV {σ : L2.St} {H : Hp} {Q : VK} {i j : Nat} {a : Addr} {x : Str} {kvs : List (Key × V)} {y : V} (hv : σ[i]? = some (some (.ref a))) (hj : σ[j]? = some (some (.str x))) (e : Rd H a (.dK kvs)) (hx : valV kvs (.inr x : Key) = some y) (q : Q y H) : tDGet (tVar i) (tVar j) σ H Q := ⟨_, hv, _, hj, a, y, rfl, .inl ⟨kvs, .inr x, e, rfl, hx.symm⟩, q⟩
def lowS (z : Str) : Prop := ∀ c ∈ z.cps.toList, 97 ≤ c ∧ c ≤ 122
theorem nameOk_of {z : Str} (h : lowS z) (l1 : 1 ≤ z.length) (l2 : z.length ≤ 8) : nameOk z = true := by
  unfold nameOk
  rw [decide_eq_true ⟨l1, l2⟩, Bool.true_and]
  unfold allW
  refine List.all_eq_true.mpr fun c hc => ?_
  obtain ⟨a, b⟩ := h c hc
  rw [decide_eq_true a, decide_eq_true b]
  rfl
theorem low_app {x y : Str} (hx : lowS x) (hy : lowS y) : lowS (x ++ y) := fun c hc => by
  have w : (x ++ y).cps.toList = x.cps.toList ++ y.cps.toList := Array.toList_append
  rw [w] at hc
  exact (List.mem_append.mp hc).elim (hx c) (hy c)
theorem low_cut {z : Str} {lo hi : Option Int} (h : lowS z) : lowS (cutS z lo hi) := fun c hc => by
  unfold cutS at hc
  exact h c (List.mem_of_mem_drop (List.mem_of_mem_take hc))
theorem cut_pre {z : Str} {m : Int} (h : 0 ≤ m) : (cutS z none (some m)).length = min m.toNat z.length := by
  unfold cutS HT.sIx
  show (List.toArray _).size = _
  rw [List.size_toArray, List.length_take]
  simp only [if_neg (show ¬ m < 0 by omega), Nat.sub_zero, List.drop_zero]
  rw [Array.length_toList]
  show min (min m.toNat z.length) z.length = _
  omega
theorem cut_suf {z : Str} {m : Int} (h : 0 ≤ m) : (cutS z (some m) none).length = z.length - min m.toNat z.length := by
  unfold cutS HT.sIx
  show (List.toArray _).size = _
  rw [List.size_toArray, List.length_take, List.length_drop]
  simp only [if_neg (show ¬ m < 0 by omega)]
  rw [Array.length_toList]
  show min (z.length - min m.toNat z.length) (z.length - min m.toNat z.length) = _
  omega
def one1 (z : Str) : Prop := lowS z ∧ z.length = 1
theorem glue_low : ∀ (ys : List Str) (acc : Array Nat), (∀ y ∈ ys, one1 y) → (∀ c ∈ acc.toList, 97 ≤ c ∧ c ≤ 122) →
    (∀ c ∈ (ys.foldl (fun (acc : Array Nat) (p : Str) => acc ++ (Str.ofString "").cps ++ p.cps) acc).toList, 97 ≤ c ∧ c ≤ 122) ∧ (ys.foldl (fun (acc : Array Nat) (p : Str) => acc ++ (Str.ofString "").cps ++ p.cps) acc).size = acc.size + ys.length
  | [], acc, _, h => ⟨h, rfl⟩
  | y :: r, acc, hy, h => by
    obtain ⟨y1, y2⟩ := hy y List.mem_cons_self
    have e : (Str.ofString "").cps = #[] := by decide +kernel
    have y2 : y.cps.size = 1 := y2
    have z := glue_low r (acc ++ (Str.ofString "").cps ++ y.cps) (fun b hb => hy b (List.mem_cons_of_mem _ hb)) fun c hc => by
      rw [e, Array.append_empty, Array.toList_append] at hc
      exact (List.mem_append.mp hc).elim (h c) (y1 c)
    refine ⟨z.1, z.2.trans ?_⟩
    rw [e, Array.append_empty, Array.size_append, y2, List.length_cons]
    omega
theorem join_low {ys : List Str} (h : ∀ y ∈ ys, one1 y) (h0 : 0 < ys.length) : lowS (Txt.join (Str.ofString "") ys) ∧ (Txt.join (Str.ofString "") ys).length = ys.length := by
  cases ys with
  | nil => exact absurd h0 (by decide)
  | cons y r =>
    obtain ⟨y1, y2⟩ := h y List.mem_cons_self
    have z := glue_low r y.cps (fun b hb => h b (List.mem_cons_of_mem _ hb)) y1
    refine ⟨z.1, z.2.trans ?_⟩
    have y2 : y.cps.size = 1 := y2
    rw [y2, List.length_cons]
    omega
theorem strs_of {R : Str → Prop} : ∀ {xs : List V}, (∀ v ∈ xs, ∃ y, v = .str y ∧ R y) → ∃ ys : List Str, xs = ys.map V.str ∧ ys.length = xs.length ∧ ∀ y ∈ ys, R y
  | [], _ => ⟨[], rfl, rfl, fun _ z => nomatch z⟩
  | v :: r, h => by
    obtain ⟨y, rfl, hy⟩ := h v List.mem_cons_self
    obtain ⟨ys, rfl, l, hs⟩ := strs_of (xs := r) fun u hu => h u (List.mem_cons_of_mem _ hu)
    exact ⟨y :: ys, rfl, by rw [List.length_cons, l, List.length_cons], fun z hz => (List.mem_cons.mp hz).elim (fun w => by rw [w]; exact hy) (hs z)⟩
theorem sum1 : ∀ {ys : List Str}, (∀ y ∈ ys, one1 y) → (ys.map fun x => x.length).sum = ys.length
  | [], _ => rfl
  | y :: r, h => by
    rw [List.map_cons, List.sum_cons, (h y List.mem_cons_self).2, sum1 fun z hz => h z (List.mem_cons_of_mem _ hz), List.length_cons]
    omega
theorem signs_low : ∀ c ∈ (Str.ofString "abcdefghijklmnopqrstuvwxyz").cps.toList, 97 ≤ c ∧ c ≤ 122 := by decide +kernel
theorem z_low : lowS (Str.ofString "z") ∧ (Str.ofString "z").length = 1 := by
  constructor
  · unfold lowS
    decide +kernel
  · decide +kernel
theorem e_low : lowS Str.empty := fun c hc => nomatch hc
theorem sign_ok {c : Nat} (h : 97 ≤ c ∧ c ≤ 122) : one1 ⟨#[c]⟩ := ⟨fun d hd => by
  have w : d = c := List.mem_singleton.mp hd
  rw [w]
  exact h, rfl⟩
theorem low_of {z : Str} (h : nameOk z = true) : lowS z := fun c hc => by
  have h2 := (Bool.and_eq_true_iff.mp h).2
  have := List.all_eq_true.mp h2 c hc
  rw [Bool.and_eq_true] at this
  exact ⟨of_decide_eq_true this.1, of_decide_eq_true this.2⟩
theorem a_low : lowS (Str.ofString "a") ∧ (Str.ofString "a").length = 1 := by
  constructor
  · unfold lowS
    decide +kernel
  · decide +kernel
/-! ## 36. a dict by an order of names -/
def dicF (G : List Str) (f : Str → V) : List (Key × V) := G.map fun x => (.inr x, f x)
theorem dicF_get {f : Str → V} {x : Str} : ∀ {G : List Str}, valV (dicF G f) (.inr x : Key) = if x ∈ G then some (f x) else none
  | [] => rfl
  | a :: r => by
    have ih := dicF_get (f := f) (x := x) (G := r)
    by_cases c : a = x
    · rw [if_pos (by rw [c]; exact List.mem_cons_self)]
      refine (valV_pos (p := ((.inr a : Key), f a)) (by rw [c])).trans ?_
      rw [c]
    · refine (valV_neg (p := ((.inr a : Key), f a)) (fun z => c (by injection z))).trans ?_
      show valV (dicF r f) (.inr x) = _
      rw [ih]
      by_cases d : x ∈ r
      · rw [if_pos d, if_pos (List.mem_cons_of_mem _ d)]
      · rw [if_neg d, if_neg (fun z => (List.mem_cons.mp z).elim (fun w => c w.symm) d)]
theorem dicF_len {G : List Str} {f : Str → V} : (dicF G f).length = G.length := List.length_map _
theorem dicF_any {G : List Str} {f : Str → V} {x : Str} : ((dicF G f).any fun kv => decide (kv.1 = (.inr x : Key))) = decide (x ∈ G) := by
  rw [valV_any, dicF_get]
  by_cases c : x ∈ G
  · rw [if_pos c, decide_eq_true c]; rfl
  · rw [if_neg c, decide_eq_false c]; rfl
theorem dicF_put {G : List Str} {f : Str → V} {x : Str} {v : V} : putK (dicF G f) (.inr x : Key) v = dicF (if x ∈ G then G else G ++ [x]) (fun y => if y = x then v else f y) := by
  unfold putK
  rw [dicF_any]
  by_cases c : x ∈ G
  · rw [if_pos (decide_eq_true c), if_pos c]
    unfold dicF
    rw [List.map_map]
    refine List.map_congr_left fun y _ => ?_
    show (if (.inr y : Key) = .inr x then ((.inr y : Key), v) else (.inr y, f y)) = (.inr y, if y = x then v else f y)
    by_cases d : y = x
    · rw [if_pos (by rw [d]), if_pos d]
    · rw [if_neg (fun z => d (by injection z)), if_neg d]
  · rw [if_neg (by rw [decide_eq_false c]; exact Bool.false_ne_true), if_neg c]
    unfold dicF
    rw [List.map_append]
    congr 1
    · refine List.map_congr_left fun y hy => ?_
      show ((.inr y : Key), f y) = (.inr y, if y = x then v else f y)
      rw [if_neg (fun z => c (by rw [← z]; exact hy))]
    · show [((.inr x : Key), v)] = [(.inr x, if x = x then v else f x)]
      rw [if_pos rfl]
theorem dicF_drop {f : Str → V} {x : Str} : ∀ {G : List Str}, dropK (dicF G f) (.inr x : Key) = dicF (G.filter fun y => decide (y ≠ x)) f
  | [] => rfl
  | a :: r => by
    have ih := dicF_drop (f := f) (x := x) (G := r)
    by_cases c : a = x
    · rw [List.filter_cons_of_neg (by simpa using c)]
      exact (dropK_pos (p := ((.inr a : Key), f a)) (by rw [c])).trans ih
    · rw [List.filter_cons_of_pos (by simpa using c)]
      refine (dropK_neg (p := ((.inr a : Key), f a)) (fun z => c (by injection z))).trans ?_
      show (_ :: dropK (dicF r f) (.inr x)) = _
      rw [ih]
      rfl
theorem dicF_congr {G : List Str} {f g : Str → V} (h : ∀ x ∈ G, f x = g x) : dicF G f = dicF G g := List.map_congr_left fun x hx => by rw [h x hx]
end Bk

namespace Bk
open PySem PySem.Spec PyProof.Rows L2
theorem op_in_seqK {X : Cx} {K : PySem.W.Frag} (h : X.K = K) : OpR X (compareOp .In) (rIn K false) := by
  subst h
  exact op_in_seq
/-! ## 36. dicts walked by their values; dict comprehensions -/
section
variable {K : PySem.W.Frag} {σ : L2.St} {H : Hp} {Q : VK} {vs : List Nat} {g : TG} {tt : TT} {te tl : TE} {d : Addr} {kvs : List (Key × V)}
theorem lcVals (p : Nat → Option V) (hd : H d = some (.dK kvs)) (hl : kvs.length ≤ 10000)
    (hv : ∀ (od : Obj) (QQ : VK), QQ (.ref d) (upd H d (.frz od (.dK kvs))) → tl σ (upd H d (.frz od (.dK kvs))) QQ)
    (ht : ∀ (i : Nat) (k : Key) (y : V) (od : Obj) (H1 : Hp) (Q' : VK) (R' : Hp → Prop), kvs[i]? = some (k, y) → H1 d = some (.frz od (.dK kvs)) → (∀ b u, b ≠ d → H b = some u → H1 b = some u) → (∀ v, p i = some v → ∀ H3, Same H1 H3 → Q' v H3) → (p i = none → ∀ H3, Same H1 H3 → R' H3) →
      g y (wipe σ vs) H1 fun σ2 H2 => wipe σ2 vs = wipe σ vs ∧ tt σ2 H2 fun b H4 => if b = true then te σ2 H4 Q' else R' H4)
    (q : ∀ D H', H D = none → Same H H' → H' D = some (.lst ((List.range kvs.length).filterMap p)) → Q (.ref D) H') : tLockE (tLc (iVals tl) g tt te vs) σ H Q := by
  refine ⟨d, .dK kvs, hd, trivial, fun od => ?_⟩
  have f0 : ∀ b u, b ≠ d → H b = some u → upd H d (.frz od (.dK kvs)) b = some u := fun b u nb eb => by rw [upd_ne nb]; exact eb
  have e0 : upd H d (.frz od (.dK kvs)) d = some (.frz od (.dK kvs)) := upd_same
  have z0 : ∀ {D : Addr}, upd H d (.frz od (.dK kvs)) D = none → H D = none ∧ D ≠ d := fun {D} z => by
    by_cases h : D = d
    · rw [h, upd_same] at z; exact nomatch z
    · rw [upd_ne h] at z; exact ⟨z, h⟩
  refine hv od _ ⟨d, od, kvs, rfl, e0, fun D hD => ?_⟩
  refine lc_by (g := g) (tt := tt) (te := te) (vs := vs) (σ := σ) (Q := fun v H' => H' d = some (.frz od (.dK kvs)) ∧ Q v (upd H' d (.dK kvs))) walk_values p hD hl (fun H' s => s _ _ e0) (fun i x H1 H2 Q' R' hi sm y h1 h2 => ?_) fun H' s e => ?_
  · obtain ⟨rfl, k, hk⟩ := y
    exact ht i k x od H2 Q' R' hk (sm _ _ e0) (fun b u nb eb => sm _ _ (f0 b u nb eb)) h1 h2
  · obtain ⟨hD1, hD2⟩ := z0 hD
    refine ⟨s _ _ e0, q D _ hD1 (fun b u eb => ?_) (by rw [upd_ne hD2]; exact e)⟩
    by_cases h : b = d
    · rw [h, upd_same, ← hd, ← h]
      exact eb
    · rw [upd_ne h]
      exact s _ _ (f0 b u h eb)
theorem lcKeysS {tt : TT} {te tl : TE} {D : Ends} {i j : Nat} (p : Nat → Option V) (hd : H d = some (.dK kvs)) (hl : kvs.length ≤ 10000) (hw : ∀ x, wipe ((wipe σ vs).set j (some x)) vs = wipe σ vs)
    (hv : ∀ (od : Obj) (QQ : VK), QQ (.ref d) (upd H d (.frz od (.dK kvs))) → tl σ (upd H d (.frz od (.dK kvs))) QQ)
    (ht : ∀ (i : Nat) (k : Key) (y : V) (od : Obj) (H1 : Hp) (Q' : VK) (R' : Hp → Prop), kvs[i]? = some (k, y) → H1 d = some (.frz od (.dK kvs)) → (∀ b u, b ≠ d → H b = some u → H1 b = some u) → (∀ v, p i = some v → ∀ H3, Same H1 H3 → Q' v H3) → (p i = none → ∀ H3, Same H1 H3 → R' H3) →
      tt ((wipe σ vs).set j (some (kV k))) H1 fun b H4 => if b = true then te ((wipe σ vs).set j (some (kV k))) H4 Q' else R' H4)
    (q : ∀ L H', H L = none → Same H H' → H' L = some (.lst ((List.range kvs.length).filterMap p)) → D.nx (σ.set i (some (.ref L))) H') : tLock (tAsg (tLc (iKeys tl) (gName j) tt te vs) (gName i)) D σ H := by
  have z : tLockE (tLc (iKeys tl) (gName j) tt te vs) σ H fun v H' => D.nx (σ.set i (some v)) H' := lcKeys p hd hl hw hv ht q
  obtain ⟨d2, u, h1, h2, h3⟩ := z
  refine ⟨d2, u, h1, h2, fun od => ?_⟩
  exact h3 od
/-- a dict comprehension over a dict's keys: each name gets v -/
theorem dcKeys {j : Nat} {G : List Str} {f : Str → V} {v : V} (nd : G.Nodup) (hl : G.length ≤ 10000) (hw : ∀ x, wipe ((wipe σ vs).set j (some x)) vs = wipe σ vs)
    (hd : H d = some (.dK (dicF G f)))
    (hv : ∀ (od : Obj) (QQ : VK), QQ (.ref d) (upd H d (.frz od (.dK (dicF G f)))) → tl σ (upd H d (.frz od (.dK (dicF G f)))) QQ)
    (hk : ∀ (x : Str) (H1 : Hp) (QQ : VK), QQ (.str x) H1 → te ((wipe σ vs).set j (some (.str x))) H1 QQ)
    (hz : ∀ (x : Str) (H1 : Hp) (QQ : VK), QQ v H1 → tv ((wipe σ vs).set j (some (.str x))) H1 QQ)
    (q : ∀ D H', H D = none → Same H H' → H' D = some (.dK (dicF G fun _ => v)) → Q (.ref D) H') : tLockE (tDc (iKeys tl) (gName j) tYes te tv vs) σ H Q := by
  refine ⟨d, .dK (dicF G f), hd, trivial, fun od => ?_⟩
  have f0 : ∀ b u, b ≠ d → H b = some u → upd H d (.frz od (.dK (dicF G f))) b = some u := fun b u nb eb => by rw [upd_ne nb]; exact eb
  have e0 : upd H d (.frz od (.dK (dicF G f))) d = some (.frz od (.dK (dicF G f))) := upd_same
  have z0 : ∀ {D : Addr}, upd H d (.frz od (.dK (dicF G f))) D = none → H D = none ∧ D ≠ d := fun {D} z => by
    by_cases h : D = d
    · rw [h, upd_same] at z; exact nomatch z
    · rw [upd_ne h] at z; exact ⟨z, h⟩
  refine hv od _ ⟨d, od, rfl, .inl ⟨_, e0, fun D hD => ?_⟩⟩
  obtain ⟨hD1, hD2⟩ := z0 hD
  refine ⟨fun i m H' => m = G.length - i ∧ i ≤ G.length ∧ H' d = some (.frz od (.dK (dicF G f))) ∧ (∀ b u, b ≠ d → b ≠ D → H b = some u → H' b = some u) ∧ H' D = some (.dK (dicF (G.take i) fun _ => v)), ⟨_, rfl, Nat.zero_le _, by rw [upd_ne hD2.symm]; exact e0, fun b u n1 n2 eb => by rw [upd_ne n2]; exact f0 _ _ n1 eb, upd_same⟩, fun i m H' hW => ?_⟩
  obtain ⟨rfl, hi, ed, fr, eD⟩ := hW
  by_cases hc : i < G.length
  · refine .inr ⟨(walk_keys (d := d) (o := od) (kvs := dicF G f)).goes i H' (by rw [dicF_len]; exact hc) ed, fun H2 => ∃ m', m' < G.length - i ∧ m' = G.length - (i + 1) ∧ i + 1 ≤ G.length ∧ H2 d = some (.frz od (.dK (dicF G f))) ∧ (∀ b u, b ≠ d → b ≠ D → H b = some u → H2 b = some u) ∧ H2 D = some (.dK (dicF (G.take (i + 1)) fun _ => v)), fun H2 h => ?_, fun x H2 y => ?_⟩
    · obtain ⟨m', a, b⟩ := h
      exact ⟨m', a, b⟩
    · obtain ⟨rfl, k, w, hk2, rfl⟩ := (walk_keys (d := d) (o := od) (kvs := dicF G f)).yields i _ x H2 (by rw [dicF_len]; exact hc) ed y
      have hg : k = .inr G[i] := by
        unfold dicF at hk2
        rw [List.getElem?_map, List.getElem?_eq_getElem hc] at hk2
        exact (Prod.mk.inj (Option.some.inj hk2)).1.symm
      subst hg
      refine ⟨hw _, ?_⟩
      refine hk _ _ _ (hz _ _ _ ⟨_, .inr G[i], rfl, eD, ?_, _, Nat.sub_lt_sub_left hc (Nat.lt_succ_self i), rfl, hc, ?_, fun b u n1 n2 eb => ?_, ?_⟩)
      · rw [dicF_len, List.length_take, sizeLine_eq]; omega
      · rw [upd_ne hD2.symm]; exact ed
      · rw [upd_ne n2]; exact fr _ _ n1 n2 eb
      · have hn : G[i] ∉ G.take i := fun z => by
          obtain ⟨k, hk3, e3⟩ := List.getElem_of_mem z
          rw [List.getElem_take] at e3
          have hk4 : k < i := by rw [List.length_take] at hk3; omega
          exact absurd ((List.getElem_inj nd).mp e3) (Nat.ne_of_lt hk4)
        rw [upd_same, dicF_put, if_neg hn, List.take_succ_eq_append_getElem hc]
        refine congrArg (fun l => some (HO.dK l)) (dicF_congr fun x _ => ?_)
        by_cases hx : x = G[i]
        · rw [if_pos hx]
        · rw [if_neg hx]
  · have hi2 : i = (dicF G f).length := by rw [dicF_len]; omega
    refine .inl ⟨by rw [hi2]; exact (walk_keys (d := d) (o := od) (kvs := dicF G f)).stops H' ed, ed, q D _ hD1 (fun b u eb => ?_) ?_⟩
    · by_cases h : b = d
      · rw [h, upd_same, ← hd, ← h]
        exact eb
      · rw [upd_ne h]
        exact fr _ _ h (fun z => by rw [z, hD1] at eb; exact nomatch eb) eb
    · rw [upd_ne hD2, eD, List.take_of_length_le (by omega)]
end
end Bk

namespace Bk
open PySem PySem.Spec PyProof.Rows L2
/-! ## 37. a comprehension over a list of names, some left out as drawn -/
section
variable {K : PySem.W.Frag} {σ : L2.St} {H H0 : Hp} {Q : VK} {j : Nat} {vs : List Nat} {tt : TT} {te tl : TE} {a bx : Addr} {M : List Str} {m : Nat} {q : Str}
theorem lcFltD (hb : Box bx m H) (ea : H a = some (.lst (M.map V.str))) (na : a ≠ bx) (hl : M.length ≤ 1000) (hw : ∀ x, wipe ((wipe σ vs).set j (some x)) vs = wipe σ vs)
    (hv : ∀ QQ : VK, QQ (.ref a) H → tl σ H0 QQ)
    (hte : ∀ (x : Str) (H1 : Hp) (QQ : VK), QQ (.str x) H1 → te ((wipe σ vs).set j (some (.str x))) H1 QQ)
    (ht : ∀ (x : Str) (k : Nat) (H1 : Hp) (Q' : Bool → Hp → Prop), x ∈ M → k < m + M.length → Box bx k H1 → (∀ b H2, (x = q → b = true) → Box bx (k + 1) H2 → But bx H1 H2 → Q' b H2) → tt ((wipe σ vs).set j (some (.str x))) H1 Q')
    (hq : ∀ (D : Addr) (H' : Hp) (ys : List Str), H D = none → But bx H H' → Box bx (m + M.length) H' → H' D = some (.lst (ys.map V.str)) → ys.length ≤ M.length → (∀ y ∈ ys, y ∈ M) → (q ∈ M → q ∈ ys) → Q (.ref D) H') : tLc (iList K tl) (gName j) tt te vs σ H0 Q := by
  refine hv _ ⟨a, rfl, ⟨_, sqL ea⟩, fun D hD => ?_⟩
  have nD : D ≠ bx := hb.ne hD
  have nDa : D ≠ a := (ne_of_none ea hD).symm
  refine lc_it (g := gName j) (tt := tt) (te := te) (vs := vs) (σ := σ) (walk_list (K := K) (a := a) (xs := M.map V.str)) (fun i G => But bx H G ∧ Box bx (m + i) G ∧ ∃ ys : List Str, G D = some (.lst (ys.map V.str)) ∧ ys.length ≤ i ∧ (∀ y ∈ ys, y ∈ M) ∧ ∀ k, k < i → M[k]? = some q → q ∈ ys)
    ⟨.of (same_upd hD), hb.same (same_upd hD), [], upd_same, Nat.le_refl _, (fun _ z => (nomatch z)), fun k hk => absurd hk (Nat.not_lt_zero _)⟩ (fun i G hi ⟨bt, _⟩ => sqL (bt _ _ na ea)) (fun i x H1 H2 hi ⟨bt, hB, ys, e, l, hp, hk⟩ y => ?_) fun G ⟨bt, hB, ys, e, l, hp, hk⟩ => ?_
  · obtain ⟨rfl, hx⟩ := y
    rw [List.getElem?_map] at hx
    cases hm : M[i]? with
    | none => rw [hm] at hx; exact nomatch hx
    | some z =>
      rw [hm] at hx
      obtain rfl := Option.some.inj hx
      rw [List.length_map] at hi
      refine ⟨hw _, ht z (m + i) _ _ (List.mem_of_getElem? hm) (by omega) hB fun b H3 hbq hB3 b3 => ?_⟩
      have e3 := b3 _ _ nD e
      have bt3 := bt.trans b3
      cases b with
      | false =>
        refine ⟨bt3, hB3, ys, e3, by omega, hp, fun k hk2 hkq => ?_⟩
        by_cases c : k = i
        · rw [c, hm] at hkq
          exact absurd (hbq (Option.some.inj hkq)) Bool.false_ne_true
        · exact hk k (by omega) hkq
      | true =>
        rw [if_pos rfl]
        refine hte z H3 _ ⟨_, e3, by rw [List.length_map, sizeLine_eq]; omega, ?_⟩
        refine ⟨fun b o nb eb => by rw [upd_ne (ne_of_none eb hD)]; exact bt3 _ _ nb eb, ?_, ys ++ [z], by rw [upd_same, List.map_append]; rfl, by rw [List.length_append]; exact Nat.succ_le_succ l, fun y hy => ?_, fun k hk2 hkq => ?_⟩
        · obtain ⟨x1, y1, z1, eB, r⟩ := hB3
          exact ⟨x1, y1, z1, by rw [upd_ne nD.symm]; exact eB, r⟩
        · rcases List.mem_append.mp hy with w | w
          · exact hp y w
          · rw [List.mem_singleton.mp w]; exact List.mem_of_getElem? hm
        · by_cases c : k = i
          · rw [c, hm] at hkq
            rw [Option.some.inj hkq]
            exact List.mem_append_right _ (List.mem_singleton.mpr rfl)
          · exact List.mem_append_left _ (hk k (by omega) hkq)
  · rw [List.length_map] at hB l hk
    refine hq D G ys hD bt hB e l hp fun h => ?_
    obtain ⟨k, hk1, hk2⟩ := List.getElem_of_mem h
    exact hk k hk1 (by rw [List.getElem?_eq_getElem hk1, hk2])
theorem lcFltN (hb : Box bx m H0) (hl : M.length ≤ 1000) (hw : ∀ x, wipe ((wipe σ vs).set j (some x)) vs = wipe σ vs)
    (hv : ∀ QQ : VK, (∀ a H, H0 a = none → Same H0 H → H a = some (.lst (M.map V.str)) → QQ (.ref a) H) → tl σ H0 QQ)
    (hte : ∀ (x : Str) (H1 : Hp) (QQ : VK), QQ (.str x) H1 → te ((wipe σ vs).set j (some (.str x))) H1 QQ)
    (ht : ∀ (x : Str) (k : Nat) (H1 : Hp) (Q' : Bool → Hp → Prop), x ∈ M → k < m + M.length → Box bx k H1 → (∀ b H2, (x = q → b = true) → Box bx (k + 1) H2 → But bx H1 H2 → Q' b H2) → tt ((wipe σ vs).set j (some (.str x))) H1 Q')
    (hq : ∀ (D : Addr) (H' : Hp) (ys : List Str), H0 D = none → But bx H0 H' → Box bx (m + M.length) H' → H' D = some (.lst (ys.map V.str)) → ys.length ≤ M.length → (∀ y ∈ ys, y ∈ M) → (q ∈ M → q ∈ ys) → Q (.ref D) H') : tLc (iList K tl) (gName j) tt te vs σ H0 Q := by
  refine hv _ fun a H na s ea => ?_
  have z : tLc (iList K (fun _ H' QQ => QQ (.ref a) H')) (gName j) tt te vs σ H Q := lcFltD (q := q) (hb.same s) ea (hb.ne na) hl hw (fun QQ z => z) hte ht fun D H' ys nD b hB e l h1 h2 => hq D H' ys (s.free nD) (fun c o nb eb => b c o nb (s _ _ eb)) hB e l h1 h2
  exact z
end
/-! ## 38. a list of names as data -/
def strD (l : List Str) : PyData := .list (l.map PyData.str)
theorem lay_strs : ∀ {l : List Str}, (∀ x ∈ l, PyData.strOk x = true) → PyData.canLayAll0 (l.map PyData.str) = true ∧ PyData.depthAll (l.map PyData.str) = 0
  | [], _ => ⟨rfl, rfl⟩
  | a :: r, h => by
    obtain ⟨h1, h2⟩ := lay_strs (l := r) fun x hx => h x (List.mem_cons_of_mem _ hx)
    constructor
    · show (PyData.canLay0 (.str a) && PyData.canLayAll0 _) = true
      rw [h1]
      simp only [PyData.canLay0, h a List.mem_cons_self, Bool.true_and]
    · show max (PyData.depth (.str a)) (PyData.depthAll _) = 0
      rw [h2]
      rfl
theorem sh_strs {l : List Str} (h : ∀ x ∈ l, PyData.strOk x = true) : SeqAt.shaped (strD l) = true := by
  unfold SeqAt.shaped strD
  simp only [PyData.canLay0, (lay_strs h).1, PyData.depth, (lay_strs h).2, Bool.true_and]
  decide
theorem dps_strs {K : PySem.W.Frag} {H : Hp} : ∀ l : List Str, DpAll K H (l.map V.str) (l.map PyData.str)
  | [] => .nil
  | a :: r => .cons (.str _) (dps_strs r)
theorem dp_strs {K : PySem.W.Frag} {H : Hp} {a : Addr} {l : List Str} (h : SqL K H a (l.map V.str)) : Dp K H (.ref a) (strD l) := .lst h (dps_strs l)
theorem sh_nil : SeqAt.shaped (.list []) = true := by decide +kernel
end Bk

namespace Bk
open PySem PySem.Spec PyProof.Rows L2
/-! ## 39. dicts made of pairs -/
theorem dicF_merge {f : Str → V} : ∀ {M G : List Str}, (G ++ M).Nodup → mergeK (dicF G f) (dicF M f) = dicF (G ++ M) f
  | [], G, _ => by rw [List.append_nil]; rfl
  | a :: r, G, h => by
    have ha : a ∉ G := fun z => (List.nodup_append.mp h).2.2 a z a List.mem_cons_self rfl
    have e : putK (dicF G f) (.inr a : Key) (f a) = dicF (G ++ [a]) f := by
      rw [dicF_put, if_neg ha]
      refine dicF_congr fun y _ => ?_
      by_cases c : y = a
      · rw [if_pos c, c]
      · rw [if_neg c]
    show mergeK (putK (dicF G f) (.inr a : Key) (f a)) (dicF r f) = _
    rw [e]
    have h2 : ((G ++ [a]) ++ r).Nodup := by rw [List.append_assoc]; exact h
    rw [dicF_merge h2, List.append_assoc]
    rfl
theorem dicF_new {f : Str → V} {M : List Str} (h : M.Nodup) : mergeK [] (dicF M f) = dicF M f := dicF_merge (G := []) h
theorem paired_dic {R : Addr → Key × V → Prop} {f : Str → V} : ∀ {M : List Str} {ts : List Addr}, ts.length = M.length → (∀ (k : Nat) t x, ts[k]? = some t → M[k]? = some x → R t (.inr x, f x)) → Paired R ts (dicF M f)
  | [], [], _, _ => .nil
  | x :: M, t :: ts, l, h => .cons (h 0 t x rfl rfl) (paired_dic (Nat.succ.inj l) fun k t x a b => h (k + 1) t x a b)
theorem by_name {α : Type} (d : α) {M : List Str} (nd : M.Nodup) {cs : List α} : ∃ f : Str → α, ∀ (k : Nat) x c, M[k]? = some x → cs[k]? = some c → f x = c :=
  ⟨fun x => cs.getD (M.idxOf x) d, fun k x c hx hc => by
    obtain ⟨hk, e⟩ := List.getElem?_eq_some_iff.mp hx
    have : M.idxOf x = k := by rw [← e]; exact List.Nodup.idxOf_getElem nd k hk
    show cs.getD (M.idxOf x) d = c
    rw [this, List.getD_eq_getElem?_getD, hc]
    rfl⟩
section
variable {J : It} {G : Hp → Prop} {Y : Nat → Hp → V → Hp → Prop} {te : TE} {vs : List Nat} {σ : L2.St} {H : Hp} {D : Addr} {Q : VK} {M : List Str} {j : Nat}
/-- each turn lays a pair of a name and a new thing -/
theorem lc_prs (w : Walk J M.length G Y) (o : Str → HO) (hD : H D = none) (hn : M.length ≤ 10000) (hG : ∀ H', Same H H' → G H') (hw : ∀ x, wipe ((wipe σ vs).set j (some x)) vs = wipe σ vs)
    (hY : ∀ i H1 x H2, i < M.length → Y i H1 x H2 → H2 = H1 ∧ ∃ z, M[i]? = some z ∧ x = .str z)
    (hs : ∀ (z : Str) (H1 : Hp) (Q' : VK), z ∈ M → Same H H1 → (∀ t c H3, H1 t = none → H1 c = none → t ≠ c → Same H1 H3 → H3 t = some (.tup [.str z, .ref c]) → H3 c = some (o z) → Q' (.ref t) H3) → te ((wipe σ vs).set j (some (.str z))) H1 Q')
    (q : ∀ H' (ts cs : List Addr), Same H H' → H' D = some (.lst (ts.map V.ref)) → ts.length = M.length → cs.length = M.length → (∀ (k : Nat) t c x, ts[k]? = some t → cs[k]? = some c → M[k]? = some x → H' t = some (.tup [.str x, .ref c]) ∧ H' c = some (o x)) → cs.Nodup → (∀ c ∈ cs, H c = none) → D ∉ cs → Q (.ref D) H') :
    ∃ W : Nat → Nat → Hp → Prop, (∃ m, W 0 m (upd H D (.lst []))) ∧ ∀ i m H, W i m H →
      (J.stop i H ∧ Q (.ref D) H) ∨ (J.go i H ∧ ∃ Nx : Hp → Prop, (∀ H', Nx H' → ∃ m', m' < m ∧ W (i + 1) m' H') ∧ ∀ x H', J.yld i H x H' → gName j x (wipe σ vs) H' fun σ2 H2 => wipe σ2 vs = wipe σ vs ∧ tYes σ2 H2 fun b H3 =>
        if b = true then te σ2 H3 fun y H4 => ∃ acc, H4 D = some (.lst acc) ∧ acc.length < sizeLine ∧ Nx (upd H4 D (.lst (acc ++ [y]))) else Nx H3) := by
  refine lc_it w (fun i G => Same H G ∧ ∃ ts cs : List Addr, G D = some (.lst (ts.map V.ref)) ∧ ts.length = i ∧ cs.length = i ∧ (∀ (k : Nat) t c x, ts[k]? = some t → cs[k]? = some c → M[k]? = some x → G t = some (.tup [.str x, .ref c]) ∧ G c = some (o x)) ∧ cs.Nodup ∧ (∀ c ∈ cs, H c = none ∧ G c ≠ none) ∧ D ∉ cs)
    ⟨same_upd hD, [], [], upd_same, rfl, rfl, (fun _ _ _ _ z => nomatch z), List.nodup_nil, (fun _ z => nomatch z), fun z => nomatch z⟩ (fun i G _ z => hG G z.1) (fun i x H1 H2 hi ⟨sm, ts, cs, e, l1, l2, all, nd, fr, nD⟩ y => ?_) fun G ⟨sm, ts, cs, e, l1, l2, all, nd, fr, nD⟩ => q G ts cs sm e l1 l2 all nd (fun c hc => (fr c hc).1) nD
  obtain ⟨rfl, z, hz, rfl⟩ := hY i H1 x H2 hi y
  refine ⟨hw _, ?_⟩
  refine hs z H2 _ (List.mem_of_getElem? hz) sm fun t c H3 nt nc tc s3 et ec => ?_
  have tD : t ≠ D := fun w => by rw [w, e] at nt; exact nomatch nt
  have cD : c ≠ D := fun w => by rw [w, e] at nc; exact nomatch nc
  have ccs : c ∉ cs := fun w => (fr c w).2 nc
  refine ⟨_, s3 _ _ e, by rw [List.length_map, l1]; exact Nat.lt_of_lt_of_le hi (Nat.le_trans hn (by decide)), sameBut (sm.trans s3) hD, ts ++ [t], cs ++ [c], ?_, by rw [List.length_append, l1]; rfl, by rw [List.length_append, l2]; rfl, fun k u v x hk hv hx => ?_, ?_, fun u hu => ?_, fun w => ?_⟩
  · rw [upd_same, List.map_append]
    rfl
  · have hlt : k < ts.length + 1 := by
      have := (List.getElem?_eq_some_iff.mp hk).1
      rw [List.length_append] at this
      exact this
    by_cases hk2 : k < ts.length
    · rw [List.getElem?_append_left hk2] at hk
      rw [List.getElem?_append_left (by omega)] at hv
      obtain ⟨a1, a2⟩ := all k u v x hk hv hx
      have nu : u ≠ D := fun w => by rw [w, e] at a1; exact nomatch a1
      have nv : v ≠ D := fun w => nD (by rw [← w]; exact List.mem_of_getElem? hv)
      exact ⟨by rw [upd_ne nu]; exact s3 _ _ a1, by rw [upd_ne nv]; exact s3 _ _ a2⟩
    · have e3 : k = i := by omega
      subst e3
      rw [List.getElem?_append_right (by omega), l1, Nat.sub_self] at hk
      rw [List.getElem?_append_right (by omega), l2, Nat.sub_self] at hv
      obtain rfl := Option.some.inj hk
      obtain rfl := Option.some.inj hv
      rw [hz] at hx
      obtain rfl := Option.some.inj hx
      exact ⟨by rw [upd_ne tD]; exact et, by rw [upd_ne cD]; exact ec⟩
  · refine List.nodup_append.mpr ⟨nd, (by simp), fun a ha b hb w => ?_⟩
    rw [List.mem_singleton.mp hb] at w
    exact ccs (by rw [← w]; exact ha)
  · rcases List.mem_append.mp hu with w | w
    · obtain ⟨a1, a2⟩ := fr u w
      refine ⟨a1, ?_⟩
      rw [upd_ne (fun z => nD (by rw [← z]; exact w))]
      cases h : H2 u with
      | none => exact absurd h a2
      | some r => rw [s3 _ _ h]; exact fun z => nomatch z
    · rw [List.mem_singleton.mp w]
      refine ⟨sm.free nc, ?_⟩
      rw [upd_ne cD, ec]
      exact fun z => nomatch z
  · rcases List.mem_append.mp w with w | w
    · exact nD w
    · exact cD (List.mem_singleton.mp w).symm
end
/-- dict(..) of such a list -/
theorem r_dictP {K : PySem.W.Frag} {H : Hp} {Q : VK} {M : List Str} {D : Addr} {ts cs : List Addr} {o : Str → HO} (nd : M.Nodup) (eD : H D = some (.lst (ts.map V.ref))) (lt : ts.length = M.length) (lc : cs.length = M.length)
    (hp : ∀ (k : Nat) t c x, ts[k]? = some t → cs[k]? = some c → M[k]? = some x → H t = some (.tup [.str x, .ref c]) ∧ H c = some (o x)) (cn : cs.Nodup)
    (q : ∀ p (f : Str → Addr) H', H p = none → Same H H' → H' p = some (.dK (dicF M fun x => .ref (f x))) → (∀ x ∈ M, H' (f x) = some (o x) ∧ f x ∈ cs) → (∀ x ∈ M, ∀ y ∈ M, f x = f y → x = y) → Q (.ref p) H') :
    ∃ (a : Addr) (ps : List Addr) (kvs : List (Key × V)), [V.ref D] = [.ref a] ∧ SqL K H a (ps.map V.ref) ∧ Paired (fun p kv => SqT K H p [kV kv.1, kv.2]) ps kvs ∧ ∀ p, H p = none → Q (.ref p) (upd H p (.dK (mergeK [] kvs))) := by
  obtain ⟨f, hf⟩ := by_name (D : Addr) nd (cs := cs)
  have at2 : ∀ {k : Nat} {x : Str}, M[k]? = some x → cs[k]? = some (f x) := fun {k x} hx => by
    obtain ⟨hk, _⟩ := List.getElem?_eq_some_iff.mp hx
    have h2 : cs[k]? = some cs[k] := List.getElem?_eq_getElem (by omega)
    rw [h2, hf k x _ hx h2]
  refine ⟨D, ts, dicF M fun x => .ref (f x), rfl, sqL eD, paired_dic lt fun k t x ht hx => ?_, fun p np => ?_⟩
  · exact sqT (hp k t (f x) x ht (at2 hx) hx).1
  · rw [dicF_new nd]
    refine q p f _ np (same_upd np) upd_same (fun x hx => ?_) fun x hx y hy e => ?_
    · obtain ⟨k, hk⟩ := List.getElem?_of_mem hx
      have h2 := at2 hk
      obtain ⟨hk2, _⟩ := List.getElem?_eq_some_iff.mp hk
      have e := (hp k _ _ x (List.getElem?_eq_getElem (by omega : k < ts.length)) h2 hk).2
      exact ⟨by rw [upd_ne (ne_of_none e np)]; exact e, List.mem_of_getElem? h2⟩
    · obtain ⟨k, hk⟩ := List.getElem?_of_mem hx
      obtain ⟨l, hl⟩ := List.getElem?_of_mem hy
      have h1 := at2 hk
      have h2 := at2 hl
      rw [e] at h1
      obtain ⟨k1, k2⟩ := List.getElem?_eq_some_iff.mp h1
      obtain ⟨l1, l2⟩ := List.getElem?_eq_some_iff.mp h2
      have := (List.getElem_inj cn).mp (k2.trans l2.symm)
      subst this
      rw [hk] at hl
      exact Option.some.inj hl
/-! ## 40. a dict of pairs of a name and a drawn number -/
section
variable {K : PySem.W.Frag} {σ : L2.St} {H : Hp} {Q : VK} {j : Nat} {vs : List Nat} {te tl : TE} {a bx : Addr} {M : List Str} {m : Nat}
theorem lcMood (hb : Box bx m H) (ea : H a = some (.lst (M.map V.str))) (na : a ≠ bx) (hl : M.length ≤ 1000) (hw : ∀ x, wipe ((wipe σ vs).set j (some x)) vs = wipe σ vs)
    (hv : ∀ QQ : VK, QQ (.ref a) H → tl σ H QQ)
    (ht : ∀ (x : Str) (k : Nat) (H1 : Hp) (Q' : VK), x ∈ M → k < m + M.length → Box bx k H1 → (∀ t (v : Int) H2, H1 t = none → Box bx (k + 1) H2 → But bx H1 H2 → H2 t = some (.tup [.str x, .int v]) → Q' (.ref t) H2) → te ((wipe σ vs).set j (some (.str x))) H1 Q')
    (hq : ∀ (D : Addr) (H' : Hp) (ts : List Addr) (ns : List Int), H D = none → But bx H H' → Box bx (m + M.length) H' → H' D = some (.lst (ts.map V.ref)) → ts.length = M.length → ns.length = M.length → (∀ (k : Nat) t x v, ts[k]? = some t → M[k]? = some x → ns[k]? = some v → H' t = some (.tup [.str x, .int v])) → Q (.ref D) H') : tLc (iList K tl) (gName j) tYes te vs σ H Q := by
  refine hv _ ⟨a, rfl, ⟨_, sqL ea⟩, fun D hD => ?_⟩
  have nD : D ≠ bx := hb.ne hD
  refine lc_it (g := gName j) (tt := tYes) (te := te) (vs := vs) (σ := σ) (walk_list (K := K) (a := a) (xs := M.map V.str)) (fun i G => But bx H G ∧ Box bx (m + i) G ∧ ∃ (ts : List Addr) (ns : List Int), G D = some (.lst (ts.map V.ref)) ∧ ts.length = i ∧ ns.length = i ∧ ∀ (k : Nat) t x v, ts[k]? = some t → M[k]? = some x → ns[k]? = some v → G t = some (.tup [.str x, .int v]))
    ⟨.of (same_upd hD), hb.same (same_upd hD), [], [], upd_same, rfl, rfl, (fun _ _ _ _ z => nomatch z)⟩ (fun i G hi ⟨bt, _⟩ => sqL (bt _ _ na ea)) (fun i x H1 H2 hi ⟨bt, hB, ts, ns, e, l1, l2, all⟩ y => ?_) fun G ⟨bt, hB, ts, ns, e, l1, l2, all⟩ => ?_
  · obtain ⟨rfl, hx⟩ := y
    rw [List.getElem?_map] at hx
    cases hm : M[i]? with
    | none => rw [hm] at hx; exact nomatch hx
    | some z =>
      rw [hm] at hx
      obtain rfl := Option.some.inj hx
      rw [List.length_map] at hi
      refine ⟨hw _, ?_⟩
      refine ht z (m + i) _ _ (List.mem_of_getElem? hm) (by omega) hB fun t v H3 nt hB3 b3 et => ?_
      have tD : t ≠ D := fun w => by rw [w, e] at nt; exact nomatch nt
      refine ⟨_, b3 _ _ nD e, by rw [List.length_map, sizeLine_eq]; omega, fun b o nb eb => ?_, ?_, ts ++ [t], ns ++ [v], by rw [upd_same, List.map_append]; rfl, by rw [List.length_append, l1]; rfl, by rw [List.length_append, l2]; rfl, fun k u x v2 hk hx hv2 => ?_⟩
      · rw [upd_ne (ne_of_none eb hD)]
        exact (bt.trans b3) _ _ nb eb
      · obtain ⟨x1, y1, z1, eB, r⟩ := hB3
        exact ⟨x1, y1, z1, by rw [upd_ne nD.symm]; exact eB, r⟩
      · have hlt : k < ts.length + 1 := by
          have := (List.getElem?_eq_some_iff.mp hk).1
          rw [List.length_append] at this
          exact this
        by_cases hk2 : k < ts.length
        · rw [List.getElem?_append_left hk2] at hk
          rw [List.getElem?_append_left (by omega)] at hv2
          have a1 := all k u x v2 hk hx hv2
          have nu : u ≠ D := fun w => by rw [w, e] at a1; exact nomatch a1
          have nub : u ≠ bx := fun w => by
            obtain ⟨x1, y1, z1, eB, r⟩ := hB
            rw [w, eB] at a1
            exact nomatch a1
          rw [upd_ne nu]
          exact b3 _ _ nub a1
        · have e3 : k = i := by omega
          subst e3
          rw [List.getElem?_append_right (by omega), l1, Nat.sub_self] at hk
          rw [List.getElem?_append_right (by omega), l2, Nat.sub_self] at hv2
          obtain rfl := Option.some.inj hk
          obtain rfl := Option.some.inj hv2
          rw [hm] at hx
          obtain rfl := Option.some.inj hx
          rw [upd_ne tD]
          exact et
  · rw [List.length_map] at hB l1 l2
    exact hq D G ts ns hD bt hB e l1 l2 all
end
theorem r_dictN {K : PySem.W.Frag} {H : Hp} {Q : VK} {M : List Str} {D : Addr} {ts : List Addr} {ns : List Int} (nd : M.Nodup) (eD : H D = some (.lst (ts.map V.ref))) (lt : ts.length = M.length) (ln : ns.length = M.length)
    (hp : ∀ (k : Nat) t x v, ts[k]? = some t → M[k]? = some x → ns[k]? = some v → H t = some (.tup [.str x, .int v]))
    (q : ∀ p (f : Str → Int) H', H p = none → Same H H' → H' p = some (.dK (dicF M fun x => .int (f x))) → Q (.ref p) H') :
    ∃ (a : Addr) (ps : List Addr) (kvs : List (Key × V)), [V.ref D] = [.ref a] ∧ SqL K H a (ps.map V.ref) ∧ Paired (fun p kv => SqT K H p [kV kv.1, kv.2]) ps kvs ∧ ∀ p, H p = none → Q (.ref p) (upd H p (.dK (mergeK [] kvs))) := by
  obtain ⟨f, hf⟩ := by_name (0 : Int) nd (cs := ns)
  refine ⟨D, ts, dicF M fun x => .int (f x), rfl, sqL eD, paired_dic lt fun k t x ht hx => ?_, fun p np => ?_⟩
  · obtain ⟨hk, _⟩ := List.getElem?_eq_some_iff.mp hx
    have h2 : ns[k]? = some ns[k] := List.getElem?_eq_getElem (by omega)
    have e := hp k t x _ ht hx h2
    rw [← hf k x _ hx h2] at e
    exact sqT e
  · rw [dicF_new nd]
    exact q p f _ np (same_upd np) upd_same
end Bk

namespace Bk
open PySem PySem.Spec PyProof.Rows L2
/-! ## 41. C(k = e, ..) -/
structure CalCK (P : Program) (w : World) (K : PySem.W.Frag) (mg : Str → Option Value) (base : Heap) (CX : CXT) (k : Nat) (ks : List Str) (C : Addr) (x : Str) (sp : Sp) (gV : List V → List V → List V) : Prop where
  ex : ∃ (f : Addr) (fd : FuncData) (ps : List Str) (g : List Value → List Value → List Value), Mk K C f ∧ FnOk P w K mg base CX k f fd ps sp ∧ KBn K fd ps 1 ks g gV ∧ mg x = some (.ref C)
def tMkK (C : Addr) (j : Nat) (sp : Sp) (gV : List V → List V → List V) (E : L2.St → XK) (tk : TA) : TE := fun σ H Q => tk σ H fun zs H1 => zs.length = j ∧ ∀ x dx, H1 x = none → H1 dx = none → dx ≠ x →
  sp (gV [.ref x] zs) (upd (upd H1 dx (.own x)) x (.ins C dx [])) (fun v H2 => v = .non ∧ Q (.ref x) H2) (E σ)
section
variable {X : Cx} {CX : CXT} {k j n : Nat} {ks : List Str} {f C : Addr} {fd : FuncData} {ps : List Str} {sp : Sp} {E : L2.St → XK} {x m : Str} {p pos apos : Pos} {e o : Expr} {es : List Expr} {kws : List Keyword} {ta : TE} {t tk : TA} {gV : List V → List V → List V} {g : List Value → List Value → List Value}
theorem run_mkNS {pins : List (Addr × Obj)} {σ : L2.St} {H : Hp} {s : Shared} {Q : VK} {ws : List Value} {zs : List V} (M : Mk X.K C f) (F : FnOk X.prog X.w X.K X.mg X.base CX k f fd ps sp) (hr : Room (k + 1) X.A) (hb : KBn X.K fd ps 1 ks g gV)
    (hx : PassesAt CX X σ (E σ)) (I : Inv X pins σ H s) (rz : Vals zs ws) (l2 : zs.length = ks.length)
    (h : ∀ x dx, H x = none → H dx = none → dx ≠ x → sp (gV [.ref x] zs) (upd (upd H dx (.own x)) x (.ins C dx [])) (fun v H2 => v = .non ∧ Q (.ref x) H2) (E σ)) :
    wpAny (model X.prog X.w) X.A (call (.ref C) [] (ks.zip ws)) (EP X pins σ Q) X.xe s := by
  have hq := h (s.heap.objs.size + 1) s.heap.objs.size (I.hok.fresh (Nat.le_succ _)) (I.hok.fresh (Nat.le_refl _)) (Nat.ne_of_lt (Nat.lt_succ_self _))
  have I2 := Inv.made (C := C) I
  have r2 : Vals [V.ref (s.heap.objs.size + 1)] [Value.ref (s.heap.objs.size + 1)] := .cons rfl .nil
  refine wpAny_call (make_map (f := f) I.kIn M.makes M.init (beq_iff_eq.mp M.fn) (codeAny_mono (F.run _ X.stack _ _ ⟨[Value.ref (s.heap.objs.size + 1)], ks.zip ws⟩ (g [Value.ref (s.heap.objs.size + 1)] ws) _ _ (E σ) (hr.make C [] (ks.zip ws))
    (I2.env0.make C [] (ks.zip ws)) (hb.to { s with heap := _ } [Value.ref (s.heap.objs.size + 1)] ws I2.kIn rfl (rz.length.symm.trans l2)) (hb.rel r2 rz) hq) fun r s' hq' => ?_))
  cases r with
  | error e => exact hx pins _ _ e s' I2 hq'
  | ok fl =>
    cases fl with
    | ret u =>
      obtain ⟨v, H', I3, rv, ev, q3⟩ := I2.after hq'
      subst ev
      exact ⟨rv, ⟨V.ref (s.heap.objs.size + 1), H', I3, rfl, q3⟩⟩
    | next => exact False.elim hq'
    | brk => exact False.elim hq'
    | cont => exact False.elim hq'
theorem pe_mkK (c : CalCK X.prog X.w X.K X.mg X.base CX k ks C x sp gV) (hr : Room j X.A) (hk : k + 1 ≤ j) (hg : Gl X x) (hx : ∀ σ, PassesAt CX X σ (E σ)) (hkw : PK X kws tk)
    (hall : (backToKw pos (keywordEach kws X.env)).all (·.1.isSome) = true := by rfl) (hks : (backToKw pos (keywordEach kws X.env)).filterMap (·.1) = ks := by rfl)
    (hpl : ((backTo pos (starEach [] X.env)).any (·.1) || (backToKw pos (keywordEach kws X.env)).any (·.1.isNone)) = false := by rfl)
    (hdb : (x == ("__debug__" : Str)) = false := by decide) : PE X (.Call (.Name x p) [] kws pos) (tMkK C ks.length sp gV E tk) := by
  obtain ⟨f, fd, ps, g, M, F, hb, hm⟩ := c.ex
  refine ⟨fun pins s σ H Q I h => ?_⟩
  refine wpAny_Call_Name_kw (ld_glob I hg hm ?_ hdb)
  refine PySem.W.callWith_KW0 (first := []) (h₀ := X.base) I.ok.mod.kin M.kp hall ?_ hpl
  refine thn (hkw.run pos pins s σ H _ I h) fun ws s2 ⟨zs, H2, I2, rz, l2, q2⟩ => ⟨I2.kIn, ?_⟩
  rw [hks]
  exact run_mkNS M F (hr.mono hk) hb (hx σ) I2 rz l2 q2
end
theorem sl_listK {X : Cx} {K : PySem.W.Frag} (h : X.K = K) : SlR X (rSlL K) := by
  subst h
  exact sl_list
/-- for over a list or a tuple, whichever it is -/
theorem r_forA {K : PySem.W.Frag} {a : Addr} {xs : List V} {g : TG} {tb : TS} {D : Ends} {σ : L2.St} {H : Hp} (hq : SqL K H a xs ∨ SqT K H a xs) (Pv : Nat → L2.St → Hp → Prop) (h0 : Pv 0 σ H) (hG : ∀ i σ G, i ≤ xs.length → Pv i σ G → Same H G)
    (hs : ∀ i x σ G, xs[i]? = some x → Pv i σ G → g x σ G fun σ2 H2 => tb { D with nx := Pv (i + 1), ct := Pv (i + 1), bk := D.nx } σ2 H2) (hd : ∀ σ G, Pv xs.length σ G → D.nx σ G) :
    ∃ a' xs', V.ref a = .ref a' ∧ ((SqL K H a' xs' ∧ (∃ W : Nat → Nat → L2.St → Hp → Prop, (∃ m, W 0 m σ H) ∧ ∀ i m σ H, W i m σ H →
      ((Itl K a').stop i H ∧ D.nx σ H) ∨ ((Itl K a').go i H ∧ ∃ N : L2.St → Hp → Prop, (∀ σ' H', N σ' H' → ∃ m', m' < m ∧ W (i + 1) m' σ' H') ∧ ∀ x H', (Itl K a').yld i H x H' → g x σ H' fun σ2 H2 => tb { D with nx := N, ct := N, bk := D.nx } σ2 H2))) ∨
      (SqT K H a' xs' ∧ (∃ W : Nat → Nat → L2.St → Hp → Prop, (∃ m, W 0 m σ H) ∧ ∀ i m σ H, W i m σ H →
      ((Itt K a').stop i H ∧ D.nx σ H) ∨ ((Itt K a').go i H ∧ ∃ N : L2.St → Hp → Prop, (∀ σ' H', N σ' H' → ∃ m', m' < m ∧ W (i + 1) m' σ' H') ∧ ∀ x H', (Itt K a').yld i H x H' → g x σ H' fun σ2 H2 => tb { D with nx := N, ct := N, bk := D.nx } σ2 H2)))) := by
  rcases hq with hq | hq
  · exact ⟨a, xs, rfl, .inl ⟨hq, for_it walk_list Pv h0 (fun i σ G hi h => (hG i σ G hi h).seq hq) (fun i x σ G G' hi h y => by obtain ⟨rfl, y⟩ := y; exact hs i x σ _ y h) hd⟩⟩
  · exact ⟨a, xs, rfl, .inr ⟨hq, for_it walk_tup Pv h0 (fun i σ G hi h => seqT (hG i σ G hi h) hq) (fun i x σ G G' hi h y => by obtain ⟨rfl, y⟩ := y; exact hs i x σ _ y h) hd⟩⟩
end Bk

namespace Bk
open PySem PySem.Spec PyProof.Rows L2
/-! ## 42. what a locked dict leaves behind -/
section
variable {H H' : Hp} {d bx : Addr} {kvs : List (Key × V)} {od : Obj}
theorem unlock_same (hd : H d = some (.dK kvs)) (s : Same (upd H d (.frz od (.dK kvs))) H') : Same H (upd H' d (.dK kvs)) := fun b u eb => by
  by_cases h : b = d
  · rw [h, upd_same, ← hd, ← h]
    exact eb
  · rw [upd_ne h]
    exact s _ _ (by rw [upd_ne h]; exact eb)
theorem unlock_but (hd : H d = some (.dK kvs)) (s : But bx (upd H d (.frz od (.dK kvs))) H') : But bx H (upd H' d (.dK kvs)) := fun b u nb eb => by
  by_cases h : b = d
  · rw [h, upd_same, ← hd, ← h]
    exact eb
  · rw [upd_ne h]
    exact s _ _ nb (by rw [upd_ne h]; exact eb)
theorem lock_but : But d H (upd H d (.frz od (.dK kvs))) := fun b u nb eb => by rw [upd_ne nb]; exact eb
theorem lock_none {D : Addr} (z : upd H d (.frz od (.dK kvs)) D = none) : H D = none ∧ D ≠ d := by
  by_cases h : D = d
  · rw [h, upd_same] at z; exact nomatch z
  · rw [upd_ne h] at z; exact ⟨z, h⟩
theorem lockS {t : TE} {D : Ends} {i : Nat} {σ : L2.St} (h : tLockE t σ H fun v H' => D.nx (σ.set i (some v)) H') : tLock (tAsg t (gName i)) D σ H := by
  obtain ⟨d2, u, h1, h2, h3⟩ := h
  exact ⟨d2, u, h1, h2, fun od => h3 od⟩
end
/-! ## 43. comprehensions over a locked dict that lay new things -/
section
variable {K : PySem.W.Frag} {σ : L2.St} {H : Hp} {Q : VK} {j : Nat} {vs : List Nat} {g : TG} {tt : TT} {te tl : TE} {d bx : Addr} {kvs : List (Key × V)}
theorem lcNewV (c : Nat → HO) (hd : H d = some (.dK kvs)) (hl : kvs.length ≤ 10000) (hw : ∀ x, wipe ((wipe σ vs).set j (some x)) vs = wipe σ vs)
    (hv : ∀ (od : Obj) (QQ : VK), QQ (.ref d) (upd H d (.frz od (.dK kvs))) → tl σ (upd H d (.frz od (.dK kvs))) QQ)
    (ht : ∀ (i : Nat) (k : Key) (y : V) (od : Obj) (H1 : Hp) (Q' : VK), kvs[i]? = some (k, y) → H1 d = some (.frz od (.dK kvs)) → (∀ b u, b ≠ d → H b = some u → H1 b = some u) → (∀ t H3, H1 t = none → Same H1 H3 → H3 t = some (c i) → Q' (.ref t) H3) → te ((wipe σ vs).set j (some y)) H1 Q')
    (q : ∀ D H' (ts : List Addr), H D = none → Same H H' → H' D = some (.lst (ts.map V.ref)) → ts.length = kvs.length → (∀ k t, ts[k]? = some t → H' t = some (c k)) → Q (.ref D) H') : tLockE (tLc (iVals tl) (gName j) tYes te vs) σ H Q := by
  refine ⟨d, .dK kvs, hd, trivial, fun od => ?_⟩
  have e0 : upd H d (.frz od (.dK kvs)) d = some (.frz od (.dK kvs)) := upd_same
  refine hv od _ ⟨d, od, kvs, rfl, e0, fun D hD => ?_⟩
  obtain ⟨hD1, hD2⟩ := lock_none hD
  refine lc_new (g := gName j) (te := te) (vs := vs) (σ := σ) (Q := fun v H' => H' d = some (.frz od (.dK kvs)) ∧ Q v (upd H' d (.dK kvs))) walk_values c hD hl (fun H' s => s _ _ e0) (fun i x H1 H2 Q' R' hi sm y h => ?_) fun H' ts s e l all nd fr => ?_
  · obtain ⟨rfl, k, hk⟩ := y
    exact ⟨hw _, r_yes (ht i k x od H2 Q' hk (sm _ _ e0) (fun b u nb eb => sm _ _ (lock_but _ _ nb eb)) h)⟩
  · refine ⟨s _ _ e0, q D _ ts hD1 (unlock_same hd s) (by rw [upd_ne hD2]; exact e) l fun k t hk => ?_⟩
    rw [upd_ne (lock_none (fr t (List.mem_of_getElem? hk))).2]
    exact all k t hk
theorem lcNewK (c : Nat → HO) (hd : H d = some (.dK kvs)) (hl : kvs.length ≤ 10000) (hw : ∀ x, wipe ((wipe σ vs).set j (some x)) vs = wipe σ vs)
    (hv : ∀ (od : Obj) (QQ : VK), QQ (.ref d) (upd H d (.frz od (.dK kvs))) → tl σ (upd H d (.frz od (.dK kvs))) QQ)
    (ht : ∀ (i : Nat) (k : Key) (y : V) (od : Obj) (H1 : Hp) (Q' : VK), kvs[i]? = some (k, y) → H1 d = some (.frz od (.dK kvs)) → (∀ b u, b ≠ d → H b = some u → H1 b = some u) → (∀ t H3, H1 t = none → Same H1 H3 → H3 t = some (c i) → Q' (.ref t) H3) → te ((wipe σ vs).set j (some (kV k))) H1 Q')
    (q : ∀ D H' (ts : List Addr), H D = none → Same H H' → H' D = some (.lst (ts.map V.ref)) → ts.length = kvs.length → (∀ k t, ts[k]? = some t → H' t = some (c k)) → Q (.ref D) H') : tLockE (tLc (iKeys tl) (gName j) tYes te vs) σ H Q := by
  refine ⟨d, .dK kvs, hd, trivial, fun od => ?_⟩
  have e0 : upd H d (.frz od (.dK kvs)) d = some (.frz od (.dK kvs)) := upd_same
  refine hv od _ ⟨d, od, rfl, .inl ⟨kvs, e0, fun D hD => ?_⟩⟩
  obtain ⟨hD1, hD2⟩ := lock_none hD
  refine lc_new (g := gName j) (te := te) (vs := vs) (σ := σ) (Q := fun v H' => H' d = some (.frz od (.dK kvs)) ∧ Q v (upd H' d (.dK kvs))) walk_keys c hD hl (fun H' s => s _ _ e0) (fun i x H1 H2 Q' R' hi sm y h => ?_) fun H' ts s e l all nd fr => ?_
  · obtain ⟨rfl, k, v, hk, rfl⟩ := y
    exact ⟨hw _, r_yes (ht i k v od H2 Q' hk (sm _ _ e0) (fun b u nb eb => sm _ _ (lock_but _ _ nb eb)) h)⟩
  · refine ⟨s _ _ e0, q D _ ts hD1 (unlock_same hd s) (by rw [upd_ne hD2]; exact e) l fun k t hk => ?_⟩
    rw [upd_ne (lock_none (fr t (List.mem_of_getElem? hk))).2]
    exact all k t hk
/-- tuples stay -/
def TS (H H' : Hp) : Prop := ∀ a xs, H a = some (.tup xs) → H' a = some (.tup xs)
theorem Same.ts {H H' : Hp} (s : Same H H') : TS H H' := fun _ _ e => s _ _ e
theorem TS.trans {A B C : Hp} (a : TS A B) (b : TS B C) : TS A C := fun x xs e => b x xs (a x xs e)
section
variable {J : It} {n : Nat} {G : Hp → Prop} {Y : Nat → Hp → V → Hp → Prop} {D : Addr}
/-- each turn gives a thing of which Pr tells, by tuples -/
theorem lc_any (w : Walk J n G Y) (Pr : Nat → V → Hp → Prop) (st : ∀ i v H1 H2, TS H1 H2 → Pr i v H1 → Pr i v H2) (hD : H D = none) (hn : n ≤ 10000) (hG : ∀ H', Same H H' → G H')
    (hY : ∀ i H1 x H2, i < n → Y i H1 x H2 → Same H1 H2)
    (hs : ∀ i x H1 H2 (Q' : VK) (R' : Hp → Prop), i < n → Same H H1 → Y i H1 x H2 → (∀ v H3, Same H2 H3 → Pr i v H3 → Q' v H3) → g x (wipe σ vs) H2 fun τ H3 => wipe τ vs = wipe σ vs ∧ tYes τ H3 fun b H4 => if b = true then te τ H4 Q' else R' H4)
    (q : ∀ H' (xs : List V), Same H H' → H' D = some (.lst xs) → xs.length = n → (∀ k v, xs[k]? = some v → Pr k v H') → Q (.ref D) H') :
    ∃ W : Nat → Nat → Hp → Prop, (∃ m, W 0 m (upd H D (.lst []))) ∧ ∀ i m H, W i m H →
      (J.stop i H ∧ Q (.ref D) H) ∨ (J.go i H ∧ ∃ Nx : Hp → Prop, (∀ H', Nx H' → ∃ m', m' < m ∧ W (i + 1) m' H') ∧ ∀ x H', J.yld i H x H' → g x (wipe σ vs) H' fun σ2 H2 => wipe σ2 vs = wipe σ vs ∧ tYes σ2 H2 fun b H3 =>
        if b = true then te σ2 H3 fun y H4 => ∃ acc, H4 D = some (.lst acc) ∧ acc.length < sizeLine ∧ Nx (upd H4 D (.lst (acc ++ [y]))) else Nx H3) := by
  refine lc_it w (fun i G => Same H G ∧ ∃ xs : List V, G D = some (.lst xs) ∧ xs.length = i ∧ (∀ k v, xs[k]? = some v → Pr k v G))
    ⟨same_upd hD, [], upd_same, rfl, fun _ _ z => nomatch z⟩ (fun i G _ z => hG G z.1) (fun i x H1 H2 hi ⟨sm, xs, e, l, all⟩ y => ?_) fun G ⟨sm, xs, e, l, all⟩ => q G xs sm e l all
  have s12 := hY i H1 x H2 hi y
  refine hs i x H1 H2 _ _ hi sm y fun v H3 s3 pv => ?_
  have e3 := s3 _ _ (s12 _ _ e)
  have tD : TS H3 (upd H3 D (.lst (xs ++ [v]))) := fun a ys ea => by
    rw [upd_ne (fun z => by rw [z, e3] at ea; exact nomatch ea)]
    exact ea
  refine ⟨_, e3, by rw [l]; exact Nat.lt_of_lt_of_le hi (Nat.le_trans hn (by decide)), sameBut (sm.trans (s12.trans s3)) hD, xs ++ [v], upd_same, by rw [List.length_append, l]; rfl, fun k u hk => ?_⟩
  by_cases hk2 : k < xs.length
  · rw [List.getElem?_append_left hk2] at hk
    exact st _ _ _ _ (((Same.ts s12).trans (Same.ts s3)).trans tD) (all k u hk)
  · have e4 : k = i := by
      have := (List.getElem?_eq_some_iff.mp hk).1
      rw [List.length_append, List.length_singleton] at this
      omega
    subst e4
    rw [List.getElem?_append_right (by omega), l, Nat.sub_self] at hk
    obtain rfl := Option.some.inj hk
    exact st _ _ _ _ tD pv
end
theorem lcAnyK (Pr : Nat → V → Hp → Prop) (st : ∀ i v H1 H2, TS H1 H2 → Pr i v H1 → Pr i v H2) (hd : H d = some (.dK kvs)) (hl : kvs.length ≤ 10000) (hw : ∀ x, wipe ((wipe σ vs).set j (some x)) vs = wipe σ vs)
    (hv : ∀ (od : Obj) (QQ : VK), QQ (.ref d) (upd H d (.frz od (.dK kvs))) → tl σ (upd H d (.frz od (.dK kvs))) QQ)
    (ht : ∀ (i : Nat) (k : Key) (y : V) (od : Obj) (H1 : Hp) (Q' : VK), kvs[i]? = some (k, y) → H1 d = some (.frz od (.dK kvs)) → (∀ b u, b ≠ d → H b = some u → H1 b = some u) → (∀ v H3, Same H1 H3 → Pr i v H3 → Q' v H3) → te ((wipe σ vs).set j (some (kV k))) H1 Q')
    (q : ∀ D H' (xs : List V), H D = none → Same H H' → H' D = some (.lst xs) → xs.length = kvs.length → (∀ k v, xs[k]? = some v → Pr k v H') → Q (.ref D) H') : tLockE (tLc (iKeys tl) (gName j) tYes te vs) σ H Q := by
  refine ⟨d, .dK kvs, hd, trivial, fun od => ?_⟩
  have e0 : upd H d (.frz od (.dK kvs)) d = some (.frz od (.dK kvs)) := upd_same
  refine hv od _ ⟨d, od, rfl, .inl ⟨kvs, e0, fun D hD => ?_⟩⟩
  obtain ⟨hD1, hD2⟩ := lock_none hD
  refine lc_any (g := gName j) (te := te) (vs := vs) (σ := σ) (Q := fun v H' => H' d = some (.frz od (.dK kvs)) ∧ Q v (upd H' d (.dK kvs))) walk_keys Pr st hD hl (fun H' s => s _ _ e0) (fun i H1 x H2 _ y => by rw [y.1]; exact Same.refl _) (fun i x H1 H2 Q' R' hi sm y h => ?_) fun H' xs s e l all => ?_
  · obtain ⟨rfl, k, v, hk, rfl⟩ := y
    exact ⟨hw _, r_yes (ht i k v od H2 Q' hk (sm _ _ e0) (fun b u nb eb => sm _ _ (lock_but _ _ nb eb)) h)⟩
  · refine ⟨s _ _ e0, q D _ xs hD1 (unlock_same hd s) (by rw [upd_ne hD2]; exact e) l fun k t hk => st _ _ _ _ (fun a ys ea => ?_) (all k t hk)⟩
    rw [upd_ne (fun z => by rw [z, s _ _ e0] at ea; exact nomatch ea)]
    exact ea
theorem lcAnyV (Pr : Nat → V → Hp → Prop) (st : ∀ i v H1 H2, TS H1 H2 → Pr i v H1 → Pr i v H2) (hd : H d = some (.dK kvs)) (hl : kvs.length ≤ 10000) (hw : ∀ x, wipe ((wipe σ vs).set j (some x)) vs = wipe σ vs)
    (hv : ∀ (od : Obj) (QQ : VK), QQ (.ref d) (upd H d (.frz od (.dK kvs))) → tl σ (upd H d (.frz od (.dK kvs))) QQ)
    (ht : ∀ (i : Nat) (k : Key) (y : V) (od : Obj) (H1 : Hp) (Q' : VK), kvs[i]? = some (k, y) → H1 d = some (.frz od (.dK kvs)) → (∀ b u, b ≠ d → H b = some u → H1 b = some u) → (∀ v H3, Same H1 H3 → Pr i v H3 → Q' v H3) → te ((wipe σ vs).set j (some y)) H1 Q')
    (q : ∀ D H' (xs : List V), H D = none → Same H H' → H' D = some (.lst xs) → xs.length = kvs.length → (∀ k v, xs[k]? = some v → Pr k v H') → Q (.ref D) H') : tLockE (tLc (iVals tl) (gName j) tYes te vs) σ H Q := by
  refine ⟨d, .dK kvs, hd, trivial, fun od => ?_⟩
  have e0 : upd H d (.frz od (.dK kvs)) d = some (.frz od (.dK kvs)) := upd_same
  refine hv od _ ⟨d, od, kvs, rfl, e0, fun D hD => ?_⟩
  obtain ⟨hD1, hD2⟩ := lock_none hD
  refine lc_any (g := gName j) (te := te) (vs := vs) (σ := σ) (Q := fun v H' => H' d = some (.frz od (.dK kvs)) ∧ Q v (upd H' d (.dK kvs))) walk_values Pr st hD hl (fun H' s => s _ _ e0) (fun i H1 x H2 _ y => by rw [y.1]; exact Same.refl _) (fun i x H1 H2 Q' R' hi sm y h => ?_) fun H' xs s e l all => ?_
  · obtain ⟨rfl, k, hk⟩ := y
    exact ⟨hw _, r_yes (ht i k x od H2 Q' hk (sm _ _ e0) (fun b u nb eb => sm _ _ (lock_but _ _ nb eb)) h)⟩
  · refine ⟨s _ _ e0, q D _ xs hD1 (unlock_same hd s) (by rw [upd_ne hD2]; exact e) l fun k t hk => st _ _ _ _ (fun a ys ea => ?_) (all k t hk)⟩
    rw [upd_ne (fun z => by rw [z, s _ _ e0] at ea; exact nomatch ea)]
    exact ea
/-- over items; what stands in the list is known ahead -/
theorem lcItems (p : Nat → Option V) (hd : H d = some (.dK kvs)) (hl : kvs.length ≤ 10000)
    (hv : ∀ (od : Obj) (QQ : VK), QQ (.ref d) (upd H d (.frz od (.dK kvs))) → tl σ (upd H d (.frz od (.dK kvs))) QQ)
    (ht : ∀ (i : Nat) (k : Key) (y : V) (T : Addr) (od : Obj) (H1 : Hp) (Q' : VK) (R' : Hp → Prop), kvs[i]? = some (k, y) → H1 T = some (.tup [kV k, y]) → H1 d = some (.frz od (.dK kvs)) → (∀ b u, b ≠ d → H b = some u → H1 b = some u) → (∀ v, p i = some v → ∀ H3, Same H1 H3 → Q' v H3) → (p i = none → ∀ H3, Same H1 H3 → R' H3) →
      g (.ref T) (wipe σ vs) H1 fun σ2 H2 => wipe σ2 vs = wipe σ vs ∧ tt σ2 H2 fun b H4 => if b = true then te σ2 H4 Q' else R' H4)
    (q : ∀ D H', H D = none → Same H H' → H' D = some (.lst ((List.range kvs.length).filterMap p)) → Q (.ref D) H') : tLockE (tLc (iItems tl) g tt te vs) σ H Q := by
  refine ⟨d, .dK kvs, hd, trivial, fun od => ?_⟩
  have e0 : upd H d (.frz od (.dK kvs)) d = some (.frz od (.dK kvs)) := upd_same
  refine hv od _ ⟨d, od, kvs, rfl, e0, fun D hD => ?_⟩
  obtain ⟨hD1, hD2⟩ := lock_none hD
  refine lc_by (g := g) (tt := tt) (te := te) (vs := vs) (σ := σ) (Q := fun v H' => H' d = some (.frz od (.dK kvs)) ∧ Q v (upd H' d (.dK kvs))) walk_items p hD hl (fun H' s => s _ _ e0) (fun i x H1 H2 Q' R' hi sm y h1 h2 => ?_) fun H' s e => ?_
  · obtain ⟨T, a, b, rfl, nT, rfl, ha, hb⟩ := y
    have ha : kvs[i]?.map (fun kv => kV kv.1) = some a := ha
    have hb : kvs[i]?.map Prod.snd = some b := hb
    cases hk : kvs[i]? with
    | none => rw [hk] at ha; exact nomatch ha
    | some kv =>
      rw [hk] at ha hb
      obtain rfl := Option.some.inj ha
      obtain rfl := Option.some.inj hb
      have sT : Same H1 (upd H1 T (.tup [kV kv.1, kv.2])) := same_upd nT
      exact ht i kv.1 kv.2 T od _ Q' R' hk upd_same (sT _ _ (sm _ _ e0)) (fun b u nb eb => sT _ _ (sm _ _ (lock_but _ _ nb eb))) (fun v hv H3 s3 => h1 v hv H3 (sT.trans s3)) fun hn H3 s3 => h2 hn H3 (sT.trans s3)
  · exact ⟨s _ _ e0, q D _ hD1 (unlock_same hd s) (by rw [upd_ne hD2]; exact e)⟩
end
section
variable {J : It} {G : Hp → Prop} {Y : Nat → Hp → V → Hp → Prop} {g : TG} {te tl : TE} {vs : List Nat} {σ : L2.St} {H : Hp} {D d : Addr} {Q : VK} {M : List Str}
/-- each turn lays a pair of a name and a new thing -/
theorem lc_prsG (w : Walk J M.length G Y) (o : Str → HO) (hD : H D = none) (hn : M.length ≤ 10000) (hG : ∀ H', Same H H' → G H')
    (hY : ∀ i H1 x H2, i < M.length → Y i H1 x H2 → Same H1 H2)
    (hs : ∀ i x (H1 H2 : Hp) (Q' : VK) (R' : Hp → Prop), i < M.length → Same H H1 → Y i H1 x H2 → (∀ z t c H3, M[i]? = some z → H2 t = none → H2 c = none → t ≠ c → Same H2 H3 → H3 t = some (.tup [.str z, .ref c]) → H3 c = some (o z) → Q' (.ref t) H3) →
      g x (wipe σ vs) H2 fun τ H3 => wipe τ vs = wipe σ vs ∧ tYes τ H3 fun b H4 => if b = true then te τ H4 Q' else R' H4)
    (q : ∀ H' (ts cs : List Addr), Same H H' → H' D = some (.lst (ts.map V.ref)) → ts.length = M.length → cs.length = M.length → (∀ (k : Nat) t c x, ts[k]? = some t → cs[k]? = some c → M[k]? = some x → H' t = some (.tup [.str x, .ref c]) ∧ H' c = some (o x)) → cs.Nodup → (∀ c ∈ cs, H c = none) → D ∉ cs → Q (.ref D) H') :
    ∃ W : Nat → Nat → Hp → Prop, (∃ m, W 0 m (upd H D (.lst []))) ∧ ∀ i m H, W i m H →
      (J.stop i H ∧ Q (.ref D) H) ∨ (J.go i H ∧ ∃ Nx : Hp → Prop, (∀ H', Nx H' → ∃ m', m' < m ∧ W (i + 1) m' H') ∧ ∀ x H', J.yld i H x H' → g x (wipe σ vs) H' fun σ2 H2 => wipe σ2 vs = wipe σ vs ∧ tYes σ2 H2 fun b H3 =>
        if b = true then te σ2 H3 fun y H4 => ∃ acc, H4 D = some (.lst acc) ∧ acc.length < sizeLine ∧ Nx (upd H4 D (.lst (acc ++ [y]))) else Nx H3) := by
  refine lc_it w (fun i G => Same H G ∧ ∃ ts cs : List Addr, G D = some (.lst (ts.map V.ref)) ∧ ts.length = i ∧ cs.length = i ∧ (∀ (k : Nat) t c x, ts[k]? = some t → cs[k]? = some c → M[k]? = some x → G t = some (.tup [.str x, .ref c]) ∧ G c = some (o x)) ∧ cs.Nodup ∧ (∀ c ∈ cs, H c = none ∧ G c ≠ none) ∧ D ∉ cs)
    ⟨same_upd hD, [], [], upd_same, rfl, rfl, (fun _ _ _ _ z => nomatch z), List.nodup_nil, (fun _ z => nomatch z), fun z => nomatch z⟩ (fun i G _ z => hG G z.1) (fun i x H1 H2 hi ⟨sm, ts, cs, e, l1, l2, all, nd, fr, nD⟩ y => ?_) fun G ⟨sm, ts, cs, e, l1, l2, all, nd, fr, nD⟩ => q G ts cs sm e l1 l2 all nd (fun c hc => (fr c hc).1) nD
  have s12 := hY i H1 x H2 hi y
  refine hs i x H1 H2 _ _ hi sm y fun z t c H3 hz nt nc tc s3 et ec => ?_
  have sm2 := sm.trans s12
  replace e := s12 _ _ e
  replace all : ∀ (k : Nat) t c x, ts[k]? = some t → cs[k]? = some c → M[k]? = some x → H2 t = some (.tup [.str x, .ref c]) ∧ H2 c = some (o x) := fun k t c x h1 h2 h3 => ⟨s12 _ _ (all k t c x h1 h2 h3).1, s12 _ _ (all k t c x h1 h2 h3).2⟩
  replace fr : ∀ c ∈ cs, H c = none ∧ H2 c ≠ none := fun c hc => ⟨(fr c hc).1, fun w => by
    cases h : H1 c with
    | none => exact (fr c hc).2 h
    | some r => rw [s12 _ _ h] at w; exact nomatch w⟩
  have tD : t ≠ D := fun w => by rw [w, e] at nt; exact nomatch nt
  have cD : c ≠ D := fun w => by rw [w, e] at nc; exact nomatch nc
  have ccs : c ∉ cs := fun w => (fr c w).2 nc
  refine ⟨_, s3 _ _ e, by rw [List.length_map, l1]; exact Nat.lt_of_lt_of_le hi (Nat.le_trans hn (by decide)), sameBut (sm2.trans s3) hD, ts ++ [t], cs ++ [c], ?_, by rw [List.length_append, l1]; rfl, by rw [List.length_append, l2]; rfl, fun k u v x hk hv hx => ?_, ?_, fun u hu => ?_, fun w => ?_⟩
  · rw [upd_same, List.map_append]
    rfl
  · have hlt : k < ts.length + 1 := by
      have := (List.getElem?_eq_some_iff.mp hk).1
      rw [List.length_append] at this
      exact this
    by_cases hk2 : k < ts.length
    · rw [List.getElem?_append_left hk2] at hk
      rw [List.getElem?_append_left (by omega)] at hv
      obtain ⟨a1, a2⟩ := all k u v x hk hv hx
      have nu : u ≠ D := fun w => by rw [w, e] at a1; exact nomatch a1
      have nv : v ≠ D := fun w => nD (by rw [← w]; exact List.mem_of_getElem? hv)
      exact ⟨by rw [upd_ne nu]; exact s3 _ _ a1, by rw [upd_ne nv]; exact s3 _ _ a2⟩
    · have e3 : k = i := by omega
      subst e3
      rw [List.getElem?_append_right (by omega), l1, Nat.sub_self] at hk
      rw [List.getElem?_append_right (by omega), l2, Nat.sub_self] at hv
      obtain rfl := Option.some.inj hk
      obtain rfl := Option.some.inj hv
      rw [hz] at hx
      obtain rfl := Option.some.inj hx
      exact ⟨by rw [upd_ne tD]; exact et, by rw [upd_ne cD]; exact ec⟩
  · refine List.nodup_append.mpr ⟨nd, (by simp), fun a ha b hb w => ?_⟩
    rw [List.mem_singleton.mp hb] at w
    exact ccs (by rw [← w]; exact ha)
  · rcases List.mem_append.mp hu with w | w
    · obtain ⟨a1, a2⟩ := fr u w
      refine ⟨a1, ?_⟩
      rw [upd_ne (fun z => nD (by rw [← z]; exact w))]
      cases h : H2 u with
      | none => exact absurd h a2
      | some r => rw [s3 _ _ h]; exact fun z => nomatch z
    · rw [List.mem_singleton.mp w]
      refine ⟨sm2.free nc, ?_⟩
      rw [upd_ne cD, ec]
      exact fun z => nomatch z
  · rcases List.mem_append.mp w with w | w
    · exact nD w
    · exact cD (List.mem_singleton.mp w).symm
/-- over the items of a locked dict by names -/
theorem lcPrsI {f : Str → V} (o : Str → HO) (hl : M.length ≤ 10000) (hd : H d = some (.dK (dicF M f)))
    (hv : ∀ (od : Obj) (QQ : VK), QQ (.ref d) (upd H d (.frz od (.dK (dicF M f)))) → tl σ (upd H d (.frz od (.dK (dicF M f)))) QQ)
    (ht : ∀ (z : Str) (T : Addr) (od : Obj) (H1 : Hp) (Q' : VK) (R' : Hp → Prop), z ∈ M → H1 T = some (.tup [.str z, f z]) → H1 d = some (.frz od (.dK (dicF M f))) → (∀ b u, b ≠ d → H b = some u → H1 b = some u) → (∀ t c H3, H1 t = none → H1 c = none → t ≠ c → Same H1 H3 → H3 t = some (.tup [.str z, .ref c]) → H3 c = some (o z) → Q' (.ref t) H3) →
      g (.ref T) (wipe σ vs) H1 fun τ H3 => wipe τ vs = wipe σ vs ∧ tYes τ H3 fun b H4 => if b = true then te τ H4 Q' else R' H4)
    (q : ∀ D H' (ts cs : List Addr), H D = none → Same H H' → H' D = some (.lst (ts.map V.ref)) → ts.length = M.length → cs.length = M.length → (∀ (k : Nat) t c x, ts[k]? = some t → cs[k]? = some c → M[k]? = some x → H' t = some (.tup [.str x, .ref c]) ∧ H' c = some (o x)) → cs.Nodup → (∀ c ∈ cs, H c = none) → Q (.ref D) H') : tLockE (tLc (iItems tl) g tYes te vs) σ H Q := by
  refine ⟨d, .dK (dicF M f), hd, trivial, fun od => ?_⟩
  have e0 : upd H d (.frz od (.dK (dicF M f))) d = some (.frz od (.dK (dicF M f))) := upd_same
  refine hv od _ ⟨d, od, _, rfl, e0, fun D hD => ?_⟩
  obtain ⟨hD1, hD2⟩ := lock_none hD
  have wl : Walk (Iti d od (dicF M f)) M.length (fun H => H d = some (.frz od (.dK (dicF M f)))) (YPair (fun i => (dicF M f)[i]?.map fun kv => kV kv.1) (fun i => (dicF M f)[i]?.map Prod.snd)) := by
    have w := walk_items (d := d) (o := od) (kvs := dicF M f)
    rwa [dicF_len] at w
  refine lc_prsG (g := g) (te := te) (vs := vs) (σ := σ) (Q := fun v H' => H' d = some (.frz od (.dK (dicF M f))) ∧ Q v (upd H' d (.dK (dicF M f)))) wl o hD hl (fun H' s => s _ _ e0) (fun i H1 x H2 _ y => ?_) (fun i x H1 H2 Q' R' hi sm y h => ?_) fun H' ts cs s e l1 l2 all nd fr nD => ?_
  · obtain ⟨T, a, b, rfl, nT, rfl, ha, hb⟩ := y
    exact same_upd nT
  · obtain ⟨T, a, b, rfl, nT, rfl, ha, hb⟩ := y
    have ha : (M.map fun x => ((Sum.inr x : Key), f x))[i]?.map (fun kv => kV kv.1) = some a := ha
    have hb : (M.map fun x => ((Sum.inr x : Key), f x))[i]?.map Prod.snd = some b := hb
    rw [List.getElem?_map, List.getElem?_eq_getElem hi] at ha hb
    obtain rfl := Option.some.inj ha
    obtain rfl := Option.some.inj hb
    have sT : Same H1 (upd H1 T (.tup [.str M[i], f M[i]])) := same_upd nT
    exact ht M[i] T od _ Q' R' (List.getElem_mem hi) upd_same (sT _ _ (sm _ _ e0)) (fun b u nb eb => sT _ _ (sm _ _ (lock_but _ _ nb eb))) fun t c H3 n1 n2 tc s3 et ec => h _ t c H3 (List.getElem?_eq_getElem hi) n1 n2 tc s3 et ec
  · refine ⟨s _ _ e0, q D _ ts cs hD1 (unlock_same hd s) (by rw [upd_ne hD2]; exact e) l1 l2 (fun k t c x h1 h2 h3 => ?_) nd fun c hc => (lock_none (fr c hc)).1⟩
    obtain ⟨a1, a2⟩ := all k t c x h1 h2 h3
    have nt : t ≠ d := fun z => by rw [z, s _ _ e0] at a1; exact nomatch a1
    exact ⟨by rw [upd_ne nt]; exact a1, by rw [upd_ne (lock_none (fr c (List.mem_of_getElem? h2))).2]; exact a2⟩
end
/-! ## 44. a comprehension over a locked dict by names, some left out as drawn -/
section
variable {K : PySem.W.Frag} {σ : L2.St} {H : Hp} {Q : VK} {j m : Nat} {vs : List Nat} {tt : TT} {te tl : TE} {d bx : Addr} {M : List Str} {f : Str → V}
theorem lcFltK (hb : Box bx m H) (hl : M.length ≤ 1000) (hw : ∀ x, wipe ((wipe σ vs).set j (some x)) vs = wipe σ vs) (hd : H d = some (.dK (dicF M f)))
    (hv : ∀ (od : Obj) (QQ : VK), QQ (.ref d) (upd H d (.frz od (.dK (dicF M f)))) → tl σ (upd H d (.frz od (.dK (dicF M f)))) QQ)
    (hte : ∀ (x : Str) (H1 : Hp) (QQ : VK), QQ (.str x) H1 → te ((wipe σ vs).set j (some (.str x))) H1 QQ)
    (ht : ∀ (x : Str) (k : Nat) (H1 : Hp) (Q' : Bool → Hp → Prop), x ∈ M → k < m + M.length → Box bx k H1 → (∀ b H2, Box bx (k + 1) H2 → But bx H1 H2 → Q' b H2) → tt ((wipe σ vs).set j (some (.str x))) H1 Q')
    (hq : ∀ (D : Addr) (H' : Hp) (ys : List Str), H D = none → But bx H H' → Box bx (m + M.length) H' → H' D = some (.lst (ys.map V.str)) → ys.length ≤ M.length → (∀ y ∈ ys, y ∈ M) → Q (.ref D) H') : tLockE (tLc (iKeys tl) (gName j) tt te vs) σ H Q := by
  refine ⟨d, .dK (dicF M f), hd, trivial, fun od => ?_⟩
  have e0 : upd H d (.frz od (.dK (dicF M f))) d = some (.frz od (.dK (dicF M f))) := upd_same
  have nbd : bx ≠ d := by
    rintro rfl
    obtain ⟨x, y, z, e, _⟩ := hb
    rw [hd] at e
    exact nomatch e
  refine hv od _ ⟨d, od, rfl, .inl ⟨_, e0, fun D hD => ?_⟩⟩
  obtain ⟨hD1, hD2⟩ := lock_none hD
  have hbL : Box bx m (upd H d (.frz od (.dK (dicF M f)))) := by
    obtain ⟨x, y, z, e, r⟩ := hb
    exact ⟨x, y, z, by rw [upd_ne nbd]; exact e, r⟩
  have nD : D ≠ bx := hbL.ne hD
  generalize hHL : upd H d (.frz od (.dK (dicF M f))) = HL at e0 hD hbL ⊢
  refine lc_it (g := gName j) (tt := tt) (te := te) (vs := vs) (σ := σ) (walk_keys (d := d) (o := od) (kvs := dicF M f)) (fun i G => But bx HL G ∧ Box bx (m + i) G ∧ ∃ ys : List Str, G D = some (.lst (ys.map V.str)) ∧ ys.length ≤ i ∧ ∀ y ∈ ys, y ∈ M)
    ⟨.of (same_upd hD), hbL.same (same_upd hD), [], upd_same, Nat.le_refl _, fun _ z => nomatch z⟩ (fun i G hi ⟨bt, _⟩ => bt _ _ nbd.symm e0) (fun i x H1 H2 hi ⟨bt, hB, ys, e, l, hp⟩ y => ?_) fun G ⟨bt, hB, ys, e, l, hp⟩ => ?_
  · obtain ⟨rfl, k, v, hk, rfl⟩ := y
    rw [dicF_len] at hi
    unfold dicF at hk
    rw [List.getElem?_map, List.getElem?_eq_getElem hi] at hk
    obtain ⟨rfl, _⟩ := Prod.mk.inj (Option.some.inj hk)
    refine ⟨hw _, ht M[i] (m + i) _ _ (List.getElem_mem hi) (by omega) hB fun b H3 hB3 b3 => ?_⟩
    have e3 := b3 _ _ nD e
    have bt3 := bt.trans b3
    cases b with
    | false => exact ⟨bt3, hB3, ys, e3, by omega, hp⟩
    | true =>
      rw [if_pos rfl]
      refine hte M[i] H3 _ ⟨_, e3, by rw [List.length_map, sizeLine_eq]; omega, ?_⟩
      refine ⟨fun b o nb eb => by rw [upd_ne (ne_of_none eb hD)]; exact bt3 _ _ nb eb, ?_, ys ++ [M[i]], by rw [upd_same, List.map_append]; rfl, by rw [List.length_append]; exact Nat.succ_le_succ l, fun y hy => ?_⟩
      · obtain ⟨x1, y1, z1, eB, r⟩ := hB3
        exact ⟨x1, y1, z1, by rw [upd_ne nD.symm]; exact eB, r⟩
      · rcases List.mem_append.mp hy with w | w
        · exact hp y w
        · rw [List.mem_singleton.mp w]; exact List.getElem_mem hi
  · rw [dicF_len] at hB l
    refine ⟨bt _ _ nbd.symm e0, hq D _ ys hD1 (unlock_but hd (by rw [hHL]; exact bt)) ?_ (by rw [upd_ne hD2]; exact e) l hp⟩
    obtain ⟨x1, y1, z1, eB, r⟩ := hB
    exact ⟨x1, y1, z1, by rw [upd_ne nbd]; exact eB, r⟩
end
end Bk

namespace Bk
open PySem PySem.Spec PyProof.Rows L2
/-! ## 45. no thing of ours stands where the modules' dict does -/
theorem nsm {X : Cx} {pins : List (Addr × Obj)} {σ : L2.St} {H : Hp} {s : Shared} {o : Obj} (k : X.K.lookup sysModules = some o) (I : Inv X pins σ H s) {a : Addr} {u : HO} (e : H a = some u) : a ≠ sysModules := by
  rintro rfl
  have h := I.mod.kin _ _ k
  rw [(I.bs _ _ h).2] at e
  exact nomatch e
/-- repr of a thing with dicts among lists, wherever these stand -/
theorem call_repr_shz {X : Cx} {j : Nat} (k : ∃ o : Obj, X.K.lookup sysModules = some o) (ga : X.A.guards = some []) (hr : Room j X.A) : CallR X (.builtin "repr") (fun xs H Q => ∃ v z, xs = [v] ∧ ((∀ a u, H a = some u → a ≠ sysModules) → Shq X.K H v z) ∧ Q (.str z) H) := by
  intro pins s σ H xs us Q I r h
  obtain ⟨o, k⟩ := k
  obtain ⟨v, z, e, hz, q⟩ := h
  exact call_repr_shq ga hr pins s σ H xs us Q I r ⟨v, z, e, hz fun a u e => nsm k I e, q⟩
/-! ## 46. != of what is data or plain -/
def rNeS (K : PySem.W.Frag) : R2 := fun x y H Q => rNe x y H Q ∨ rNeD K x y H Q
theorem op_neS {X : Cx} (hu : X.A.units + 64 < cLine) : OpR X (compareOp .NotEq) (rNeS X.K) := OpR.or op_ne (op_neD hu)
/-! ## 47. slices of a list or a tuple -/
def rSlQ (K : PySem.W.Frag) : V → Option Int → Option Int → Hp → VK → Prop := fun x lo hi H Q => rSlL K x lo hi H Q ∨ rSlA K x lo hi H Q
theorem sl_seqA {X : Cx} : SlR X (rSlQ X.K) := SlR.or sl_list sl_tupA
/-! ## 48. a comprehension over a list or a tuple -/
def SqA (K : PySem.W.Frag) (H : Hp) (a : Addr) (xs : List V) : Prop := SqL K H a xs ∨ SqT K H a xs
theorem SqA.same {K : PySem.W.Frag} {H H' : Hp} {a : Addr} {xs : List V} (h : SqA K H a xs) (s : Same H H') : SqA K H' a xs := h.elim (fun z => .inl (Same.seq s z)) fun z => .inr (seqT s z)
section
variable {K : PySem.W.Frag} {σ : L2.St} {H : Hp} {Q : VK} {g : TG} {tt : TT} {te tl : TE} {vs : List Nat} {a : Addr} {xs : List V}
theorem lcQ (p : Nat → Option V) (hs : SqA K H a xs) (hl : xs.length ≤ 10000) (hv : ∀ QQ : VK, QQ (.ref a) H → tl σ H QQ)
    (ht : ∀ i x (H1 : Hp) (Q' : VK) (R' : Hp → Prop), xs[i]? = some x → Same H H1 → (∀ v, p i = some v → ∀ H3, Same H1 H3 → Q' v H3) → (p i = none → ∀ H3, Same H1 H3 → R' H3) →
      g x (wipe σ vs) H1 fun τ H3 => wipe τ vs = wipe σ vs ∧ tt τ H3 fun b H4 => if b = true then te τ H4 Q' else R' H4)
    (q : ∀ D H', H D = none → Same H H' → H' D = some (.lst ((List.range xs.length).filterMap p)) → Q (.ref D) H') : tLc (iSeqA K tl) g tt te vs σ H Q := by
  refine hv _ ⟨a, xs, rfl, ?_⟩
  rcases hs with hs | hs
  · refine .inl ⟨hs, fun D hD => ?_⟩
    exact lc_by (walk_list (xs := xs)) p hD hl (fun H' s => Same.seq s hs) (fun i x H1 H2 Q' R' hi sm y h1 h2 => by
      obtain ⟨rfl, hx⟩ := y
      exact ht i x _ Q' R' hx sm h1 h2) fun H' s e => q D H' hD s e
  · refine .inr ⟨hs, fun D hD => ?_⟩
    exact lc_by (walk_tup (xs := xs)) p hD hl (fun H' s => seqT s hs) (fun i x H1 H2 Q' R' hi sm y h1 h2 => by
      obtain ⟨rfl, hx⟩ := y
      exact ht i x _ Q' R' hx sm h1 h2) fun H' s e => q D H' hD s e
/-- over enumerate of a list or a tuple -/
theorem lcEnumA {ta : TA} (p : Nat → Option V) (hs : SqA K H a xs) (hl : xs.length ≤ 10000) (hv : ∀ QQ : List V → Hp → Prop, QQ [.ref a] H → ta σ H QQ)
    (ht : ∀ i x T (H1 : Hp) (Q' : VK) (R' : Hp → Prop), xs[i]? = some x → Same H H1 → H1 T = some (.tup [.int (i : Nat), x]) → (∀ v, p i = some v → ∀ H3, Same H1 H3 → Q' v H3) → (p i = none → ∀ H3, Same H1 H3 → R' H3) →
      g (.ref T) (wipe σ vs) H1 fun τ H3 => wipe τ vs = wipe σ vs ∧ tt τ H3 fun b H4 => if b = true then te τ H4 Q' else R' H4)
    (q : ∀ D H', H D = none → Same H H' → H' D = some (.lst ((List.range xs.length).filterMap p)) → Q (.ref D) H') : tLc (iEnumA K ta) g tt te vs σ H Q := by
  refine hv _ ⟨a, xs, rfl, ?_⟩
  rcases hs with hs | hs
  · refine .inl ⟨hs, fun D hD => ?_⟩
    refine lc_by (walk_enum (xs := xs)) p hD hl (fun H' s => Same.seq s hs) (fun i x H1 H2 Q' R' hi sm y h1 h2 => ?_) fun H' s e => q D H' hD s e
    obtain ⟨T, b, c, rfl, nT, rfl, hb, hc⟩ := y
    obtain rfl := Option.some.inj hb
    have sT : Same H1 (upd H1 T (.tup [.int (i : Nat), c])) := same_upd nT
    exact ht i c T _ Q' R' hc (sm.trans sT) upd_same (fun v hv H3 s3 => h1 v hv H3 (sT.trans s3)) fun hn H3 s3 => h2 hn H3 (sT.trans s3)
  · refine .inr ⟨hs, fun D hD => ?_⟩
    refine lc_by (walk_enumT (xs := xs)) p hD hl (fun H' s => seqT s hs) (fun i x H1 H2 Q' R' hi sm y h1 h2 => ?_) fun H' s e => q D H' hD s e
    obtain ⟨T, b, c, rfl, nT, rfl, hb, hc⟩ := y
    obtain rfl := Option.some.inj hb
    have sT : Same H1 (upd H1 T (.tup [.int (i : Nat), c])) := same_upd nT
    exact ht i c T _ Q' R' hc (sm.trans sT) upd_same (fun v hv H3 s3 => h1 v hv H3 (sT.trans s3)) fun hn H3 s3 => h2 hn H3 (sT.trans s3)
end
end Bk

namespace Bk
open PySem PySem.Spec PyProof.Rows L2 HT
/-! ## 49. xs[i:j] = ys, j beyond the end too -/
section
variable {prog : Program} {w : World} {A : Around} {E : Value → Shared → Prop} {s : Shared}
theorem cut_bounds {i j m : Nat} (h : i ≤ j) (l : i ≤ m) : sliceBounds (some (i : Int)) (some (j : Int)) none m = ((i : Int), ((min j m : Nat) : Int), 1) := by
  have a : ¬ (i : Int) < 0 := by omega
  have b : ¬ (j : Int) < 0 := by omega
  have c : max 0 (min (i : Int) m) = i := by omega
  have d : max 0 (min (j : Int) m) = ((min j m : Nat) : Int) := by omega
  show (_, _, _) = (_, _, _)
  simp [a, b]
  exact ⟨c, d⟩
theorem store_cut {p q z : Addr} {xs ys : Array Value} {m m2 : Nat} {u v : Value} {i j : Nat} {Q : Unit → Shared → Prop}
    (ep : s.heap.get? p = some { cls := .type "list", data := .seq xs m }) (eq : s.heap.get? q = some { cls := .type "list", data := .seq ys m2 }) (npq : p ≠ q) (hz : s.heap.IsSliceOf z u v .none)
    (pi : IsPart u (some (i : Int))) (pj : IsPart v (some (j : Int))) (ij : i ≤ j) (im : i ≤ xs.size) (sz : xs.size + ys.size ≤ sizeLine)
    (k : Q () { s with heap := s.heap.update p (Obj.mapSeq fun zs => zs.extract 0 i ++ ys ++ zs.extract (min j xs.size) zs.size) }) : wpAny (model prog w) A (setItem (.ref p) (.ref z) (.ref q)) Q E s := by
  have lp : s.heap.IsList p xs := PySem.IsL.isList ep
  have lq : s.heap.IsList q ys := PySem.IsL.isList eq
  obtain ⟨oz, h1, h2, h3⟩ := id hz
  have tz : s.TypeIs (.ref z) "slice" := ⟨oz, h1, h2⟩
  have ns : Builtin.List.listSameRef (.ref p) (.ref q) = false := beq_eq_false_iff_ne.mpr npq
  have n0 : ¬ ((rawPart none == rawInt 0) = true) := fun h => Bool.false_ne_true h
  have mx : (max (i : Int) ((min j xs.size : Nat) : Int)).toNat = min j xs.size := by omega
  have zz : ((fun zs : Array Value => zs.extract 0 i ++ ys ++ zs.extract (min j xs.size) zs.size) xs).size ≤ sizeLine + 1 := by
    simp only [Array.size_append, Array.size_extract]; omega
  unfold setItem
  (try with_reducible refine wpAny_holding ?_); (first | refine wpAny_bind (wpAny_pure ?_) | skip)
  refine wpAny_bind (wpAny_sequenceKey lp.typeIs (by decide) ?_); refine wpAny_bind (wpAny_callSpecial?_slot (name := Str.ofString "__setitem__") lp.typeIs slot_list_setitem (wpAny_call_entry slot_list_setitem lp.typeIs entry_list_setitem ?_ (args_list_setitem _ _ _)))
  show wpAny _ _ (Builtin.List.listSubscript? (.ref z) >>= _) _ _ s; refine wpAny_bind ?_; unfold Builtin.List.listSubscript?
  refine wpAny_bind (wpAny_specialOf tz slice_no_index ?_); simp only [Option.isNone_none, if_true]; refine wpAny_pure ?_
  show wpAny _ _ (typeOf (.ref z) >>= _) _ _ s; refine wpAny_bind (wpAny_typeOf tz ?_)
  (first | rw [if_neg (by decide)] | refine PySem.W.KFB.if_not (by decide) ?_); rw [listSliceParts_eq]
  refine wpAny_bind (wpAny_bind (wpAny_field h1 h3 (x := .none) rfl (wpAny_bind (wpAny_listPart .none ?_)))); rw [if_neg n0]
  refine wpAny_bind (wpAny_field h1 h3 (x := u) rfl (wpAny_bind (wpAny_listPart pi ?_))); refine wpAny_bind (wpAny_field h1 h3 (x := v) rfl (wpAny_bind (wpAny_listPart pj (wpAny_pure ?_))))
  (first | simp only [ns, Bool.false_eq_true, if_false] | refine PySem.W.KFB.if_not ns ?_ | (dsimp only; rw [if_neg (by rw [ns]; exact Bool.false_ne_true)]))
  refine wpAny_bind (m := Builtin.List.listAllItems (.ref q) "must assign iterable to extended slice") ?_; unfold Builtin.List.listAllItems; refine wpAny_bind (wpAny_typeOf lq.typeIs ?_)
  (first | refine PySem.W.KFB.if_so (by decide) ?_ | rw [if_pos (by decide)] | simp only [beq_self_eq_true, Bool.true_or, if_true]); unfold Builtin.List.listItems
  refine wpAny_bind (wpAny_seqItems eq rfl (wpAny_pure ?_)); refine wpAny_bind (wpAny_bind (wpAny_seqItems ep rfl (wpAny_pure ?_)))
  refine wpAny_bind (wpAny_of_eq ((sliceIndices_raw (some (i : Int)) (some (j : Int)) none xs.size (by simp)).trans (congrArg (pure : Int × Int × Int → Sem (Int × Int × Int)) (cut_bounds ij im))) ?_)
  show wpAny _ _ (if ((1 : Int) == 1) = true then _ else _) _ _ s; rw [if_pos (by decide)]; refine wpAny_bind (wpAny_rule ?_)
  (first | simp only [notLongL sz, Bool.false_eq_true, if_false] | refine PySem.W.KFB.if_not (notLongL sz) ?_); (first | refine wpAny_bind (wpAny_pure ?_) | skip)
  show wpAny _ _ (updateSeq p (fun zs => zs.extract 0 ((i : Int)).toNat ++ ys ++ zs.extract (max (i : Int) ((min j xs.size : Nat) : Int)).toNat zs.size) >>= _) _ _ s; rw [mx, Int.toNat_natCast]
  refine wpAny_bind (wpAny_updateSeq (hz := Nat.le_trans (Nat.le_add_right _ _) sz) (_hz' := zz) ep rfl ?_); refine wpAny_bind (wpAny_letGo ?_)
  (first | exact wpAny_bind (wpAny_pure (wpAny_pure ⟨.none, rfl, wpAny_pure k⟩)) | exact wpAny_pure ⟨.none, rfl, wpAny_pure k⟩)
end
section
variable {X : Cx}
theorem put_cut {pins : List (Addr × Obj)} {s : Shared} {σ : L2.St} {H : Hp} {p q z : Addr} {xs ys : List V} {i j : Nat} {u v : Value} {Q : Unit → Shared → Prop} (I : Inv X pins σ H s)
    (ep : H p = some (.lst xs)) (eq : H q = some (.lst ys)) (npq : p ≠ q) (hz : s.heap.IsSliceOf z u v .none) (pu : IsPart u (some (i : Int))) (pv : IsPart v (some (j : Int))) (ij : i ≤ j) (im : i ≤ xs.length) (sz : xs.length + ys.length ≤ sizeLine)
    (k : ∀ s', Inv X pins σ (upd H p (.lst (xs.take i ++ ys ++ xs.drop j))) s' → Q () s') : wpAny (model X.prog X.w) X.A (setItem (.ref p) (.ref z) (.ref q)) Q X.xe s := by
  obtain ⟨_, us, n, r, l1, e1⟩ := I.lstM ep
  obtain ⟨_, vs, n2, r2, l2, e2⟩ := I.lstM eq
  have len := r.length
  have len2 := r2.length
  refine store_cut (i := i) (j := j) e1 e2 npq hz pu pv ij (by rw [List.size_toArray, ← len]; exact im) (by rw [List.size_toArray, List.size_toArray, ← len, ← len2]; exact sz) (k _ ?_)
  refine I.lset (its' := us.take i ++ vs ++ us.drop (min j us.length)) (t' := s.toks) ep e1 (by rw [List.size_toArray]; exact splice_eq us vs i (min j us.length)) ?_ ?_
  · have d : xs.drop j = xs.drop (min j us.length) := by
      rw [← len]
      by_cases h : j ≤ xs.length
      · rw [Nat.min_eq_left h]
      · rw [Nat.min_eq_right (by omega), List.drop_of_length_le (by omega), List.drop_of_length_le (Nat.le_refl _)]
    rw [d]
    exact Vals.append (Vals.append (r.take _) r2) (r.drop _)
  · rw [List.length_append, List.length_append, List.length_take, List.length_drop]
    omega
/-- xs[i:j] = .. as a target -/
def gCut (to : TE) (tl th : TO) : TG := fun v σ H Q => to σ H fun o H1 => tl σ H1 fun a H2 => th σ H2 fun c H3 => ∃ (p q : Addr) (xs ys : List V) (i j : Nat), o = .ref p ∧ v = .ref q ∧ a = some (i : Int) ∧ c = some (j : Int) ∧ H3 p = some (.lst xs) ∧ H3 q = some (.lst ys) ∧ p ≠ q ∧ i ≤ j ∧ i ≤ xs.length ∧ xs.length + ys.length ≤ sizeLine ∧ Q σ (upd H3 p (.lst (xs.take i ++ ys ++ xs.drop j)))
theorem pg_cut {o : Expr} {lo hi : Option Expr} {to : TE} {tl th : TO} {pos p2 : Pos} (ho : PE X o to) (hl : PO X lo tl) (hh : PO X hi th)
    (ha : ∀ v, assign (.Subscript o (.Slice lo hi none p2) pos) X.env v = (do
      let ov ← holding [v] (eval o X.env)
      let iv ← holding [v, ov] (eval (.Slice lo hi none p2) X.env)
      standAt pos
      holding [v, ov, iv] (setItem ov iv v)
      release [iv, v, ov] []) := by intro _; rfl) : PG X (.Subscript o (.Slice lo hi none p2) pos) (gCut to tl th) := by
  refine ⟨fun pins s σ H v u Q I r h => ?_⟩
  rw [ha]
  refine wpAny_bind (wpAny_holding (thn (ho.run pins s σ H _ I h) fun ov s1 ⟨x, H1, I1, r1, q1⟩ => ?_))
  refine wpAny_bind (wpAny_holding ?_)
  refine wpAny_Slice (thn (hl.run pins s1 σ H1 _ I1 q1) fun vl s2 ⟨l, H2, I2, pl, q2⟩ => thn (hh.run pins s2 σ H2 _ I2 q2) fun vu s3 ⟨c, H3, I3, pu, q3⟩ => ?_)
  rw [evalPart_none]
  refine wpAny_pure ?_
  have I4 : Inv X pins σ H3 { s3 with heap := s3.heap.push { cls := .type "slice", data := .fields #[vl, vu, .none] } } := I3.kept (t' := s3.toks) fun b ob q => Heap.get?_push_of_some _ q
  obtain ⟨p, q, xs, ys, i, j, rfl, rfl, rfl, rfl, ep, eq, npq, ij, im, sz, fin⟩ := q3
  cases (show ov = Value.ref p from r1)
  cases (show u = Value.ref q from r)
  refine wpAny_bind (wpAny_standAt (wpAny_bind (wpAny_holding (put_cut I4 ep eq npq (Heap.IsSliceOf.new ..) pl pu ij im sz fun s' I5 => ?_))))
  exact wpAny_release ⟨σ, _, I5, fin⟩
end
end Bk

namespace Bk
open PySem PySem.Spec PyProof.Rows L2
/-! ## 50. the text of a list whose things have dicts among them, wherever lists stand -/
inductive EachQ (K : PySem.W.Frag) (H : Hp) : List V → List PyData → Prop
  | nil : EachQ K H [] []
  | cons {b : Bool} {v : V} {vs : List V} {d : PyData} {ds : List PyData} : Dq b K H v d → EachQ K H vs ds → EachQ K H (v :: vs) (d :: ds)
def ShL (K : PySem.W.Frag) (H : Hp) (v : V) (z : Str) : Prop := ∃ p vs ds, v = .ref p ∧ vs ≠ [] ∧ SqL K H p vs ∧ EachQ K H vs ds ∧ (PyData.list ds).showable = true ∧ (PyData.list ds).shown.length ≤ sizeLine ∧ (PyData.list ds).depth ≤ 60 ∧ z = (PyData.list ds).shown
theorem shl_of {K : PySem.W.Frag} {H : Hp} {p : Addr} {vs : List V} {ds : List PyData} (hl : SqL K H p vs) (nv : vs ≠ []) (he : EachQ K H vs ds) (s : smQ (PyData.list ds) = true) (l : (PyData.list ds).bulk ≤ 390000) (e : (PyData.list ds).depth ≤ 60) : ShL K H (.ref p) (PyData.list ds).shown := by
  obtain ⟨h1, h2⟩ := smQ_ok _ s
  have h3 := PyData.shown_le_bulk 40 (by decide) _ h2
  exact ⟨p, vs, ds, rfl, nv, hl, he, h1, by rw [sizeLine_eq]; omega, e, rfl⟩
section
variable {X : Cx} {pins : List (Addr × Obj)} {σ : L2.St} {H : Hp} {s : Shared}
theorem each_reads (I : Inv X pins σ H s) : ∀ {ds : List PyData} {vs : List V} {us : List Value}, EachQ X.K H vs ds → Vals vs us → PyData.showableAll ds = true → (∀ t ∈ PyData.shownAll ds, t.length ≤ sizeLine) →
    ∃ as bs, ReadsAll s.heap us ds as ∧ ReadAtMost s.heap (PyData.depthAll ds) bs ∧ ReprAllK X.prog X.w bs s.heap (PyData.depthAll ds) us (PyData.shownAll ds)
  | _, _, _, .nil, r, _, _ => by
    cases r
    exact ⟨_, [], ReadsAll.nil, (fun _ h => nomatch h), by simp only [PyData.shownAll]; exact .nil⟩
  | d :: ds, _, _, .cons (b := b) h1 h2, r, hs, hz => by
    cases r with
    | cons r1 r2 =>
      obtain ⟨as, q1, n1⟩ := Dq.reads I h1 r1
      obtain ⟨g1, g2⟩ := Bool.and_eq_true_iff.mp (show (d.showable && PyData.showableAll ds) = true by simpa only [PyData.showableAll] using hs)
      have z1 : d.shown.length ≤ sizeLine := hz _ (by simp only [PyData.shownAll]; exact List.mem_cons_self ..)
      have hsm : d.hasDict = true → sysModules ∉ as := fun hh => by
        cases b with
        | true => exact n1 rfl
        | false => rw [dq_flat d _ h1] at hh; exact nomatch hh
      obtain ⟨b1, m1, k1⟩ := ReprK.of_reads (prog := X.prog) (w := X.w) q1 g1 hsm z1
      obtain ⟨as2, b2, q2, m2, k2⟩ := each_reads I h2 r2 g2 fun t ht => hz t (by simp only [PyData.shownAll]; exact List.mem_cons_of_mem _ ht)
      have l1 : d.depth ≤ PyData.depthAll (d :: ds) := by simp only [PyData.depthAll]; omega
      have l2 : PyData.depthAll ds ≤ PyData.depthAll (d :: ds) := by simp only [PyData.depthAll]; omega
      refine ⟨_, b1 ++ b2, ReadsAll.cons q1 q2, (m1.mono l1).append (m2.mono l2), ?_⟩
      simp only [PyData.shownAll]
      exact .cons ((k1.more fun c hc => List.mem_append_left _ hc).level_le l1) (k2.more_le (fun c hc => List.mem_append_right _ hc) l2)
theorem call_repr_shl {j : Nat} (ga : X.A.guards = some []) (hr : Room j X.A) : CallR X (.builtin "repr") (fun xs H Q => ∃ v z, xs = [v] ∧ ShL X.K H v z ∧ Q (.str z) H) := by
  intro pins s σ H xs us Q I r h
  obtain ⟨v, z, rfl, ⟨p, vs, ds, rfl, nv, hl, he, h1, h2, h3, rfl⟩, q⟩ := h
  obtain ⟨u, rfl, rv⟩ := vals1 r
  obtain rfl : u = Value.ref p := rv
  have hu := hr.units
  have hz : (listText (PyData.shownAll ds)).length ≤ sizeLine := by simpa only [PyData.shown] using h2
  have fin : ∀ h' u tk, (∀ b o, s.heap.get? b = some o → h'.get? b = some o) → EP X pins σ Q (.str (PyData.list ds).shown u) { s with heap := h', toks := tk } := fun h' u tk hk => ⟨.str _, H, I.kept hk, ⟨_, rfl⟩, q⟩
  simp only [PyData.depth] at h3
  obtain ⟨its, rv, ⟨o, n, ho, hc, _, hd⟩, _⟩ := I.list hl
  obtain ⟨as, bs, qr, qm, qk⟩ := each_reads I he rv (by simpa only [PyData.showable] using h1) fun t ht => Nat.le_trans (listText_mem_le ht) hz
  have na : p ∉ bs := not_mem_of_deeper (.list ho hc hd qr) (by simp only [PyData.depth]; omega) qm
  cases its with
  | nil =>
    cases rv
    exact absurd rfl nv
  | cons y its =>
    refine call_repr_slot (T := "list") (by omega) ⟨o, ho, hc⟩ PySem.F.slot_list_repr.toG ?_
    refine call_list_reprK ho hc hd na (by simpa using qk.length_eq) (fun i y e => qk.item i y (by simpa using e)) (g := []) ga (fun b _ => Clear.nil b) (by show X.A.units + 1 + _ < cLine; omega) (fun _ _ e => e) (fun h' u tk hk => ⟨_, _, rfl, ?_⟩) hz
    have f := fin h' u tk hk
    simp only [PyData.shown] at f
    exact f
theorem call_repr_any {j : Nat} (ga : X.A.guards = some []) (hr : Room j X.A) : CallR X (.builtin "repr") (fun xs H Q => ∃ v z, xs = [v] ∧ (Shq X.K H v z ∨ ShL X.K H v z) ∧ Q (.str z) H) := by
  intro pins s σ H xs us Q I r h
  obtain ⟨v, z, e, hz | hz, q⟩ := h
  · exact call_repr_shq ga hr pins s σ H xs us Q I r ⟨v, z, e, hz, q⟩
  · exact call_repr_shl ga hr pins s σ H xs us Q I r ⟨v, z, e, hz, q⟩
end
end Bk

namespace Bk
open PySem PySem.Spec PyProof.Rows L2
/-! ## 51. a, b = a list, in a comprehension; a def that keeps two words -/
theorem pg_lstK {X : Cx} {K : PySem.W.Frag} {es : List Expr} {k : Nat} {t : TGs} {n : Nat} {pos : Pos} (e : X.K = K) (hc : X.calm = true) (h : PGs X es t) (hn : (assignEach es X.env).length = n := by rfl) (hst : (assignEach es X.env).findIdx? (·.1) = none := by rfl) :
    PG X (.Tuple es k pos) (gLst K n t) := by
  subst e
  exact pg_lst hc h hn hst
theorem _root_.L2.FnOk.or {P : Program} {w : World} {K : PySem.W.Frag} {mg : Str → Option Value} {base : Heap} {CX : CXT} {k : Nat} {f : Addr} {fd : FuncData} {ps : List Str} {sp sq : Sp} (F : FnOk P w K mg base CX k f fd ps sp) (G : FnOk P w K mg base CX k f fd ps sq) :
    FnOk P w K mg base CX k f fd ps (fun vs H Q E => sp vs H Q E ∨ sq vs H Q E) :=
  ⟨fun vs H Q E h => h.elim (F.len vs H Q E) (G.len vs H Q E), fun A outer s H args us vs Q E hr he hb hv hs => hs.elim (F.run A outer s H args us vs Q E hr he hb hv) (G.run A outer s H args us vs Q E hr he hb hv)⟩
end Bk

namespace Bk
open PySem PySem.Spec PyProof.Rows L2
/-! ## 52. texts in parts and together -/
theorem fold_list (sep : Str) : ∀ (rest : List Str) (a : Array Nat), (rest.foldl (fun (acc : Array Nat) (p : Str) => acc ++ sep.cps ++ p.cps) a).toList = a.toList ++ rest.flatMap fun p => sep.cps.toList ++ p.cps.toList
  | [], a => by simp
  | p :: r, a => by
    rw [List.foldl_cons, fold_list sep r]
    simp only [Array.toList_append, List.flatMap_cons, List.append_assoc]
theorem join_list (sep x : Str) (rest : List Str) : (Txt.join sep (x :: rest)).cps.toList = x.cps.toList ++ rest.flatMap fun p => sep.cps.toList ++ p.cps.toList := by
  show (Builtin.Str.glued sep (x :: rest)).cps.toList = _
  unfold Builtin.Str.glued
  exact fold_list sep rest x.cps
theorem str_len (z : Str) : z.length = z.cps.toList.length := (Array.length_toList).symm
theorem part_in {sep y : Str} {ys : List Str} (h : y ∈ ys) {c : Nat} (hc : c ∈ y.cps.toList) : c ∈ (Txt.join sep ys).cps.toList := by
  cases ys with
  | nil => exact nomatch h
  | cons x r =>
    rw [join_list]
    rcases List.mem_cons.mp h with rfl | h
    · exact List.mem_append_left _ hc
    · exact List.mem_append_right _ (List.mem_flatMap.mpr ⟨y, h, List.mem_append_right _ hc⟩)
theorem join_in {sep : Str} {ys : List Str} {c : Nat} (h : c ∈ (Txt.join sep ys).cps.toList) : c ∈ sep.cps.toList ∨ ∃ y ∈ ys, c ∈ y.cps.toList := by
  cases ys with
  | nil => exact nomatch h
  | cons x r =>
    rw [join_list] at h
    rcases List.mem_append.mp h with h | h
    · exact .inr ⟨x, List.mem_cons_self, h⟩
    · obtain ⟨p, hp, h⟩ := List.mem_flatMap.mp h
      rcases List.mem_append.mp h with h | h
      · exact .inl h
      · exact .inr ⟨p, List.mem_cons_of_mem _ hp, h⟩
theorem rest_len (sep : Str) : ∀ rest : List Str, (rest.flatMap fun p => sep.cps.toList ++ p.cps.toList).length = (rest.map (·.length)).sum + rest.length * sep.length
  | [] => by simp
  | p :: r => by
    have h := rest_len sep r
    simp only [List.flatMap_cons, List.length_append, h, List.map_cons, List.sum_cons, List.length_cons, Nat.add_mul, Nat.one_mul, str_len p, str_len sep]
    omega
theorem join_len (sep : Str) {ys : List Str} (h : ys ≠ []) : (Txt.join sep ys).length + sep.length = (ys.map (·.length)).sum + ys.length * sep.length := by
  cases ys with
  | nil => exact absurd rfl h
  | cons x r =>
    rw [str_len (Txt.join sep (x :: r)), join_list, List.length_append, rest_len]
    simp only [List.map_cons, List.sum_cons, List.length_cons, Nat.add_mul, Nat.one_mul, str_len x]
    omega
theorem split_ne (x y : Str) : Txt.split x y ≠ [] := by
  unfold Txt.split
  split
  · exact fun z => nomatch z
  · split
    · exact fun z => nomatch z
    · exact fun z => by
        have h := length_partsBetween x (Builtin.Str.occurrences x y 0 x.length (x.length + 1)) y.length
        rw [z] at h
        exact nomatch h
theorem split_join (x y : Str) : Txt.join y (Txt.split x y) = x := by
  have one : Txt.join y [x] = x := rfl
  unfold Txt.split
  split
  · exact one
  · split
    · exact one
    · exact StrLaws.glued_between_self x y (x.length + 1)
theorem split_count (x y : Str) : (Txt.split x y).length ≤ x.length + 2 := by
  unfold Txt.split
  split
  · exact Nat.le_add_left 1 (x.length + 1)
  · split
    · exact Nat.le_add_left 1 (x.length + 1)
    · rw [length_partsBetween]
      have := StrLaws.occ_length_le x y 0 x.length (x.length + 1)
      omega
theorem split_sum (x y : Str) : ((Txt.split x y).map (·.length)).sum + (Txt.split x y).length * y.length = x.length + y.length := by
  have h := join_len y (split_ne x y)
  rw [split_join] at h
  omega
theorem mem_le_sum : ∀ {ys : List Str} {y : Str}, y ∈ ys → y.length ≤ (ys.map (·.length)).sum
  | x :: r, y, h => by
    rw [List.map_cons, List.sum_cons]
    rcases List.mem_cons.mp h with rfl | h
    · omega
    · have := mem_le_sum h
      omega
theorem split_part {x y z : Str} (h : z ∈ Txt.split x y) : z.length ≤ x.length + y.length := by
  have h1 := mem_le_sum h
  have h2 := split_sum x y
  omega
theorem split_in {x y z : Str} (h : z ∈ Txt.split x y) {c : Nat} (hc : c ∈ z.cps.toList) : c ∈ x.cps.toList := by
  have w := part_in (sep := y) h hc
  rwa [split_join] at w
/-- signs that repr can tell shortly -/
def okS (z : Str) : Prop := ∀ c ∈ z.cps.toList, c < 1114112
theorem okS_sm {z : Str} (h : okS z) : smQ (.str z) = true := by
  simp only [smQ, List.all_eq_true, decide_eq_true_eq]
  exact fun c hc => Nat.lt_trans (h c hc) (by decide)
theorem okS_str {z : Str} (h : okS z) : PyData.strOk z = true := by
  unfold PyData.strOk
  rw [← Array.all_toList]
  exact List.all_eq_true.mpr fun c hc => decide_eq_true (h c hc)
theorem eqv_strsA : ∀ l m : List Str, PyData.eqvAll (l.map PyData.str) (m.map PyData.str) = decide (l = m)
  | [], [] => rfl
  | [], _ :: _ => rfl
  | _ :: _, [] => rfl
  | a :: l, b :: m => by
    simp only [List.map_cons, PyData.eqvAll, PyData.eqv, eqv_strsA l m]
    by_cases h : a = b
    · subst h
      by_cases g : l = m
      · subst g; simp
      · rw [decide_eq_false g, decide_eq_false fun z : a :: l = a :: m => g (List.cons.inj z).2, Bool.and_false]
    · rw [show (a == b) = false from beq_false_of_ne h, Bool.false_and, decide_eq_false fun z : a :: l = b :: m => h (List.cons.inj z).1]
theorem eqv_strs (l m : List Str) : PyData.eqv (strD l) (strD m) = decide (l = m) := by
  unfold strD
  simp only [PyData.eqv]
  exact eqv_strsA l m
theorem cut2 (xs : List V) : cutV xs (some 2) none = xs.drop 2 := by
  match xs with
  | [] => rfl
  | [_] => rfl
  | a :: b :: r => exact cut_from (m := 2) (by simp)
theorem okS_app {x y : Str} (hx : okS x) (hy : okS y) : okS (x ++ y) := fun c hc => by
  have e : (x ++ y).cps.toList = x.cps.toList ++ y.cps.toList := by
    show (x.cps ++ y.cps).toList = _
    exact Array.toList_append
  rw [e] at hc
  exact (List.mem_append.mp hc).elim (hx c) (hy c)
theorem okS_cut {z : Str} {lo hi : Option Int} (h : okS z) : okS (cutS z lo hi) := fun c hc => by
  unfold cutS at hc
  exact h c (List.mem_of_mem_drop (List.mem_of_mem_take hc))
theorem okS_join {sep : Str} {ys : List Str} (hs : okS sep) (h : ∀ y ∈ ys, okS y) : okS (Txt.join sep ys) := fun c hc => by
  rcases join_in hc with z | ⟨y, hy, z⟩
  · exact hs c z
  · exact h y hy c z
theorem okS_split {x y z : Str} (h : okS x) (hz : z ∈ Txt.split x y) : okS z := fun c hc => h c (split_in hz hc)
/-- a text so many times -/
def mulS (z : Str) (n : Nat) : Str := ⟨(List.replicate n z.cps).foldl (fun x y => x ++ y) #[]⟩
theorem mul_list (z : Array Nat) : ∀ (n : Nat) (a : Array Nat), ((List.replicate n z).foldl (fun x y => x ++ y) a).toList = a.toList ++ (List.replicate n z.toList).flatten
  | 0, a => by simp
  | n + 1, a => by
    rw [List.replicate_succ, List.foldl_cons, mul_list z n]
    simp only [Array.toList_append, List.replicate_succ, List.flatten_cons, List.append_assoc]
theorem mulS_len {z : Str} {n : Nat} : (mulS z n).length = n * z.length := by
  rw [str_len, str_len z]
  show ((List.replicate n z.cps).foldl (fun x y => x ++ y) #[]).toList.length = _
  rw [mul_list, List.length_append, List.length_flatten]
  simp
theorem okS_mul {z : Str} {n : Nat} (h : okS z) : okS (mulS z n) := fun c hc => by
  have hc : c ∈ ((List.replicate n z.cps).foldl (fun x y => x ++ y) #[]).toList := hc
  rw [mul_list] at hc
  rcases List.mem_append.mp hc with w | w
  · exact nomatch w
  · obtain ⟨l, hl, w⟩ := List.mem_flatten.mp w
    rw [(List.mem_replicate.mp hl).2] at w
    exact h c w
theorem mulS_one {z : Str} : mulS z 1 = z := by
  have h : (mulS z 1).cps.toList = z.cps.toList := by
    show ((List.replicate 1 z.cps).foldl (fun x y => x ++ y) #[]).toList = _
    rw [mul_list]
    simp
  obtain ⟨a⟩ := z
  show (⟨_⟩ : Str) = _
  exact congrArg Str.mk (Array.toList_inj.mp h)
theorem mulS_nil {z : Str} {n : Nat} (h : z.length = 0) : mulS z n = z := by
  have h0 : z.cps.toList = [] := List.eq_nil_of_length_eq_zero (by rw [← str_len]; exact h)
  have h : (mulS z n).cps.toList = z.cps.toList := by
    show ((List.replicate n z.cps).foldl (fun x y => x ++ y) #[]).toList = _
    rw [mul_list, h0]
    simp
  obtain ⟨a⟩ := z
  show (⟨_⟩ : Str) = _
  exact congrArg Str.mk (Array.toList_inj.mp h)
theorem op_mulS {X : Cx} : OpR X (binaryOp .Mult) (fun x y H Q => ∃ (z : Str) (n : Nat), x = .str z ∧ y = .int n ∧ n ≤ 100000 ∧ z.length ≤ 100 ∧ Q (.str (mulS z n)) H) := by
  intro pins s σ H x y v u Q I rx ry h
  obtain ⟨z, n, rfl, rfl, hn, hz, q⟩ := h
  obtain ⟨t, rfl⟩ := rx
  obtain ⟨t2, rfl⟩ := ry
  have hz' : z.length * n ≤ 10000000 := Nat.le_trans (Nat.mul_le_mul hz hn) (by decide)
  refine P.mul_str (by simp only [Bool.or_eq_false_iff, decide_eq_false_iff_not]; omega) (fun h1 _ => ?_) (fun h1 _ => ?_) ?_
  · have h2 : (0 : Int) < n := by omega
    have h3 : (92233720368547 : Int) ≤ (2 ^ 63 - 1) / n := (Int.le_ediv_iff_mul_le h2).mpr (by omega)
    omega
  · unfold Builtin.Str.tooLong
    rw [Int.toNat_natCast, sizeLine_eq]
    exact decide_eq_false (by omega)
  · by_cases h0 : (n : Int) < 1
    · rw [if_pos h0]
      obtain rfl : n = 0 := by omega
      exact ⟨by decide, V.str (mulS z 0), H, I.tok _, ⟨_, rfl⟩, q⟩
    · rw [if_neg h0]
      by_cases h1 : ((n : Int) == 1 || z.length == 0) = true
      · rw [if_pos h1]
        have e : mulS z n = z := by
          rw [Bool.or_eq_true] at h1
          rcases h1 with h1 | h1
          · have : (n : Int) = 1 := by simpa using h1
            obtain rfl : n = 1 := by omega
            exact mulS_one
          · exact mulS_nil (by simpa using h1)
        rw [e] at q
        exact ⟨.str z, H, I, ⟨_, rfl⟩, q⟩
      · rw [if_neg h1, Int.toNat_natCast]
        refine ⟨?_, V.str (mulS z n), H, I.tok _, ⟨_, rfl⟩, q⟩
        show (mulS z n).length ≤ _
        rw [mulS_len, sizeLine_eq, Nat.mul_comm]
        omega
/-! ## 53. enumerate(list, start=0) -/
def iEnumK (K : PySem.W.Frag) (ta tk : TA) : TI := fun σ H R => ta σ H fun vs H1 => tk σ H1 fun zs H2 => ∃ a xs, vs = [.ref a] ∧ zs = [.int 0] ∧ SqL K H2 a xs ∧ R (Ite K a) H2
section
variable {X : Cx} {e e2 : Expr} {ta tk : TA} {p pos tpos : Pos} {elts : List Expr} {kk : Nat} {kws : List Keyword}
theorem pi_enumK (hg : Gl X "enumerate") (hm : X.mg "enumerate" = none) (ha : PA X [e] ta) (hk : PK X kws tk)
    (hall : (backToKw pos (keywordEach kws X.env)).all (·.1.isSome) = true := by rfl) (hks : (backToKw pos (keywordEach kws X.env)).filterMap (·.1) = ([("start" : Str)] : List Str) := by rfl)
    (hpl : ((backTo pos (starEach [e] X.env)).any (·.1) || (backToKw pos (keywordEach kws X.env)).any (·.1.isNone)) = false := by rfl) (hs : starEach [e] X.env = [(false, eval e X.env)] := by rfl) :
    PI X (.Tuple elts kk tpos) (.Call (.Name "enumerate" p) [e] kws pos) (iEnumK X.K ta tk) := by
  refine ⟨fun pins s σ H R I h => wpAny_Call_Name_kw (ld_blt I hg hm boot_enumerate ?_)⟩
  refine PySem.W.callWith_of (P := fun _ => True) hpl (fun h _ => ⟨Keeper.machine, .inr (.inl rfl), fun A Q E s k q => wpAny_pure q⟩) ?_
  refine PyProof.Rows.evalArgs_kw2 hall (thn (ha.run pos pins s σ H _ I h) fun us s1 ⟨vs, H1, I1, r1, q1⟩ => thn (hk.run pos pins s1 σ H1 _ I1 q1) fun ws s2 ⟨zs, H2, I2, r2, q2⟩ => ?_) hs
  obtain ⟨a, xs, rfl, rfl, hq, q⟩ := q2
  obtain ⟨u, rfl, rv⟩ := vals1 r1
  obtain rfl : u = Value.ref a := rv
  obtain ⟨u2, rfl, rv2⟩ := vals1 r2
  obtain ⟨t2, rfl⟩ := rv2
  rw [hks]
  have near : ∀ {b : Addr}, b ∈ [s2.heap.objs.size + 1, s2.heap.objs.size] → FpOk X pins H2 b := fun {b} hb => by
    have le : s2.heap.objs.size ≤ b := by
      rcases List.mem_cons.mp hb with z | z
      · rw [z]; exact Nat.le_succ _
      · rw [List.mem_singleton.mp z]; exact Nat.le_refl _
    exact I2.fpOk le (I2.hok.fresh le)
  obtain ⟨its, rv, p', hz⟩ := I2.list hq
  refine ⟨trivial, ?_⟩
  show wpAny _ _ (call (.type "enumerate") [.ref a] [(Str.ofString "start", .int 0 t2)]) _ _ _
  refine enum_begins_start (begins_list a its.toArray) p'.isList (by decide) (by decide) fun h' he hit _ hk' => wpAny_pyIter_enum he ?_
  exact ⟨s2.heap.objs.size + 1, [s2.heap.objs.size + 1, s2.heap.objs.size], _, _, H2, rfl, I2.kept (t' := s2.toks) hk', turn_enum a (s2.heap.objs.size + 1) s2.heap.objs.size, ⟨⟨.none, he⟩, ⟨_, hit, rfl, rfl⟩, Nat.succ_ne_self _⟩, fun b hb => near hb, q⟩
end
/-! ## 54. data in a tuple of data -/
def rInDT (K : PySem.W.Frag) : R2 := fun x y H Q => ∃ d ds, Dp K H x d ∧ Dp K H y (.tuple ds) ∧ d.plain = true ∧ PyData.plainAll ds = true ∧ d.depth ≤ 60 ∧ Q (.bl (ds.any fun z => z.eqv d)) H
theorem op_inDT {X : Cx} (hu : X.A.units + 65 < cLine) : OpR X (compareOp .In) (rInDT X.K) := by
  intro pins s σ H x y v u Q I rx ry h
  obtain ⟨d, ds, hx, hy, pd, pa, hd, q⟩ := h
  obtain ⟨as, r1⟩ := Dp.reads I (.tuple ds) y u hy ry
  obtain ⟨bs, r2⟩ := Dp.reads I d x v hx rx
  refine SeqAt.in_tuple_data r1 r2 pa pd ?_ ⟨.bl _, H, I, rfl, q⟩
  have := Nat.min_le_right (PyData.depthAll ds) d.depth
  omega
theorem plain_strsA : ∀ l : List Str, PyData.plainAll (l.map PyData.str) = true ∧ PyData.depthAll (l.map PyData.str) = 0
  | [] => ⟨rfl, rfl⟩
  | a :: l => by
    obtain ⟨h1, h2⟩ := plain_strsA l
    constructor
    · simp only [List.map_cons, PyData.plainAll, PyData.plain, h1, Bool.and_true]
    · simp only [List.map_cons, PyData.depthAll, PyData.depth, h2]
      rfl
theorem plain_strs (l : List Str) : (strD l).plain = true ∧ (strD l).depth = 1 := by
  obtain ⟨h1, h2⟩ := plain_strsA l
  unfold strD
  constructor
  · simp only [PyData.plain, h1]
  · simp only [PyData.depth, h2]
theorem call_tuple_ofK {X : Cx} {K : PySem.W.Frag} (h : X.K = K) : CallR X (.type "tuple") (fun xs H Q => ∃ p ys, xs = [.ref p] ∧ ((SqL K H p ys ∧ ∀ l, H l = none → Q (.ref l) (upd H l (.tup ys))) ∨ (SqT K H p ys ∧ Q (.ref p) H))) := by
  subst h
  exact call_tuple_of
end Bk

namespace Bk
open PySem PySem.Spec PyProof.Rows L2
/-! ## 60. a set comprehension of numbers with two clauses -/
section
variable {Pr : Program} {Wd : World} {Ar : Around} {env : Env}
abbrev NoE : Value → Shared → Prop := fun _ _ => False
def testsAll (cs : List Expr) (env : Env) : Sem Bool := forIn cs true fun c b => if b = true then (isTrue c env (eval c env) >>= fun x => pure (ForInStep.yield x)) else pure (ForInStep.yield b)
/-- a comprehension of a set with two clauses -/
abbrev Sc2 (el t0 i0 t1 i1 : Expr) (c0 c1 : List Expr) (sc : Scope) (po : Pos) : Expr := .SetComp el [⟨t0, i0, c0, 0⟩, ⟨t1, i1, c1, 0⟩] sc po
/-- one turn of a clause: what comes, its store, its tests, then what stands behind them -/
def oneTurn (c : Code) (ip : Pos) (tg : Expr) (cs : List Expr) (it : Value) (env : Env) (th : Sem Fin) : Sem Fin :=
  standAt ip >>= fun _ => pyNext it >>= fun r => match r with
    | none => pure (.done .next)
    | some v => letOwnedTupleGo tg it v >>= fun _ => assign tg env v >>= fun _ => testsAll cs env >>= fun ok => if ok = true then th else again c
section
variable {el t0 i0 t1 i1 : Expr} {c0 c1 : List Expr} {sc : Scope} {po : Pos}
theorem loop_turns {k : Nat} {ip : Pos} {tg : Expr} {cs : List Expr} {it acc : Value} {th : Sem Fin} {R : Result → Shared → Prop}
    (ht : compTurn (Sc2 el t0 i0 t1 i1 c0 c1 sc po) k it acc env = oneTurn (.compLoop (Sc2 el t0 i0 t1 i1 c0 c1 sc po) k it acc env) ip tg cs it env th) (I : Nat → Shared → Prop)
    (turn : ∀ n s, I n s → wpAny (model Pr Wd) Ar (pyNext it) (fun r s1 => match r with
      | none => R (.ok .next) s1
      | some v => wpAny (model Pr Wd) Ar (letOwnedTupleGo tg it v) (fun _ s2 => wpAny (model Pr Wd) Ar (assign tg env v) (fun _ s3 => wpAny (model Pr Wd) Ar (testsAll cs env) (fun b s4 =>
          if b = true then wpAny (model Pr Wd) Ar th (fun fin s5 => fin = .again (.compLoop (Sc2 el t0 i0 t1 i1 c0 c1 sc po) k it acc env) ∧ ∃ m, m < n ∧ I m s5) NoE s4 else ∃ m, m < n ∧ I m s4) NoE s3) NoE s2) NoE s1) NoE s)
    {n : Nat} {s : Shared} (h : I n s) : codeAny (model Pr Wd) Ar (.compLoop (Sc2 el t0 i0 t1 i1 c0 c1 sc po) k it acc env) R s := by
  refine codeAny_loop rfl I (fun n s hI => ?_) n h
  show wpAny (model Pr Wd) Ar ((compTurn (Sc2 el t0 i0 t1 i1 c0 c1 sc po) k it acc env).onRaise fun x => noteFrame x env >>= fun _ => theTreesLotGoes x) _ _ s
  refine wpAny_noted ?_
  rw [ht]
  refine wpAny_bind (wpAny_standAt (wpAny_bind (thnF (turn n s hI) fun r s1 h1 => ?_)))
  cases r with
  | none => exact wpAny_pure h1
  | some v =>
    refine wpAny_bind (thnF h1 fun _ s2 h2 => wpAny_bind (thnF h2 fun _ s3 h3 => wpAny_bind (thnF h3 fun b s4 h4 => ?_)))
    cases b with
    | false => exact wpAny_pure ⟨rfl, h4⟩
    | true =>
      refine thnF h4 fun fin s5 h5 => ?_
      obtain ⟨rfl, h5⟩ := h5
      exact ⟨rfl, h5⟩
end
end
section
variable {Y : Cx} {el t0 i0 t1 i1 : Expr} {c0 c1 : List Expr} {sc : Scope} {po : Pos} {tg : Expr} {k : Nat} {ip : Pos} {cs : List Expr} {it : Addr} {acc : Value} {th : Sem Fin} {R : Result → Shared → Prop} {J : It} {fp : List Addr} {tn : Nat → Heap → Prop} {g : TG} {tt : TT} {pins : List (Addr × Obj)} {σ0 : L2.St} {vs : List Nat} {W : Nat → Nat → Hp → Prop} {Qd : Hp → Prop} {B : (Hp → Prop) → L2.St → Hp → Prop}
/-- what a turn that began with the slots σ0 leaves: at least these slots -/
def Left (Y : Cx) (pins : List (Addr × Obj)) (σ0 : L2.St) (N : Hp → Prop) (s : Shared) : Prop :=
  ∃ σ H, Inv Y pins σ H s ∧ σ0.length = σ.length ∧ (∀ (j : Nat) v, σ0[j]? = some (some v) → σ[j]? = some (some v)) ∧ N H
/-- a clause's loop, by what its turns reach -/
theorem clause_loop (hc : Y.calm = true) (hx : Y.xe = NoE) (ht : compTurn (Sc2 el t0 i0 t1 i1 c0 c1 sc po) k (.ref it) acc Y.env = oneTurn (.compLoop (Sc2 el t0 i0 t1 i1 c0 c1 sc po) k (.ref it) acc Y.env) ip tg cs (.ref it) Y.env th) (T : Turn Y.prog Y.w Y.K tg J fp it tn) (pg : PG Y tg g) (pt : PTs Y cs tt)
    (fpok : ∀ {σ : L2.St} {H : Hp} {s : Shared}, Inv Y pins σ H s → (∀ b ∈ fp, H b = none) → ∀ b ∈ fp, FpOk Y pins H b)
    (step : ∀ i m H, W i m H → (J.stop i H ∧ Qd H) ∨ (J.go i H ∧ ∃ Nx : Hp → Prop, (∀ H', Nx H' → ∃ m', m' < m ∧ W (i + 1) m' H') ∧ ∀ x H', J.yld i H x H' → g x σ0 H' fun σ2 H2 => wipe σ2 vs = σ0 ∧ tt σ2 H2 fun b H3 => if b = true then B Nx σ2 H3 else Nx H3))
    (hB : ∀ (Nx : Hp → Prop) σ2 H3 ps s, wipe σ2 vs = σ0 → Inv Y (pins ++ ps) σ2 H3 s → B Nx σ2 H3 → wpAny (model Y.prog Y.w) Y.A th (fun fin s' => fin = .again (.compLoop (Sc2 el t0 i0 t1 i1 c0 c1 sc po) k (.ref it) acc Y.env) ∧ Left Y (pins ++ ps) σ0 Nx s') NoE s)
    (fin : ∀ s H, Inv Y pins σ0 H s → Qd H → R (.ok .next) s) {m : Nat} {H : Hp} {s : Shared} (I : Inv Y pins σ0 H s) (st : tn 0 s.heap) (nf : ∀ b ∈ fp, H b = none) (w : W 0 m H) :
    codeAny (model Y.prog Y.w) Y.A (.compLoop (Sc2 el t0 i0 t1 i1 c0 c1 sc po) k (.ref it) acc Y.env) R s := by
  refine loop_turns ht (fun n s => ∃ i H, Inv Y pins σ0 H s ∧ tn i s.heap ∧ (∀ b ∈ fp, H b = none) ∧ W i n H) ?_ ⟨0, H, I, st, nf, w⟩
  rintro n s1 ⟨i, H1, I1, st1, nf1, w1⟩
  rcases step i n H1 w1 with ⟨stop, qd⟩ | ⟨go, Nx, hNx, st2⟩
  · refine thnF (T.done Y rfl rfl rfl hc i pins s1 σ0 H1 NoE I1 (fpok I1 nf1) st1 stop) fun r s2 ⟨hr, I2⟩ => ?_
    subst hr
    exact fin s2 H1 I2 qd
  · refine thnF (T.item Y rfl rfl rfl hc i pins s1 σ0 H1 NoE I1 (fpok I1 nf1) st1 go) fun r s2 ⟨u, hr, h2⟩ => ?_
    subst hr
    refine thnF h2 fun _ s3 ⟨x, H3, I3, r3, y3, st3, nf3⟩ => ?_
    have P3 := I3.pinned (fpok I3 nf3) (T.obj _ _ st3)
    have back : ∀ {s' : Shared}, Left Y (pins ++ pinsAt fp s3.heap) σ0 Nx s' → ∃ m, m < n ∧ ∃ i H, Inv Y pins σ0 H s' ∧ tn i s'.heap ∧ (∀ b ∈ fp, H b = none) ∧ W i m H := fun {s'} ⟨σ', H', I', hl, hk, nx⟩ => by
      obtain ⟨m', lt, w'⟩ := hNx H' nx
      have pp : ∀ b ∈ fp, ∀ o, s3.heap.get? b = some o → s'.heap.get? b = some o ∧ H' b = none := fun b hb o eo =>
        have q := I'.pin (b, o) (List.mem_append_right _ (List.mem_append_right _ (mem_pinsAt hb eo)))
        ⟨q.1, q.2.1⟩
      refine ⟨m', lt, i + 1, H', I'.unpinned.weak hl hk, T.keep _ _ _ st3 fun b hb o eo => (pp b hb o eo).1, fun b hb => ?_, w'⟩
      obtain ⟨o, eo, _⟩ := T.obj _ _ st3 b hb
      exact (pp b hb o eo).2
    have same : ∀ {σ' : L2.St}, wipe σ' vs = σ0 → σ0.length = σ'.length ∧ ∀ (j : Nat) v, σ0[j]? = some (some v) → σ'[j]? = some (some v) := fun {σ'} hw => ⟨by rw [← hw, wipe_length], fun j v ev => by rw [← hw] at ev; exact (wipe_some ev).1⟩
    have rg := pg.run _ s3 σ0 H3 x u _ P3 r3 (st2 x H3 y3)
    rw [hx] at rg
    refine thnF rg fun _ s4 ⟨σ4, H4, I4, hw4, q4⟩ => ?_
    have rt := pt.run _ s4 σ4 H4 _ I4 q4
    rw [hx] at rt
    refine thnF rt fun b s5 ⟨H5, I5, q5⟩ => ?_
    obtain ⟨sl, sk⟩ := same hw4
    cases b with
    | false => exact back ⟨σ4, H5, I5, sl, sk, q5⟩
    | true => exact thnF (hB Nx σ4 H5 _ s5 hw4 I5 q5) fun _ s6 h6 => ⟨h6.1, back h6.2⟩
end
section
variable {Pr : Program} {Wd : World} {Ar : Around} {env : Env} {el t0 i0 t1 i1 : Expr} {c0 c1 : List Expr} {sc : Scope} {po : Pos} {it acc : Value}
theorem turn_outer : compTurn (Sc2 el t0 i0 t1 i1 c0 c1 sc po) 0 it acc env = oneTurn (.compLoop (Sc2 el t0 i0 t1 i1 c0 c1 sc po) 0 it acc env) i0.pos t0 c0 it env
    (eval i1 env >>= fun x => standAt i1.pos >>= fun _ => foldedSetIterable i1 env x >>= fun x => holding [x] (pyIter x) >>= fun j => runOwn (.compStart (Sc2 el t0 i0 t1 i1 c0 c1 sc po) 1 j acc env) env >>= fun _ => again (.compLoop (Sc2 el t0 i0 t1 i1 c0 c1 sc po) 0 it acc env)) := rfl
theorem turn_inner : compTurn (Sc2 el t0 i0 t1 i1 c0 c1 sc po) 1 it acc env = oneTurn (.compLoop (Sc2 el t0 i0 t1 i1 c0 c1 sc po) 1 it acc env) i1.pos t1 c1 it env
    ((eval el env >>= fun v => standAt el.pos >>= fun _ => call (.builtin "set.add") [acc, v] >>= fun _ => pure ()) >>= fun _ => again (.compLoop (Sc2 el t0 i0 t1 i1 c0 c1 sc po) 1 it acc env)) := rfl
end
section
variable {Pr : Program} {Wd : World} {Ar : Around} {env : Env} {el t0 i0 t1 i1 : Expr} {c0 c1 : List Expr} {sc : Scope} {po : Pos} {it acc : Value} {R : Result → Shared → Prop} {s : Shared}
/-- the second clause begins: its iterator may be asked for itself once more -/
theorem start_inner (h0 : codeAny (model Pr Wd) Ar (.compLoop (Sc2 el t0 i0 t1 i1 c0 c1 sc po) 1 it acc env) R s)
    (h : wpAny (model Pr Wd) Ar (pyIter it) (fun j s' => codeAny (model Pr Wd) Ar (.compLoop (Sc2 el t0 i0 t1 i1 c0 c1 sc po) 1 j acc env) R s') NoE s) :
    codeAny (model Pr Wd) Ar (.compStart (Sc2 el t0 i0 t1 i1 c0 c1 sc po) 1 it acc env) R s := by
  refine codeAny_of_tree (wpAny_notedAt (m := compStart (Sc2 el t0 i0 t1 i1 c0 c1 sc po) 1 it acc env) ?_)
  unfold compStart
  show wpAny (model Pr Wd) Ar (ask >>= _) _ _ s
  refine wpAny_bind (wpAny_askSetting (wpAny_ite ?_))
  split
  · exact wpAny_bind (wpAny_pure (wpAny_pure ⟨rfl, h0⟩))
  · refine wpAny_bind (wpAny_rule ?_)
    show wpAny (model Pr Wd) Ar (standAt i1.pos >>= _) _ _ s
    exact wpAny_bind (wpAny_standAt (wpAny_bind (thnF h fun j s' h' => wpAny_pure ⟨rfl, h'⟩)))
end
section
variable {X : Cx}
/-- the number is put into the set -/
def AddB (w : World) (D : Addr) (te : TE) (N : Hp → Prop) (σ : L2.St) (H : Hp) : Prop := te σ H fun y H1 => ∃ (c : Int) (S : Int → Bool) (n : Nat), y = .int c ∧ H1 D = some (SetO w D S n) ∧ n + 1 < scanBound ∧ N (upd H1 D (SetO w D (fun j => S j || decide (j = c)) (if S c = true then n else n + 1)))
/-- the inner clause -/
def InB (w : World) (D : Addr) (wi : TI) (g : TG) (tt : TT) (te : TE) (vs : List Nat) (N : Hp → Prop) (σ : L2.St) (H : Hp) : Prop := wi σ H fun J H1 => ∃ W : Nat → Nat → Hp → Prop, (∃ m, W 0 m H1) ∧ ∀ i m H, W i m H →
  (J.stop i H ∧ N H) ∨ (J.go i H ∧ ∃ Nx : Hp → Prop, (∀ H', Nx H' → ∃ m', m' < m ∧ W (i + 1) m' H') ∧ ∀ x H', J.yld i H x H' → g x (wipe σ vs) H' fun σ2 H2 => wipe σ2 vs = wipe σ vs ∧ tt σ2 H2 fun b H3 => if b = true then AddB w D te Nx σ2 H3 else Nx H3)
/-- {el for t0 in i0 if .. for t1 in i1 if ..}, el a number -/
def tSc2 (w : World) (wi : TI) (g : TG) (tt : TT) (wi1 : TI) (g1 : TG) (tt1 : TT) (te : TE) (vs vs1 : List Nat) : TE := fun σ H Q => wi σ H fun J H1 => ∀ D, H1 D = none → ∃ W : Nat → Nat → Hp → Prop, (∃ m, W 0 m (upd H1 D (SetO w D (fun _ => false) 0))) ∧ ∀ i m H, W i m H →
  (J.stop i H ∧ Q (.ref D) H) ∨ (J.go i H ∧ ∃ Nx : Hp → Prop, (∀ H', Nx H' → ∃ m', m' < m ∧ W (i + 1) m' H') ∧ ∀ x H', J.yld i H x H' → g x (wipe σ vs) H' fun σ2 H2 => wipe σ2 vs = wipe σ vs ∧ tt σ2 H2 fun b H3 => if b = true then InB w D wi1 g1 tt1 te vs1 Nx σ2 H3 else Nx H3)
variable {el t0 i0 t1 i1 : Expr} {c0 c1 : List Expr} {sc : Scope} {po : Pos} {own : List (PySem.Str × Nat)} {vs1 : List Nat} {wi wi1 : TI} {g g1 : TG} {tt tt1 : TT} {te : TE}
theorem pe_sc2 (hc : X.calm = true) (hN : X.N.Nodup) (hi : PI X t0 i0 wi) (ok : BlkOk X.N X.env.scope sc own) (hv : ∀ i ∈ vs1, i ∈ own.map (·.2)) (hg : ∀ (s : Shared) (H : Hp) (C : Addr) (cl : List (PySem.Str × Addr)) (fp : List Addr), PG (X.blk s H sc (compEnvC sc cl C X.env) fp) t0 g) (ht : ∀ (s : Shared) (H : Hp) (C : Addr) (cl : List (PySem.Str × Addr)) (fp : List Addr), PTs (X.blk s H sc (compEnvC sc cl C X.env) fp) c0 tt)
    (hi1 : ∀ (s : Shared) (H : Hp) (C : Addr) (cl : List (PySem.Str × Addr)) (fp : List Addr), PI (X.blk s H sc (compEnvC sc cl C X.env) fp) t1 i1 wi1) (hg1 : ∀ (s : Shared) (H : Hp) (C : Addr) (cl : List (PySem.Str × Addr)) (fp : List Addr), PG (X.blk s H sc (compEnvC sc cl C X.env) fp) t1 g1) (ht1 : ∀ (s : Shared) (H : Hp) (C : Addr) (cl : List (PySem.Str × Addr)) (fp : List Addr), PTs (X.blk s H sc (compEnvC sc cl C X.env) fp) c1 tt1) (he : ∀ (s : Shared) (H : Hp) (C : Addr) (cl : List (PySem.Str × Addr)) (fp : List Addr), PE (X.blk s H sc (compEnvC sc cl C X.env) fp) el te)
    (hs : ∀ x, foldedSetIterable i0 X.env x = pure x := by intro _; rfl) (hs1 : ∀ env x, foldedSetIterable i1 env x = pure x := by intro _ _; rfl) :
    PE X (Sc2 el t0 i0 t1 i1 c0 c1 sc po) (tSc2 X.w wi g tt wi1 g1 tt1 te (own.map (·.2)) vs1) := by
  refine ⟨fun pins s σ H Q I h => ?_⟩
  rw [PpSet.eval_SetComp]
  refine wpAny_comprehension_free (use := none) rfl hs (closure_ok fun y hy ef => (ok.free y hy ef).elim (fun z => I.ok.has _ (.inl z)) fun z => I.ok.has _ (.inr z)) ok.kind (fun y hy ef => by rw [ok.uniq y hy, ef])
    (thn (hi.run pins s σ H _ I h) fun xv s1 hx => thn hx fun itv s2 ⟨it, fp, tn, J, H2, ei, I2, T, st2, f2, q⟩ => ?_)
  subst ei
  refine PpSet.newSet_ok (newEnv_comp ?_)
  generalize eD : s2.heap.objs.size = D
  obtain ⟨W, ⟨m0, w0⟩, turn⟩ := q D (I2.hok.fresh (Nat.le_of_eq eD))
  generalize e3 : ({ s2 with heap := s2.heap.push { cls := .type "set", dict := none, data := .set #[] 0 (.fresh 0 0 (!X.w.params.followText "set-order")) } } : Shared) = s3
  have h3 : s3.heap = s2.heap.push { cls := .type "set", dict := none, data := .set #[] 0 (.fresh 0 0 (!X.w.params.followText "set-order")) } := by rw [← e3]
  have keep3 : ∀ b o, s2.heap.get? b = some o → s3.heap.get? b = some o := fun b o eo => by rw [h3]; exact Heap.get?_push_of_some _ eo
  have I3 : Inv X pins σ (upd H2 D (SetO X.w D (fun _ => false) 0)) s3 := by
    rw [← e3]
    refine I2.laid (t' := s2.toks) (fun b o eo => Heap.get?_push_of_some _ eo) (Nat.le_of_eq eD) ?_
    rw [← eD]
    exact setO_new (setR_fresh X.w)
  generalize hH3 : upd H2 D (SetO X.w D (fun _ => false) 0) = H3 at I3 w0
  have f3 : ∀ b ∈ fp, FpOk X pins H3 b ∧ b < s3.heap.objs.size := fun b hb => by
    obtain ⟨o, eo, _⟩ := T.obj _ _ st2 b hb
    have lt := Heap.lt_size eo
    refine ⟨⟨?_, (f2 b hb).2⟩, Heap.lt_size (keep3 b o eo)⟩
    rw [← hH3, upd_ne (by rw [← eD]; exact Nat.ne_of_lt lt)]
    exact (f2 b hb).1
  have st3 : tn 0 s3.heap := T.keep _ _ _ st2 fun b _ o eo => keep3 b o eo
  have I4 := block_start I3 ok hN f3
  show codeAny _ _ (.compStart (Sc2 el t0 i0 t1 i1 c0 c1 sc po) 0 (.ref it) (.ref D) (compEnvC sc (cellsFrom (s3.heap.objs.size + 1) sc.names (cloFrom X.env.cells sc.names [])) s3.heap.objs.size X.env)) (compPost (model X.prog X.w) X.A X.xe none (EP X pins σ Q) (.ref D) s3.heap.objs.size) { s3 with heap := pushCells (s3.heap.push { cls := .type "dict", data := .dict #[] }) sc.names }
  have cL : (compEnvC sc (cellsFrom (s3.heap.objs.size + 1) sc.names (cloFrom X.env.cells sc.names [])) s3.heap.objs.size X.env).locals = s3.heap.objs.size := rfl
  have pg := hg s3 H3 s3.heap.objs.size (cellsFrom (s3.heap.objs.size + 1) sc.names (cloFrom X.env.cells sc.names [])) fp
  have pt := ht s3 H3 s3.heap.objs.size (cellsFrom (s3.heap.objs.size + 1) sc.names (cloFrom X.env.cells sc.names [])) fp
  have pi1 := hi1 s3 H3 s3.heap.objs.size (cellsFrom (s3.heap.objs.size + 1) sc.names (cloFrom X.env.cells sc.names [])) fp
  have pg1 := hg1 s3 H3 s3.heap.objs.size (cellsFrom (s3.heap.objs.size + 1) sc.names (cloFrom X.env.cells sc.names [])) fp
  have pt1 := ht1 s3 H3 s3.heap.objs.size (cellsFrom (s3.heap.objs.size + 1) sc.names (cloFrom X.env.cells sc.names [])) fp
  have pe := he s3 H3 s3.heap.objs.size (cellsFrom (s3.heap.objs.size + 1) sc.names (cloFrom X.env.cells sc.names [])) fp
  generalize compEnvC sc (cellsFrom (s3.heap.objs.size + 1) sc.names (cloFrom X.env.cells sc.names [])) s3.heap.objs.size X.env = ce at I4 cL pg pt pi1 pg1 pt1 pe ⊢
  have st4 : tn 0 (pushCells (s3.heap.push { cls := .type "dict", data := .dict #[] }) sc.names) := T.keep _ _ _ st3 fun b _ o eo => pushCells_keeps _ _ _ _ (Heap.get?_push_of_some _ eo)
  generalize e4 : ({ s3 with heap := pushCells (s3.heap.push { cls := .type "dict", data := .dict #[] }) sc.names } : Shared) = s4 at I4 ⊢
  have st4 : tn 0 s4.heap := by rw [← e4]; exact st4
  generalize hY : X.blk s3 H3 sc ce fp = Y at I4 pg pt pi1 pg1 pt1 pe
  have yw : Y.w = X.w := by rw [← hY]
  have yA : Y.A = X.A := by rw [← hY]
  have yp : Y.prog = X.prog := by rw [← hY]
  have yK : Y.K = X.K := by rw [← hY]
  have ye : Y.env = ce := by rw [← hY]
  have yx : Y.xe = NoE := by rw [← hY]
  have yc : Y.calm = true := by rw [← hY]; exact hc
  -- one number more
  have add : ∀ (Nx : Hp → Prop) (vs : List Nat) (σ0 σ2 : L2.St) (H : Hp) (ps : List (Addr × Obj)) (s : Shared), wipe σ2 vs = σ0 → Inv Y ps σ2 H s → AddB X.w D te Nx σ2 H →
      ∀ c : Code, wpAny (model Y.prog Y.w) Y.A ((eval el Y.env >>= fun v => standAt el.pos >>= fun _ => call (.builtin "set.add") [.ref D, v] >>= fun _ => pure ()) >>= fun _ => again c) (fun fin s' => fin = .again c ∧ Left Y ps σ0 Nx s') NoE s := fun Nx vs σ0 σ2 H ps s hw I' qa cd => by
    have re := pe.run _ s σ2 H _ I' qa
    rw [yx] at re
    refine wpAny_bind (wpAny_bind (thnF re fun z s1 ⟨y, H1, I1, r1, c, S, n, ey, hD, room, nx⟩ => ?_))
    subst ey
    obtain ⟨tk, rfl⟩ := r1
    rw [← yw] at hD
    refine wpAny_bind (wpAny_standAt (wpAny_bind (setR_add (setO_get I1 hD) room fun h' sb new => wpAny_pure (wpAny_pure ⟨rfl, ?_⟩))))
    have oo : ∃ u, h'.get? D = some u := by
      obtain ⟨o, _, _, _, ho, _⟩ := new
      exact ⟨o, ho⟩
    refine ⟨σ2, _, I1.write (e := D) (t' := s1.toks + 1) (by rw [hD]; trivial) (.inl rfl) (fun b u hb hu => (sb.2 b hb).trans hu) oo (setO_new new), by rw [← hw, wipe_length], fun j v ev => by rw [← hw] at ev; exact (wipe_some ev).1, ?_⟩
    rw [yw]
    exact nx
  have loop : codeAny (model Y.prog Y.w) Y.A (.compLoop (Sc2 el t0 i0 t1 i1 c0 c1 sc po) 0 (.ref it) (.ref D) Y.env) (compPost (model X.prog X.w) X.A X.xe none (EP X pins σ Q) (.ref D) s3.heap.objs.size) s4 := by
    refine clause_loop (pins := []) (Qd := fun H => Q (.ref D) H) (vs := own.map (·.2)) (B := InB X.w D wi1 g1 tt1 te vs1) yc yx turn_outer (by rw [yp, yw, yK]; exact T) pg pt ?_ turn ?_ ?_ I4 st4 (fun b hb => (f3 b hb).1.1) w0
    · intro σ' H' s' I' nf b hb
      subst hY
      exact ⟨nf b hb, (I'.ok.exf b hb).1, I'.ok.exfs b hb, .inl hb, fun x c ec => (I'.ok.exf b hb).2 x c ec, fun p hp => absurd (show p ∈ ([] : List (Addr × Obj)) ++ [] from hp) (by simp)⟩
    · intro Nx σ2 H5 ps s5 hw I5 qb
      have ri := pi1.run _ s5 σ2 H5 _ I5 qb
      rw [yx] at ri
      refine wpAny_bind (thnF ri fun xv s6 h6 => wpAny_bind (wpAny_standAt (wpAny_bind (wpAny_of_eq (hs1 _ xv) (wpAny_bind (wpAny_holding (thnF h6 fun itv s7 h7 => ?_)))))))
      obtain ⟨it1, fp1, tn1, J1, H7, e7, I7, T1, st7, f7, W1, ⟨m1, w1⟩, turn1⟩ := h7
      subst e7
      refine wpAny_bind (wpAny_runOwn ?_)
      rw [Around.mark_none]
      have inner : codeAny (model Y.prog Y.w) Y.A (.compLoop (Sc2 el t0 i0 t1 i1 c0 c1 sc po) 1 (.ref it1) (.ref D) Y.env) (fun r s' => match r with | .ok _ => Left Y ([] ++ ps) (wipe σ (own.map (·.2))) Nx s' | .error _ => False) s7 := by
        refine clause_loop (pins := [] ++ ps) (Qd := Nx) (vs := vs1) (B := AddB X.w D te) yc yx turn_inner T1 pg1 pt1 (fun I' nf b hb => ⟨nf b hb, (f7 b hb).2⟩) turn1 (fun Nx1 σ8 H8 ps1 s8 hw8 I8 q8 => add Nx1 vs1 _ σ8 H8 _ s8 hw8 I8 q8 _) (fun s8 H8 I8 nx => ?_) (I7.weak (wipe_length _ _) fun j v ev => (wipe_some ev).1) st7 (fun b hb => (f7 b hb).1) w1
        refine ⟨wipe σ2 vs1, H8, I8, by rw [← hw, wipe_length, wipe_length], fun j v ev => ?_, nx⟩
        rw [← hw] at ev
        obtain ⟨a1, a2⟩ := wipe_some ev
        rw [wipe_out fun z => a2 (hv j z)]
        exact a1
      refine codeAny_mono (start_inner inner (T1.self Y.A 0 _ _ _ st7 inner)) fun r s8 h8 => ?_
      cases r with
      | ok f => exact wpAny_pure ⟨rfl, h8⟩
      | error x => exact h8.elim
    · intro s5 H5 I5 qq
      subst hY
      have I6 : Inv X pins σ H5 s5 := I3.call' (ch := fp) I5.os I5.base I5.hok I5.bare fun b hb => ⟨(f3 b hb).1.2.2.2.1, (f3 b hb).1.2.1, (f3 b hb).1.2.2.2.2.1, (f3 b hb).1.2.2.2.2.2⟩
      have nC : H5 s3.heap.objs.size = none := by
        have z : H5 ce.locals = none := I5.free
        rw [cL] at z
        exact z
      obtain ⟨m, hn, _⟩ := I5.loc
      have hn : s5.heap.Ns ce.locals m := hn
      rw [cL] at hn
      refine ⟨m, hn, fun h' sb => ?_⟩
      obtain ⟨a0, a1, a2, a3, a4, a5⟩ := I3.fpOk (Nat.le_refl _) nC
      exact ⟨.ref D, H5, I6.turned (t' := s5.toks) (fun b o hb eo => (sb.2 b hb).trans eo) a0 a1 a3 a4 a5, rfl, qq⟩
  rw [yp, yw, yA, ye] at loop
  exact PpSet.codeAny_compStart_set loop (T.self X.A 0 _ _ _ st4 loop)
end
theorem pi_listK {X : Cx} {tg l : Expr} {tl : TE} {K : PySem.W.Frag} (h : X.K = K) (hl : PE X l tl) : PI X tg l (iList K tl) := by
  subst h
  exact pi_list hl
/-! ### over the lists that are the values of a locked dict -/
def isI : V → Bool
  | .int _ => true
  | _ => false
theorem isI_iff {x : V} : isI x = true ↔ ∃ c, x = .int c := by
  cases x <;> first
    | exact ⟨fun _ => ⟨_, rfl⟩, fun _ => rfl⟩
    | exact ⟨fun z => (nomatch z), fun ⟨_, z⟩ => (nomatch z)⟩
/-- the set at D has just the numbers among l -/
def SetL (w : World) (D : Addr) (l : List V) (G : Hp) : Prop := ∃ (S : Int → Bool) (ks : List Int), G D = some (SetO w D S ks.length) ∧ ks.Nodup ∧ (∀ k, S k = true ↔ k ∈ ks) ∧ ∀ k, k ∈ ks ↔ V.int k ∈ l
theorem SetL.congr {w : World} {D : Addr} {l m : List V} {G : Hp} (h : SetL w D l G) (e : ∀ k, V.int k ∈ l ↔ V.int k ∈ m) : SetL w D m G := by
  obtain ⟨S, ks, a, b, c, d⟩ := h
  exact ⟨S, ks, a, b, c, fun k => (d k).trans (e k)⟩
theorem SetL.add {w : World} {D : Addr} {l : List V} {G : Hp} {c : Int} {S : Int → Bool} {ks : List Int} (nd : ks.Nodup) (hS : ∀ k, S k = true ↔ k ∈ ks) (hk : ∀ k, k ∈ ks ↔ V.int k ∈ l) :
    SetL w D (l ++ [.int c]) (upd G D (SetO w D (fun j => S j || decide (j = c)) (if S c = true then ks.length else ks.length + 1))) := by
  by_cases e : S c = true
  · rw [if_pos e]
    have mc := (hS c).mp e
    refine ⟨_, ks, upd_same, nd, fun k => ?_, fun k => ?_⟩
    · rw [Bool.or_eq_true, decide_eq_true_eq, hS k]
      exact ⟨fun z => z.elim id fun z => z ▸ mc, .inl⟩
    · rw [hk k, List.mem_append, List.mem_singleton]
      refine ⟨.inl, fun z => z.elim id fun z => ?_⟩
      injection z with z
      rw [z]
      exact (hk c).mp mc
  · rw [if_neg e]
    have nc : c ∉ ks := fun z => e ((hS c).mpr z)
    refine ⟨_, c :: ks, upd_same, List.nodup_cons.mpr ⟨nc, nd⟩, fun k => ?_, fun k => ?_⟩
    · rw [Bool.or_eq_true, decide_eq_true_eq, hS k, List.mem_cons]
      exact Or.comm
    · rw [List.mem_cons, hk k, List.mem_append, List.mem_singleton]
      refine ⟨fun z => z.elim (fun z => .inr (by rw [z])) .inl, fun z => z.elim .inr fun z => .inl ?_⟩
      injection z
theorem scInts {K : PySem.W.Frag} {w : World} {σ : L2.St} {H : Hp} {Q : VK} {d : Addr} {kvs : List (Key × V)} {as : List Addr} {Ls : List (List V)} {j j1 : Nat} {vs vs1 : List Nat} {tt1 : TT} {tl : TE}
    (hd : H d = some (.dK kvs)) (hk : kvs.map (·.2) = as.map V.ref) (hL : Ls.length = as.length) (hl : ∀ (i : Nat) a xs, as[i]? = some a → Ls[i]? = some xs → H a = some (.lst xs)) (small : Ls.flatten.length < 4000)
    (hw : ∀ x, wipe ((wipe σ vs).set j (some x)) vs = wipe σ vs) (hw1 : ∀ y x, wipe ((wipe ((wipe σ vs).set j (some y)) vs1).set j1 (some x)) vs1 = wipe ((wipe σ vs).set j (some y)) vs1)
    (hj : ∀ y, ((wipe σ vs).set j (some y))[j]? = some (some y)) (hj1 : ∀ y x, ((wipe ((wipe σ vs).set j (some y)) vs1).set j1 (some x))[j1]? = some (some x))
    (hv : ∀ (od : Obj) (QQ : VK), QQ (.ref d) (upd H d (.frz od (.dK kvs))) → tl σ (upd H d (.frz od (.dK kvs))) QQ)
    (ht : ∀ (y x : V) (G : Hp) (QQ : Bool → Hp → Prop), x ∈ Ls.flatten → (∀ b u, b ≠ d → H b = some u → G b = some u) → QQ (isI x) G → tt1 ((wipe ((wipe σ vs).set j (some y)) vs1).set j1 (some x)) G QQ)
    (q : ∀ D (S : Int → Bool) (ks : List Int) H', H D = none → Same H H' → H' D = some (SetO w D S ks.length) → ks.Nodup → (∀ k, S k = true ↔ k ∈ ks) → (∀ k, k ∈ ks ↔ V.int k ∈ Ls.flatten) → Q (.ref D) H') :
    tLockE (tSc2 w (iVals tl) (gName j) tYes (iList K (tVar j)) (gName j1) tt1 (tVar j1) vs vs1) σ H Q := by
  refine ⟨d, .dK kvs, hd, trivial, fun od => hv od _ ⟨d, od, kvs, rfl, upd_same, fun D hD => ?_⟩⟩
  obtain ⟨hD1, hD2⟩ := lock_none hD
  have lk : ∀ {i : Nat} {k : Key} {x : V}, kvs[i]? = some (k, x) → ∃ a xs, x = .ref a ∧ Ls[i]? = some xs ∧ H a = some (.lst xs) := fun {i k x} e => by
    have e1 : (kvs.map (·.2))[i]? = some x := by rw [List.getElem?_map, e]; rfl
    rw [hk, List.getElem?_map] at e1
    cases ea : as[i]? with
    | none => rw [ea] at e1; exact nomatch e1
    | some a =>
      rw [ea] at e1
      have lt : i < Ls.length := by rw [hL]; exact (List.getElem?_eq_some_iff.mp ea).1
      exact ⟨a, Ls[i], (Option.some.inj e1).symm, List.getElem?_eq_getElem lt, hl i a _ ea (List.getElem?_eq_getElem lt)⟩
  have len : kvs.length = Ls.length := by rw [hL, ← List.length_map (f := V.ref), ← hk, List.length_map]
  -- what stands behind some turns
  let P : List V → Hp → Prop := fun l G => G d = some (.frz od (.dK kvs)) ∧ (∀ b u, b ≠ d → H b = some u → G b = some u) ∧ SetL w D l G
  have ne : ∀ {b : Addr} {u : HO}, H b = some u → b ≠ D := fun {b u} e z => by rw [z, hD1] at e; exact nomatch e
  have P0 : P (Ls.take 0).flatten (upd (upd H d (.frz od (.dK kvs))) D (SetO w D (fun _ => false) 0)) := by
    refine ⟨by rw [upd_ne hD2.symm]; exact upd_same, fun b u nb eb => by rw [upd_ne (ne eb), upd_ne nb]; exact eb, _, [], upd_same, List.nodup_nil, fun k => ⟨fun z => (nomatch z), fun z => (nomatch z)⟩, fun k => ⟨fun z => (nomatch z), fun z => (nomatch z)⟩⟩
  refine ⟨fun i m G => m = kvs.length - i ∧ i ≤ kvs.length ∧ P (Ls.take i).flatten G, ⟨kvs.length, by simp, Nat.zero_le _, P0⟩, ?_⟩
  rintro i m G ⟨rfl, hi, pd, pf, ps⟩
  by_cases lt : i < kvs.length
  · refine .inr ⟨⟨pd, lt⟩, fun H' => P (Ls.take (i + 1)).flatten H', fun H' p => ⟨kvs.length - (i + 1), by omega, rfl, lt, p⟩, fun x H' y => ?_⟩
    obtain ⟨rfl, k, ek⟩ := y
    obtain ⟨a, xs, rfl, exs, ea⟩ := lk ek
    have tk : (Ls.take (i + 1)).flatten = (Ls.take i).flatten ++ xs := by
      rw [List.take_add_one, exs, List.flatten_append]
      simp
    have sub : ∀ x ∈ xs, x ∈ Ls.flatten := fun x hx => List.mem_flatten.mpr ⟨xs, List.mem_of_getElem? exs, hx⟩
    have nad : a ≠ d := ne_ct ea hd (fun z => nomatch z)
    refine ⟨hw _, ?_⟩
    refine r_yes ?_
    refine ⟨_, hj _, a, rfl, ⟨xs, SqL.of (pf _ _ nad ea)⟩, ?_⟩
    refine ⟨fun n m G => m = xs.length - n ∧ n ≤ xs.length ∧ P ((Ls.take i).flatten ++ xs.take n) G, ⟨xs.length, by simp, Nat.zero_le _, pd, pf, by rw [List.take_zero, List.append_nil]; exact ps⟩, ?_⟩
    rintro n m2 G2 ⟨rfl, hn, qd, qf, qs⟩
    have qa : SqL K G2 a xs := SqL.of (qf _ _ nad ea)
    by_cases lt2 : n < xs.length
    · refine .inr ⟨⟨xs, xs[n], qa, List.getElem?_eq_getElem lt2⟩, fun H' => P ((Ls.take i).flatten ++ xs.take (n + 1)) H', fun H' p => ⟨xs.length - (n + 1), by omega, rfl, lt2, p⟩, fun x H' y => ?_⟩
      obtain ⟨rfl, y⟩ := y
      have ex := y xs qa
      have tk2 : xs.take (n + 1) = xs.take n ++ [x] := by rw [List.take_add_one, ex]; rfl
      refine ⟨hw1 _ _, ht _ _ _ _ (sub x (List.mem_of_getElem? ex)) qf ?_⟩
      by_cases hI : isI x = true
      · obtain ⟨c, rfl⟩ := isI_iff.mp hI
        rw [if_pos hI]
        obtain ⟨S, ks, sD, nd, hS, hks⟩ := qs
        refine ⟨_, hj1 _ _, c, S, ks.length, rfl, sD, ?_, ?_⟩
        · have : ks.length ≤ ((Ls.take i).flatten ++ xs.take n).length := by
            have z := nd_le (l := ks.map V.int) (m := (Ls.take i).flatten ++ xs.take n) (List.Pairwise.map V.int (fun a b n e => n (by injection e)) nd) fun v hv => by
              obtain ⟨k, hk, rfl⟩ := List.mem_map.mp hv
              exact (hks k).mp hk
            rwa [List.length_map] at z
          have l2 : ((Ls.take i).flatten ++ xs.take n).length ≤ Ls.flatten.length := by
            have e3 : Ls.flatten = (Ls.take i).flatten ++ (Ls.drop i).flatten := by rw [← List.flatten_append, List.take_append_drop]
            have e4 : Ls.drop i = xs :: Ls.drop (i + 1) := by
              obtain ⟨l3, e5⟩ := List.getElem?_eq_some_iff.mp exs
              rw [List.drop_eq_getElem_cons l3, e5]
            rw [e3, e4, List.flatten_cons, List.length_append, List.length_append, List.length_append, List.length_take]
            omega
          exact Nat.lt_of_le_of_lt (Nat.succ_le_succ (Nat.le_trans this l2)) (Nat.lt_of_lt_of_le (Nat.succ_lt_succ small) (by decide))
        · refine ⟨by rw [upd_ne hD2.symm]; exact qd, fun b u nb eb => by rw [upd_ne (ne eb)]; exact qf b u nb eb, ?_⟩
          rw [tk2, ← List.append_assoc]
          exact SetL.add nd hS hks
      · rw [if_neg hI]
        refine ⟨qd, qf, qs.congr fun k => ?_⟩
        rw [tk2, ← List.append_assoc]
        exact ⟨fun z => List.mem_append_left _ z, fun z => (List.mem_append.mp z).elim id fun z => absurd (isI_iff.mpr ⟨k, (List.mem_singleton.mp z).symm⟩) hI⟩
    · have e : n = xs.length := by omega
      subst e
      rw [List.take_length] at qs
      refine .inl ⟨⟨xs, qa, Nat.le_refl _⟩, qd, qf, ?_⟩
      rw [tk]
      exact qs
  · have e : i = kvs.length := by omega
    subst e
    obtain ⟨S, ks, sD, nd, hS, hks⟩ := ps
    rw [len, List.take_length] at hks
    refine .inl ⟨⟨pd, Nat.le_refl _⟩, pd, q D S ks _ hD1 (fun b u eb => ?_) (by rw [upd_ne hD2]; exact sD) nd hS hks⟩
    by_cases h : b = d
    · rw [h, upd_same, ← hd, ← h]
      exact eb
    · rw [upd_ne h]
      exact pf b u h eb
end Bk

namespace Bk
open PySem PySem.Spec PyProof.Rows L2
/-! ## 61. comprehensions told by what each turn gives, some left out -/
/-- item by item -/
def All2 {α : Type} (Pr : α → V → Hp → Prop) (l : List α) (xs : List V) (H : Hp) : Prop := xs.length = l.length ∧ ∀ (k : Nat) z v, l[k]? = some z → xs[k]? = some v → Pr z v H
theorem All2.keep {α : Type} {Pr : α → V → Hp → Prop} {l : List α} {xs : List V} {H H' : Hp} (h : All2 Pr l xs H) (st : ∀ z v, Pr z v H → Pr z v H') : All2 Pr l xs H' := ⟨h.1, fun k z v a b => st _ _ (h.2 k z v a b)⟩
theorem All2.nil {α : Type} {Pr : α → V → Hp → Prop} {H : Hp} : All2 Pr [] [] H := ⟨rfl, fun _ _ _ z => nomatch z⟩
theorem All2.snoc {α : Type} {Pr : α → V → Hp → Prop} {l : List α} {xs : List V} {H : Hp} {z : α} {v : V} (h : All2 Pr l xs H) (p : Pr z v H) : All2 Pr (l ++ [z]) (xs ++ [v]) H := by
  refine ⟨by rw [List.length_append, List.length_append, h.1]; rfl, fun k y u a b => ?_⟩
  by_cases hk : k < xs.length
  · rw [List.getElem?_append_left hk] at b
    rw [List.getElem?_append_left (by rw [← h.1]; exact hk)] at a
    exact h.2 k y u a b
  · have e4 : k = xs.length := by
      have := (List.getElem?_eq_some_iff.mp b).1
      rw [List.length_append, List.length_singleton] at this
      omega
    subst e4
    rw [List.getElem?_append_right (Nat.le_refl _), Nat.sub_self] at b
    rw [List.getElem?_append_right (by rw [h.1]; exact Nat.le_refl _), h.1, Nat.sub_self] at a
    obtain rfl := Option.some.inj b
    obtain rfl := Option.some.inj a
    exact p
theorem All2.append {α : Type} {Pr : α → V → Hp → Prop} {l m : List α} {xs ys : List V} {H : Hp} (h : All2 Pr l xs H) (g : All2 Pr m ys H) : All2 Pr (l ++ m) (xs ++ ys) H := by
  refine ⟨by rw [List.length_append, List.length_append, h.1, g.1], fun k y u a b => ?_⟩
  by_cases hk : k < xs.length
  · rw [List.getElem?_append_left hk] at b
    rw [List.getElem?_append_left (by rw [← h.1]; exact hk)] at a
    exact h.2 k y u a b
  · rw [List.getElem?_append_right (by omega)] at b
    rw [List.getElem?_append_right (by rw [← h.1]; omega), ← h.1] at a
    exact g.2 _ y u a b
theorem All2.at {α : Type} {Pr : α → V → Hp → Prop} {l : List α} {xs : List V} {H : Hp} (h : All2 Pr l xs H) {k : Nat} {z : α} (e : l[k]? = some z) : ∃ v, xs[k]? = some v ∧ Pr z v H := by
  have lt : k < xs.length := by rw [h.1]; exact (List.getElem?_eq_some_iff.mp e).1
  exact ⟨xs[k], List.getElem?_eq_getElem lt, h.2 k z _ e (List.getElem?_eq_getElem lt)⟩
section
variable {σ : L2.St} {H : Hp} {Q : VK} {vs : List Nat} {g : TG} {tt : TT} {te : TE} {J : It} {n : Nat} {G : Hp → Prop} {Y : Nat → Hp → V → Hp → Prop} {D : Addr} {α : Type}
theorem lc_keep (w : Walk J n G Y) (c : Nat → Option α) (Pr : α → V → Hp → Prop) (st : ∀ z v H1 H2, TS H1 H2 → Pr z v H1 → Pr z v H2) (hD : H D = none) (hn : n ≤ 10000) (hG : ∀ H', Same H H' → G H')
    (hY : ∀ i H1 x H2, i < n → Y i H1 x H2 → Same H1 H2)
    (hs : ∀ i x H1 H2 (Q' : VK) (R' : Hp → Prop), i < n → Same H H1 → Y i H1 x H2 → (∀ z v H3, c i = some z → Same H2 H3 → Pr z v H3 → Q' v H3) → (c i = none → ∀ H3, Same H2 H3 → R' H3) →
      g x (wipe σ vs) H2 fun τ H3 => wipe τ vs = wipe σ vs ∧ tt τ H3 fun b H4 => if b = true then te τ H4 Q' else R' H4)
    (q : ∀ H' (xs : List V), Same H H' → H' D = some (.lst xs) → All2 Pr ((List.range n).filterMap c) xs H' → Q (.ref D) H') :
    ∃ W : Nat → Nat → Hp → Prop, (∃ m, W 0 m (upd H D (.lst []))) ∧ ∀ i m H, W i m H →
      (J.stop i H ∧ Q (.ref D) H) ∨ (J.go i H ∧ ∃ Nx : Hp → Prop, (∀ H', Nx H' → ∃ m', m' < m ∧ W (i + 1) m' H') ∧ ∀ x H', J.yld i H x H' → g x (wipe σ vs) H' fun σ2 H2 => wipe σ2 vs = wipe σ vs ∧ tt σ2 H2 fun b H3 =>
        if b = true then te σ2 H3 fun y H4 => ∃ acc, H4 D = some (.lst acc) ∧ acc.length < sizeLine ∧ Nx (upd H4 D (.lst (acc ++ [y]))) else Nx H3) := by
  refine lc_it w (fun i G => Same H G ∧ ∃ xs : List V, G D = some (.lst xs) ∧ All2 Pr ((List.range i).filterMap c) xs G)
    ⟨same_upd hD, [], upd_same, All2.nil⟩ (fun i G _ z => hG G z.1) (fun i x H1 H2 hi ⟨sm, xs, e, all⟩ y => ?_) fun G ⟨sm, xs, e, all⟩ => q G xs sm e all
  have s12 := hY i H1 x H2 hi y
  have rs : (List.range (i + 1)).filterMap c = (List.range i).filterMap c ++ (c i).toList := by
    rw [List.range_succ, List.filterMap_append]
    congr 1
  refine hs i x H1 H2 _ _ hi sm y (fun z v H3 hz s3 pv => ?_) fun hz H3 s3 => ?_
  · have e3 := s3 _ _ (s12 _ _ e)
    have tD : TS H3 (upd H3 D (.lst (xs ++ [v]))) := fun a ys ea => by
      rw [upd_ne (fun z => by rw [z, e3] at ea; exact nomatch ea)]
      exact ea
    have lx : xs.length ≤ i := by
      rw [all.1]
      exact Nat.le_trans (List.length_filterMap_le _ _) (Nat.le_of_eq List.length_range)
    refine ⟨_, e3, Nat.lt_of_le_of_lt lx (Nat.lt_of_lt_of_le hi (Nat.le_trans hn (by decide))), sameBut (sm.trans (s12.trans s3)) hD, xs ++ [v], upd_same, ?_⟩
    rw [rs, hz]
    exact (all.keep fun z u p => st z u _ _ (((Same.ts s12).trans (Same.ts s3)).trans tD) p).snoc (st _ _ _ _ tD pv)
  · refine ⟨sm.trans (s12.trans s3), xs, s3 _ _ (s12 _ _ e), ?_⟩
    rw [rs, hz, Option.toList_none, List.append_nil]
    exact all.keep fun z u p => st z u _ _ ((Same.ts s12).trans (Same.ts s3)) p
end
section
variable {K : PySem.W.Frag} {σ : L2.St} {H : Hp} {Q : VK} {j : Nat} {vs : List Nat} {g : TG} {tt : TT} {te tl : TE} {a : Addr} {ys : List V} {α : Type}
/-- over a list -/
theorem lkL (c : Nat → Option α) (Pr : α → V → Hp → Prop) (st : ∀ z v H1 H2, TS H1 H2 → Pr z v H1 → Pr z v H2) (hs : SqL K H a ys) (hl : ys.length ≤ 10000) (hv : ∀ QQ : VK, QQ (.ref a) H → tl σ H QQ)
    (ht : ∀ (i : Nat) (y : V) (H1 : Hp) (Q' : VK) (R' : Hp → Prop), ys[i]? = some y → Same H H1 → (∀ z v H3, c i = some z → Same H1 H3 → Pr z v H3 → Q' v H3) → (c i = none → ∀ H3, Same H1 H3 → R' H3) →
      g y (wipe σ vs) H1 fun τ H3 => wipe τ vs = wipe σ vs ∧ tt τ H3 fun b H4 => if b = true then te τ H4 Q' else R' H4)
    (q : ∀ D H' (xs : List V), H D = none → Same H H' → H' D = some (.lst xs) → All2 Pr ((List.range ys.length).filterMap c) xs H' → Q (.ref D) H') : tLc (iList K tl) g tt te vs σ H Q := by
  refine hv _ ⟨a, rfl, ⟨ys, hs⟩, fun D hD => ?_⟩
  exact lc_keep (g := g) (tt := tt) (te := te) (vs := vs) (σ := σ) (Q := Q) walk_list c Pr st hD hl (fun _ s => s.seq hs) (fun i H1 x H2 _ y => by rw [y.1]; exact Same.refl _) (fun i x H1 H2 Q' R' hi sm y h1 h2 => by
    obtain ⟨rfl, hx⟩ := y
    exact ht i x _ Q' R' hx sm h1 h2) fun H' xs s e all => q D H' xs hD s e all
/-- over a tuple -/
theorem lkT (c : Nat → Option α) (Pr : α → V → Hp → Prop) (st : ∀ z v H1 H2, TS H1 H2 → Pr z v H1 → Pr z v H2) (hs : SqT K H a ys) (hl : ys.length ≤ 10000) (hv : ∀ QQ : VK, QQ (.ref a) H → tl σ H QQ)
    (ht : ∀ (i : Nat) (y : V) (H1 : Hp) (Q' : VK) (R' : Hp → Prop), ys[i]? = some y → Same H H1 → (∀ z v H3, c i = some z → Same H1 H3 → Pr z v H3 → Q' v H3) → (c i = none → ∀ H3, Same H1 H3 → R' H3) →
      g y (wipe σ vs) H1 fun τ H3 => wipe τ vs = wipe σ vs ∧ tt τ H3 fun b H4 => if b = true then te τ H4 Q' else R' H4)
    (q : ∀ D H' (xs : List V), H D = none → Same H H' → H' D = some (.lst xs) → All2 Pr ((List.range ys.length).filterMap c) xs H' → Q (.ref D) H') : tLc (iTup K tl) g tt te vs σ H Q := by
  refine hv _ ⟨a, rfl, ⟨ys, hs⟩, fun D hD => ?_⟩
  exact lc_keep (g := g) (tt := tt) (te := te) (vs := vs) (σ := σ) (Q := Q) walk_tup c Pr st hD hl (fun _ s => seqT s hs) (fun i H1 x H2 _ y => by rw [y.1]; exact Same.refl _) (fun i x H1 H2 Q' R' hi sm y h1 h2 => by
    obtain ⟨rfl, hx⟩ := y
    exact ht i x _ Q' R' hx sm h1 h2) fun H' xs s e all => q D H' xs hD s e all
/-- over range(n) -/
theorem lkR {ta : TA} (n : Nat) (c : Nat → Option α) (Pr : α → V → Hp → Prop) (st : ∀ z v H1 H2, TS H1 H2 → Pr z v H1 → Pr z v H2) (hl : n ≤ 10000) (hv : ∀ QQ : List V → Hp → Prop, QQ [.int n] H → ta σ H QQ)
    (ht : ∀ (i : Nat) (H1 : Hp) (Q' : VK) (R' : Hp → Prop), i < n → Same H H1 → (∀ z v H3, c i = some z → Same H1 H3 → Pr z v H3 → Q' v H3) → (c i = none → ∀ H3, Same H1 H3 → R' H3) →
      g (.int (i : Nat)) (wipe σ vs) H1 fun τ H3 => wipe τ vs = wipe σ vs ∧ tt τ H3 fun b H4 => if b = true then te τ H4 Q' else R' H4)
    (q : ∀ D H' (xs : List V), H D = none → Same H H' → H' D = some (.lst xs) → All2 Pr ((List.range n).filterMap c) xs H' → Q (.ref D) H') : tLc (iRng1 ta) g tt te vs σ H Q := by
  refine hv _ ⟨_, rfl, by omega, by omega, fun D hD => ?_⟩
  rw [Int.toNat_natCast]
  refine lc_keep (g := g) (tt := tt) (te := te) (vs := vs) (σ := σ) (Q := Q) walk_range c Pr st hD hl (fun _ _ => trivial) (fun i H1 x H2 _ y => by rw [y.1]; exact Same.refl _) (fun i x H1 H2 Q' R' hi sm y h1 h2 => ?_) fun H' xs s e all => q D H' xs hD s e all
  obtain ⟨rfl, rfl⟩ := y
  dsimp only
  rw [Int.zero_add]
  exact ht i _ Q' R' hi sm h1 h2
/-- over enumerate of a list -/
theorem lkE {ta : TA} (c : Nat → Option α) (Pr : α → V → Hp → Prop) (st : ∀ z v H1 H2, TS H1 H2 → Pr z v H1 → Pr z v H2) (hs : SqL K H a ys) (hl : ys.length ≤ 10000) (hv : ∀ QQ : List V → Hp → Prop, QQ [.ref a] H → ta σ H QQ)
    (ht : ∀ i x T (H1 : Hp) (Q' : VK) (R' : Hp → Prop), ys[i]? = some x → Same H H1 → H1 T = some (.tup [.int (i : Nat), x]) → (∀ z v H3, c i = some z → Same H1 H3 → Pr z v H3 → Q' v H3) → (c i = none → ∀ H3, Same H1 H3 → R' H3) →
      g (.ref T) (wipe σ vs) H1 fun τ H3 => wipe τ vs = wipe σ vs ∧ tt τ H3 fun b H4 => if b = true then te τ H4 Q' else R' H4)
    (q : ∀ D H' (xs : List V), H D = none → Same H H' → H' D = some (.lst xs) → All2 Pr ((List.range ys.length).filterMap c) xs H' → Q (.ref D) H') : tLc (iEnumA K ta) g tt te vs σ H Q := by
  refine hv _ ⟨a, ys, rfl, .inl ⟨hs, fun D hD => ?_⟩⟩
  refine lc_keep (g := g) (tt := tt) (te := te) (vs := vs) (σ := σ) (Q := Q) (walk_enum (xs := ys)) c Pr st hD hl (fun H' s => Same.seq s hs) (fun i H1 x H2 _ y => ?_) (fun i x H1 H2 Q' R' hi sm y h1 h2 => ?_) fun H' xs s e all => q D H' xs hD s e all
  · obtain ⟨T, b, c, rfl, nT, rfl, hb, hc⟩ := y
    exact same_upd nT
  · obtain ⟨T, b, c, rfl, nT, rfl, hb, hc⟩ := y
    obtain rfl := Option.some.inj hb
    have sT : Same H1 (upd H1 T (.tup [.int (i : Nat), c])) := same_upd nT
    exact ht i c T _ Q' R' hc (sm.trans sT) upd_same h1 h2
end
end Bk

namespace Rm
/-! Rooms that guests share, as values: cells by number, when each was given, places of each guest -/
inductive Pl
  | blank
  | own (ws : List Nat)
  | at (n : Nat)
deriving DecidableEq
abbrev Gs := List (PySem.Str × List Pl)
structure R where
  cells : List (List Nat)
  given : List Nat
  givings : Nat
  gs : Gs
def zeros : List Nat := [0, 0, 0, 0, 0, 0, 0, 0]
def words (c : List (List Nat)) : Pl → List Nat
  | .blank => zeros
  | .own ws => ws
  | .at n => c.getD n []
/-- what each guest has, by words -/
def told (c : List (List Nat)) (gs : Gs) : List (PySem.Str × List (List Nat)) := gs.map fun g => (g.1, g.2.map (words c))
def isAt (n : Nat) : Pl → Bool
  | .at m => decide (m = n)
  | _ => false
/-- is the room of the number in use -/
def used (gs : Gs) (n : Nat) : Bool := gs.any fun g => g.2.any (isAt n)
/-- every place at n becomes p -/
def put (gs : Gs) (n : Nat) (p : Pl) : Gs := gs.map fun g => (g.1, g.2.map fun q => if isAt n q = true then p else q)
/-- one place of one guest becomes p -/
def setAt (gs : Gs) (x : PySem.Str) (r : Nat) (p : Pl) : Gs := gs.map fun g => if g.1 = x then (g.1, g.2.set r p) else g
theorem isAt_iff {n : Nat} {p : Pl} : isAt n p = true ↔ p = .at n := by
  cases p with
  | blank => exact ⟨fun h => (nomatch h), fun h => (nomatch h)⟩
  | own ws => exact ⟨fun h => (nomatch h), fun h => (nomatch h)⟩
  | «at» m =>
    constructor
    · intro h
      have h : decide (m = n) = true := h
      rw [of_decide_eq_true h]
    · intro h
      injection h with h
      exact decide_eq_true h
/-- a room's words told as the place's own: nothing else is told -/
theorem told_put {c : List (List Nat)} {gs : Gs} {n : Nat} {p : Pl} (h : words c p = words c (.at n)) : told c (put gs n p) = told c gs := by
  unfold told put
  rw [List.map_map]
  refine List.map_congr_left fun g _ => ?_
  show (g.1, (g.2.map fun q => if isAt n q = true then p else q).map (words c)) = (g.1, g.2.map (words c))
  rw [List.map_map]
  congr 1
  refine List.map_congr_left fun q _ => ?_
  show words c (if isAt n q = true then p else q) = words c q
  split
  · rename_i e
    rw [isAt_iff.mp e, h]
  · rfl
theorem used_put {gs : Gs} {n m : Nat} {p : Pl} (hp : isAt m p = false) : used (put gs n p) m = (used gs m && !decide (m = n)) := by
  unfold used put
  rw [List.any_map]
  have e : ∀ g : PySem.Str × List Pl, ((fun g : PySem.Str × List Pl => g.2.any (isAt m)) ∘ fun g => (g.1, g.2.map fun q => if isAt n q = true then p else q)) g = (g.2.any (isAt m) && !decide (m = n)) := fun g => by
    show (g.2.map fun q => if isAt n q = true then p else q).any (isAt m) = _
    rw [List.any_map]
    have e2 : ∀ q : Pl, (isAt m ∘ fun q => if isAt n q = true then p else q) q = (isAt m q && !decide (m = n)) := fun q => by
      show isAt m (if isAt n q = true then p else q) = _
      by_cases h : isAt n q = true
      · rw [if_pos h, hp]
        by_cases hm : m = n
        · rw [hm, decide_eq_true rfl]
          exact (Bool.and_false _).symm
        · have : isAt m q = false := by
            cases hq : isAt m q with
            | false => rfl
            | true =>
              rw [isAt_iff.mp h] at hq
              exact absurd (of_decide_eq_true (show decide (n = m) = true from hq)).symm hm
          rw [this]
          rfl
      · rw [if_neg h]
        by_cases hm : m = n
        · subst hm
          rw [Bool.not_eq_true] at h
          rw [h]
          rfl
        · rw [decide_eq_false hm]
          exact (Bool.and_true _).symm
    rw [funext e2]
    cases hd : decide (m = n) with
    | true =>
      have : (fun q : Pl => isAt m q && !true) = fun _ => false := funext fun q => Bool.and_false _
      rw [this]
      have : g.2.any (fun _ => false) = false := by rw [List.any_eq_false]; intro _ _ z; exact nomatch z
      rw [this]
      exact (Bool.and_false _).symm
    | false =>
      have : (fun q : Pl => isAt m q && !false) = isAt m := funext fun q => Bool.and_true _
      rw [this]
      exact (Bool.and_true _).symm
  rw [funext e]
  cases hd : decide (m = n) with
  | true =>
    have : (fun g : PySem.Str × List Pl => g.2.any (isAt m) && !true) = fun _ => false := funext fun g => Bool.and_false _
    rw [this, Bool.and_comm]
    show gs.any (fun _ => false) = false
    rw [List.any_eq_false]
    intro _ _ z
    exact nomatch z
  | false =>
    have : (fun g : PySem.Str × List Pl => g.2.any (isAt m) && !false) = fun g => g.2.any (isAt m) := funext fun g => Bool.and_true _
    rw [this]
    exact (Bool.and_true _).symm
/-- a room that nobody uses may hold anything -/
theorem told_free {c : List (List Nat)} {gs : Gs} {n : Nat} {ws : List Nat} (h : used gs n = false) : told (c.set n ws) gs = told c gs := by
  unfold told
  refine List.map_congr_left fun g hg => ?_
  congr 1
  refine List.map_congr_left fun q hq => ?_
  cases q with
  | blank => rfl
  | own _ => rfl
  | «at» m =>
    have hm : m ≠ n := fun e => by
      have w : used gs n = true := List.any_eq_true.mpr ⟨g, hg, List.any_eq_true.mpr ⟨_, hq, by rw [e]; exact decide_eq_true rfl⟩⟩
      rw [h] at w
      exact nomatch w
    show (c.set n ws).getD m [] = c.getD m []
    rw [List.getD_eq_getElem?_getD, List.getD_eq_getElem?_getD, List.getElem?_set_ne (Ne.symm hm)]
/-- a place told otherwise with the same words -/
theorem told_setAt {c : List (List Nat)} {gs : Gs} {x : PySem.Str} {r : Nat} {p : Pl} (h : ∀ g ∈ gs, g.1 = x → ∀ q, g.2[r]? = some q → words c p = words c q) : told c (setAt gs x r p) = told c gs := by
  unfold told setAt
  rw [List.map_map]
  refine List.map_congr_left fun g hg => ?_
  show ((if g.1 = x then (g.1, g.2.set r p) else g).1, (if g.1 = x then (g.1, g.2.set r p) else g).2.map (words c)) = _
  by_cases e : g.1 = x
  · rw [if_pos e]
    congr 1
    show (g.2.set r p).map (words c) = g.2.map (words c)
    rw [List.map_set]
    by_cases hr : r < g.2.length
    · have w := h g hg e g.2[r] (List.getElem?_eq_getElem hr)
      refine List.ext_getElem? fun j => ?_
      by_cases hj : r = j
      · subst hj
        rw [List.getElem?_set_self (by rw [List.length_map]; exact hr), List.getElem?_map, List.getElem?_eq_getElem hr, w]
        rfl
      · rw [List.getElem?_set_ne hj]
    · rw [List.set_eq_of_length_le (by rw [List.length_map]; omega)]
  · rw [if_neg e]
/-! ### which room is taken -/
/-- the first number below k that nobody uses -/
def freeAt (gs : Gs) : Nat → Nat → Option Nat
  | 0, _ => none
  | k + 1, n => if used gs n = true then freeAt gs k (n + 1) else some n
theorem freeAt_ok {gs : Gs} : ∀ {k n m : Nat}, freeAt gs k n = some m → n ≤ m ∧ m < n + k ∧ used gs m = false
  | 0, _, _, h => nomatch h
  | k + 1, n, m, h => by
    unfold freeAt at h
    split at h
    · have := freeAt_ok h
      exact ⟨by omega, by omega, this.2.2⟩
    · rename_i e
      obtain rfl := Option.some.inj h
      exact ⟨Nat.le_refl _, by omega, by simpa using e⟩
/-- the place of the least number -/
def leastAt (l : List Nat) : Nat := l.idxOf (l.foldl min (l.headD 0))
theorem fold_min : ∀ (l : List Nat) (a : Nat), l.foldl min a = a ∨ l.foldl min a ∈ l
  | [], _ => .inl rfl
  | b :: l, a => by
    rw [List.foldl_cons]
    rcases fold_min l (min a b) with h | h
    · rw [h]
      by_cases c : a ≤ b
      · exact .inl (Nat.min_eq_left c)
      · rw [Nat.min_eq_right (by omega)]
        exact .inr List.mem_cons_self
    · exact .inr (List.mem_cons_of_mem _ h)
theorem leastAt_lt {l : List Nat} (h : l ≠ []) : leastAt l < l.length := by
  unfold leastAt
  apply List.idxOf_lt_length_iff.mpr
  cases l with
  | nil => exact absurd rfl h
  | cons a r =>
    rcases fold_min (a :: r) a with e | e
    · show (a :: r).foldl min a ∈ _
      rw [e]
      exact List.mem_cons_self
    · exact e
/-- a room that nobody uses: the first, else the one given longest ago, whose words go to the places first -/
def R.free (s : R) : R × Nat := match freeAt s.gs s.cells.length 0 with
  | some n => (s, n)
  | none => ({ s with gs := put s.gs (leastAt s.given) (.own (s.cells.getD (leastAt s.given) [])) }, leastAt s.given)
structure R.Ok (s : R) : Prop where
  len : s.given.length = s.cells.length
  ne : s.cells ≠ []
  eight : ∀ ws ∈ s.cells, ws.length = 8
  at_ : ∀ g ∈ s.gs, g.2.length = 8 ∧ ∀ p ∈ g.2, (words s.cells p).length = 8 ∧ ∀ n, p = .at n → n < s.cells.length
  nd : (s.gs.map (·.1)).Nodup
theorem R.free_ok {s : R} (h : s.Ok) : s.free.1.cells = s.cells ∧ s.free.1.given = s.given ∧ s.free.1.givings = s.givings ∧ s.free.2 < s.cells.length ∧ used s.free.1.gs s.free.2 = false ∧ told s.cells s.free.1.gs = told s.cells s.gs := by
  unfold R.free
  cases e : freeAt s.gs s.cells.length 0 with
  | some n =>
    obtain ⟨_, h2, h3⟩ := freeAt_ok e
    exact ⟨rfl, rfl, rfl, by show n < _; omega, h3, rfl⟩
  | none =>
    refine ⟨rfl, rfl, rfl, ?_, ?_, told_put rfl⟩
    · show leastAt s.given < _
      rw [← h.len]
      exact leastAt_lt fun z => h.ne (List.length_eq_zero_iff.mp (by rw [← h.len, z]; rfl))
    · show used (put s.gs _ _) _ = false
      rw [used_put rfl, decide_eq_true rfl]
      exact Bool.and_false _
theorem names_put {gs : Gs} {n : Nat} {p : Pl} : (put gs n p).map (·.1) = gs.map (·.1) := by
  unfold put
  rw [List.map_map]
  rfl
theorem names_setAt {gs : Gs} {x : PySem.Str} {r : Nat} {p : Pl} : (setAt gs x r p).map (·.1) = gs.map (·.1) := by
  unfold setAt
  rw [List.map_map]
  refine List.map_congr_left fun g _ => ?_
  show (if g.1 = x then (g.1, g.2.set r p) else g).1 = g.1
  split <;> rfl
/-! ### a room comes to a place -/
def getG (gs : Gs) (x : PySem.Str) : Option (List Pl) := (gs.find? fun g => decide (g.1 = x)).map (·.2)
theorem getG_mem {gs : Gs} {x : PySem.Str} {ps : List Pl} (h : getG gs x = some ps) : (x, ps) ∈ gs := by
  unfold getG at h
  cases hf : gs.find? fun g => decide (g.1 = x) with
  | none => rw [hf] at h; exact nomatch h
  | some e =>
    rw [hf] at h
    have h1 := List.mem_of_find?_eq_some hf
    have h2 : e.1 = x := of_decide_eq_true (List.find?_some (p := fun g : PySem.Str × List Pl => decide (g.1 = x)) hf)
    have h3 : e.2 = ps := Option.some.inj h
    rw [← h2, ← h3]
    exact h1
theorem getG_uniq {gs : Gs} (nd : (gs.map (·.1)).Nodup) {x : PySem.Str} {ps : List Pl} {g : PySem.Str × List Pl} (h : getG gs x = some ps) (hg : g ∈ gs) (e : g.1 = x) : g.2 = ps := by
  have h2 := getG_mem h
  induction gs with
  | nil => exact nomatch hg
  | cons a r ih =>
    rw [List.map_cons, List.nodup_cons] at nd
    rcases List.mem_cons.mp hg with z | z <;> rcases List.mem_cons.mp h2 with y | y
    · rw [z, ← y]
    · exact absurd (List.mem_map.mpr ⟨_, y, rfl⟩) (by rw [← z, e] at nd; exact nd.1)
    · exact absurd (show x ∈ r.map (·.1) from e ▸ List.mem_map.mpr ⟨g, z, rfl⟩) (by rw [← y] at nd; exact nd.1)
    · refine ih nd.2 ?_ z y
      unfold getG at h ⊢
      rw [List.find?_cons] at h
      have ne : a.1 ≠ x := fun w => nd.1 (by rw [w, ← e]; exact List.mem_map.mpr ⟨_, z, rfl⟩)
      rw [decide_eq_false ne] at h
      exact h
/-- the place (x, r) is brought into a room: the rooms then, and the room's number -/
def R.brought (s : R) (x : PySem.Str) (r : Nat) : R × Nat := match ((getG s.gs x).getD [])[r]?.getD .blank with
  | .at n => (s, n)
  | p =>
    let f := s.free
    ({ cells := s.cells.set f.2 (words s.cells p), given := s.given.set f.2 (s.givings + 1), givings := s.givings + 1, gs := setAt f.1.gs x r (.at f.2) }, f.2)
/-- bringing a place tells no guest otherwise -/
theorem R.brought_told {s : R} (h : s.Ok) {x : PySem.Str} {r : Nat} {ps : List Pl} (hx : getG s.gs x = some ps) (hr : r < 8) : told (s.brought x r).1.cells (s.brought x r).1.gs = told s.cells s.gs ∧ (s.brought x r).2 < s.cells.length ∧ (s.brought x r).1.cells.length = s.cells.length := by
  obtain ⟨k8, hp⟩ := h.at_ _ (getG_mem hx)
  have hr8 : r < ps.length := by rw [show ps.length = 8 from k8]; exact hr
  have eg : ((getG s.gs x).getD [])[r]?.getD .blank = ps[r] := by
    rw [hx]
    show ps[r]?.getD .blank = _
    rw [List.getElem?_eq_getElem hr8]
    rfl
  obtain ⟨f1, f2, f3, f4, f5, f6⟩ := R.free_ok h
  have main : ∀ p : Pl, p = ps[r] → (∀ n, p ≠ .at n) → told (s.cells.set s.free.2 (words s.cells p)) (setAt s.free.1.gs x r (.at s.free.2)) = told s.cells s.gs := fun p ep np => by
    have a : told (s.cells.set s.free.2 (words s.cells p)) s.free.1.gs = told s.cells s.gs := (told_free f5).trans f6
    refine Eq.trans (told_setAt fun g hg e q hq => ?_) a
    -- the place told before: the same place, or (where the oldest was put) its words
    have inF : words (s.cells.set s.free.2 (words s.cells p)) (.at s.free.2) = words s.cells p := by
      show (s.cells.set s.free.2 (words s.cells p)).getD s.free.2 [] = _
      rw [List.getD_eq_getElem?_getD, List.getElem?_set_self f4]
      rfl
    rw [inF]
    have hq2 : q = p := by
      have : s.free.1.gs = s.gs ∨ ∃ n p', s.free.1.gs = put s.gs n p' := by
        unfold R.free
        cases freeAt s.gs s.cells.length 0 with
        | some n => exact .inl rfl
        | none => exact .inr ⟨_, _, rfl⟩
      rcases this with w | ⟨n, p', w⟩
      · rw [w] at hg
        have := getG_uniq h.nd hx hg e
        rw [this, List.getElem?_eq_getElem hr8] at hq
        rw [ep]
        exact (Option.some.inj hq).symm
      · rw [w] at hg
        obtain ⟨g0, hg0, eg0⟩ := List.mem_map.mp hg
        have e0 : g0.1 = x := by rw [← e, ← eg0]
        have := getG_uniq h.nd hx hg0 e0
        have eg2 : g.2 = g0.2.map fun q => if isAt n q = true then p' else q := by rw [← eg0]
        rw [eg2, this, List.getElem?_map, List.getElem?_eq_getElem hr8] at hq
        have hq := Option.some.inj hq
        rw [← hq, ← ep]
        exact if_neg fun z => np n (isAt_iff.mp z)
    rw [hq2]
    cases p with
    | blank => rfl
    | own _ => rfl
    | «at» n => exact absurd rfl (np n)
  unfold R.brought
  rw [eg]
  cases hc : ps[r] with
  | «at» n => exact ⟨rfl, (hp ps[r] (List.getElem_mem hr8)).2 n hc, rfl⟩
  | blank => exact ⟨main _ hc.symm (fun _ z => nomatch z), f4, List.length_set⟩
  | own ws => exact ⟨main _ hc.symm (fun _ z => nomatch z), f4, List.length_set⟩
/-! ### a word is written -/
theorem words_set {c : List (List Nat)} {n : Nat} {ws : List Nat} {q : Pl} (h : q ≠ .at n) : words (c.set n ws) q = words c q := by
  cases q with
  | blank => rfl
  | own _ => rfl
  | «at» m =>
    show (c.set n ws).getD m [] = c.getD m []
    rw [List.getD_eq_getElem?_getD, List.getD_eq_getElem?_getD, List.getElem?_set_ne fun e => h (by rw [e])]
/-- only the place (x, r) lies in the room n -/
def Alone (gs : Gs) (x : PySem.Str) (r n : Nat) : Prop := ∀ g ∈ gs, ∀ j, g.2[j]? = some (.at n) → g.1 = x ∧ j = r
def setW (t : List (PySem.Str × List (List Nat))) (x : PySem.Str) (r : Nat) (ws : List Nat) : List (PySem.Str × List (List Nat)) := t.map fun g => if g.1 = x then (g.1, g.2.set r ws) else g
theorem told_write {c : List (List Nat)} {gs : Gs} {x : PySem.Str} {r n : Nat} {ws : List Nat} (hA : Alone gs x r n) (hn : n < c.length) (hx : ∀ g ∈ gs, g.1 = x → g.2[r]? = some (.at n)) : told (c.set n ws) gs = setW (told c gs) x r ws := by
  unfold told setW
  rw [List.map_map]
  refine List.map_congr_left fun g hg => ?_
  show (g.1, g.2.map (words (c.set n ws))) = if g.1 = x then (g.1, (g.2.map (words c)).set r ws) else (g.1, g.2.map (words c))
  by_cases e : g.1 = x
  · rw [if_pos e]
    congr 1
    refine List.ext_getElem? fun j => ?_
    by_cases hj : r = j
    · subst hj
      have w := hx g hg e
      have lt : r < g.2.length := (List.getElem?_eq_some_iff.mp w).1
      rw [List.getElem?_set_self (by rw [List.length_map]; exact lt), List.getElem?_map, w]
      show some ((c.set n ws).getD n []) = some ws
      rw [List.getD_eq_getElem?_getD, List.getElem?_set_self hn]
      rfl
    · rw [List.getElem?_set_ne hj, List.getElem?_map, List.getElem?_map]
      cases hq : g.2[j]? with
      | none => rfl
      | some q =>
        show some (words (c.set n ws) q) = some (words c q)
        rw [words_set fun z => hj (hA g hg j (by rw [hq, z])).2.symm]
  · rw [if_neg e]
    congr 1
    refine List.map_congr_left fun q hq => ?_
    obtain ⟨j, hj, rfl⟩ := List.getElem_of_mem hq
    exact words_set fun z => e (hA g hg j (by rw [List.getElem?_eq_getElem hj, z])).1
theorem alone_set {gs : Gs} {x : PySem.Str} {r n : Nat} (h : used gs n = false) : Alone (setAt gs x r (.at n)) x r n := fun g hg j hj => by
  obtain ⟨g0, hg0, rfl⟩ := List.mem_map.mp hg
  have no : ∀ j : Nat, g0.2[j]? ≠ some (Pl.at n) := fun j z => by
    have w : used gs n = true := List.any_eq_true.mpr ⟨g0, hg0, List.any_eq_true.mpr ⟨_, List.mem_of_getElem? z, decide_eq_true rfl⟩⟩
    rw [h] at w
    exact nomatch w
  by_cases e : g0.1 = x
  · rw [if_pos e] at hj ⊢
    refine ⟨e, ?_⟩
    by_cases hr : r = j
    · exact hr.symm
    · have hj : (g0.2.set r (.at n))[j]? = some (.at n) := hj
      rw [List.getElem?_set_ne hr] at hj
      exact absurd hj (no j)
  · rw [if_neg e] at hj
    exact absurd hj (no j)
/-! ### as it should be, still -/
theorem mem_setAt {gs : Gs} {x : PySem.Str} {r : Nat} {p : Pl} {g : PySem.Str × List Pl} (h : g ∈ setAt gs x r p) : ∃ g0 ∈ gs, g.1 = g0.1 ∧ g.2.length = g0.2.length ∧ ∀ q ∈ g.2, q ∈ g0.2 ∨ q = p := by
  obtain ⟨g0, hg0, rfl⟩ := List.mem_map.mp h
  refine ⟨g0, hg0, ?_⟩
  by_cases e : g0.1 = x
  · rw [if_pos e]
    exact ⟨rfl, List.length_set, fun q hq => (List.mem_or_eq_of_mem_set hq)⟩
  · rw [if_neg e]
    exact ⟨rfl, rfl, fun q hq => .inl hq⟩
theorem mem_put {gs : Gs} {n : Nat} {p : Pl} {g : PySem.Str × List Pl} (h : g ∈ put gs n p) : ∃ g0 ∈ gs, g.1 = g0.1 ∧ g.2.length = g0.2.length ∧ ∀ q ∈ g.2, (q ∈ g0.2 ∧ q ≠ .at n) ∨ q = p := by
  obtain ⟨g0, hg0, rfl⟩ := List.mem_map.mp h
  refine ⟨g0, hg0, rfl, List.length_map _, fun q hq => ?_⟩
  obtain ⟨q0, hq0, rfl⟩ := List.mem_map.mp hq
  by_cases e : isAt n q0 = true
  · rw [if_pos e]
    exact .inr rfl
  · rw [if_neg e]
    exact .inl ⟨hq0, fun z => e (isAt_iff.mpr z)⟩
/-- a place as it should be -/
def PlOk (c : List (List Nat)) (p : Pl) : Prop := (words c p).length = 8 ∧ ∀ n, p = .at n → n < c.length
theorem PlOk.at_lt {c : List (List Nat)} (h : ∀ ws ∈ c, ws.length = 8) {n : Nat} (hn : n < c.length) : PlOk c (.at n) := by
  refine ⟨?_, fun m e => by injection e with e; omega⟩
  show (c.getD n []).length = 8
  rw [List.getD_eq_getElem?_getD, List.getElem?_eq_getElem hn]
  exact h _ (List.getElem_mem hn)
theorem PlOk.own {c : List (List Nat)} {ws : List Nat} (h : ws.length = 8) : PlOk c (.own ws) := ⟨h, fun _ z => nomatch z⟩
theorem PlOk.blank {c : List (List Nat)} : PlOk c .blank := ⟨rfl, fun _ z => nomatch z⟩
theorem R.Ok.setAt {s : R} (h : s.Ok) {x : PySem.Str} {r : Nat} {p : Pl} (hp : PlOk s.cells p) : R.Ok { s with gs := setAt s.gs x r p } :=
  ⟨h.len, h.ne, h.eight, fun g hg => by
    obtain ⟨g0, hg0, _, e2, e3⟩ := mem_setAt hg
    refine ⟨by rw [e2]; exact (h.at_ g0 hg0).1, fun q hq => ?_⟩
    rcases e3 q hq with z | z
    · exact (h.at_ g0 hg0).2 q z
    · rw [z]; exact hp, by show ((Rm.setAt s.gs x r p).map (·.1)).Nodup; rw [names_setAt]; exact h.nd⟩
theorem R.Ok.put {s : R} (h : s.Ok) {n : Nat} {p : Pl} (hp : PlOk s.cells p) : R.Ok { s with gs := put s.gs n p } :=
  ⟨h.len, h.ne, h.eight, fun g hg => by
    obtain ⟨g0, hg0, _, e2, e3⟩ := mem_put hg
    refine ⟨by rw [e2]; exact (h.at_ g0 hg0).1, fun q hq => ?_⟩
    rcases e3 q hq with z | z
    · exact (h.at_ g0 hg0).2 q z.1
    · rw [z]; exact hp, by show ((Rm.put s.gs n p).map (·.1)).Nodup; rw [names_put]; exact h.nd⟩
theorem R.Ok.cell {s : R} (h : s.Ok) {n : Nat} {ws : List Nat} (hw : ws.length = 8) {gv : List Nat} (hg : gv.length = s.given.length) {k : Nat} : R.Ok { cells := s.cells.set n ws, given := gv, givings := k, gs := s.gs } := by
  refine ⟨by show gv.length = (s.cells.set n ws).length; rw [List.length_set, hg, h.len], fun z => h.ne ?_, fun v hv => ?_, fun g hg => ⟨(h.at_ g hg).1, fun p hp => ?_⟩, h.nd⟩
  · have := congrArg List.length z
    rw [List.length_set] at this
    exact List.length_eq_zero_iff.mp this
  · rcases List.mem_or_eq_of_mem_set hv with z | z
    · exact h.eight v z
    · rw [z]; exact hw
  · obtain ⟨a, b⟩ := (h.at_ g hg).2 p hp
    refine ⟨?_, fun m e => by show m < (s.cells.set n ws).length; rw [List.length_set]; exact b m e⟩
    by_cases e : p = .at n
    · rw [e]
      show ((s.cells.set n ws).getD n []).length = 8
      rw [List.getD_eq_getElem?_getD, List.getElem?_set_self (b n e)]
      exact hw
    · show (words (s.cells.set n ws) p).length = 8
      rw [words_set e]
      exact a
theorem R.Ok.free {s : R} (h : s.Ok) : s.free.1.Ok := by
  unfold R.free
  cases freeAt s.gs s.cells.length 0 with
  | some n => exact h
  | none =>
    refine R.Ok.put h (PlOk.own ?_)
    have hl : leastAt s.given < s.cells.length := by
      rw [← h.len]
      exact leastAt_lt fun z => h.ne (List.length_eq_zero_iff.mp (by rw [← h.len, z]; rfl))
    rw [List.getD_eq_getElem?_getD, List.getElem?_eq_getElem hl]
    exact h.eight _ (List.getElem_mem hl)
end Rm

namespace Rm
/-! Rooms that guests share, as values: what the class's methods do -/
theorem at_place {s : R} (h : s.Ok) {x : PySem.Str} {r : Nat} {ps : List Pl} (hx : getG s.gs x = some ps) (hr : r < 8) : ∃ p, ps[r]? = some p ∧ ((getG s.gs x).getD [])[r]?.getD .blank = p ∧ PlOk s.cells p ∧ ∀ g ∈ s.gs, g.1 = x → g.2[r]? = some p := by
  obtain ⟨k8, hp⟩ := h.at_ _ (getG_mem hx)
  have hr8 : r < ps.length := by rw [show ps.length = 8 from k8]; exact hr
  refine ⟨ps[r], List.getElem?_eq_getElem hr8, ?_, hp _ (List.getElem_mem hr8), fun g hg e => ?_⟩
  · rw [hx]
    show ps[r]?.getD .blank = _
    rw [List.getElem?_eq_getElem hr8]
    rfl
  · rw [getG_uniq h.nd hx hg e]
    exact List.getElem?_eq_getElem hr8
theorem set_has {gs : Gs} {x : PySem.Str} {r : Nat} {p : Pl} (h : ∀ g ∈ gs, g.1 = x → r < g.2.length) : ∀ g ∈ setAt gs x r p, g.1 = x → g.2[r]? = some p := fun g hg e => by
  obtain ⟨g0, hg0, rfl⟩ := List.mem_map.mp hg
  have e0 : g0.1 = x := by
    by_cases z : g0.1 = x
    · exact z
    · rw [if_neg z] at e
      exact e
  rw [if_pos e0]
  exact List.getElem?_set_self (h g0 hg0 e0)
theorem R.free_8 {s : R} (h : s.Ok) : ∀ g ∈ s.free.1.gs, g.2.length = 8 := fun g hg => (h.free.at_ g hg).1
/-- behind brought the place lies in the room; alone, where it did not lie there before -/
theorem R.brought_ok {s : R} (h : s.Ok) {x : PySem.Str} {r : Nat} {ps : List Pl} (hx : getG s.gs x = some ps) (hr : r < 8) :
    (s.brought x r).1.Ok ∧ (∀ g ∈ (s.brought x r).1.gs, g.1 = x → g.2[r]? = some (.at (s.brought x r).2)) ∧ ((∀ n, ps[r]? ≠ some (.at n)) → Alone (s.brought x r).1.gs x r (s.brought x r).2) := by
  obtain ⟨p, e1, e2, hp, hall⟩ := at_place h hx hr
  obtain ⟨f1, f2, f3, f4, f5, f6⟩ := R.free_ok h
  have main : ∀ k, R.Ok { cells := s.cells.set s.free.2 (words s.cells p), given := s.given.set s.free.2 k, givings := k, gs := setAt s.free.1.gs x r (.at s.free.2) } ∧ (∀ g ∈ setAt s.free.1.gs x r (.at s.free.2), g.1 = x → g.2[r]? = some (.at s.free.2)) ∧ Alone (setAt s.free.1.gs x r (.at s.free.2)) x r s.free.2 := fun k => by
    refine ⟨?_, set_has fun g hg _ => by rw [R.free_8 h g hg]; exact hr, alone_set f5⟩
    have a : R.Ok { cells := s.cells.set s.free.2 (words s.cells p), given := s.given.set s.free.2 k, givings := k, gs := s.free.1.gs } := by
      have b := R.Ok.cell h.free (n := s.free.2) (ws := words s.cells p) hp.1 (gv := s.given.set s.free.2 k) (by rw [List.length_set, f2]) (k := k)
      rw [f1] at b
      exact b
    exact a.setAt (PlOk.at_lt a.eight (by show s.free.2 < (s.cells.set _ _).length; rw [List.length_set]; exact f4))
  unfold R.brought
  rw [e2, e1]
  cases p with
  | «at» n => exact ⟨h, fun g hg e => by rw [hall g hg e], fun z => absurd rfl (z n)⟩
  | blank => exact ⟨(main (s.givings + 1)).1, (main (s.givings + 1)).2.1, fun _ => (main (s.givings + 1)).2.2⟩
  | own ws => exact ⟨(main (s.givings + 1)).1, (main (s.givings + 1)).2.1, fun _ => (main (s.givings + 1)).2.2⟩
/-- the places that lie in the room n, in their order -/
def lying (gs : Gs) (n : Nat) : List (PySem.Str × Nat) := gs.flatMap fun g => ((List.range g.2.length).filter fun j => isAt n (g.2.getD j .blank)).map fun j => (g.1, j)
theorem mem_lying {gs : Gs} {n : Nat} {y : PySem.Str} {j : Nat} : (y, j) ∈ lying gs n ↔ ∃ g ∈ gs, g.1 = y ∧ g.2[j]? = some (.at n) := by
  unfold lying
  rw [List.mem_flatMap]
  constructor
  · rintro ⟨g, hg, h⟩
    obtain ⟨k, hk, e⟩ := List.mem_map.mp h
    obtain ⟨e1, e2⟩ := Prod.mk.inj e
    obtain ⟨k1, k2⟩ := List.mem_filter.mp hk
    have lt := List.mem_range.mp k1
    subst e2
    refine ⟨g, hg, e1, ?_⟩
    have w := isAt_iff.mp k2
    rw [List.getD_eq_getElem?_getD, List.getElem?_eq_getElem lt] at w
    rw [List.getElem?_eq_getElem lt]
    exact congrArg some w
  · rintro ⟨g, hg, e, h⟩
    obtain ⟨lt, e2⟩ := List.getElem?_eq_some_iff.mp h
    refine ⟨g, hg, List.mem_map.mpr ⟨j, List.mem_filter.mpr ⟨List.mem_range.mpr lt, ?_⟩, by rw [e]⟩⟩
    rw [List.getD_eq_getElem?_getD, h]
    exact decide_eq_true rfl
theorem alone_of {gs : Gs} {x : PySem.Str} {r n : Nat} (h : ¬ 1 < (lying gs n).length) (hx : (x, r) ∈ lying gs n) : Alone gs x r n := fun g hg j hj => by
  have m : (g.1, j) ∈ lying gs n := mem_lying.mpr ⟨g, hg, rfl, hj⟩
  have l1 : (lying gs n).length = 1 := by
    have := List.length_pos_of_mem hx
    omega
  obtain ⟨a, ea⟩ := List.length_eq_one_iff.mp l1
  rw [ea, List.mem_singleton] at m hx
  rw [← hx] at m
  exact Prod.mk.inj m
/-- write_cell behind its checks -/
def R.write (s : R) (x : PySem.Str) (r c w : Nat) : R :=
  let b1 := s.brought x r
  let b2 := if 1 < (lying b1.1.gs b1.2).length then R.brought { b1.1 with gs := setAt b1.1.gs x r (.own (b1.1.cells.getD b1.2 [])) } x r else b1
  { b2.1 with cells := b2.1.cells.set b2.2 ((b2.1.cells.getD b2.2 []).set c w) }
theorem getG_told {c : List (List Nat)} {gs gs' : Gs} {c' : List (List Nat)} {x : PySem.Str} {ps : List Pl} (ht : told c' gs' = told c gs) (hx : getG gs x = some ps) : ∃ ps', getG gs' x = some ps' ∧ ps'.map (words c') = ps.map (words c) := by
  have key : ∀ (c : List (List Nat)) (gs : Gs), (getG gs x).map (fun ps => ps.map (words c)) = ((told c gs).find? fun g => decide (g.1 = x)).map (·.2) := fun c gs => by
    unfold getG told
    rw [List.find?_map, Option.map_map, Option.map_map]
    rfl
  have e := key c' gs'
  rw [ht, ← key c gs, hx] at e
  cases hg : getG gs' x with
  | none => rw [hg] at e; exact nomatch e
  | some ps' =>
    rw [hg] at e
    exact ⟨ps', rfl, Option.some.inj e⟩
theorem getG_mono {gs : Gs} {x : PySem.Str} {r : Nat} {p : Pl} {ps : List Pl} (hx : getG gs x = some ps) : getG (setAt gs x r p) x = some (ps.set r p) := by
  unfold getG setAt at *
  rw [List.find?_map]
  have e : ((fun g : PySem.Str × List Pl => decide (g.1 = x)) ∘ fun g => if g.1 = x then (g.1, g.2.set r p) else g) = fun g => decide (g.1 = x) := funext fun g => by
    show decide ((if g.1 = x then (g.1, g.2.set r p) else g).1 = x) = _
    by_cases z : g.1 = x
    · rw [if_pos z]
    · rw [if_neg z]
  rw [e]
  cases hf : gs.find? fun g => decide (g.1 = x) with
  | none => rw [hf] at hx; exact nomatch hx
  | some g =>
    rw [hf] at hx
    have h2 : g.1 = x := of_decide_eq_true (List.find?_some (p := fun g : PySem.Str × List Pl => decide (g.1 = x)) hf)
    have h3 : g.2 = ps := Option.some.inj hx
    show some (if g.1 = x then (g.1, g.2.set r p) else g).2 = _
    rw [if_pos h2, h3]
/-- a written word: the guest's own word is it, nothing else is told otherwise -/
theorem R.write_ok {s : R} (h : s.Ok) {x : PySem.Str} {r c w : Nat} {ps : List Pl} (hx : getG s.gs x = some ps) (hr : r < 8) {p : Pl} (hp : ps[r]? = some p) :
    (s.write x r c w).Ok ∧ told (s.write x r c w).cells (s.write x r c w).gs = setW (told s.cells s.gs) x r ((words s.cells p).set c w) := by
  obtain ⟨t1, l1, k1⟩ := R.brought_told h hx hr
  obtain ⟨o1, a1, _⟩ := R.brought_ok h hx hr
  obtain ⟨ps1, hx1, m1⟩ := getG_told t1 hx
  generalize hb1 : s.brought x r = b1 at t1 l1 k1 o1 a1 hx1 m1
  obtain ⟨s1, n1⟩ := b1
  have t1 : told s1.cells s1.gs = told s.cells s.gs := t1
  have hx1 : getG s1.gs x = some ps1 := hx1
  have l1 : n1 < s1.cells.length := by rw [show s1.cells.length = s.cells.length from k1]; exact l1
  have a1 : ∀ g ∈ s1.gs, g.1 = x → g.2[r]? = some (.at n1) := a1
  have p1 : ps1[r]? = some (.at n1) := a1 _ (getG_mem hx1) rfl
  have w1 : words s1.cells (.at n1) = words s.cells p := by
    have e := congrArg (fun l : List (List Nat) => l[r]?) m1
    have e : (ps1.map (words s1.cells))[r]? = (ps.map (words s.cells))[r]? := e
    rw [List.getElem?_map, List.getElem?_map, p1, hp] at e
    exact Option.some.inj e
  -- the end: alone in its room
  have fin : ∀ (s2 : R) (n2 : Nat), s2.Ok → told s2.cells s2.gs = told s.cells s.gs → n2 < s2.cells.length → (∀ g ∈ s2.gs, g.1 = x → g.2[r]? = some (.at n2)) → Alone s2.gs x r n2 →
      R.Ok { s2 with cells := s2.cells.set n2 ((s2.cells.getD n2 []).set c w) } ∧ told (s2.cells.set n2 ((s2.cells.getD n2 []).set c w)) s2.gs = setW (told s.cells s.gs) x r ((words s.cells p).set c w) := fun s2 n2 o2 t2 l2 a2 al => by
    obtain ⟨ps2, hx2, m2⟩ := getG_told t2 hx
    have p2 : ps2[r]? = some (.at n2) := a2 _ (getG_mem hx2) rfl
    have w2 : s2.cells.getD n2 [] = words s.cells p := by
      have e : (ps2.map (words s2.cells))[r]? = (ps.map (words s.cells))[r]? := congrArg (fun l : List (List Nat) => l[r]?) m2
      rw [List.getElem?_map, List.getElem?_map, p2, hp] at e
      exact Option.some.inj e
    refine ⟨R.Ok.cell o2 ?_ rfl, ?_⟩
    · rw [List.length_set]
      exact (PlOk.at_lt o2.eight l2).1
    · rw [told_write al l2 a2, t2, w2]
  unfold R.write
  rw [hb1]
  dsimp only
  by_cases hm : 1 < (lying s1.gs n1).length
  · simp only [if_pos hm]
    have o2 : R.Ok { s1 with gs := setAt s1.gs x r (.own (s1.cells.getD n1 [])) } := o1.setAt (PlOk.own (PlOk.at_lt o1.eight l1).1)
    have hx2 : getG (setAt s1.gs x r (.own (s1.cells.getD n1 []))) x = some (ps1.set r (.own (s1.cells.getD n1 []))) := getG_mono hx1
    have t2 : told s1.cells (setAt s1.gs x r (.own (s1.cells.getD n1 []))) = told s1.cells s1.gs := told_setAt fun g hg e q hq => by
      rw [a1 g hg e] at hq
      rw [← Option.some.inj hq]
      rfl
    obtain ⟨t3, l3, k3⟩ := R.brought_told o2 hx2 hr
    obtain ⟨o3, a3, al3⟩ := R.brought_ok o2 hx2 hr
    have al3 := al3 fun n z => by
      rw [List.getElem?_set_self (by have := (List.getElem?_eq_some_iff.mp p1).1; exact this)] at z
      exact nomatch z
    exact fin _ _ o3 (t3.trans (t2.trans t1)) (by rw [k3]; exact l3) a3 al3
  · simp only [if_neg hm]
    exact fin s1 n1 o1 t1 l1 a1 (alone_of hm (mem_lying.mpr ⟨_, getG_mem hx1, rfl, p1⟩))
end Rm

namespace Rm
/-- the numbers in use, rising -/
def inUse (s : R) : List Nat := (List.range s.cells.length).filter (used s.gs)
/-- share: rooms of the same words become the first of them -/
def shareGo (c : List (List Nat)) : List Nat → Gs → List (List Nat × Nat) → Nat → Gs × Nat
  | [], gs, _, k => (gs, k)
  | n :: l, gs, fs, k => match fs.find? fun e => decide (e.1 = c.getD n []) with
    | some e => shareGo c l (put gs n (.at e.2)) fs (k + 1)
    | none => shareGo c l gs (fs ++ [(c.getD n [], n)]) k
def R.share (s : R) : R × Nat :=
  let z := shareGo s.cells (inUse s) s.gs [] 0
  ({ s with gs := z.1 }, z.2)
theorem shareGo_ok {s : R} : ∀ {l : List Nat} {gs : Gs} {fs : List (List Nat × Nat)} {k : Nat}, R.Ok { s with gs := gs } → (∀ e ∈ fs, s.cells.getD e.2 [] = e.1 ∧ e.2 < s.cells.length) → (∀ n ∈ l, n < s.cells.length) →
    R.Ok { s with gs := (shareGo s.cells l gs fs k).1 } ∧ told s.cells (shareGo s.cells l gs fs k).1 = told s.cells gs
  | [], gs, fs, k, h, hf, hl => ⟨h, rfl⟩
  | n :: l, gs, fs, k, h, hf, hl => by
    have hn := hl n List.mem_cons_self
    have hl' : ∀ m ∈ l, m < s.cells.length := fun m hm => hl m (List.mem_cons_of_mem _ hm)
    unfold shareGo
    cases he : fs.find? fun e => decide (e.1 = s.cells.getD n []) with
    | some e =>
      have m := List.mem_of_find?_eq_some he
      have q : e.1 = s.cells.getD n [] := of_decide_eq_true (List.find?_some (p := fun e : List Nat × Nat => decide (e.1 = s.cells.getD n [])) he)
      obtain ⟨f1, f2⟩ := hf e m
      have h2 : R.Ok { s with gs := put gs n (.at e.2) } := R.Ok.put (s := { s with gs := gs }) h (PlOk.at_lt h.eight f2)
      obtain ⟨a, b⟩ := shareGo_ok (k := k + 1) h2 hf hl'
      refine ⟨a, b.trans (told_put ?_)⟩
      show s.cells.getD e.2 [] = s.cells.getD n []
      rw [f1, q]
    | none =>
      exact shareGo_ok h (fun e he => by
        rcases List.mem_append.mp he with z | z
        · exact hf e z
        · rw [List.mem_singleton.mp z]; exact ⟨rfl, hn⟩) hl'
/-- sharing tells no guest otherwise -/
theorem R.share_ok {s : R} (h : s.Ok) : s.share.1.Ok ∧ told s.share.1.cells s.share.1.gs = told s.cells s.gs :=
  shareGo_ok h (fun _ z => nomatch z) fun n hn => List.mem_range.mp (List.mem_filter.mp hn).1
/-- take_back: the guest's place holds its words itself -/
theorem R.back_ok {s : R} (h : s.Ok) {x : PySem.Str} {r n : Nat} {ps : List Pl} (hx : getG s.gs x = some ps) (hr : r < 8) (hp : ps[r]? = some (.at n)) :
    R.Ok { s with gs := setAt s.gs x r (.own (s.cells.getD n [])) } ∧ told s.cells (setAt s.gs x r (.own (s.cells.getD n []))) = told s.cells s.gs := by
  obtain ⟨p, e1, _, e3, e4⟩ := at_place h hx hr
  rw [hp] at e1
  obtain rfl := Option.some.inj e1
  refine ⟨h.setAt (PlOk.own e3.1), told_setAt fun g hg e q hq => ?_⟩
  rw [e4 g hg e] at hq
  rw [← Option.some.inj hq]
  rfl
/-- where the words of a row go first -/
def placeOf (ws : List Nat) : Pl := if ws = zeros then .blank else .own ws
theorem words_placeOf {c : List (List Nat)} {ws : List Nat} : words c (placeOf ws) = ws := by
  unfold placeOf
  split
  · rename_i e
    exact e.symm
  · rfl
theorem PlOk.placeOf {c : List (List Nat)} {ws : List Nat} (h : ws.length = 8) : PlOk c (Rm.placeOf ws) := by
  refine ⟨by rw [words_placeOf]; exact h, fun n z => ?_⟩
  unfold Rm.placeOf at z
  split at z <;> exact nomatch z
/-- come -/
theorem R.come_ok {s : R} (h : s.Ok) {x : PySem.Str} {rows : List (List Nat)} (l8 : rows.length = 8) (h8 : ∀ ws ∈ rows, ws.length = 8) (hx : getG s.gs x = none) :
    R.Ok { s with gs := s.gs ++ [(x, rows.map placeOf)] } ∧ told s.cells (s.gs ++ [(x, rows.map placeOf)]) = told s.cells s.gs ++ [(x, rows)] := by
  refine ⟨⟨h.len, h.ne, h.eight, fun g hg => ?_, ?_⟩, ?_⟩
  · rcases List.mem_append.mp hg with z | z
    · exact h.at_ g z
    · rw [List.mem_singleton.mp z]
      refine ⟨by show (rows.map placeOf).length = 8; rw [List.length_map]; exact l8, fun p hp => ?_⟩
      obtain ⟨ws, hw, rfl⟩ := List.mem_map.mp hp
      exact PlOk.placeOf (h8 ws hw)
  · show ((s.gs ++ [(x, rows.map placeOf)]).map (·.1)).Nodup
    rw [List.map_append, List.nodup_append]
    refine ⟨h.nd, List.nodup_cons.mpr ⟨fun z => (nomatch z), List.nodup_nil⟩, fun a ha b hb => ?_⟩
    rw [List.mem_singleton.mp hb]
    rintro rfl
    obtain ⟨g, hg, e⟩ := List.mem_map.mp ha
    unfold getG at hx
    rw [Option.map_eq_none_iff, List.find?_eq_none] at hx
    exact hx g hg (decide_eq_true e)
  · unfold told
    rw [List.map_append]
    congr 1
    show [(x, (rows.map placeOf).map (words s.cells))] = [(x, rows)]
    rw [List.map_map]
    have : (words s.cells ∘ placeOf) = id := funext fun ws => words_placeOf
    rw [this, List.map_id]
/-- replaced -/
def replG (gs : Gs) (x : PySem.Str) (ps : List Pl) : Gs := gs.map fun g => if g.1 = x then (g.1, ps) else g
theorem R.repl_ok {s : R} (h : s.Ok) {x : PySem.Str} {rows : List (List Nat)} (l8 : rows.length = 8) (h8 : ∀ ws ∈ rows, ws.length = 8) :
    R.Ok { s with gs := replG s.gs x (rows.map placeOf) } ∧ told s.cells (replG s.gs x (rows.map placeOf)) = (told s.cells s.gs).map fun g => if g.1 = x then (g.1, rows) else g := by
  have names : (replG s.gs x (rows.map placeOf)).map (·.1) = s.gs.map (·.1) := by
    unfold replG
    rw [List.map_map]
    refine List.map_congr_left fun g _ => ?_
    show (if g.1 = x then (g.1, rows.map placeOf) else g).1 = g.1
    split <;> rfl
  refine ⟨⟨h.len, h.ne, h.eight, fun g hg => ?_, by show ((replG s.gs x (rows.map placeOf)).map (·.1)).Nodup; rw [names]; exact h.nd⟩, ?_⟩
  · obtain ⟨g0, hg0, rfl⟩ := List.mem_map.mp hg
    by_cases e : g0.1 = x
    · rw [if_pos e]
      refine ⟨by show (rows.map placeOf).length = 8; rw [List.length_map]; exact l8, fun p hp => ?_⟩
      obtain ⟨ws, hw, rfl⟩ := List.mem_map.mp hp
      exact PlOk.placeOf (h8 ws hw)
    · rw [if_neg e]
      exact h.at_ g0 hg0
  · unfold told replG
    rw [List.map_map, List.map_map]
    refine List.map_congr_left fun g _ => ?_
    show ((if g.1 = x then (g.1, rows.map placeOf) else g).1, (if g.1 = x then (g.1, rows.map placeOf) else g).2.map (words s.cells)) = if g.1 = x then (g.1, rows) else (g.1, g.2.map (words s.cells))
    by_cases e : g.1 = x
    · rw [if_pos e, if_pos e]
      congr 1
      show (rows.map placeOf).map (words s.cells) = rows
      rw [List.map_map]
      have : (words s.cells ∘ placeOf) = id := funext fun ws => words_placeOf
      rw [this, List.map_id]
    · rw [if_neg e, if_neg e]
/-- go -/
def dropG (gs : Gs) (x : PySem.Str) : Gs := gs.filter fun g => !decide (g.1 = x)
theorem R.go_ok {s : R} (h : s.Ok) {x : PySem.Str} : R.Ok { s with gs := dropG s.gs x } ∧ told s.cells (dropG s.gs x) = (told s.cells s.gs).filter fun g => !decide (g.1 = x) := by
  refine ⟨⟨h.len, h.ne, h.eight, fun g hg => h.at_ g (List.mem_filter.mp hg).1, ?_⟩, ?_⟩
  · exact h.nd.sublist (List.Sublist.map _ List.filter_sublist)
  · unfold told dropG
    rw [List.filter_map]
    rfl
/-! ### what ways lead where -/
theorem mem_inUse {s : R} (h : s.Ok) {n : Nat} : n ∈ inUse s ↔ lying s.gs n ≠ [] := by
  unfold inUse
  rw [List.mem_filter, List.mem_range]
  constructor
  · rintro ⟨_, h2⟩ e
    obtain ⟨g, hg, w⟩ := List.any_eq_true.mp h2
    obtain ⟨p, hp, ep⟩ := List.any_eq_true.mp w
    obtain ⟨j, hj, rfl⟩ := List.getElem_of_mem hp
    have m : (g.1, j) ∈ lying s.gs n := mem_lying.mpr ⟨g, hg, rfl, by rw [List.getElem?_eq_getElem hj]; exact congrArg some (isAt_iff.mp ep)⟩
    rw [e] at m
    exact nomatch m
  · intro h2
    obtain ⟨⟨y, j⟩, m⟩ := List.exists_mem_of_ne_nil _ h2
    obtain ⟨g, hg, _, e⟩ := mem_lying.mp m
    have hp := List.mem_of_getElem? e
    exact ⟨((h.at_ g hg).2 _ hp).2 n rfl, List.any_eq_true.mpr ⟨g, hg, List.any_eq_true.mpr ⟨_, hp, decide_eq_true rfl⟩⟩⟩
end Rm

namespace Rm
open PySem PySem.Spec PyProof.Rows L2 Bk
/-! A Rooms object in the heap -/
structure Sk where
  o : Addr
  cl : Addr
  gv : Addr
  gd : Addr
  cs : List Addr
  ga : PySem.Str → Addr
def R.names (s : R) : List PySem.Str := s.gs.map (·.1)
def own (k : Sk) (s : R) (b : Addr) : Prop := b = k.o ∨ b = k.cl ∨ b = k.gv ∨ b = k.gd ∨ b ∈ k.cs ∨ ∃ x ∈ s.names, b = k.ga x
def nv (ws : List Nat) : List V := ws.map fun (w : Nat) => V.int w
def PlV (H : Hp) : Pl → V → Prop
  | .blank, v => v = .non
  | .own ws, v => ∃ t, v = .ref t ∧ H t = some (.tup (nv ws))
  | .at n, v => v = .int n
def PlsV (H : Hp) (ps : List Pl) (xs : List V) : Prop := xs.length = ps.length ∧ ∀ (i : Nat) (p : Pl) (v : V), ps[i]? = some p → xs[i]? = some v → PlV H p v
theorem nd_idx {α : Type} {l : List α} (h : l.Nodup) {i j : Nat} (hi : i < l.length) (hj : j < l.length) (e : l[i] = l[j]) : i = j := by
  have p := List.pairwise_iff_getElem.mp h
  rcases Nat.lt_trichotomy i j with z | z | z
  · exact absurd e (p i j hi hj z)
  · exact z
  · exact absurd e.symm (p j i hj hi z)
structure At (Cl : Addr) (H : Hp) (k : Sk) (s : R) : Prop where
  ob : ∃ dx fs, H k.o = some (.ins Cl dx fs) ∧ fs.lookup ("_cells" : PySem.Str) = some (.ref k.cl) ∧ fs.lookup ("_given" : PySem.Str) = some (.ref k.gv) ∧ fs.lookup ("_givings" : PySem.Str) = some (.int s.givings) ∧ fs.lookup ("_guests" : PySem.Str) = some (.ref k.gd) ∧ fs.length ≤ 4 ∧
    ∀ m : PySem.Str, (m == ("_cells" : PySem.Str)) = false → (m == ("_given" : PySem.Str)) = false → (m == ("_givings" : PySem.Str)) = false → (m == ("_guests" : PySem.Str)) = false → fs.lookup m = none
  cl : H k.cl = some (.lst (k.cs.map V.ref))
  cn : k.cs.length = s.cells.length
  cx : ∀ (i : Nat) c, k.cs[i]? = some c → H c = some (.lst (nv (s.cells.getD i [])))
  gv : H k.gv = some (.lst (nv s.given))
  gd : H k.gd = some (.dK (dicF s.names fun x => .ref (k.ga x)))
  gl : ∀ g ∈ s.gs, ∃ xs, H (k.ga g.1) = some (.lst xs) ∧ PlsV H g.2 xs
  n1 : k.cl ≠ k.gv
  n2 : ∀ c ∈ k.cs, k.cl ≠ c ∧ k.gv ≠ c
  n3 : ∀ x ∈ s.names, k.cl ≠ k.ga x ∧ k.gv ≠ k.ga x ∧ k.ga x ∉ k.cs
  n4 : ∀ x ∈ s.names, ∀ y ∈ s.names, k.ga x = k.ga y → x = y
  n5 : k.cs.Nodup
  ok : s.Ok
section
variable {Cl : Addr} {H H' : Hp} {k k' : Sk} {s s' : R}
theorem PlV.keep {p : Pl} {v : V} (h : PlV H p v) (t : TS H H') : PlV H' p v := by
  cases p with
  | blank => exact h
  | «at» n => exact h
  | own ws =>
    obtain ⟨a, e, z⟩ := h
    exact ⟨a, e, t _ _ z⟩
theorem PlsV.keep {ps : List Pl} {xs : List V} (h : PlsV H ps xs) (t : TS H H') : PlsV H' ps xs := ⟨h.1, fun i p v a b => (h.2 i p v a b).keep t⟩
theorem At.has (h : At Cl H k s) {b : Addr} (z : own k s b) : ∃ u, H b = some u ∧ ∀ xs, u ≠ .tup xs := by
  obtain ⟨dx, fs, e, _⟩ := h.ob
  rcases z with z | z | z | z | z | ⟨x, hx, z⟩
  · exact ⟨.ins _ _ _, z ▸ e, fun _ q => (nomatch q)⟩
  · exact ⟨.lst _, z ▸ h.cl, fun _ q => (nomatch q)⟩
  · exact ⟨.lst _, z ▸ h.gv, fun _ q => (nomatch q)⟩
  · exact ⟨.dK _, z ▸ h.gd, fun _ q => (nomatch q)⟩
  · obtain ⟨i, hi, rfl⟩ := List.getElem_of_mem z
    exact ⟨.lst _, h.cx i _ (List.getElem?_eq_getElem hi), fun _ q => (nomatch q)⟩
  · obtain ⟨g, hg, rfl⟩ := List.mem_map.mp hx
    obtain ⟨xs, e2, _⟩ := h.gl g hg
    exact ⟨.lst _, z ▸ e2, fun _ q => (nomatch q)⟩
theorem At.none (h : At Cl H k s) {b : Addr} (e : H b = none) : ¬ own k s b := fun z => by
  obtain ⟨u, e2, _⟩ := h.has z
  rw [e] at e2
  exact nomatch e2
theorem At.ntup (h : At Cl H k s) {b : Addr} {xs : List V} (e : H b = some (.tup xs)) : ¬ own k s b := fun z => by
  obtain ⟨u, e2, n⟩ := h.has z
  rw [e] at e2
  exact n xs (Option.some.inj e2).symm
theorem At.ts (h : At Cl H k s) (f : ∀ b u, ¬ own k s b → H b = some u → H' b = some u) : TS H H' := fun a xs e => f _ _ (h.ntup e) e
theorem At.keep (h : At Cl H k s) (f : ∀ b u, own k s b → H b = some u → H' b = some u) (t : TS H H') : At Cl H' k s := by
  obtain ⟨dx, fs, e, r⟩ := h.ob
  refine ⟨⟨dx, fs, f _ _ (.inl rfl) e, r⟩, f _ _ (.inr (.inl rfl)) h.cl, h.cn, fun i c z => f _ _ (.inr (.inr (.inr (.inr (.inl (List.mem_of_getElem? z)))))) (h.cx i c z), f _ _ (.inr (.inr (.inl rfl))) h.gv, f _ _ (.inr (.inr (.inr (.inl rfl)))) h.gd, fun g hg => ?_, h.n1, h.n2, h.n3, h.n4, h.n5, h.ok⟩
  obtain ⟨xs, e2, q⟩ := h.gl g hg
  exact ⟨xs, f _ _ (.inr (.inr (.inr (.inr (.inr ⟨g.1, List.mem_map.mpr ⟨g, hg, rfl⟩, rfl⟩))))) e2, q.keep t⟩
theorem At.same (h : At Cl H k s) (f : Same H H') : At Cl H' k s := h.keep (fun b u _ e => f _ _ e) (Same.ts f)
/-- what a deed of the rooms may have changed -/
structure Mv (Cl : Addr) (H : Hp) (k : Sk) (s : R) (H' : Hp) (k' : Sk) (s' : R) : Prop where
  at_ : At Cl H' k' s'
  fr : ∀ b u, ¬ own k s b → H b = some u → H' b = some u
  nw : ∀ b, own k' s' b → own k s b ∨ H b = .none
  oo : k'.o = k.o
  cc : k'.cl = k.cl
theorem Mv.same (h : At Cl H k s) (f : Same H H') : Mv Cl H k s H' k s := ⟨h.same f, fun b u _ e => f _ _ e, fun b z => .inl z, rfl, rfl⟩
theorem Mv.refl (h : At Cl H k s) : Mv Cl H k s H k s := Mv.same h (Same.refl _)
theorem Mv.trans {H2 : Hp} {k2 : Sk} {s2 : R} (a : Mv Cl H k s H' k' s') (b : Mv Cl H' k' s' H2 k2 s2) : Mv Cl H k s H2 k2 s2 := by
  refine ⟨b.at_, fun c u n e => ?_, fun c z => ?_, b.oo.trans a.oo, b.cc.trans a.cc⟩
  · refine b.fr _ _ (fun z => ?_) (a.fr _ _ n e)
    rcases a.nw c z with z | z
    · exact n z
    · rw [e] at z; exact nomatch z
  · rcases b.nw c z with z | z
    · exact a.nw c z
    · by_cases o : own k s c
      · exact .inl o
      · cases hc : H c with
        | none => exact .inr rfl
        | some u =>
          rw [a.fr _ _ o hc] at z
          exact nomatch z
theorem Mv.same' {H2 : Hp} (a : Mv Cl H k s H' k' s') (f : Same H' H2) : Mv Cl H k s H2 k' s' := a.trans (Mv.same a.at_ f)
theorem Mv.ts (a : Mv Cl H k s H' k' s') (h : At Cl H k s) : TS H H' := h.ts a.fr
/-! ### one thing changes -/
theorem At.o_ne (h : At Cl H k s) {b : Addr} {u : HO} (e : H b = some u) (n : ∀ dx fs, u ≠ .ins Cl dx fs) : k.o ≠ b := fun z => by
  obtain ⟨dx, fs, e2, _⟩ := h.ob
  rw [z, e] at e2
  exact n _ _ (Option.some.inj e2)
theorem At.gd_ne (h : At Cl H k s) {b : Addr} {xs : List V} (e : H b = some (.lst xs)) : k.gd ≠ b := ne_ct h.gd e fun z => nomatch z
theorem At.mem (h : At Cl H k s) {g : PySem.Str × List Pl} (hg : g ∈ s.gs) : g.1 ∈ s.names := List.mem_map.mpr ⟨g, hg, rfl⟩
/-- a frame by one own address -/
theorem fr1 {b : Addr} {v : HO} (o : own k s b) : ∀ c u, ¬ own k s c → H c = some u → upd H b v c = some u := fun c u n e => by
  rw [upd_ne fun z => n (by rw [z]; exact o)]
  exact e
/-- the words of a room of the house -/
theorem At.cell (h : At Cl H k s) {i : Nat} {c : Addr} {ws : List Nat} (hc : k.cs[i]? = some c) (ok' : R.Ok { s with cells := s.cells.set i ws }) : Mv Cl H k s (upd H c (.lst (nv ws))) k { s with cells := s.cells.set i ws } := by
  have mc := List.mem_of_getElem? hc
  have ec := h.cx i c hc
  have oc : own k s c := .inr (.inr (.inr (.inr (.inl mc))))
  have t : TS H (upd H c (.lst (nv ws))) := h.ts (fr1 oc)
  refine ⟨⟨?_, ?_, by rw [List.length_set]; exact h.cn, fun j d hd => ?_, ?_, ?_, fun g hg => ?_, h.n1, h.n2, h.n3, h.n4, h.n5, ok'⟩, fr1 oc, fun b z => .inl z, rfl, rfl⟩
  · rw [upd_ne (h.o_ne ec fun _ _ z => nomatch z)]; exact h.ob
  · rw [upd_ne (h.n2 c mc).1]; exact h.cl
  · by_cases e : d = c
    · subst e
      have : j = i := by
        have l1 := (List.getElem?_eq_some_iff.mp hd).1
        have l2 := (List.getElem?_eq_some_iff.mp hc).1
        have e1 := (List.getElem?_eq_some_iff.mp hd).2
        have e2 := (List.getElem?_eq_some_iff.mp hc).2
        exact nd_idx h.n5 l1 l2 (e1.trans e2.symm)
      subst this
      have l : j < s.cells.length := by rw [← h.cn]; exact (List.getElem?_eq_some_iff.mp hc).1
      rw [upd_same]
      show _ = some (HO.lst (nv ((s.cells.set j ws).getD j [])))
      rw [List.getD_eq_getElem?_getD, List.getElem?_set_self l]
      rfl
    · rw [upd_ne e]
      have : j ≠ i := fun z => e (by rw [z, hc] at hd; exact (Option.some.inj hd).symm)
      show _ = some (HO.lst (nv ((s.cells.set i ws).getD j [])))
      rw [List.getD_eq_getElem?_getD, List.getElem?_set_ne this.symm, ← List.getD_eq_getElem?_getD]
      exact h.cx j d hd
  · rw [upd_ne (h.n2 c mc).2]; exact h.gv
  · rw [upd_ne (h.gd_ne ec)]; exact h.gd
  · obtain ⟨xs, e2, q⟩ := h.gl g hg
    refine ⟨xs, ?_, q.keep t⟩
    rw [upd_ne fun z => (h.n3 _ (h.mem hg)).2.2 (by rw [z]; exact mc)]
    exact e2
/-- a room of the house is a new list -/
theorem At.fresh (h : At Cl H k s) {i : Nat} {p : Addr} {ws : List Nat} (hi : i < s.cells.length) (ep : H p = some (.lst (nv ws))) (np : ¬ own k s p) (fp : ∀ H0 : Hp, H0 = H → True) (ok' : R.Ok { s with cells := s.cells.set i ws }) :
    At Cl (upd H k.cl (.lst ((k.cs.set i p).map V.ref))) { k with cs := k.cs.set i p } { s with cells := s.cells.set i ws } := by
  have oc : own k s k.cl := .inr (.inl rfl)
  have t : TS H (upd H k.cl (.lst ((k.cs.set i p).map V.ref))) := h.ts (fr1 oc)
  have npc : p ≠ k.cl := fun z => np (z ▸ oc)
  have sub : ∀ c ∈ k.cs.set i p, c = p ∨ c ∈ k.cs := fun c hc => (List.mem_or_eq_of_mem_set hc).symm
  refine ⟨?_, upd_same, by show (k.cs.set i p).length = (s.cells.set i ws).length; rw [List.length_set, List.length_set]; exact h.cn, fun j d hd => ?_, ?_, ?_, fun g hg => ?_, h.n1, fun c hc => ?_, fun x hx => ⟨(h.n3 x hx).1, (h.n3 x hx).2.1, fun z => ?_⟩, h.n4, ?_, ok'⟩
  · rw [upd_ne (h.o_ne h.cl fun _ _ z => nomatch z)]; exact h.ob
  · have hd : (k.cs.set i p)[j]? = some d := hd
    show _ = some (HO.lst (nv ((s.cells.set i ws).getD j [])))
    by_cases e : j = i
    · subst e
      rw [List.getElem?_set_self (by rw [h.cn]; exact hi)] at hd
      obtain rfl := Option.some.inj hd
      rw [upd_ne npc, List.getD_eq_getElem?_getD, List.getElem?_set_self hi]
      exact ep
    · rw [List.getElem?_set_ne (Ne.symm e)] at hd
      rw [upd_ne (h.n2 d (List.mem_of_getElem? hd)).1.symm, List.getD_eq_getElem?_getD, List.getElem?_set_ne (Ne.symm e), ← List.getD_eq_getElem?_getD]
      exact h.cx j d hd
  · rw [upd_ne h.n1.symm]; exact h.gv
  · rw [upd_ne (h.gd_ne h.cl)]; exact h.gd
  · obtain ⟨xs, e2, q⟩ := h.gl g hg
    refine ⟨xs, ?_, q.keep t⟩
    rw [upd_ne (h.n3 _ (h.mem hg)).1.symm]
    exact e2
  · rcases sub c hc with e | m
    · rw [e]
      exact ⟨npc.symm, fun z => np (by rw [← z]; exact .inr (.inr (.inl rfl)))⟩
    · exact h.n2 c m
  · rcases sub _ z with e | m
    · exact np (by rw [← e]; exact .inr (.inr (.inr (.inr (.inr ⟨x, hx, rfl⟩)))))
    · exact (h.n3 x hx).2.2 m
  · show (k.cs.set i p).Nodup
    have li : i < k.cs.length := by rw [h.cn]; exact hi
    refine List.pairwise_iff_getElem.mpr ?_
    intro a b ha hb lt
    rw [List.getElem_set, List.getElem_set]
    have pn : ∀ {c : Nat} (hc : c < k.cs.length), p ≠ k.cs[c] := fun hc z => np (by rw [z]; exact .inr (.inr (.inr (.inr (.inl (List.getElem_mem hc))))))
    rw [List.length_set] at ha hb
    split <;> split
    · omega
    · exact pn hb
    · exact (pn ha).symm
    · exact List.pairwise_iff_getElem.mp h.n5 a b ha hb lt
theorem At.freshMv (h : At Cl H k s) {H0 : Hp} {i : Nat} {p : Addr} {ws : List Nat} (hi : i < s.cells.length) (h0 : At Cl H0 k s) (f : Same H0 H) (ep : H p = some (.lst (nv ws))) (np : H0 p = .none) (ok' : R.Ok { s with cells := s.cells.set i ws }) :
    Mv Cl H0 k s (upd H k.cl (.lst ((k.cs.set i p).map V.ref))) { k with cs := k.cs.set i p } { s with cells := s.cells.set i ws } := by
  refine ⟨h.fresh hi ep (h0.none np) (fun _ _ => trivial) ok', fun b u n e => fr1 (.inr (.inl rfl)) b u n (f _ _ e), fun b z => ?_, rfl, rfl⟩
  rcases z with z | z | z | z | z | z
  · exact .inl (.inl z)
  · exact .inl (.inr (.inl z))
  · exact .inl (.inr (.inr (.inl z)))
  · exact .inl (.inr (.inr (.inr (.inl z))))
  · rcases List.mem_or_eq_of_mem_set (show b ∈ k.cs.set i p from z) with m | e
    · exact .inl (.inr (.inr (.inr (.inr (.inl m)))))
    · exact .inr (by rw [e]; exact np)
  · exact .inl (.inr (.inr (.inr (.inr (.inr z)))))
theorem names_setAt' {x : PySem.Str} {r : Nat} {p : Pl} {s : R} : R.names { s with gs := setAt s.gs x r p } = s.names := names_setAt
theorem names_put' {n : Nat} {p : Pl} {s : R} : R.names { s with gs := put s.gs n p } = s.names := names_put
/-- one place of one guest -/
theorem At.place (h : At Cl H k s) {x : PySem.Str} {r : Nat} {p : Pl} {v : V} {xs : List V} {ps : List Pl} (hx : getG s.gs x = some ps) (ex : H (k.ga x) = some (.lst xs)) (pv : PlV H p v) (ok' : R.Ok { s with gs := setAt s.gs x r p }) :
    Mv Cl H k s (upd H (k.ga x) (.lst (xs.set r v))) k { s with gs := setAt s.gs x r p } := by
  have mx := getG_mem hx
  have nx : x ∈ s.names := List.mem_map.mpr ⟨_, mx, rfl⟩
  have oc : own k s (k.ga x) := .inr (.inr (.inr (.inr (.inr ⟨x, nx, rfl⟩))))
  have t : TS H (upd H (k.ga x) (.lst (xs.set r v))) := h.ts (fr1 oc)
  refine ⟨⟨?_, ?_, h.cn, fun j d hd => ?_, ?_, ?_, fun g hg => ?_, h.n1, h.n2, by rw [names_setAt']; exact h.n3, by rw [names_setAt']; exact h.n4, h.n5, ok'⟩, fr1 oc, fun b z => .inl ?_, rfl, rfl⟩
  · rw [upd_ne (h.o_ne ex fun _ _ z => nomatch z)]; exact h.ob
  · rw [upd_ne (h.n3 x nx).1]; exact h.cl
  · rw [upd_ne fun z => (h.n3 x nx).2.2 (by rw [← z]; exact List.mem_of_getElem? hd)]
    exact h.cx j d hd
  · rw [upd_ne (h.n3 x nx).2.1]; exact h.gv
  · rw [upd_ne (h.gd_ne ex), names_setAt']; exact h.gd
  · obtain ⟨g0, hg0, rfl⟩ := List.mem_map.mp hg
    obtain ⟨ys, e2, q⟩ := h.gl g0 hg0
    by_cases e : g0.1 = x
    · rw [if_pos e]
      show ∃ zs, upd H (k.ga x) _ (k.ga g0.1) = _ ∧ PlsV _ (g0.2.set r p) zs
      rw [e] at e2 ⊢
      rw [ex] at e2
      obtain rfl := HO.lst.inj (Option.some.inj e2)
      refine ⟨xs.set r v, upd_same, by rw [List.length_set, List.length_set]; exact q.1, fun i p' v' h1 h2 => ?_⟩
      rw [List.getElem?_set] at h1 h2
      by_cases hi : r = i
      · rw [if_pos hi] at h1 h2
        split at h1
        · split at h2
          · rw [← Option.some.inj h1, ← Option.some.inj h2]
            exact pv.keep t
          · exact nomatch h2
        · exact nomatch h1
      · rw [if_neg hi] at h1 h2
        exact (q.2 i p' v' h1 h2).keep t
    · rw [if_neg e]
      refine ⟨ys, ?_, q.keep t⟩
      rw [upd_ne fun z => e (h.n4 _ (h.mem hg0) _ nx z)]
      exact e2
  · rcases z with z | z | z | z | z | ⟨y, hy, z⟩
    · exact .inl z
    · exact .inr (.inl z)
    · exact .inr (.inr (.inl z))
    · exact .inr (.inr (.inr (.inl z)))
    · exact .inr (.inr (.inr (.inr (.inl z))))
    · rw [names_setAt'] at hy
      exact .inr (.inr (.inr (.inr (.inr ⟨y, hy, z⟩))))
/-- when a room was given -/
theorem At.given (h : At Cl H k s) {g : List Nat} (ok' : R.Ok { s with given := g }) : Mv Cl H k s (upd H k.gv (.lst (nv g))) k { s with given := g } := by
  have oc : own k s k.gv := .inr (.inr (.inl rfl))
  have t : TS H (upd H k.gv (.lst (nv g))) := h.ts (fr1 oc)
  refine ⟨⟨?_, ?_, h.cn, fun j d hd => ?_, upd_same, ?_, fun g hg => ?_, h.n1, h.n2, h.n3, h.n4, h.n5, ok'⟩, fr1 oc, fun b z => .inl z, rfl, rfl⟩
  · rw [upd_ne (h.o_ne h.gv fun _ _ z => nomatch z)]; exact h.ob
  · rw [upd_ne h.n1]; exact h.cl
  · rw [upd_ne (h.n2 d (List.mem_of_getElem? hd)).2.symm]; exact h.cx j d hd
  · rw [upd_ne (h.gd_ne h.gv)]; exact h.gd
  · obtain ⟨xs, e2, q⟩ := h.gl g hg
    refine ⟨xs, ?_, q.keep t⟩
    rw [upd_ne (h.n3 _ (h.mem hg)).2.1.symm]
    exact e2
/-- the object's own field -/
theorem At.tick (h : At Cl H k s) {n : Nat} {dx : Addr} {fs : List (PySem.Str × V)} (e : H k.o = some (.ins Cl dx fs)) (h1 : fs.lookup ("_cells" : PySem.Str) = some (.ref k.cl)) (h2 : fs.lookup ("_given" : PySem.Str) = some (.ref k.gv)) (h3 : fs.lookup ("_givings" : PySem.Str) = some (.int n)) (h4 : fs.lookup ("_guests" : PySem.Str) = some (.ref k.gd)) (h5 : fs.length ≤ 4)
    (h6 : ∀ m : PySem.Str, (m == ("_cells" : PySem.Str)) = false → (m == ("_given" : PySem.Str)) = false → (m == ("_givings" : PySem.Str)) = false → (m == ("_guests" : PySem.Str)) = false → fs.lookup m = .none) : At Cl H k { s with givings := n } :=
  ⟨⟨dx, fs, e, h1, h2, h3, h4, h5, h6⟩, h.cl, h.cn, h.cx, h.gv, h.gd, h.gl, h.n1, h.n2, h.n3, h.n4, h.n5, ⟨h.ok.len, h.ok.ne, h.ok.eight, h.ok.at_, h.ok.nd⟩⟩
end
end Rm

namespace Rm
open PySem PySem.Spec PyProof.Rows L2 Bk
section
variable {Cl : Addr} {H H0 H' : Hp} {k k' : Sk} {s s' : R}
/-- the guests' dict becomes another one -/
theorem At.dict (h : At Cl H k s) {gs' : Gs} {ga' : PySem.Str → Addr} {kvs : List (Key × V)} (ed : kvs = dicF (gs'.map (·.1)) fun x => .ref (ga' x)) (gl' : ∀ g ∈ gs', ∃ xs, H (ga' g.1) = some (.lst xs) ∧ PlsV H g.2 xs)
    (n3' : ∀ x ∈ gs'.map (·.1), k.cl ≠ ga' x ∧ k.gv ≠ ga' x ∧ ga' x ∉ k.cs) (n4' : ∀ x ∈ gs'.map (·.1), ∀ y ∈ gs'.map (·.1), ga' x = ga' y → x = y) (ok' : R.Ok { s with gs := gs' }) : At Cl (upd H k.gd (.dK kvs)) { k with ga := ga' } { s with gs := gs' } := by
  have oc : own k s k.gd := .inr (.inr (.inr (.inl rfl)))
  have t : TS H (upd H k.gd (.dK kvs)) := h.ts (fr1 oc)
  refine ⟨?_, ?_, h.cn, fun j d hd => ?_, ?_, ?_, fun g hg => ?_, h.n1, h.n2, n3', n4', h.n5, ok'⟩
  · rw [upd_ne (h.o_ne h.gd fun _ _ z => nomatch z)]; exact h.ob
  · rw [upd_ne (h.gd_ne h.cl).symm]; exact h.cl
  · rw [upd_ne (h.gd_ne (h.cx j d hd)).symm]; exact h.cx j d hd
  · rw [upd_ne (h.gd_ne h.gv).symm]; exact h.gv
  · rw [upd_same, ed]; rfl
  · obtain ⟨xs, e2, q⟩ := gl' g hg
    refine ⟨xs, ?_, q.keep t⟩
    show upd H k.gd _ (ga' g.1) = _
    rw [upd_ne (h.gd_ne e2).symm]
    exact e2
/-- a guest comes, or other rooms come in the place of its own -/
theorem At.put (h : At Cl H k s) (h0 : At Cl H0 k s) (f : Same H0 H) {x : PySem.Str} {a : Addr} {xs : List V} {ps : List Pl} {gs' : Gs} (na : H0 a = .none) (ea : H a = some (.lst xs)) (pv : PlsV H ps xs)
    (c1 : ∀ g ∈ gs', g.1 = x ∧ g.2 = ps ∨ g.1 ≠ x ∧ g ∈ s.gs) (c2 : gs'.map (·.1) = if x ∈ s.names then s.names else s.names ++ [x]) (ok' : R.Ok { s with gs := gs' }) :
    Mv Cl H0 k s (upd H k.gd (.dK (putK (dicF s.names fun x => .ref (k.ga x)) (.inr x : Key) (.ref a)))) { k with ga := fun y => if y = x then a else k.ga y } { s with gs := gs' } := by
  have nown := h0.none na
  have nm : ∀ y ∈ gs'.map (·.1), y ≠ x → y ∈ s.names := fun y hy n => by
    rw [c2] at hy
    split at hy
    · exact hy
    · exact (List.mem_append.mp hy).elim id fun z => absurd (List.mem_singleton.mp z) n
  have nga : ∀ y ∈ s.names, a ≠ k.ga y := fun y hy z => nown (.inr (.inr (.inr (.inr (.inr ⟨y, hy, z⟩)))))
  refine ⟨h.dict (ga' := fun y => if y = x then a else k.ga y) ?_ (fun g hg => ?_) (fun y hy => ?_) (fun y hy z hz e => ?_) ok', fun b u n e => fr1 (.inr (.inr (.inr (.inl rfl)))) b u n (f _ _ e), fun b z => ?_, rfl, rfl⟩
  · rw [dicF_put, c2]
    refine dicF_congr fun y _ => ?_
    show (if y = x then V.ref a else V.ref (k.ga y)) = V.ref (if y = x then a else k.ga y)
    split <;> rfl
  · rcases c1 g hg with ⟨e1, e2⟩ | ⟨e1, e2⟩
    · show ∃ xs, H (if g.1 = x then a else k.ga g.1) = _ ∧ _
      rw [if_pos e1, e2]
      exact ⟨xs, ea, pv⟩
    · show ∃ xs, H (if g.1 = x then a else k.ga g.1) = _ ∧ _
      rw [if_neg e1]
      exact h.gl g e2
  · show k.cl ≠ (if y = x then a else k.ga y) ∧ k.gv ≠ (if y = x then a else k.ga y) ∧ (if y = x then a else k.ga y) ∉ k.cs
    by_cases e : y = x
    · rw [if_pos e]
      exact ⟨fun z => nown (.inr (.inl z.symm)), fun z => nown (.inr (.inr (.inl z.symm))), fun z => nown (.inr (.inr (.inr (.inr (.inl z)))))⟩
    · rw [if_neg e]
      exact h.n3 y (nm y hy e)
  · have e : (if y = x then a else k.ga y) = if z = x then a else k.ga z := e
    by_cases e1 : y = x <;> by_cases e2 : z = x
    · rw [e1, e2]
    · rw [if_pos e1, if_neg e2] at e
      exact absurd e (nga z (nm z hz e2))
    · rw [if_neg e1, if_pos e2] at e
      exact absurd e.symm (nga y (nm y hy e1))
    · rw [if_neg e1, if_neg e2] at e
      exact h.n4 y (nm y hy e1) z (nm z hz e2) e
  · rcases z with z | z | z | z | z | ⟨y, hy, z⟩
    · exact .inl (.inl z)
    · exact .inl (.inr (.inl z))
    · exact .inl (.inr (.inr (.inl z)))
    · exact .inl (.inr (.inr (.inr (.inl z))))
    · exact .inl (.inr (.inr (.inr (.inr (.inl z)))))
    · have z : b = if y = x then a else k.ga y := z
      by_cases e : y = x
      · rw [if_pos e] at z
        exact .inr (by rw [z]; exact na)
      · rw [if_neg e] at z
        exact .inl (.inr (.inr (.inr (.inr (.inr ⟨y, nm y hy e, z⟩)))))
theorem names_come {x : PySem.Str} {ps : List Pl} : R.names { s with gs := s.gs ++ [(x, ps)] } = s.names ++ [x] := by
  unfold R.names
  rw [List.map_append]
  rfl
theorem names_repl {x : PySem.Str} {ps : List Pl} : R.names { s with gs := replG s.gs x ps } = s.names := by
  unfold R.names replG
  rw [List.map_map]
  refine List.map_congr_left fun g _ => ?_
  show (if g.1 = x then (g.1, ps) else g).1 = g.1
  split <;> rfl
theorem getG_none {gs : Gs} {x : PySem.Str} : getG gs x = .none ↔ x ∉ gs.map (·.1) := by
  unfold getG
  rw [Option.map_eq_none_iff, List.find?_eq_none]
  constructor
  · intro h z
    obtain ⟨g, hg, e⟩ := List.mem_map.mp z
    exact h g hg (decide_eq_true e)
  · intro h g hg e
    exact h (List.mem_map.mpr ⟨g, hg, of_decide_eq_true e⟩)
theorem getG_some {gs : Gs} {x : PySem.Str} (h : x ∈ gs.map (·.1)) : ∃ ps, getG gs x = some ps := by
  cases e : getG gs x with
  | none => exact absurd h (getG_none.mp e)
  | some ps => exact ⟨ps, rfl⟩
/-- a guest comes -/
theorem At.come (h : At Cl H k s) (h0 : At Cl H0 k s) (f : Same H0 H) {x : PySem.Str} {a : Addr} {xs : List V} {ps : List Pl} (na : H0 a = .none) (ea : H a = some (.lst xs)) (pv : PlsV H ps xs) (nx : x ∉ s.names) (ok' : R.Ok { s with gs := s.gs ++ [(x, ps)] }) :
    Mv Cl H0 k s (upd H k.gd (.dK (putK (dicF s.names fun x => .ref (k.ga x)) (.inr x : Key) (.ref a)))) { k with ga := fun y => if y = x then a else k.ga y } { s with gs := s.gs ++ [(x, ps)] } := by
  refine h.put h0 f na ea pv (fun g hg => ?_) (by rw [if_neg nx]; exact names_come) ok'
  rcases List.mem_append.mp hg with m | m
  · exact .inr ⟨fun e => nx (by rw [← e]; exact h.mem m), m⟩
  · rw [List.mem_singleton.mp m]
    exact .inl ⟨rfl, rfl⟩
/-- its rooms give way to others -/
theorem At.repl (h : At Cl H k s) (h0 : At Cl H0 k s) (f : Same H0 H) {x : PySem.Str} {a : Addr} {xs : List V} {ps : List Pl} (na : H0 a = .none) (ea : H a = some (.lst xs)) (pv : PlsV H ps xs) (nx : x ∈ s.names) (ok' : R.Ok { s with gs := replG s.gs x ps }) :
    Mv Cl H0 k s (upd H k.gd (.dK (putK (dicF s.names fun x => .ref (k.ga x)) (.inr x : Key) (.ref a)))) { k with ga := fun y => if y = x then a else k.ga y } { s with gs := replG s.gs x ps } := by
  refine h.put h0 f na ea pv (fun g hg => ?_) (by rw [if_pos nx]; exact names_repl) ok'
  obtain ⟨g0, hg0, rfl⟩ := List.mem_map.mp hg
  by_cases e : g0.1 = x
  · rw [if_pos e]
    exact .inl ⟨e, rfl⟩
  · rw [if_neg e]
    exact .inr ⟨e, hg0⟩
/-- a guest goes -/
theorem At.drop (h : At Cl H k s) {x : PySem.Str} (ok' : R.Ok { s with gs := dropG s.gs x }) : Mv Cl H k s (upd H k.gd (.dK (dropK (dicF s.names fun x => .ref (k.ga x)) (.inr x : Key)))) k { s with gs := dropG s.gs x } := by
  have nm : (dropG s.gs x).map (·.1) = s.names.filter fun y => decide (y ≠ x) := by
    unfold dropG R.names
    rw [List.filter_map]
    congr 1
    refine List.filter_congr fun g _ => ?_
    show (!decide (g.1 = x)) = decide (g.1 ≠ x)
    exact (decide_not ..).symm
  have sub : ∀ y ∈ (dropG s.gs x).map (·.1), y ∈ s.names := fun y hy => by
    rw [nm] at hy
    exact (List.mem_filter.mp hy).1
  refine ⟨h.dict (ga' := k.ga) (by rw [dicF_drop, nm]) (fun g hg => h.gl g (List.mem_filter.mp hg).1) (fun y hy => h.n3 y (sub y hy)) (fun y hy z hz => h.n4 y (sub y hy) z (sub z hz)) ok', fr1 (.inr (.inr (.inr (.inl rfl)))), fun b z => .inl ?_, rfl, rfl⟩
  rcases z with z | z | z | z | z | ⟨y, hy, z⟩
  · exact .inl z
  · exact .inr (.inl z)
  · exact .inr (.inr (.inl z))
  · exact .inr (.inr (.inr (.inl z)))
  · exact .inr (.inr (.inr (.inr (.inl z))))
  · exact .inr (.inr (.inr (.inr (.inr ⟨y, sub y hy, z⟩))))
end
end Rm

namespace Rm
open PySem PySem.Spec PyProof.Rows L2 Bk
/-! words, rows of words and rooms as data -/
def numsD (ws : List Nat) : List PyData := ws.map fun (w : Nat) => PyData.int w
def rowT (ws : List Nat) : PyData := .tuple (numsD ws)
def rowL (ws : List Nat) : PyData := .list (numsD ws)
def rowsT (rows : List (List Nat)) : PyData := .tuple (rows.map rowT)
section
variable {K : PySem.W.Frag} {H : Hp}
theorem nv_len {ws : List Nat} : (nv ws).length = ws.length := List.length_map _
theorem nv_at {ws : List Nat} {i : Nat} {w : Nat} (h : ws[i]? = some w) : (nv ws)[i]? = some (.int w) := by
  unfold nv
  rw [List.getElem?_map, h]
  rfl
theorem at_nv {ws : List Nat} {i : Nat} {y : V} (h : (nv ws)[i]? = some y) : ∃ w, ws[i]? = some w ∧ y = .int w := by
  unfold nv at h
  rw [List.getElem?_map] at h
  cases e : ws[i]? with
  | none => rw [e] at h; exact nomatch h
  | some w => rw [e] at h; exact ⟨w, rfl, (Option.some.inj h).symm⟩
theorem dpa_nums : ∀ ws : List Nat, DpAll K H (nv ws) (numsD ws)
  | [] => .nil
  | a :: r => .cons (.int _) (dpa_nums r)
theorem dp_rowT {t : Addr} {ws : List Nat} (h : SqT K H t (nv ws)) : Dp K H (.ref t) (rowT ws) := .tup h (dpa_nums ws)
theorem dp_rowL {t : Addr} {ws : List Nat} (h : SqL K H t (nv ws)) : Dp K H (.ref t) (rowL ws) := .lst h (dpa_nums ws)
theorem eqvA_nums : ∀ a b : List Nat, PyData.eqvAll (numsD a) (numsD b) = decide (a = b)
  | [], [] => rfl
  | [], _ :: _ => rfl
  | _ :: _, [] => rfl
  | x :: a, y :: b => by
    show PyData.eqvAll (PyData.int x :: numsD a) (PyData.int y :: numsD b) = _
    simp only [PyData.eqvAll, PyData.eqv, eqvA_nums a b]
    by_cases h : x = y
    · subst h
      by_cases g : a = b
      · subst g; simp
      · rw [decide_eq_false g, decide_eq_false fun z : x :: a = x :: b => g (List.cons.inj z).2, Bool.and_false]
    · have e : ((x : Int) == (y : Int)) = false := beq_false_of_ne fun z => h (Int.ofNat.inj z)
      rw [e, Bool.false_and, decide_eq_false fun z : x :: a = y :: b => h (List.cons.inj z).1]
theorem eqv_rowT (a b : List Nat) : PyData.eqv (rowT a) (rowT b) = decide (a = b) := by
  unfold rowT
  simp only [PyData.eqv]
  exact eqvA_nums a b
theorem eqv_rowL (a b : List Nat) : PyData.eqv (rowL a) (rowL b) = decide (a = b) := by
  unfold rowL
  simp only [PyData.eqv]
  exact eqvA_nums a b
theorem eqvA_rows : ∀ a b : List (List Nat), PyData.eqvAll (a.map rowT) (b.map rowT) = decide (a = b)
  | [], [] => rfl
  | [], _ :: _ => rfl
  | _ :: _, [] => rfl
  | x :: a, y :: b => by
    simp only [List.map_cons, PyData.eqvAll, eqv_rowT, eqvA_rows a b]
    by_cases h : x = y
    · subst h
      by_cases g : a = b
      · subst g; simp
      · rw [decide_eq_false g, decide_eq_false fun z : x :: a = x :: b => g (List.cons.inj z).2, Bool.and_false]
    · rw [decide_eq_false h, Bool.false_and, decide_eq_false fun z : x :: a = y :: b => h (List.cons.inj z).1]
theorem eqv_rowsT (a b : List (List Nat)) : PyData.eqv (rowsT a) (rowsT b) = decide (a = b) := by
  unfold rowsT
  simp only [PyData.eqv]
  exact eqvA_rows a b
theorem lay_nums : ∀ l : List Nat, PyData.canLayAll0 (numsD l) = true ∧ PyData.depthAll (numsD l) = 0
  | [] => ⟨rfl, rfl⟩
  | a :: r => by
    obtain ⟨h1, h2⟩ := lay_nums r
    constructor
    · show (PyData.canLay0 (.int a) && PyData.canLayAll0 (numsD r)) = true
      rw [h1]
      simp only [PyData.canLay0, Bool.true_and]
    · show max (PyData.depth (.int a)) (PyData.depthAll (numsD r)) = 0
      rw [h2]
      rfl
theorem lay_rowT (l : List Nat) : PyData.canLay0 (rowT l) = true ∧ PyData.depth (rowT l) = 1 := by
  obtain ⟨h1, h2⟩ := lay_nums l
  unfold rowT
  generalize numsD l = X at h1 h2
  exact ⟨by show PyData.canLayAll0 X = true; exact h1, by show PyData.depthAll X + 1 = 1; rw [h2]⟩
theorem lay_rows : ∀ l : List (List Nat), PyData.canLayAll0 (l.map rowT) = true ∧ PyData.depthAll (l.map rowT) ≤ 1
  | [] => ⟨rfl, Nat.zero_le _⟩
  | a :: r => by
    obtain ⟨h1, h2⟩ := lay_rows r
    obtain ⟨g1, g2⟩ := lay_rowT a
    rw [List.map_cons]
    generalize r.map rowT = X at h1 h2
    generalize rowT a = x at g1 g2
    constructor
    · show (PyData.canLay0 x && PyData.canLayAll0 X) = true
      rw [h1, g1]
      rfl
    · show max (PyData.depth x) (PyData.depthAll X) ≤ 1
      omega
theorem sh_rowT (l : List Nat) : SeqAt.shaped (rowT l) = true := by
  obtain ⟨h1, h2⟩ := lay_rowT l
  unfold SeqAt.shaped
  rw [h1, h2]
  rfl
theorem sh_rowL (l : List Nat) : SeqAt.shaped (rowL l) = true := by
  obtain ⟨h1, h2⟩ := lay_nums l
  unfold SeqAt.shaped rowL
  generalize numsD l = X at h1 h2
  rw [show PyData.canLay0 (.list X) = true from h1, show PyData.depth (.list X) = 1 by show PyData.depthAll X + 1 = 1; rw [h2]]
  rfl
theorem sh_rowsT (l : List (List Nat)) : SeqAt.shaped (rowsT l) = true := by
  obtain ⟨h1, h2⟩ := lay_rows l
  unfold SeqAt.shaped rowsT
  generalize l.map rowT = X at h1 h2
  rw [show PyData.canLay0 (.tuple X) = true from h1, Bool.true_and]
  exact decide_eq_true (show PyData.depthAll X + 1 ≤ 64 by omega)
theorem sh_rowsL (l : List (List Nat)) : SeqAt.shaped (.list (l.map rowT)) = true := by
  obtain ⟨h1, h2⟩ := lay_rows l
  unfold SeqAt.shaped
  generalize l.map rowT = X at h1 h2
  rw [show PyData.canLay0 (.list X) = true from h1, Bool.true_and]
  exact decide_eq_true (show PyData.depthAll X + 1 ≤ 64 by omega)
theorem rng_at {α : Type} : ∀ l : List α, (List.range l.length).filterMap (fun i => l[i]?) = l
  | [] => rfl
  | a :: r => by
    rw [List.length_cons, List.range_succ_eq_map, List.filterMap_cons, List.filterMap_map]
    show a :: (List.range r.length).filterMap (fun i => r[i]?) = a :: r
    rw [rng_at r]
end
end Rm

namespace Rm
open PySem PySem.Spec PyProof.Rows L2 Bk
theorem rise_eq : ∀ {l m : List Int}, l.Pairwise (· < ·) → m.Pairwise (· < ·) → (∀ x, x ∈ l ↔ x ∈ m) → l = m
  | [], [], _, _, _ => rfl
  | [], b :: m, _, _, h => nomatch (h b).mpr List.mem_cons_self
  | a :: l, [], _, _, h => nomatch (h a).mp List.mem_cons_self
  | a :: l, b :: m, hl, hm, h => by
    obtain ⟨h1, h2⟩ := List.pairwise_cons.mp hl
    obtain ⟨g1, g2⟩ := List.pairwise_cons.mp hm
    have e : a = b := by
      rcases List.mem_cons.mp ((h a).mp List.mem_cons_self) with z | z
      · exact z
      · rcases List.mem_cons.mp ((h b).mpr List.mem_cons_self) with y | y
        · exact y.symm
        · have := g1 a z
          have := h1 b y
          omega
    subst e
    rw [rise_eq h2 g2 fun x => ?_]
    constructor
    · intro z
      rcases List.mem_cons.mp ((h x).mp (List.mem_cons_of_mem _ z)) with y | y
      · have := h1 x z; omega
      · exact y
    · intro z
      rcases List.mem_cons.mp ((h x).mpr (List.mem_cons_of_mem _ z)) with y | y
      · have := g1 x z; omega
      · exact y
section
variable {Cl : Addr} {H H' : Hp} {k k' : Sk} {s s' : R}
/-- the lists of the guests' places -/
structure Lists (H : Hp) (ga : PySem.Str → Addr) (gs : Gs) (Ls : List (List V)) : Prop where
  len : Ls.length = gs.length
  at_ : ∀ (i : Nat) g xs, gs[i]? = some g → Ls[i]? = some xs → H (ga g.1) = some (.lst xs) ∧ PlsV H g.2 xs
theorem lists_of {ga : PySem.Str → Addr} : ∀ {gs : Gs}, (∀ g ∈ gs, ∃ xs, H (ga g.1) = some (.lst xs) ∧ PlsV H g.2 xs) → ∃ Ls, Lists H ga gs Ls
  | [], _ => ⟨[], rfl, fun _ _ _ z => nomatch z⟩
  | g :: gs, h => by
    obtain ⟨xs, hx⟩ := h g List.mem_cons_self
    obtain ⟨Ls, l, a⟩ := lists_of fun g hg => h g (List.mem_cons_of_mem _ hg)
    refine ⟨xs :: Ls, by rw [List.length_cons, List.length_cons, l], fun i g' ys e1 e2 => ?_⟩
    cases i with
    | zero =>
      obtain rfl := Option.some.inj e1
      obtain rfl := Option.some.inj e2
      exact hx
    | succ i => exact a i g' ys e1 e2
theorem At.lists (h : At Cl H k s) : ∃ Ls, Lists H k.ga s.gs Ls := lists_of h.gl
theorem Lists.els {ga : PySem.Str → Addr} {gs : Gs} {Ls : List (List V)} (h : Lists H ga gs Ls) {v : V} (hv : v ∈ Ls.flatten) : ∃ g ∈ gs, ∃ p ∈ g.2, PlV H p v := by
  obtain ⟨xs, hx, m⟩ := List.mem_flatten.mp hv
  obtain ⟨i, hi, rfl⟩ := List.getElem_of_mem hx
  have li : i < gs.length := by rw [← h.len]; exact hi
  obtain ⟨_, l, a⟩ := h.at_ i _ _ (List.getElem?_eq_getElem li) (List.getElem?_eq_getElem hi)
  obtain ⟨j, hj, rfl⟩ := List.getElem_of_mem m
  have lj : j < gs[i].2.length := by rw [← l]; exact hj
  exact ⟨gs[i], List.getElem_mem li, gs[i].2[j], List.getElem_mem lj, a j _ _ (List.getElem?_eq_getElem lj) (List.getElem?_eq_getElem hj)⟩
theorem Lists.mem {ga : PySem.Str → Addr} {gs : Gs} {Ls : List (List V)} (h : Lists H ga gs Ls) {c : Int} : V.int c ∈ Ls.flatten ↔ ∃ n : Nat, c = n ∧ used gs n = true := by
  constructor
  · intro hv
    obtain ⟨g, hg, p, hp, w⟩ := h.els hv
    cases p with
    | blank => exact nomatch (show V.int c = V.non from w)
    | own ws =>
      obtain ⟨t, z, _⟩ := w
      exact nomatch z
    | «at» n =>
      have w : V.int c = V.int n := w
      injection w with w
      exact ⟨n, w, List.any_eq_true.mpr ⟨g, hg, List.any_eq_true.mpr ⟨_, hp, decide_eq_true rfl⟩⟩⟩
  · rintro ⟨n, rfl, u⟩
    obtain ⟨g, hg, w⟩ := List.any_eq_true.mp u
    obtain ⟨p, hp, e⟩ := List.any_eq_true.mp w
    have e := isAt_iff.mp e
    subst e
    obtain ⟨i, hi, rfl⟩ := List.getElem_of_mem hg
    obtain ⟨j, hj, ej⟩ := List.getElem_of_mem hp
    have li : i < Ls.length := by rw [h.len]; exact hi
    obtain ⟨_, l, a⟩ := h.at_ i _ _ (List.getElem?_eq_getElem hi) (List.getElem?_eq_getElem li)
    have lj : j < Ls[i].length := by rw [l]; exact hj
    have q := a j _ _ (List.getElem?_eq_getElem hj) (List.getElem?_eq_getElem lj)
    rw [ej] at q
    refine List.mem_flatten.mpr ⟨Ls[i], List.getElem_mem li, ?_⟩
    rw [← show Ls[i][j] = V.int n from q]
    exact List.getElem_mem lj
theorem Lists.tail {ga : PySem.Str → Addr} {g : PySem.Str × List Pl} {gs : Gs} {xs : List V} {Ls : List (List V)} (h : Lists H ga (g :: gs) (xs :: Ls)) : Lists H ga gs Ls :=
  ⟨by have := h.len; rw [List.length_cons, List.length_cons] at this; omega, fun i g' ys a b => h.at_ (i + 1) g' ys a b⟩
theorem Lists.flat {ga : PySem.Str → Addr} : ∀ {gs : Gs} {Ls : List (List V)}, Lists H ga gs Ls → (∀ g ∈ gs, g.2.length = 8) → Ls.flatten.length = 8 * gs.length
  | [], [], _, _ => rfl
  | [], _ :: _, h, _ => nomatch h.len
  | _ :: _, [], h, _ => nomatch h.len
  | g :: gs, xs :: Ls, h, e => by
    have ih := Lists.flat h.tail fun g hg => e g (List.mem_cons_of_mem _ hg)
    have l := (h.at_ 0 g xs rfl rfl).2.1
    rw [List.flatten_cons, List.length_append, ih, l, e g List.mem_cons_self, List.length_cons]
    omega
/-- the numbers in use, as a sorted set of numbers tells them -/
theorem inUse_rise {ns : List Int} (h : s.Ok) (pw : ns.Pairwise (· < ·)) (hm : ∀ c, c ∈ ns ↔ ∃ n : Nat, c = n ∧ used s.gs n = true) : ns.map V.int = nv (inUse s) := by
  have e : ns = (inUse s).map fun (n : Nat) => (n : Int) := by
    refine rise_eq pw ?_ fun c => ?_
    · unfold inUse
      rw [List.pairwise_map]
      refine List.Pairwise.filter _ (List.Pairwise.imp (fun h => ?_) List.pairwise_lt_range)
      exact Int.ofNat_lt.mpr h
    · rw [hm c, List.mem_map]
      constructor
      · rintro ⟨n, rfl, u⟩
        refine ⟨n, ?_, rfl⟩
        obtain ⟨g, hg, w⟩ := List.any_eq_true.mp u
        obtain ⟨p, hp, e⟩ := List.any_eq_true.mp w
        exact List.mem_filter.mpr ⟨List.mem_range.mpr (((h.at_ g hg).2 p hp).2 n (isAt_iff.mp e)), u⟩
      · rintro ⟨n, hn, rfl⟩
        exact ⟨n, rfl, (List.mem_filter.mp hn).2⟩
  rw [e]
  unfold nv
  rw [List.map_map]
  rfl
end
end Rm

namespace Rm
open PySem PySem.Spec PyProof.Rows L2 Bk
/-! what the loops of the class do, as values -/
/-- what lies of one guest -/
def lyG (n : Nat) (g : PySem.Str × List Pl) : List (PySem.Str × Nat) := ((List.range g.2.length).filter fun j => isAt n (g.2.getD j .blank)).map fun j => (g.1, j)
theorem lyG_fm (n : Nat) (g : PySem.Str × List Pl) : (List.range g.2.length).filterMap (fun j => if isAt n (g.2.getD j .blank) = true then some (g.1, j) else none) = lyG n g := by
  unfold lyG
  induction List.range g.2.length with
  | nil => rfl
  | cons a r ih =>
    rw [List.filterMap_cons, List.filter_cons]
    cases h : isAt n (g.2.getD a .blank) with
    | true => simp only [if_true, List.map_cons, ih]
    | false => simp only [Bool.false_eq_true, if_false, ih]
theorem lyG_le {n : Nat} {g : PySem.Str × List Pl} : (lyG n g).length ≤ g.2.length := by
  unfold lyG
  rw [List.length_map]
  exact Nat.le_trans (List.length_filter_le _ _) (Nat.le_of_eq List.length_range)
theorem lying_cons {n : Nat} {g : PySem.Str × List Pl} {gs : Gs} : lying (g :: gs) n = lyG n g ++ lying gs n := by
  unfold lying
  rw [List.flatMap_cons]
  rfl
theorem lying_succ {gs : Gs} {n i : Nat} {g : PySem.Str × List Pl} (h : gs[i]? = some g) : lying (gs.take (i + 1)) n = lying (gs.take i) n ++ lyG n g := by
  rw [List.take_add_one, h]
  unfold lying
  rw [List.flatMap_append]
  show _ ++ List.flatMap _ [g] = _
  rw [List.flatMap_cons, List.flatMap_nil, List.append_nil]
  rfl
theorem lying_le {n : Nat} : ∀ {gs : Gs}, (∀ g ∈ gs, g.2.length = 8) → (lying gs n).length ≤ 8 * gs.length
  | [], _ => Nat.zero_le _
  | g :: gs, h => by
    have ih := lying_le (n := n) fun g hg => h g (List.mem_cons_of_mem _ hg)
    have := lyG_le (n := n) (g := g)
    rw [h g List.mem_cons_self] at this
    rw [lying_cons, List.length_append, List.length_cons]
    omega
/-- one place after another becomes p -/
def setAll (gs : Gs) (l : List (PySem.Str × Nat)) (p : Pl) : Gs := l.foldl (fun gs z => setAt gs z.1 z.2 p) gs
theorem setAll_map {p : Pl} : ∀ {l : List (PySem.Str × Nat)} {gs : Gs}, setAll gs l p = gs.map fun g => (g.1, (l.filter fun z => decide (z.1 = g.1)).foldl (fun ps z => ps.set z.2 p) g.2)
  | [], gs => (List.map_id _).symm
  | z :: l, gs => by
    show setAll (setAt gs z.1 z.2 p) l p = _
    rw [setAll_map]
    unfold setAt
    rw [List.map_map]
    refine List.map_congr_left fun g _ => ?_
    show ((if g.1 = z.1 then (g.1, g.2.set z.2 p) else g).1, _) = _
    by_cases h : g.1 = z.1
    · rw [if_pos h, List.filter_cons_of_pos (by exact decide_eq_true h.symm)]
      show (g.1, List.foldl _ (if g.1 = z.1 then (g.1, g.2.set z.2 p) else g).2 (l.filter fun y => decide (y.1 = (if g.1 = z.1 then (g.1, g.2.set z.2 p) else g).1))) = _
      rw [if_pos h]
      rfl
    · rw [if_neg h, List.filter_cons_of_neg (by rw [decide_eq_true_eq]; exact fun e => h e.symm)]
      show (g.1, List.foldl _ (if g.1 = z.1 then (g.1, g.2.set z.2 p) else g).2 (l.filter fun y => decide (y.1 = (if g.1 = z.1 then (g.1, g.2.set z.2 p) else g).1))) = _
      rw [if_neg h]
theorem set_fold {α : Type} {p : α} : ∀ {js : List Nat} {ps : List α} {i : Nat}, (js.foldl (fun ps j => ps.set j p) ps)[i]? = if i ∈ js then (ps[i]?).map fun _ => p else ps[i]?
  | [], ps, i => (if_neg (fun z => nomatch z)).symm
  | j :: js, ps, i => by
    rw [List.foldl_cons, set_fold]
    by_cases h : i ∈ js
    · rw [if_pos h, if_pos (List.mem_cons_of_mem _ h), List.getElem?_set]
      by_cases e : j = i
      · subst e
        rw [if_pos rfl]
        by_cases l : j < ps.length
        · rw [if_pos l, List.getElem?_eq_getElem l]; rfl
        · rw [if_neg l, List.getElem?_eq_none (by omega)]
      · rw [if_neg e]
    · rw [if_neg h, List.getElem?_set]
      by_cases e : j = i
      · subst e
        rw [if_pos rfl, if_pos List.mem_cons_self]
        by_cases l : j < ps.length
        · rw [if_pos l, List.getElem?_eq_getElem l]; rfl
        · rw [if_neg l, List.getElem?_eq_none (by omega)]; rfl
      · rw [if_neg e, if_neg fun z => (List.mem_cons.mp z).elim (fun y => e y.symm) h]
theorem lying_no {n : Nat} {x : PySem.Str} : ∀ {gs : Gs}, x ∉ gs.map (·.1) → (lying gs n).filter (fun z => decide (z.1 = x)) = []
  | [], _ => rfl
  | g :: gs, h => by
    have h1 : g.1 ≠ x := fun e => h (by rw [List.map_cons, e]; exact List.mem_cons_self)
    rw [lying_cons, List.filter_append, lying_no fun z => h (by rw [List.map_cons]; exact List.mem_cons_of_mem _ z), List.append_nil, List.filter_eq_nil_iff]
    intro z hz
    obtain ⟨j, _, rfl⟩ := List.mem_map.mp hz
    exact fun e => h1 (of_decide_eq_true e)
theorem lying_of {n : Nat} {g : PySem.Str × List Pl} : ∀ {gs : Gs}, (gs.map (·.1)).Nodup → g ∈ gs → (lying gs n).filter (fun z => decide (z.1 = g.1)) = lyG n g
  | [], _, h => nomatch h
  | a :: gs, nd, h => by
    rw [List.map_cons, List.nodup_cons] at nd
    rw [lying_cons, List.filter_append]
    rcases List.mem_cons.mp h with rfl | m
    · rw [lying_no nd.1, List.append_nil, List.filter_eq_self]
      intro z hz
      obtain ⟨j, _, rfl⟩ := List.mem_map.mp hz
      exact decide_eq_true rfl
    · rw [lying_of nd.2 m]
      have : (lyG n a).filter (fun z => decide (z.1 = g.1)) = [] := by
        rw [List.filter_eq_nil_iff]
        intro z hz
        obtain ⟨j, _, rfl⟩ := List.mem_map.mp hz
        exact fun e => nd.1 (by rw [show a.1 = g.1 from of_decide_eq_true e]; exact List.mem_map.mpr ⟨g, m, rfl⟩)
      rw [this, List.nil_append]
theorem put_eq {gs : Gs} {n : Nat} {p : Pl} (nd : (gs.map (·.1)).Nodup) : setAll gs (lying gs n) p = put gs n p := by
  rw [setAll_map]
  unfold put
  refine List.map_congr_left fun g hg => ?_
  congr 1
  rw [lying_of nd hg]
  have e : (lyG n g).foldl (fun ps z => ps.set z.2 p) g.2 = ((lyG n g).map (·.2)).foldl (fun ps j => ps.set j p) g.2 := by rw [List.foldl_map]
  rw [e]
  refine List.ext_getElem? fun i => ?_
  rw [set_fold, List.getElem?_map]
  have mi : i ∈ (lyG n g).map (·.2) ↔ i < g.2.length ∧ isAt n (g.2.getD i .blank) = true := by
    unfold lyG
    rw [List.map_map, List.mem_map]
    constructor
    · rintro ⟨j, hj, rfl⟩
      obtain ⟨a, b⟩ := List.mem_filter.mp hj
      exact ⟨List.mem_range.mp a, b⟩
    · rintro ⟨a, b⟩
      exact ⟨i, List.mem_filter.mpr ⟨List.mem_range.mpr a, b⟩, rfl⟩
  by_cases l : i < g.2.length
  · have gi := List.getElem?_eq_getElem l
    rw [List.getD_eq_getElem?_getD, gi] at mi
    rw [gi]
    by_cases b : isAt n g.2[i] = true
    · rw [if_pos (mi.mpr ⟨l, b⟩)]
      show some p = some (if isAt n g.2[i] = true then p else g.2[i])
      rw [if_pos b]
    · rw [if_neg fun z => b (mi.mp z).2]
      show some g.2[i] = some (if isAt n g.2[i] = true then p else g.2[i])
      rw [if_neg b]
  · rw [List.getElem?_eq_none (by omega)]
    split <;> rfl
/-! ### which room is taken -/
theorem freeAt_skip {gs : Gs} : ∀ {i n m : Nat}, (∀ j, n ≤ j → j < n + i → used gs j = true) → freeAt gs (i + m) n = freeAt gs m (n + i)
  | 0, n, m, _ => by rw [Nat.zero_add, Nat.add_zero]
  | i + 1, n, m, h => by
    rw [show i + 1 + m = (i + m) + 1 by omega]
    show (if used gs n = true then freeAt gs (i + m) (n + 1) else some n) = _
    rw [if_pos (h n (Nat.le_refl _) (by omega)), freeAt_skip fun j a b => h j (by omega) (by omega), show n + 1 + i = n + (i + 1) by omega]
theorem freeAt_here {gs : Gs} {n m : Nat} (h : used gs n = false) : freeAt gs (m + 1) n = some n := by
  unfold freeAt
  rw [if_neg (by rw [h]; exact Bool.false_ne_true)]
theorem free_some {s : R} {i : Nat} (hi : i < s.cells.length) (h : ∀ j, j < i → used s.gs j = true) (u : used s.gs i = false) : s.free = (s, i) := by
  have e : freeAt s.gs s.cells.length 0 = some i := by
    rw [show s.cells.length = i + ((s.cells.length - i - 1) + 1) by omega, freeAt_skip fun j _ b => h j (by omega), Nat.zero_add]
    exact freeAt_here u
  unfold R.free
  rw [e]
theorem free_none {s : R} (h : ∀ j, j < s.cells.length → used s.gs j = true) : s.free = ({ s with gs := put s.gs (leastAt s.given) (.own (s.cells.getD (leastAt s.given) [])) }, leastAt s.given) := by
  have e : freeAt s.gs s.cells.length 0 = none := by
    have := freeAt_skip (gs := s.gs) (i := s.cells.length) (n := 0) (m := 0) fun j _ b => h j (by omega)
    rw [Nat.add_zero] at this
    rw [this]
    rfl
  unfold R.free
  rw [e]
theorem fold_le : ∀ (l : List Nat) (a : Nat), l.foldl min a ≤ a ∧ ∀ y ∈ l, l.foldl min a ≤ y
  | [], a => ⟨Nat.le_refl _, fun _ z => nomatch z⟩
  | b :: l, a => by
    rw [List.foldl_cons]
    obtain ⟨h1, h2⟩ := fold_le l (min a b)
    refine ⟨Nat.le_trans h1 (Nat.min_le_left _ _), fun y hy => ?_⟩
    rcases List.mem_cons.mp hy with rfl | m
    · exact Nat.le_trans h1 (Nat.min_le_right _ _)
    · exact h2 y m
theorem idx_first {a : Nat} : ∀ {l : List Nat}, a ∈ l → l[l.idxOf a]? = some a ∧ ∀ j, j < l.idxOf a → l[j]? ≠ some a
  | [], h => nomatch h
  | b :: l, h => by
    rw [List.idxOf_cons]
    by_cases e : b = a
    · subst e
      rw [beq_self_eq_true, cond_true]
      exact ⟨rfl, fun j hj => absurd hj (Nat.not_lt_zero _)⟩
    · rw [beq_false_of_ne e, cond_false]
      have m : a ∈ l := (List.mem_cons.mp h).elim (fun z => absurd z.symm e) id
      obtain ⟨h1, h2⟩ := idx_first m
      refine ⟨h1, fun j hj => ?_⟩
      cases j with
      | zero => exact fun z => e (Option.some.inj z)
      | succ j => exact h2 j (by omega)
/-- the least of all, and its first place -/
theorem least_spec {l : List Nat} (h : l ≠ []) : ∃ m, m ∈ l ∧ (∀ y ∈ l, m ≤ y) ∧ l[leastAt l]? = some m ∧ ∀ j, j < leastAt l → l[j]? ≠ some m := by
  cases l with
  | nil => exact absurd rfl h
  | cons a r =>
    have m : (a :: r).foldl min a ∈ a :: r := by
      rcases fold_min (a :: r) a with e | e
      · rw [e]; exact List.mem_cons_self
      · exact e
    obtain ⟨i1, i2⟩ := idx_first m
    exact ⟨_, m, (fold_le (a :: r) a).2, i1, i2⟩
end Rm

namespace Rm
open PySem PySem.Spec PyProof.Rows L2 Bk
section
variable {Cl : Addr} {H H' : Hp} {k k' : Sk} {s s' : R}
/-- one giving more is counted -/
theorem At.count (h : At Cl H k s) {n : Nat} {dx : Addr} {fs : List (PySem.Str × V)} (e : H k.o = some (.ins Cl dx fs)) : Mv Cl H k s (upd H k.o (.ins Cl dx (putF ("_givings" : PySem.Str) (.int n) fs))) k { s with givings := n } := by
  obtain ⟨dx0, fs0, e0, fC, fV, fN, fG, fl, fn⟩ := h.ob
  rw [e] at e0
  obtain ⟨rfl, rfl⟩ : dx = dx0 ∧ fs = fs0 := by
    have z := Option.some.inj e0
    injection z with _ z1 z2
    exact ⟨z1, z2⟩
  have ot : ∀ {g : PySem.Str}, (g == ("_givings" : PySem.Str)) = false → (putF ("_givings" : PySem.Str) (.int n) fs).lookup g = fs.lookup g := fun {g} hg => by
    rw [lookup_putF, if_neg (beq_eq_false_iff_ne.mp hg)]
  have oc : own k s k.o := .inl rfl
  have kk : At Cl (upd H k.o (.ins Cl dx (putF ("_givings" : PySem.Str) (.int n) fs))) k { s with givings := n } := by
    have nl : ∀ {b : Addr} {u : HO}, H b = some u → (∀ dx fs, u ≠ .ins Cl dx fs) → b ≠ k.o := fun eb nb => (h.o_ne eb nb).symm
    refine ⟨⟨dx, _, upd_same, (ot (by decide +kernel)).trans fC, (ot (by decide +kernel)).trans fV, by rw [lookup_putF, if_pos rfl], (ot (by decide +kernel)).trans fG, by rw [putF_old fN]; exact fl, fun m h1 h2 h3 h4 => (ot h3).trans (fn m h1 h2 h3 h4)⟩, ?_, h.cn, fun i c hc => ?_, ?_, ?_, fun g hg => ?_, h.n1, h.n2, h.n3, h.n4, h.n5, ⟨h.ok.len, h.ok.ne, h.ok.eight, h.ok.at_, h.ok.nd⟩⟩
    · rw [upd_ne (nl h.cl fun _ _ z => nomatch z)]; exact h.cl
    · rw [upd_ne (nl (h.cx i c hc) fun _ _ z => nomatch z)]; exact h.cx i c hc
    · rw [upd_ne (nl h.gv fun _ _ z => nomatch z)]; exact h.gv
    · rw [upd_ne (nl h.gd fun _ _ z => nomatch z)]; exact h.gd
    · obtain ⟨xs, e2, q⟩ := h.gl g hg
      refine ⟨xs, ?_, q.keep (h.ts (fr1 oc))⟩
      rw [upd_ne (nl e2 fun _ _ z => nomatch z)]
      exact e2
  exact ⟨kk, fr1 oc, fun b z => .inl z, rfl, rfl⟩
end
end Rm

open PySem PySem.Spec PyProof.Rows L2 Bk
local macro_rules | `(tactic| walk_at "go1") => `(tactic| with_reducible first
  | refine r_seq ?_ | refine r_asg ?_ | refine r_name ?_ | refine r_if ?_ | refine r_ret ?_ | refine r_next ?_ | refine r_drop ?_
  | refine r_op ?_ | refine r_un ?_ | refine r_c ?_ | refine r_I0 ?_ | refine r_lstB ?_ | refine r_mth ?_ | refine r_mthK ?_ | refine r_mkS ?_ | refine r_fld ?_ | refine r_par ?_ | refine r_U ?_ | refine r_nil ?_ | refine r_cons ?_ | refine r_call ?_ | refine r_callN ?_ | refine r_for ?_ | refine r_iList ?_ | refine r_iTup ?_ | refine r_iRng1 ?_ | refine r_iRng2 ?_ | refine r_mkV ?_ | refine r_dnewK ?_ | refine r_cb ?_
  | refine r_test ?_ | refine r_tB ?_ | refine r_isb ?_ | refine r_isv ?_ | refine r_not ?_ | refine r_and ?_ | refine r_or ?_ | refine r_andV ?_ | refine r_orV ?_ | refine r_notV ?_ | refine r_chain ?_ | refine r_ifE ?_
  | refine r_lst ?_ | refine r_tup ?_ | refine r_gSub ?_ | refine r_bm ?_
  | (apply r_var; focus (with_unfolding_all rfl))
  | refine iteT ?_ | refine iteF ?_ | refine iteNF ?_ | refine iteNT ?_ | refine r_m1 ?_ | refine r_sl ?_ | refine r_noPart ?_ | refine r_part ?_ | refine r_isi ?_
  | (refine r_eq ?_ ?_; focus (with_unfolding_all (first | rfl | decide))) | (refine r_ne ?_ ?_; focus (with_unfolding_all (first | rfl | decide))))
local macro_rules | `(tactic| walk_at "go") => `(tactic| repeat (walk_at "go1"))
namespace K17
open PySem PySem.Spec PyProof.Rows L2 Bk Rm


def topS (i : Nat) : Stmt := PySem.Challenge.pw_guestsalone_k17_rooms_shared_and_written.main.body.getD i (.Pass ⟨0, 0, 0, 0⟩)
abbrev s_wall : Stmt := topS 0
abbrev s_GuestError_init : Stmt := inClass (topS 2) 0
abbrev s_Missing_init : Stmt := inClass (topS 3) 0
abbrev s_Barred_init : Stmt := inClass (topS 4) 0
abbrev s_NoNumber_init : Stmt := inClass (topS 5) 0
abbrev s_NoName_init : Stmt := inClass (topS 6) 0
abbrev s_NoWord_init : Stmt := inClass (topS 7) 0
abbrev s_NoImage_init : Stmt := inClass (topS 8) 0
abbrev s_Doubled_init : Stmt := inClass (topS 9) 0
abbrev s_NoGuest_init : Stmt := inClass (topS 10) 0
abbrev s_Full_init : Stmt := inClass (topS 11) 0
abbrev s_is_whole : Stmt := topS 14
abbrev s_is_word : Stmt := topS 15
abbrev s_is_name : Stmt := topS 16
abbrev s_all_within : Stmt := topS 17
abbrev s_check_number : Stmt := topS 19
abbrev s_check_word : Stmt := topS 20
abbrev s_is_eight : Stmt := topS 23
abbrev s_is_row : Stmt := topS 24
abbrev s_Rooms_init : Stmt := inClass (topS 29) 0
abbrev s_Rooms_come : Stmt := inClass (topS 29) 1
abbrev s_Rooms_go : Stmt := inClass (topS 29) 2
abbrev s_Rooms_replaced : Stmt := inClass (topS 29) 3
abbrev s_Rooms_read_cell : Stmt := inClass (topS 29) 4
abbrev s_Rooms_write_cell : Stmt := inClass (topS 29) 5
abbrev s_Rooms_store : Stmt := inClass (topS 29) 6
abbrev s_Rooms_take_back : Stmt := inClass (topS 29) 7
abbrev s_Rooms_share : Stmt := inClass (topS 29) 8
abbrev s_Rooms_how_many : Stmt := inClass (topS 29) 9
abbrev s_Rooms_shared : Stmt := inClass (topS 29) 10
abbrev s_Rooms_names : Stmt := inClass (topS 29) 11
abbrev s_Rooms_in_use : Stmt := inClass (topS 29) 12
abbrev s_Rooms_way : Stmt := inClass (topS 29) 13
abbrev s_Rooms_words : Stmt := inClass (topS 29) 14
abbrev s_Rooms_rooms_of : Stmt := inClass (topS 29) 15
abbrev s_Rooms_lying : Stmt := inClass (topS 29) 16
abbrev s_Rooms_twin : Stmt := inClass (topS 29) 17
abbrev s_Rooms_check_guest : Stmt := inClass (topS 29) 18
abbrev s_Rooms_words_at : Stmt := inClass (topS 29) 19
abbrev s_Rooms_brought : Stmt := inClass (topS 29) 20
abbrev s_Rooms_free_room : Stmt := inClass (topS 29) 21
abbrev s_Rooms_put : Stmt := inClass (topS 29) 22
abbrev s_places : Stmt := topS 30
abbrev s_cell_L : Stmt := topS 32
abbrev s_box_L : Stmt := topS 33
abbrev s_take_L : Stmt := topS 34
abbrev s_row_L : Stmt := topS 35
abbrev s_eight_L : Stmt := topS 36
abbrev s_names_L : Stmt := topS 37
abbrev s_model_L : Stmt := topS 38
abbrev s_comes_L : Stmt := topS 39
abbrev s_lying_L : Stmt := topS 40
abbrev s_settled_L : Stmt := topS 41
abbrev s_given_L : Stmt := topS 42
abbrev s_words_L : Stmt := topS 43
abbrev s_brought_L : Stmt := topS 44
abbrev s_read_L : Stmt := topS 45
abbrev s_write_L : Stmt := topS 46
abbrev s_taken_back_L : Stmt := topS 47
abbrev s_shared_L : Stmt := topS 48
abbrev s_told_L : Stmt := topS 49
abbrev s_asked_L : Stmt := topS 50
abbrev s_alike_rooms_L : Stmt := topS 51
abbrev s_deed_L : Stmt := topS 52
abbrev s_law : Stmt := topS 53
theorem sc_wall : FnScope ["k"] ["k"] (defScope s_wall) := ⟨rfl, rfl, rfl, by decide +kernel, rfl, by decide +kernel, by decide +kernel⟩
theorem sc_GuestError_init : FnScope ["self", "text"] ["self", "text"] (defScope s_GuestError_init) := ⟨rfl, rfl, rfl, by decide +kernel, rfl, by decide +kernel, by decide +kernel⟩
theorem sc_Missing_init : FnScope ["self", "text"] ["self", "text"] (defScope s_Missing_init) := ⟨rfl, rfl, rfl, by decide +kernel, rfl, by decide +kernel, by decide +kernel⟩
theorem sc_Barred_init : FnScope ["self", "text"] ["self", "text"] (defScope s_Barred_init) := ⟨rfl, rfl, rfl, by decide +kernel, rfl, by decide +kernel, by decide +kernel⟩
theorem sc_NoNumber_init : FnScope ["self", "found"] ["self", "found"] (defScope s_NoNumber_init) := ⟨rfl, rfl, rfl, by decide +kernel, rfl, by decide +kernel, by decide +kernel⟩
theorem sc_NoName_init : FnScope ["self", "found"] ["self", "found"] (defScope s_NoName_init) := ⟨rfl, rfl, rfl, by decide +kernel, rfl, by decide +kernel, by decide +kernel⟩
theorem sc_NoWord_init : FnScope ["self", "found"] ["self", "found"] (defScope s_NoWord_init) := ⟨rfl, rfl, rfl, by decide +kernel, rfl, by decide +kernel, by decide +kernel⟩
theorem sc_NoImage_init : FnScope ["self", "found"] ["self", "found"] (defScope s_NoImage_init) := ⟨rfl, rfl, rfl, by decide +kernel, rfl, by decide +kernel, by decide +kernel⟩
theorem sc_Doubled_init : FnScope ["self", "found"] ["self", "found"] (defScope s_Doubled_init) := ⟨rfl, rfl, rfl, by decide +kernel, rfl, by decide +kernel, by decide +kernel⟩
theorem sc_NoGuest_init : FnScope ["self", "found"] ["self", "found"] (defScope s_NoGuest_init) := ⟨rfl, rfl, rfl, by decide +kernel, rfl, by decide +kernel, by decide +kernel⟩
theorem sc_Full_init : FnScope ["self", "many"] ["self", "many"] (defScope s_Full_init) := ⟨rfl, rfl, rfl, by decide +kernel, rfl, by decide +kernel, by decide +kernel⟩
theorem sc_is_whole : FnScope ["thing", "low", "high"] ["thing", "low", "high"] (defScope s_is_whole) := ⟨rfl, rfl, rfl, by decide +kernel, rfl, by decide +kernel, by decide +kernel⟩
theorem sc_is_word : FnScope ["thing"] ["thing"] (defScope s_is_word) := ⟨rfl, rfl, rfl, by decide +kernel, rfl, by decide +kernel, by decide +kernel⟩
theorem sc_is_name : FnScope ["thing"] ["thing"] (defScope s_is_name) := ⟨rfl, rfl, rfl, by decide +kernel, rfl, by decide +kernel, by decide +kernel⟩
theorem sc_all_within : FnScope ["text", "first", "last", "sign"] ["text", "first", "last"] (defScope s_all_within) := ⟨rfl, rfl, rfl, by decide +kernel, rfl, by decide +kernel, by decide +kernel⟩
theorem sc_check_number : FnScope ["thing", "low", "high"] ["thing", "low", "high"] (defScope s_check_number) := ⟨rfl, rfl, rfl, by decide +kernel, rfl, by decide +kernel, by decide +kernel⟩
theorem sc_check_word : FnScope ["thing"] ["thing"] (defScope s_check_word) := ⟨rfl, rfl, rfl, by decide +kernel, rfl, by decide +kernel, by decide +kernel⟩
theorem sc_is_eight : FnScope ["thing", "row"] ["thing"] (defScope s_is_eight) := ⟨rfl, rfl, rfl, by decide +kernel, rfl, by decide +kernel, by decide +kernel⟩
theorem sc_is_row : FnScope ["thing", "word"] ["thing"] (defScope s_is_row) := ⟨rfl, rfl, rfl, by decide +kernel, rfl, by decide +kernel, by decide +kernel⟩
theorem sc_Rooms_init : FnScope ["self", "many", "_"] ["self", "many"] (defScope s_Rooms_init) := ⟨rfl, rfl, rfl, by decide +kernel, rfl, by decide +kernel, by decide +kernel⟩
theorem sc_Rooms_come : FnScope ["self", "name", "rooms"] ["self", "name", "rooms"] (defScope s_Rooms_come) := ⟨rfl, rfl, rfl, by decide +kernel, rfl, by decide +kernel, by decide +kernel⟩
theorem sc_Rooms_go : FnScope ["self", "name"] ["self", "name"] (defScope s_Rooms_go) := ⟨rfl, rfl, rfl, by decide +kernel, rfl, by decide +kernel, by decide +kernel⟩
theorem sc_Rooms_replaced : FnScope ["self", "name", "rooms"] ["self", "name", "rooms"] (defScope s_Rooms_replaced) := ⟨rfl, rfl, rfl, by decide +kernel, rfl, by decide +kernel, by decide +kernel⟩
theorem sc_Rooms_read_cell : FnScope ["self", "name", "room", "cell"] ["self", "name", "room", "cell"] (defScope s_Rooms_read_cell) := ⟨rfl, rfl, rfl, by decide +kernel, rfl, by decide +kernel, by decide +kernel⟩
theorem sc_Rooms_write_cell : FnScope ["self", "name", "room", "cell", "word", "number"] ["self", "name", "room", "cell", "word"] (defScope s_Rooms_write_cell) := ⟨rfl, rfl, rfl, by decide +kernel, rfl, by decide +kernel, by decide +kernel⟩
theorem sc_Rooms_store : FnScope ["self", "name"] ["self", "name"] (defScope s_Rooms_store) := ⟨rfl, rfl, rfl, by decide +kernel, rfl, by decide +kernel, by decide +kernel⟩
theorem sc_Rooms_take_back : FnScope ["self", "name", "room"] ["self", "name", "room"] (defScope s_Rooms_take_back) := ⟨rfl, rfl, rfl, by decide +kernel, rfl, by decide +kernel, by decide +kernel⟩
theorem sc_Rooms_share : FnScope ["self", "firsts", "many", "number", "words"] ["self"] (defScope s_Rooms_share) := ⟨rfl, rfl, rfl, by decide +kernel, rfl, by decide +kernel, by decide +kernel⟩
theorem sc_Rooms_how_many : FnScope ["self"] ["self"] (defScope s_Rooms_how_many) := ⟨rfl, rfl, rfl, by decide +kernel, rfl, by decide +kernel, by decide +kernel⟩
theorem sc_Rooms_shared : FnScope ["self", "number"] ["self"] (defScope s_Rooms_shared) := ⟨rfl, rfl, rfl, by decide +kernel, rfl, by decide +kernel, by decide +kernel⟩
theorem sc_Rooms_names : FnScope ["self"] ["self"] (defScope s_Rooms_names) := ⟨rfl, rfl, rfl, by decide +kernel, rfl, by decide +kernel, by decide +kernel⟩
theorem sc_Rooms_in_use : FnScope ["self", "places", "place"] ["self"] (defScope s_Rooms_in_use) := ⟨rfl, rfl, rfl, by decide +kernel, rfl, by decide +kernel, by decide +kernel⟩
theorem sc_Rooms_way : FnScope ["self", "name", "room", "place"] ["self", "name", "room"] (defScope s_Rooms_way) := ⟨rfl, rfl, rfl, by decide +kernel, rfl, by decide +kernel, by decide +kernel⟩
theorem sc_Rooms_words : FnScope ["self", "name", "room"] ["self", "name", "room"] (defScope s_Rooms_words) := ⟨rfl, rfl, rfl, by decide +kernel, rfl, by decide +kernel, by decide +kernel⟩
theorem sc_Rooms_rooms_of : FnScope ["self", "name"] ["self", "name"] (defScope s_Rooms_rooms_of) := ⟨rfl, rfl, rfl, by decide +kernel, rfl, by decide +kernel, by decide +kernel⟩
theorem sc_Rooms_lying : FnScope ["self", "number", "found", "name", "places", "room", "place"] ["self", "number"] (defScope s_Rooms_lying) := ⟨rfl, rfl, rfl, by decide +kernel, rfl, by decide +kernel, by decide +kernel⟩
theorem sc_Rooms_twin : FnScope ["self"] ["self"] (defScope s_Rooms_twin) := ⟨rfl, rfl, rfl, by decide +kernel, rfl, by decide +kernel, by decide +kernel⟩
theorem sc_Rooms_check_guest : FnScope ["self", "name"] ["self", "name"] (defScope s_Rooms_check_guest) := ⟨rfl, rfl, rfl, by decide +kernel, rfl, by decide +kernel, by decide +kernel⟩
theorem sc_Rooms_words_at : FnScope ["self", "place"] ["self", "place"] (defScope s_Rooms_words_at) := ⟨rfl, rfl, rfl, by decide +kernel, rfl, by decide +kernel, by decide +kernel⟩
theorem sc_Rooms_brought : FnScope ["self", "name", "room", "place", "number"] ["self", "name", "room"] (defScope s_Rooms_brought) := ⟨rfl, rfl, rfl, by decide +kernel, rfl, by decide +kernel, by decide +kernel⟩
theorem sc_Rooms_free_room : FnScope ["self", "used", "number", "oldest"] ["self"] (defScope s_Rooms_free_room) := ⟨rfl, rfl, rfl, by decide +kernel, rfl, by decide +kernel, by decide +kernel⟩
theorem sc_Rooms_put : FnScope ["self", "number", "place", "name", "room"] ["self", "number", "place"] (defScope s_Rooms_put) := ⟨rfl, rfl, rfl, by decide +kernel, rfl, by decide +kernel, by decide +kernel⟩
theorem sc_places : FnScope ["rooms", "words"] ["rooms"] (defScope s_places) := ⟨rfl, rfl, rfl, by decide +kernel, rfl, by decide +kernel, by decide +kernel⟩
theorem sc_cell_L : FnScope ["_law_script", "_law_k"] ["_law_script", "_law_k"] (defScope s_cell_L) := ⟨rfl, rfl, rfl, by decide +kernel, rfl, by decide +kernel, by decide +kernel⟩
theorem sc_box_L : FnScope ["_law_cell_here"] ["_law_cell_here"] (defScope s_box_L) := ⟨rfl, rfl, rfl, by decide +kernel, rfl, by decide +kernel, by decide +kernel⟩
theorem sc_take_L : FnScope ["_law_box_here", "_law_many", "_law_digit", "_law_one", "_law_two"] ["_law_box_here", "_law_many"] (defScope s_take_L) := ⟨rfl, rfl, rfl, by decide +kernel, rfl, by decide +kernel, by decide +kernel⟩
theorem sc_row_L : FnScope ["_law_box_here", "_law_way", "_law_cell_here"] ["_law_box_here"] (defScope s_row_L) := ⟨rfl, rfl, rfl, by decide +kernel, rfl, by decide +kernel, by decide +kernel⟩
theorem sc_eight_L : FnScope ["_law_box_here", "_law_pool", "_law_found", "_law_k", "_law_row_here"] ["_law_box_here", "_law_pool"] (defScope s_eight_L) := ⟨rfl, rfl, rfl, by decide +kernel, rfl, by decide +kernel, by decide +kernel⟩
theorem sc_names_L : FnScope ["_law_box_here", "_law_many", "_law_letters", "_law_first", "_law_way", "_law_stem", "_law_at", "_law_k"] ["_law_box_here", "_law_many"] (defScope s_names_L) := ⟨rfl, rfl, rfl, by decide +kernel, rfl, by decide +kernel, by decide +kernel⟩
theorem sc_model_L : FnScope ["_law_many"] ["_law_many"] (defScope s_model_L) := ⟨rfl, rfl, rfl, by decide +kernel, rfl, by decide +kernel, by decide +kernel⟩
theorem sc_comes_L : FnScope ["_law_model_here", "_law_name", "_law_rooms", "_law_row_here"] ["_law_model_here", "_law_name", "_law_rooms"] (defScope s_comes_L) := ⟨rfl, rfl, rfl, by decide +kernel, rfl, by decide +kernel, by decide +kernel⟩
theorem sc_lying_L : FnScope ["_law_model_here", "_law_at", "_law_found", "_law_name", "_law_items", "_law_room", "_law_item"] ["_law_model_here", "_law_at"] (defScope s_lying_L) := ⟨rfl, rfl, rfl, by decide +kernel, rfl, by decide +kernel, by decide +kernel⟩
theorem sc_settled_L : FnScope ["_law_model_here", "_law_at", "_law_room"] ["_law_model_here"] (defScope s_settled_L) := ⟨rfl, rfl, rfl, by decide +kernel, rfl, by decide +kernel, by decide +kernel⟩
theorem sc_given_L : FnScope ["_law_model_here", "_law_words_here", "_law_rooms", "_law_at", "_law_room", "_law_free", "_law_name", "_law_k"] ["_law_model_here", "_law_words_here"] (defScope s_given_L) := ⟨rfl, rfl, rfl, by decide +kernel, rfl, by decide +kernel, by decide +kernel⟩
theorem sc_words_L : FnScope ["_law_model_here", "_law_name", "_law_room", "_law_way", "_law_thing"] ["_law_model_here", "_law_name", "_law_room"] (defScope s_words_L) := ⟨rfl, rfl, rfl, by decide +kernel, rfl, by decide +kernel, by decide +kernel⟩
theorem sc_brought_L : FnScope ["_law_model_here", "_law_name", "_law_room", "_law_words_here"] ["_law_model_here", "_law_name", "_law_room"] (defScope s_brought_L) := ⟨rfl, rfl, rfl, by decide +kernel, rfl, by decide +kernel, by decide +kernel⟩
theorem sc_read_L : FnScope ["_law_model_here", "_law_name", "_law_room", "_law_cell_here"] ["_law_model_here", "_law_name", "_law_room", "_law_cell_here"] (defScope s_read_L) := ⟨rfl, rfl, rfl, by decide +kernel, rfl, by decide +kernel, by decide +kernel⟩
theorem sc_write_L : FnScope ["_law_model_here", "_law_name", "_law_room", "_law_cell_here", "_law_word", "_law_at"] ["_law_model_here", "_law_name", "_law_room", "_law_cell_here", "_law_word"] (defScope s_write_L) := ⟨rfl, rfl, rfl, by decide +kernel, rfl, by decide +kernel, by decide +kernel⟩
theorem sc_taken_back_L : FnScope ["_law_model_here", "_law_name", "_law_room", "_law_lay"] ["_law_model_here", "_law_name", "_law_room"] (defScope s_taken_back_L) := ⟨rfl, rfl, rfl, by decide +kernel, rfl, by decide +kernel, by decide +kernel⟩
theorem sc_shared_L : FnScope ["_law_model_here", "_law_rooms", "_law_free", "_law_at", "_law_other", "_law_name", "_law_room"] ["_law_model_here"] (defScope s_shared_L) := ⟨rfl, rfl, rfl, by decide +kernel, rfl, by decide +kernel, by decide +kernel⟩
theorem sc_told_L : FnScope ["_law_model_here", "_law_found", "_law_name", "_law_items", "_law_room", "_law_item", "_law_lying_here", "_law_used", "_law_at", "_law_some"] ["_law_model_here"] (defScope s_told_L) := ⟨rfl, rfl, rfl, by decide +kernel, rfl, by decide +kernel, by decide +kernel⟩
theorem sc_asked_L : FnScope ["_law_rooms", "_law_found", "_law_name", "_law_at", "_law_room"] ["_law_rooms"] (defScope s_asked_L) := ⟨rfl, rfl, rfl, by decide +kernel, rfl, by decide +kernel, by decide +kernel⟩
theorem sc_alike_rooms_L : FnScope ["_law_box_here", "_law_sorts", "_law_room", "_law_cell_here"] ["_law_box_here"] (defScope s_alike_rooms_L) := ⟨rfl, rfl, rfl, by decide +kernel, rfl, by decide +kernel, by decide +kernel⟩
theorem sc_deed_L : FnScope ["_law_box_here", "_law_rooms", "_law_model_here", "_law_names_here", "_law_name", "_law_room", "_law_cell_here", "_law_way", "_law_before", "_law_words_here", "_law_word"] ["_law_box_here", "_law_rooms", "_law_model_here"] (defScope s_deed_L) := ⟨rfl, rfl, rfl, by decide +kernel, rfl, by decide +kernel, by decide +kernel⟩
theorem sc_law : FnScope ["_law_script", "_law_k", "_law_box_here", "_law_many", "_law_rooms", "_law_model_here", "_law_name", "_law_some", "_law_room", "_law_turn"] ["_law_script"] (defScope s_law) := ⟨rfl, rfl, rfl, by decide +kernel, rfl, by decide +kernel, by decide +kernel⟩
structure Ad where
  CG : Addr
  fG : Addr
  CK : Addr
  fK : Addr
  CB : Addr
  fB : Addr
  CM : Addr
  fM : Addr
  CN : Addr
  fN : Addr
  CW : Addr
  fW : Addr
  CI : Addr
  fI : Addr
  CD : Addr
  fD : Addr
  CA : Addr
  fA : Addr
  CF : Addr
  fF : Addr
  CR : Addr
  CS : Addr
  aN : Addr
structure Txt (K : PySem.W.Frag) (mg : Str → Option Value) (A : Ad) : Prop where
  m_isinstance : mg "isinstance" = none
  m_int : mg "int" = none
  m_bool : mg "bool" = none
  m_str : mg "str" = none
  m_list : mg "list" = none
  m_tuple : mg "tuple" = none
  m_len : mg "len" = none
  m_max : mg "max" = none
  m_min : mg "min" = none
  m_range : mg "range" = none
  m_all : mg "all" = none
  m_sorted : mg "sorted" = none
  m_enumerate : mg "enumerate" = none
  m_ValueError : mg "ValueError" = none
  m_LookupError : mg "LookupError" = none
  m_KeyError : mg "KeyError" = none
  m_repr : mg "repr" = none
  c_MOST : ∃ u, mg "MOST" = some u ∧ RelV (.int 4095) u
  c_EIGHT : ∃ u, mg "EIGHT" = some u ∧ RelV (.int 8) u
  c_MOST_ROOMS : ∃ u, mg "MOST_ROOMS" = some u ∧ RelV (.int 64) u
  c_MOST_GUESTS : ∃ u, mg "MOST_GUESTS" = some u ∧ RelV (.int 6) u
  c_NOUGHTS : ∃ u, mg "NOUGHTS" = some u ∧ RelV (.ref A.aN) u
  no : ∀ H : Hp, SqT K H A.aN (nv zeros)
  noT : ∀ H : Hp, IsA K H (.ref A.aN) "tuple" true
  g_GuestError : mg "GuestError" = some (.ref A.CG)
  rd_GuestError : PySem.W.readsIn K A.CG (.type "type") = true
  ga_GuestError : PySem.W.specialIn K (.ref A.CG) "__getattribute__" = some (some (.builtin "type.__getattribute__"))
  at_GuestError : PySem.W.findCls K (.ref A.CG) (.type "type") "__init__" = some (.val (.ref A.fG))
  g_Missing : mg "Missing" = some (.ref A.CK)
  rd_Missing : PySem.W.readsIn K A.CK (.type "type") = true
  ga_Missing : PySem.W.specialIn K (.ref A.CK) "__getattribute__" = some (some (.builtin "type.__getattribute__"))
  at_Missing : PySem.W.findCls K (.ref A.CK) (.type "type") "__init__" = some (.val (.ref A.fK))
  g_Barred : mg "Barred" = some (.ref A.CB)
  rd_Barred : PySem.W.readsIn K A.CB (.type "type") = true
  ga_Barred : PySem.W.specialIn K (.ref A.CB) "__getattribute__" = some (some (.builtin "type.__getattribute__"))
  at_Barred : PySem.W.findCls K (.ref A.CB) (.type "type") "__init__" = some (.val (.ref A.fB))
  vV : PySem.W.findCls K (.type "ValueError") (.type "type") "__init__" = some (.val (.builtin "ValueError.__init__"))
  vL : PySem.W.findCls K (.type "LookupError") (.type "type") "__init__" = some (.val (.builtin "LookupError.__init__"))
  vK : PySem.W.findCls K (.type "KeyError") (.type "type") "__init__" = some (.val (.builtin "KeyError.__init__"))
  g_NoNumber : mg "NoNumber" = some (.ref A.CM)
  xM : ExcA K .ve "found" A.CM A.fM
  g_NoName : mg "NoName" = some (.ref A.CN)
  xN : ExcA K .ve "found" A.CN A.fN
  g_NoWord : mg "NoWord" = some (.ref A.CW)
  xW : ExcA K .ve "found" A.CW A.fW
  g_NoImage : mg "NoImage" = some (.ref A.CI)
  xI : ExcA K .ve "found" A.CI A.fI
  g_Doubled : mg "Doubled" = some (.ref A.CD)
  xD : ExcA K .ve "found" A.CD A.fD
  g_NoGuest : mg "NoGuest" = some (.ref A.CA)
  xA : ExcA K .ke "found" A.CA A.fA
  g_Full : mg "Full" = some (.ref A.CF)
  xF : ExcA K .le "many" A.CF A.fF
  eMM : PySem.W.exmOne K (.ref A.CM) (.ref A.CM) = some true
  eAA : PySem.W.exmOne K (.ref A.CA) (.ref A.CA) = some true
  eWW : PySem.W.exmOne K (.ref A.CW) (.ref A.CW) = some true
  eWM : PySem.W.exmOne K (.ref A.CW) (.ref A.CM) = some false
  g_Rooms : mg "Rooms" = some (.ref A.CR)
  cl_Rooms : Cls K A.CR
  na_cells : NoAttr K A.CR "_cells"
  na_given : NoAttr K A.CR "_given"
  na_givings : NoAttr K A.CR "_givings"
  na_guests : NoAttr K A.CR "_guests"
section
variable {K : PySem.W.Frag} {mg : Str → Option Value} {A : Ad}
theorem Txt.nf_NoNumber (T : Txt K mg A) : PySem.W.findIn K (.ref A.CM) "found" = some none := T.xM.nf
theorem Txt.ox_NoNumber (T : Txt K mg A) : OexT K .ve A.CM := T.xM.ox
theorem Txt.xf_NoNumber (T : Txt K mg A) : XfC K A.CM := T.xM.xf
theorem Txt.i_NoNumber (T : Txt K mg A) : PySem.W.findIn K (.ref A.CM) "__init__" = some (some (.ref A.fM)) := T.xM.i
theorem Txt.t_NoNumber (T : Txt K mg A) : PySem.W.typeIn K (.ref A.fM) = some (.type "function") := T.xM.t
theorem Txt.nf_NoName (T : Txt K mg A) : PySem.W.findIn K (.ref A.CN) "found" = some none := T.xN.nf
theorem Txt.ox_NoName (T : Txt K mg A) : OexT K .ve A.CN := T.xN.ox
theorem Txt.xf_NoName (T : Txt K mg A) : XfC K A.CN := T.xN.xf
theorem Txt.i_NoName (T : Txt K mg A) : PySem.W.findIn K (.ref A.CN) "__init__" = some (some (.ref A.fN)) := T.xN.i
theorem Txt.t_NoName (T : Txt K mg A) : PySem.W.typeIn K (.ref A.fN) = some (.type "function") := T.xN.t
theorem Txt.nf_NoWord (T : Txt K mg A) : PySem.W.findIn K (.ref A.CW) "found" = some none := T.xW.nf
theorem Txt.ox_NoWord (T : Txt K mg A) : OexT K .ve A.CW := T.xW.ox
theorem Txt.xf_NoWord (T : Txt K mg A) : XfC K A.CW := T.xW.xf
theorem Txt.i_NoWord (T : Txt K mg A) : PySem.W.findIn K (.ref A.CW) "__init__" = some (some (.ref A.fW)) := T.xW.i
theorem Txt.t_NoWord (T : Txt K mg A) : PySem.W.typeIn K (.ref A.fW) = some (.type "function") := T.xW.t
theorem Txt.nf_NoImage (T : Txt K mg A) : PySem.W.findIn K (.ref A.CI) "found" = some none := T.xI.nf
theorem Txt.ox_NoImage (T : Txt K mg A) : OexT K .ve A.CI := T.xI.ox
theorem Txt.xf_NoImage (T : Txt K mg A) : XfC K A.CI := T.xI.xf
theorem Txt.i_NoImage (T : Txt K mg A) : PySem.W.findIn K (.ref A.CI) "__init__" = some (some (.ref A.fI)) := T.xI.i
theorem Txt.t_NoImage (T : Txt K mg A) : PySem.W.typeIn K (.ref A.fI) = some (.type "function") := T.xI.t
theorem Txt.nf_Doubled (T : Txt K mg A) : PySem.W.findIn K (.ref A.CD) "found" = some none := T.xD.nf
theorem Txt.ox_Doubled (T : Txt K mg A) : OexT K .ve A.CD := T.xD.ox
theorem Txt.xf_Doubled (T : Txt K mg A) : XfC K A.CD := T.xD.xf
theorem Txt.i_Doubled (T : Txt K mg A) : PySem.W.findIn K (.ref A.CD) "__init__" = some (some (.ref A.fD)) := T.xD.i
theorem Txt.t_Doubled (T : Txt K mg A) : PySem.W.typeIn K (.ref A.fD) = some (.type "function") := T.xD.t
theorem Txt.nf_NoGuest (T : Txt K mg A) : PySem.W.findIn K (.ref A.CA) "found" = some none := T.xA.nf
theorem Txt.ox_NoGuest (T : Txt K mg A) : OexT K .ke A.CA := T.xA.ox
theorem Txt.xf_NoGuest (T : Txt K mg A) : XfC K A.CA := T.xA.xf
theorem Txt.i_NoGuest (T : Txt K mg A) : PySem.W.findIn K (.ref A.CA) "__init__" = some (some (.ref A.fA)) := T.xA.i
theorem Txt.t_NoGuest (T : Txt K mg A) : PySem.W.typeIn K (.ref A.fA) = some (.type "function") := T.xA.t
theorem Txt.nf_Full (T : Txt K mg A) : PySem.W.findIn K (.ref A.CF) "many" = some none := T.xF.nf
theorem Txt.ox_Full (T : Txt K mg A) : OexT K .le A.CF := T.xF.ox
theorem Txt.xf_Full (T : Txt K mg A) : XfC K A.CF := T.xF.xf
theorem Txt.i_Full (T : Txt K mg A) : PySem.W.findIn K (.ref A.CF) "__init__" = some (some (.ref A.fF)) := T.xF.i
theorem Txt.t_Full (T : Txt K mg A) : PySem.W.typeIn K (.ref A.fF) = some (.type "function") := T.xF.t
end
def spWh : Sp := fun vs H Q _ => ∃ x lo hi : Int, vs = [.int x, .int lo, .int hi] ∧ Q (.bl (decide (lo ≤ x ∧ x ≤ hi))) H
def spCkN : Sp := fun vs H Q _ => ∃ x lo hi : Int, vs = [.int x, .int lo, .int hi] ∧ lo ≤ x ∧ x ≤ hi ∧ Q .non H
def spWord : Sp := fun vs H Q _ => ∃ x : Int, vs = [.int x] ∧ Q (.bl (decide (0 ≤ x ∧ x ≤ 4095))) H
def spCkW : Sp := fun vs H Q _ => ∃ x : Int, vs = [.int x] ∧ 0 ≤ x ∧ x ≤ 4095 ∧ Q .non H
/-- at t: a row of words; the noughts of the module are one -/
def RowAt (A : Ad) (H : Hp) (t : Addr) (ws : List Nat) : Prop := H t = some (.tup (nv ws)) ∨ (t = A.aN ∧ ws = zeros)
/-- at a: rows in a tuple -/
def Eight (A : Ad) (H : Hp) (a : Addr) (rows : List (List Nat)) : Prop := ∃ ts : List Addr, H a = some (.tup (ts.map V.ref)) ∧ ts.length = rows.length ∧ ∀ (i : Nat) t ws, ts[i]? = some t → rows[i]? = some ws → RowAt A H t ws
structure RowsOk (rows : List (List Nat)) : Prop where
  l8 : rows.length = 8
  e8 : ∀ ws ∈ rows, ws.length = 8
  le : ∀ ws ∈ rows, ∀ w ∈ ws, w ≤ 4095
theorem RowAt.sq {K : PySem.W.Frag} {mg : Str → Option Value} {A : Ad} {H : Hp} {t : Addr} {ws : List Nat} (h : RowAt A H t ws) (T : Txt K mg A) : SqT K H t (nv ws) := by
  rcases h with h | ⟨rfl, rfl⟩
  · exact SqT.of h
  · exact T.no H
theorem RowAt.isT {K : PySem.W.Frag} {mg : Str → Option Value} {A : Ad} {H : Hp} {t : Addr} {ws : List Nat} (h : RowAt A H t ws) (T : Txt K mg A) : IsA K H (.ref t) "tuple" true := by
  rcases h with h | ⟨rfl, rfl⟩
  · exact isa_tup h
  · exact T.noT H
theorem RowAt.keep {A : Ad} {H H' : Hp} {t : Addr} {ws : List Nat} (h : RowAt A H t ws) (s : TS H H') : RowAt A H' t ws := h.imp (s _ _) id
theorem Eight.keep {A : Ad} {H H' : Hp} {a : Addr} {rows : List (List Nat)} (h : Eight A H a rows) (s : TS H H') : Eight A H' a rows := by
  obtain ⟨ts, e, l, r⟩ := h
  exact ⟨ts, s _ _ e, l, fun i t ws a b => (r i t ws a b).keep s⟩
def spRowI (A : Ad) : Sp := fun vs H Q _ => ∃ (t : Addr) (ws : List Nat), vs = [.ref t] ∧ RowAt A H t ws ∧ ws.length = 8 ∧ (∀ w ∈ ws, w ≤ 4095) ∧ ∀ H', Same H H' → Q (.bl true) H'
def spEight (A : Ad) : Sp := fun vs H Q _ => ∃ (a : Addr) (rows : List (List Nat)), vs = [.ref a] ∧ Eight A H a rows ∧ RowsOk rows ∧ ∀ H', Same H H' → Q (.bl true) H'
def spPlaces (A : Ad) : Sp := fun vs H Q _ => ∃ (a : Addr) (rows : List (List Nat)), vs = [.ref a] ∧ Eight A H a rows ∧ RowsOk rows ∧ ∀ (p : Addr) (xs : List V) H', H p = none → Same H H' → H' p = some (.lst xs) → PlsV H' (rows.map Rm.placeOf) xs → Q (.ref p) H'
/-! ### Rooms -/
/-- not too much -/
structure Sm (s : R) : Prop where
  six : s.names.length ≤ 6
  nm : ∀ x ∈ s.names, nameOk x = true
  c64 : s.cells.length ≤ 64
theorem Sm.of {s s' : R} (h : Sm s) (e : s'.names = s.names) (l : s'.cells.length = s.cells.length) : Sm s' := ⟨by rw [e]; exact h.six, by rw [e]; exact h.nm, by rw [l]; exact h.c64⟩
def r0 (m : Nat) : R := ⟨List.replicate m zeros, List.replicate m 0, 0, []⟩
def PairV (z : Str × Nat) (v : V) (H : Hp) : Prop := ∃ t, v = .ref t ∧ H t = some (.tup [.str z.1, .int z.2])
theorem PairV.keep {z : Str × Nat} {v : V} {H H' : Hp} (h : PairV z v H) (s : TS H H') : PairV z v H' := by
  obtain ⟨t, e, h⟩ := h
  exact ⟨t, e, s _ _ h⟩
def WordsAt (A : Ad) (H : Hp) (a : Addr) (ws : List Nat) : Prop := RowAt A H a ws ∨ H a = some (.lst (nv ws))
/-- the place of a guest's room -/
def plc (s : R) (x : Str) (r : Nat) : Pl := (((getG s.gs x).getD [])[r]?).getD .blank
def wayV : Pl → V
  | .blank => .str "blank"
  | .own _ => .str "away"
  | .at n => .int n
def R.read (s : R) (x : Str) (r : Nat) : R := match plc s x r with
  | .blank => s
  | _ => (s.brought x r).1
def R.back (s : R) (x : Str) (r : Nat) : R × Bool := match plc s x r with
  | .at n => ({ s with gs := setAt s.gs x r (.own (s.cells.getD n [])) }, true)
  | _ => (s, false)
/-- all that a guest has, by words -/
def allW8 (s : R) (x : Str) : List (List Nat) := ((getG s.gs x).getD []).map (words s.cells)
def StoreAt (A : Ad) (H : Hp) (t o : Addr) (x : Str) : Prop := ∃ dx fs, H t = some (.ins A.CS dx fs) ∧ fs.lookup ("_rooms" : Str) = some (.ref o) ∧ fs.lookup ("_name" : Str) = some (.str x) ∧ ∀ m : Str, (m == ("_rooms" : Str)) = false → (m == ("_name" : Str)) = false → fs.lookup m = none
theorem StoreAt.keep {A : Ad} {H H' : Hp} {t o : Addr} {x : Str} (h : StoreAt A H t o x) (s : ∀ u, H t = some u → H' t = some u) : StoreAt A H' t o x := by
  obtain ⟨dx, fs, e, r⟩ := h
  exact ⟨dx, fs, s _ e, r⟩
section
variable (A : Ad)
def spInit : Sp := fun vs H Q _ => ∃ (x dx : Addr) (m : Nat), vs = [.ref x, .int m] ∧ 1 ≤ m ∧ m ≤ 64 ∧ H x = some (.ins A.CR dx []) ∧ ∀ (k : Sk) H', k.o = x → But x H H' → (∀ b, own k (r0 m) b → b = x ∨ H b = none) → At A.CR H' k (r0 m) → Q .non H'
def spCkG : Sp := fun vs H Q _ => ∃ (k : Sk) (s : R) (x : Str), vs = [.ref k.o, .str x] ∧ At A.CR H k s ∧ nameOk x = true ∧ x ∈ s.names ∧ ∀ H', Same H H' → Q .non H'
def spInUse : Sp := fun vs H Q _ => ∃ (k : Sk) (s : R), vs = [.ref k.o] ∧ At A.CR H k s ∧ Sm s ∧ ∀ p H', H p = none → Same H H' → H' p = some (.lst (nv (inUse s))) → Q (.ref p) H'
def spLying : Sp := fun vs H Q _ => ∃ (k : Sk) (s : R) (n : Nat), vs = [.ref k.o, .int n] ∧ At A.CR H k s ∧ Sm s ∧ n < s.cells.length ∧ ∀ p (xs : List V) H', H p = none → Same H H' → H' p = some (.lst xs) → All2 PairV (lying s.gs n) xs H' → Q (.ref p) H'
def spWordsAt : Sp := fun vs H Q _ => ∃ (k : Sk) (s : R) (p : Pl) (v : V), vs = [.ref k.o, v] ∧ At A.CR H k s ∧ PlV H p v ∧ PlOk s.cells p ∧ ∀ a, WordsAt A H a (words s.cells p) → Q (.ref a) H
def spPut : Sp := fun vs H Q _ => ∃ (k : Sk) (s : R) (n : Nat) (p : Pl) (v : V), vs = [.ref k.o, .int n, v] ∧ At A.CR H k s ∧ Sm s ∧ n < s.cells.length ∧ PlV H p v ∧ PlOk s.cells p ∧ ∀ H', Mv A.CR H k s H' k { s with gs := put s.gs n p } → Q .non H'
def spFree : Sp := fun vs H Q _ => ∃ (k : Sk) (s : R), vs = [.ref k.o] ∧ At A.CR H k s ∧ Sm s ∧ ∀ H', Mv A.CR H k s H' k s.free.1 → Q (.int s.free.2) H'
def spBrought : Sp := fun vs H Q _ => ∃ (k : Sk) (s : R) (x : Str) (r : Nat), vs = [.ref k.o, .str x, .int r] ∧ At A.CR H k s ∧ Sm s ∧ x ∈ s.names ∧ r < 8 ∧ ∀ k' H', Mv A.CR H k s H' k' (s.brought x r).1 → Q (.int (s.brought x r).2) H'
def spRead : Sp := fun vs H Q _ => ∃ (k : Sk) (s : R) (x : Str) (r c : Nat), vs = [.ref k.o, .str x, .int r, .int c] ∧ At A.CR H k s ∧ Sm s ∧ x ∈ s.names ∧ r < 8 ∧ c < 8 ∧ ∀ k' H', Mv A.CR H k s H' k' (R.read s x r) → Q (.int ((words s.cells (plc s x r)).getD c 0)) H'
def spWrite : Sp := fun vs H Q _ => ∃ (k : Sk) (s : R) (x : Str) (r c w : Nat), vs = [.ref k.o, .str x, .int r, .int c, .int w] ∧ At A.CR H k s ∧ Sm s ∧ x ∈ s.names ∧ r < 8 ∧ c < 8 ∧ w ≤ 4095 ∧ ∀ k' H', Mv A.CR H k s H' k' (s.write x r c w) → Q .non H'
def spStInit : Sp := fun vs H Q _ => ∃ (x dx o : Addr) (y : Str), vs = [.ref x, .ref o, .str y] ∧ H x = some (.ins A.CS dx []) ∧ ∀ H', But x H H' → StoreAt A H' x o y → Q .non H'
def spStore : Sp := fun vs H Q _ => ∃ (k : Sk) (s : R) (x : Str), vs = [.ref k.o, .str x] ∧ At A.CR H k s ∧ nameOk x = true ∧ x ∈ s.names ∧ ∀ t H', H t = none → Same H H' → StoreAt A H' t k.o x → Q (.ref t) H'
def spTake' : Sp := fun vs H Q _ => ∃ (k : Sk) (s : R) (x : Str) (r : Nat), vs = [.ref k.o, .str x, .int r] ∧ At A.CR H k s ∧ Sm s ∧ x ∈ s.names ∧ r < 8 ∧ ∀ H', Mv A.CR H k s H' k (R.back s x r).1 → Q (.bl (R.back s x r).2) H'
def spShare : Sp := fun vs H Q _ => ∃ (k : Sk) (s : R), vs = [.ref k.o] ∧ At A.CR H k s ∧ Sm s ∧ ∀ H', Mv A.CR H k s H' k s.share.1 → Q (.int s.share.2) H'
def spMany : Sp := fun vs H Q _ => ∃ (k : Sk) (s : R), vs = [.ref k.o] ∧ At A.CR H k s ∧ s.cells.length ≤ 64 ∧ Q (.int s.cells.length) H
def spNames : Sp := fun vs H Q _ => ∃ (k : Sk) (s : R), vs = [.ref k.o] ∧ At A.CR H k s ∧ ∀ p H', H p = none → Same H H' → H' p = some (.lst (s.names.map V.str)) → Q (.ref p) H'
def spWay : Sp := fun vs H Q _ => ∃ (k : Sk) (s : R) (x : Str) (r : Nat), vs = [.ref k.o, .str x, .int r] ∧ At A.CR H k s ∧ nameOk x = true ∧ x ∈ s.names ∧ r < 8 ∧ ∀ H', Same H H' → Q (wayV (plc s x r)) H'
def spRoomsOf : Sp := fun vs H Q _ => ∃ (k : Sk) (s : R) (x : Str), vs = [.ref k.o, .str x] ∧ At A.CR H k s ∧ nameOk x = true ∧ x ∈ s.names ∧ ∀ a H', Same H H' → Eight A H' a (allW8 s x) → Q (.ref a) H'
def spCome : Sp := fun vs H Q _ => ∃ (k : Sk) (s : R) (x : Str) (a : Addr) (rows : List (List Nat)), vs = [.ref k.o, .str x, .ref a] ∧ At A.CR H k s ∧ nameOk x = true ∧ x ∉ s.names ∧ s.names.length < 6 ∧ Eight A H a rows ∧ RowsOk rows ∧
  ∀ k' H', Mv A.CR H k s H' k' { s with gs := s.gs ++ [(x, rows.map Rm.placeOf)] } → Q .non H'
def spRepl : Sp := fun vs H Q _ => ∃ (k : Sk) (s : R) (x : Str) (a : Addr) (rows : List (List Nat)), vs = [.ref k.o, .str x, .ref a] ∧ At A.CR H k s ∧ Sm s ∧ nameOk x = true ∧ x ∈ s.names ∧ Eight A H a rows ∧ RowsOk rows ∧
  ∀ k' H', Mv A.CR H k s H' k' { s with gs := replG s.gs x (rows.map Rm.placeOf) } → Q .non H'
def spGo : Sp := fun vs H Q _ => ∃ (k : Sk) (s : R) (x : Str), vs = [.ref k.o, .str x] ∧ At A.CR H k s ∧ nameOk x = true ∧ x ∈ s.names ∧ ∀ a H', Mv A.CR H k s H' k { s with gs := dropG s.gs x } → Eight A H' a (allW8 s x) → Q (.ref a) H'
def spStRead : Sp := fun vs H Q _ => ∃ (t : Addr) (k : Sk) (s : R) (x : Str) (r c : Nat), vs = [.ref t, .int r, .int c] ∧ StoreAt A H t k.o x ∧ At A.CR H k s ∧ Sm s ∧ x ∈ s.names ∧ r < 8 ∧ c < 8 ∧ ∀ k' H', Mv A.CR H k s H' k' (R.read s x r) → Q (.int ((words s.cells (plc s x r)).getD c 0)) H'
def spStWrite : Sp := fun vs H Q _ => ∃ (t : Addr) (k : Sk) (s : R) (x : Str) (r c w : Nat), vs = [.ref t, .int r, .int c, .int w] ∧ StoreAt A H t k.o x ∧ At A.CR H k s ∧ Sm s ∧ x ∈ s.names ∧ r < 8 ∧ c < 8 ∧ w ≤ 4095 ∧ ∀ k' H', Mv A.CR H k s H' k' (s.write x r c w) → Q .non H'
end
end K17

namespace K17
open PySem PySem.Spec PyProof.Rows L2 Bk Rm


section
variable {P : Program} {w : World} {K : PySem.W.Frag} {mg : Str → Option Value} {base : Heap} {A : Ad}
theorem ok_cell {f : Addr} {fd : FuncData} (F : Fun K "_law_cell" "_law_cell" s_cell_L f fd) (T : Txt K mg A) : FnOk P w K mg base CX0 1 f fd ["_law_script", "_law_k"] (Bk.spCell K) := by
  refine F.ok sc_cell_L (fun vs H Q E h => ?_) (fun cdv A' outer s H vs Q E hr h => ⟨_, (pss_cons (ps_if (pt_cmpR op_lt (pv 1) (pe_callB call_len_seq (by rfl) T.m_len (by decide +kernel) (pa_cons (pv 0) pa_nil)) (nomark _)) (pss_one (ps_ret (pe_ix ix_list (pv 0) (pv 1) (fun _ _ => rfl)))) pss_nil)
    (pss_one (ps_ret (pe_op op_add (pe_op op_mulW pe_int (pv 1)) pe_int)))), ?_⟩)
  · obtain ⟨a, ns, k, rfl, _⟩ := h
    rfl
  · obtain ⟨a, ns, k, rfl, hS, hk, q⟩ := h
    walk_at "go"
    refine ⟨a, _, rfl, .inl hS, ?_⟩
    walk_at "go"
    refine ite2 (fun e => ?_) (fun e => ?_)
    · walk_at "go"
      have hl : k < ns.length := by
        have z := of_decide_eq_true e
        rw [List.length_map] at z
        omega
      exact r_ixL hS (at_map hl) (q _)
    · walk_at "go"
      refine r_I (cmul (by decide) (by decide) (by omega) (by omega)) ?_
      walk_at "go"
      exact q _
theorem ok_box {f : Addr} {fd : FuncData} (F : Fun K "_law_box" "_law_box" s_box_L f fd) (T : Txt K mg A) : FnOk P w K mg base CX0 1 f fd ["_law_cell_here"] spBox := by
  refine F.ok sc_box_L (fun vs H Q E h => ?_) (fun cdv A' outer s H vs Q E hr h => ⟨_, (pss_one (ps_ret (pe_lstB (pa_cons (pe_callB (call_max2 rfl) (by rfl) T.m_max (by decide +kernel) (pa_cons pe_int (pa_cons (pe_op op_sub (pv 0) (pe_op op_pow pe_int pe_int)) pa_nil))) (pa_cons (pe_op op_mod (pv 0) pe_int) (pa_cons pe_int pa_nil)))))), ?_⟩)
  · obtain ⟨c, rfl, _⟩ := h
    rfl
  · obtain ⟨c, rfl, q⟩ := h
    walk_at "go"
    refine r_I ⟨by decide, by decide, by decide⟩ ?_
    walk_at "go"
    refine ⟨_, _, rfl, ?_⟩
    walk_at "go"
    refine r_I (by decide) ?_
    walk_at "go"
    refine newLB fun p H' np ns sm e => q p H' np sm ⟨_, _, _, e, ?_, ?_, ?_, ?_, ?_⟩ <;> first | omega | (split <;> omega)
theorem ok_take {f : Addr} {fd : FuncData} (F : Fun K "_law_take" "_law_take" s_take_L f fd) (T : Txt K mg A) : FnOk P w K mg base CX0 1 f fd ["_law_box_here", "_law_many"] spTake := by
  refine F.ok sc_take_L (fun vs H Q E h => ?_) (fun cdv A' outer s H vs Q E hr h => ⟨_, (pss_cons (ps_if (pt_cmpR op_gt (pe_ix ix_list (pv 0) pe_int (fun _ _ => rfl)) pe_int (nomark _)) (pss_cons (ps_set (i := 2) sc_take_L.nd rfl (.inl rfl) (pe_op op_mod (pe_ix ix_list (pv 0) pe_int (fun _ _ => rfl)) (pv 1)))
    (pss_cons (ps_asg (pe_op op_fdivW (pe_ix ix_list (pv 0) pe_int (fun _ _ => rfl)) (pv 1)) (pg_sub (pv 0) pe_int set_list))
    (pss_one (ps_ret (pv 2))))) pss_nil)
    (pss_cons (ps_asg (pe_op op_add (pe_ix ix_list (pv 0) pe_int (fun _ _ => rfl)) pe_int) (pg_sub (pv 0) pe_int set_list))
    (pss_cons (ps_set (i := 3) sc_take_L.nd rfl (.inl rfl) (pe_op op_mod (pe_op op_pow (pe_op op_add (pe_op op_add (pe_ix ix_list (pv 0) pe_int (fun _ _ => rfl)) (pe_op op_mulW pe_int (pe_ix ix_list (pv 0) pe_int (fun _ _ => rfl)))) pe_int) pe_int) pe_int))
    (pss_cons (ps_set (i := 4) sc_take_L.nd rfl (.inl rfl) (pe_op op_mod (pe_op op_pow (pe_op op_add (pe_op op_add (pe_op op_fdivW (pv 3) pe_int) (pe_op op_mulW pe_int (pe_ix ix_list (pv 0) pe_int (fun _ _ => rfl)))) pe_int) pe_int) pe_int))
    (pss_one (ps_ret (pe_op op_mod (pe_op op_add (pe_op op_fdivW (pv 3) pe_int) (pe_op op_mulW pe_int (pe_op op_fdivW (pv 4) pe_int))) (pv 1)))))))), ?_⟩)
  · obtain ⟨a, n, size, rfl, _⟩ := h
    rfl
  · obtain ⟨a, n, size, rfl, ⟨x, y, z, e, hx, hy, hy2, hz, hz2⟩, hn, h0, h1, q⟩ := h
    have i0 : SqL K H a [.int x, .int y, .int z] := sqL e
    walk_at "go"
    refine r_ixL i0 (v := .int x) rfl ?_
    walk_at "go"
    refine ite2 (fun hp => ?_) (fun hp => ?_)
    · walk_at "go"
      refine r_ixL i0 (v := .int x) rfl ?_
      walk_at "go"
      refine r_I h0 ?_
      walk_at "go"
      refine r_ixL i0 (v := .int x) rfl ?_
      walk_at "go"
      refine r_I (cdiv h0 h1) ?_
      walk_at "go"
      refine ⟨a, _, 0, 0, rfl, rfl, e, rfl, ?_⟩
      walk_at "go"
      exact q _ _ (Int.emod_nonneg _ (by omega)) (Int.emod_lt_of_pos _ h0) ⟨x / size, y, z, upd_same, Int.ediv_nonneg hx (by omega), hy, hy2, hz, by omega⟩ But.upd
    · walk_at "go"
      refine r_ixL i0 (v := .int z) rfl ?_
      walk_at "go"
      refine ⟨a, _, 2, 2, rfl, rfl, e, rfl, ?_⟩
      have i1 : SqL K (upd H a (.lst [.int x, .int y, .int (z + 1)])) a [.int x, .int y, .int (z + 1)] := sqL upd_same
      walk_at "go"
      refine r_ixL i1 (v := .int y) rfl ?_
      walk_at "go"
      refine r_ixL i1 (v := .int (z + 1)) rfl ?_
      refine r_I (cmul (by decide) (by decide) (by omega) (by omega)) ?_
      walk_at "go"
      have g1 : (y + 104729 * (z + 1) + 37).natAbs < 2 ^ 64 := by omega
      refine r_I ⟨by decide, by decide, g1⟩ ?_
      walk_at "go"
      refine r_I (by decide) ?_
      walk_at "go"
      generalize hone : (y + 104729 * (z + 1) + 37) ^ (Int.toNat 5) % 2147483647 = one
      have o1 : 0 ≤ one := by rw [← hone]; exact Int.emod_nonneg _ (by decide)
      have o2 : one < 2147483647 := by rw [← hone]; exact Int.emod_lt_of_pos _ (by decide)
      refine r_I (cdiv (by decide) (by decide)) ?_
      walk_at "go"
      refine r_ixL i1 (v := .int (z + 1)) rfl ?_
      refine r_I (cmul (by decide) (by decide) (by omega) (by omega)) ?_
      walk_at "go"
      have g2 : (one / 8 + 104729 * (z + 1) + 11).natAbs < 2 ^ 64 := by omega
      refine r_I ⟨by decide, by decide, g2⟩ ?_
      walk_at "go"
      refine r_I (by decide) ?_
      walk_at "go"
      generalize htwo : (one / 8 + 104729 * (z + 1) + 11) ^ (Int.toNat 3) % 2147483629 = two
      have t1 : 0 ≤ two := by rw [← htwo]; exact Int.emod_nonneg _ (by decide)
      have t2 : two < 2147483629 := by rw [← htwo]; exact Int.emod_lt_of_pos _ (by decide)
      refine r_I (cdiv (by decide) (by decide)) ?_
      walk_at "go"
      refine r_I (cdiv (by decide) (by decide)) ?_
      refine r_I (cmul (by decide) (by decide) (by omega) (by omega)) ?_
      walk_at "go"
      refine r_I h0 ?_
      exact q _ _ (Int.emod_nonneg _ (by omega)) (Int.emod_lt_of_pos _ h0) ⟨x, y, z + 1, upd_same, hx, hy, hy2, by omega, by omega⟩ But.upd

theorem ok_GE {f : Addr} {fd : FuncData} (F : Fun K "__init__" "GuestError.__init__" s_GuestError_init f fd) (T : Txt K mg A) : FnOk P w K mg base CX0 1 f fd ["self", "text"] (spGT K .ve) := by
  refine F.ok sc_GuestError_init (fun vs H Q E h => ?_) (fun cdv A' outer s H vs Q E hr h => ⟨_, (pss_one (ps_expr (pe_veI (by rfl) T.m_ValueError T.vV (pa_cons (pv 0) (pa_cons (pv 1) pa_nil))))), ?_⟩)
  · obtain ⟨a, C, x, rfl, _⟩ := h
    rfl
  · obtain ⟨a, C, x, rfl, hC, e, q⟩ := h
    exact ⟨_, rfl, _, rfl, a, C, [x], rfl, Nat.le_of_ble_eq_true rfl, hC, e, q⟩
theorem ok_KE {f : Addr} {fd : FuncData} (F : Fun K "__init__" "Missing.__init__" s_Missing_init f fd) (T : Txt K mg A) : FnOk P w K mg base CX0 1 f fd ["self", "text"] (spGT K .ke) := by
  refine F.ok sc_Missing_init (fun vs H Q E h => ?_) (fun cdv A' outer s H vs Q E hr h => ⟨_, (pss_one (ps_expr (pe_keI (by rfl) T.m_KeyError T.vK (pa_cons (pv 0) (pa_cons (pv 1) pa_nil))))), ?_⟩)
  · obtain ⟨a, C, x, rfl, _⟩ := h
    rfl
  · obtain ⟨a, C, x, rfl, hC, e, q⟩ := h
    exact ⟨_, rfl, _, rfl, a, C, [x], rfl, Nat.le_of_ble_eq_true rfl, hC, e, q⟩
theorem ok_BB {f : Addr} {fd : FuncData} (F : Fun K "__init__" "Barred.__init__" s_Barred_init f fd) (T : Txt K mg A) : FnOk P w K mg base CX0 1 f fd ["self", "text"] (spGT K .le) := by
  refine F.ok sc_Barred_init (fun vs H Q E h => ?_) (fun cdv A' outer s H vs Q E hr h => ⟨_, (pss_one (ps_expr (pe_leI (by rfl) T.m_LookupError T.vL (pa_cons (pv 0) (pa_cons (pv 1) pa_nil))))), ?_⟩)
  · obtain ⟨a, C, x, rfl, _⟩ := h
    rfl
  · obtain ⟨a, C, x, rfl, hC, e, q⟩ := h
    exact ⟨_, rfl, _, rfl, a, C, [x], rfl, Nat.le_of_ble_eq_true rfl, hC, e, q⟩
theorem ok_iM {f : Addr} {fd fdG : FuncData} (F : Fun K "__init__" "NoNumber.__init__" s_NoNumber_init f fd) (T : Txt K mg A) (c_GuestError_init : Own P w K mg base CX0 1 A.fG fdG ["self", "text"] (spGT K .ve)) : FnOk P w K mg base CX0 2 f fd ["self", "found"] (spInitN "found" A.CM) := by
  refine F.ok sc_NoNumber_init (fun vs H Q E h => ?_) (fun cdv A' outer s H vs Q E hr h => ⟨_, (pss_cons (ps_expr (pe_cdef c_GuestError_init.ok hr (by rfl) T.g_GuestError T.rd_GuestError T.ga_GuestError T.at_GuestError c_GuestError_init.kp c_GuestError_init.bd .nil pass0 (pa_cons (pv 0) (pa_cons pe_str pa_nil))))
    (pss_one (ps_osN (pv 0) (pv 1)))), ?_⟩)
  · obtain ⟨a, x, rfl, _⟩ := h
    rfl
  · obtain ⟨a, x, rfl, e, q⟩ := h
    walk_at "go"
    exact ⟨a, A.CM, _, rfl, T.ox_NoNumber, e, x, rfl, .ref a, rfl, .ve, a, A.CM, rfl, T.ox_NoNumber, T.nf_NoNumber, e, q⟩
theorem ok_iN {f : Addr} {fd fdG : FuncData} (F : Fun K "__init__" "NoName.__init__" s_NoName_init f fd) (T : Txt K mg A) (c_GuestError_init : Own P w K mg base CX0 1 A.fG fdG ["self", "text"] (spGT K .ve)) : FnOk P w K mg base CX0 2 f fd ["self", "found"] (spInitN "found" A.CN) := by
  refine F.ok sc_NoName_init (fun vs H Q E h => ?_) (fun cdv A' outer s H vs Q E hr h => ⟨_, (pss_cons (ps_expr (pe_cdef c_GuestError_init.ok hr (by rfl) T.g_GuestError T.rd_GuestError T.ga_GuestError T.at_GuestError c_GuestError_init.kp c_GuestError_init.bd .nil pass0 (pa_cons (pv 0) (pa_cons pe_str pa_nil))))
    (pss_one (ps_osN (pv 0) (pv 1)))), ?_⟩)
  · obtain ⟨a, x, rfl, _⟩ := h
    rfl
  · obtain ⟨a, x, rfl, e, q⟩ := h
    walk_at "go"
    exact ⟨a, A.CN, _, rfl, T.ox_NoName, e, x, rfl, .ref a, rfl, .ve, a, A.CN, rfl, T.ox_NoName, T.nf_NoName, e, q⟩
theorem ok_iW {f : Addr} {fd fdG : FuncData} (F : Fun K "__init__" "NoWord.__init__" s_NoWord_init f fd) (T : Txt K mg A) (c_GuestError_init : Own P w K mg base CX0 1 A.fG fdG ["self", "text"] (spGT K .ve)) : FnOk P w K mg base CX0 2 f fd ["self", "found"] (spInitN "found" A.CW) := by
  refine F.ok sc_NoWord_init (fun vs H Q E h => ?_) (fun cdv A' outer s H vs Q E hr h => ⟨_, (pss_cons (ps_expr (pe_cdef c_GuestError_init.ok hr (by rfl) T.g_GuestError T.rd_GuestError T.ga_GuestError T.at_GuestError c_GuestError_init.kp c_GuestError_init.bd .nil pass0 (pa_cons (pv 0) (pa_cons pe_str pa_nil))))
    (pss_one (ps_osN (pv 0) (pv 1)))), ?_⟩)
  · obtain ⟨a, x, rfl, _⟩ := h
    rfl
  · obtain ⟨a, x, rfl, e, q⟩ := h
    walk_at "go"
    exact ⟨a, A.CW, _, rfl, T.ox_NoWord, e, x, rfl, .ref a, rfl, .ve, a, A.CW, rfl, T.ox_NoWord, T.nf_NoWord, e, q⟩
theorem ok_iI {f : Addr} {fd fdG : FuncData} (F : Fun K "__init__" "NoImage.__init__" s_NoImage_init f fd) (T : Txt K mg A) (c_GuestError_init : Own P w K mg base CX0 1 A.fG fdG ["self", "text"] (spGT K .ve)) : FnOk P w K mg base CX0 2 f fd ["self", "found"] (spInitN "found" A.CI) := by
  refine F.ok sc_NoImage_init (fun vs H Q E h => ?_) (fun cdv A' outer s H vs Q E hr h => ⟨_, (pss_cons (ps_expr (pe_cdef c_GuestError_init.ok hr (by rfl) T.g_GuestError T.rd_GuestError T.ga_GuestError T.at_GuestError c_GuestError_init.kp c_GuestError_init.bd .nil pass0 (pa_cons (pv 0) (pa_cons pe_str pa_nil))))
    (pss_one (ps_osN (pv 0) (pv 1)))), ?_⟩)
  · obtain ⟨a, x, rfl, _⟩ := h
    rfl
  · obtain ⟨a, x, rfl, e, q⟩ := h
    walk_at "go"
    exact ⟨a, A.CI, _, rfl, T.ox_NoImage, e, x, rfl, .ref a, rfl, .ve, a, A.CI, rfl, T.ox_NoImage, T.nf_NoImage, e, q⟩
theorem ok_iD {f : Addr} {fd fdG : FuncData} (F : Fun K "__init__" "Doubled.__init__" s_Doubled_init f fd) (T : Txt K mg A) (c_GuestError_init : Own P w K mg base CX0 1 A.fG fdG ["self", "text"] (spGT K .ve)) : FnOk P w K mg base CX0 2 f fd ["self", "found"] (spInitN "found" A.CD) := by
  refine F.ok sc_Doubled_init (fun vs H Q E h => ?_) (fun cdv A' outer s H vs Q E hr h => ⟨_, (pss_cons (ps_expr (pe_cdef c_GuestError_init.ok hr (by rfl) T.g_GuestError T.rd_GuestError T.ga_GuestError T.at_GuestError c_GuestError_init.kp c_GuestError_init.bd .nil pass0 (pa_cons (pv 0) (pa_cons pe_str pa_nil))))
    (pss_one (ps_osN (pv 0) (pv 1)))), ?_⟩)
  · obtain ⟨a, x, rfl, _⟩ := h
    rfl
  · obtain ⟨a, x, rfl, e, q⟩ := h
    walk_at "go"
    exact ⟨a, A.CD, _, rfl, T.ox_Doubled, e, x, rfl, .ref a, rfl, .ve, a, A.CD, rfl, T.ox_Doubled, T.nf_Doubled, e, q⟩
theorem ok_iA {f : Addr} {fd fdG : FuncData} (F : Fun K "__init__" "NoGuest.__init__" s_NoGuest_init f fd) (T : Txt K mg A) (c_Missing_init : Own P w K mg base CX0 1 A.fK fdG ["self", "text"] (spGT K .ke)) : FnOk P w K mg base CX0 2 f fd ["self", "found"] (spInitN "found" A.CA) := by
  refine F.ok sc_NoGuest_init (fun vs H Q E h => ?_) (fun cdv A' outer s H vs Q E hr h => ⟨_, (pss_cons (ps_expr (pe_cdef c_Missing_init.ok hr (by rfl) T.g_Missing T.rd_Missing T.ga_Missing T.at_Missing c_Missing_init.kp c_Missing_init.bd .nil pass0 (pa_cons (pv 0) (pa_cons pe_str pa_nil))))
    (pss_one (ps_osN (pv 0) (pv 1)))), ?_⟩)
  · obtain ⟨a, x, rfl, _⟩ := h
    rfl
  · obtain ⟨a, x, rfl, e, q⟩ := h
    walk_at "go"
    exact ⟨a, A.CA, _, rfl, T.ox_NoGuest, e, x, rfl, .ref a, rfl, .ke, a, A.CA, rfl, T.ox_NoGuest, T.nf_NoGuest, e, q⟩
theorem ok_iF {f : Addr} {fd fdG : FuncData} (F : Fun K "__init__" "Full.__init__" s_Full_init f fd) (T : Txt K mg A) (c_Barred_init : Own P w K mg base CX0 1 A.fB fdG ["self", "text"] (spGT K .le)) : FnOk P w K mg base CX0 2 f fd ["self", "many"] (spInitN "many" A.CF) := by
  refine F.ok sc_Full_init (fun vs H Q E h => ?_) (fun cdv A' outer s H vs Q E hr h => ⟨_, (pss_cons (ps_expr (pe_cdef c_Barred_init.ok hr (by rfl) T.g_Barred T.rd_Barred T.ga_Barred T.at_Barred c_Barred_init.kp c_Barred_init.bd .nil pass0 (pa_cons (pv 0) (pa_cons pe_str pa_nil))))
    (pss_one (ps_osN (pv 0) (pv 1)))), ?_⟩)
  · obtain ⟨a, x, rfl, _⟩ := h
    rfl
  · obtain ⟨a, x, rfl, e, q⟩ := h
    walk_at "go"
    exact ⟨a, A.CF, _, rfl, T.ox_Full, e, x, rfl, .ref a, rfl, .le, a, A.CF, rfl, T.ox_Full, T.nf_Full, e, q⟩
theorem ok_allW {f : Addr} {fd : FuncData} (F : Fun K "_all_within" "_all_within" s_all_within f fd) (T : Txt K mg A) : FnOk P w K mg base CX0 1 f fd ["text", "first", "last"] spAllW := by
  refine F.ok sc_all_within (fun vs H Q E h => ?_) (fun cdv A' outer s H vs Q E hr h => ⟨_, (pss_one (ps_ret (pe_callB (cr_all rfl) (by rfl) T.m_all (by decide +kernel) (pa_cons (pe_lc (own := [("sign", 3)]) rfl sc_all_within.nd (pi_str (pv 0)) (blkOk_by (N := ["text", "first", "last", "sign"]) (sc := defScope s_all_within) (by decide +kernel)) (fun _ _ _ _ _ => (pg_name (i := 3) sc_all_within.nd rfl (.inl rfl))) (fun _ _ _ _ _ => pts_nil) (fun _ _ _ _ _ => (pe_chain op_le_str op_le_str (pv 1) (pv 3) (pv 2)))) pa_nil)))), ?_⟩)
  · obtain ⟨z, F, L, f, l, rfl, _⟩ := h
    rfl
  · obtain ⟨z, F, L, f, l, rfl, hf, hl, hz, q⟩ := h
    refine r_ret (r_allStr (fun c => decide (f ≤ c) && decide (c ≤ l)) rfl (by omega) (fun _ => rfl) (fun c H' Q' _ _ k => ?_) q)
    walk_at "go"
    refine ⟨_, _, rfl, rfl, ?_⟩
    walk_at "go"
    rw [hf, sign_tl, lt1]
    have k' := k H' (Same.refl _)
    by_cases h1 : c < f
    · rw [decide_eq_true h1]
      rw [decide_eq_false (by omega : ¬ f ≤ c)] at k'
      exact k'
    · rw [decide_eq_false h1]
      rw [decide_eq_true (by omega : f ≤ c), Bool.true_and] at k'
      walk_at "go"
      refine ⟨_, _, rfl, rfl, ?_⟩
      rw [hl, sign_tl, lt1, show (!decide (l < c)) = decide (c ≤ l) by by_cases h2 : l < c <;> simp [h2] <;> omega]
      exact k'
theorem ok_name {f : Addr} {fd : FuncData} (F : Fun K "is_name" "is_name" s_is_name f fd) (T : Txt K mg A) (c_all_within : CalD P w K mg base CX0 1 "_all_within" spAllW []) : FnOk P w K mg base CX0 2 f fd ["thing"] (spName K) := by
  refine F.ok sc_is_name (fun vs H Q E h => ?_) (fun cdv A' outer s H vs Q E hr h => ⟨_, (pss_one (ps_ret (pe_and (pe_callB call_is (by rfl) T.m_isinstance (by decide +kernel) (pa_cons (pv 0) (pa_cons (pe_bltn (v := .ty "str") (by rfl) T.m_str (by decide +kernel) rfl) pa_nil))) (pe_and (pe_chain op_le op_le pe_int (pe_callB call_len_str (by rfl) T.m_len (by decide +kernel) (pa_cons (pv 0) pa_nil)) pe_int) (pe_one (pe_cal c_all_within hr (by decide) (by rfl) (pa_cons (pv 0) (pa_cons pe_str (pa_cons pe_str pa_nil))))))))), ?_⟩)
  · obtain ⟨x, rfl, _⟩ := h
    rfl
  · obtain ⟨x, rfl, hx⟩ := h
    walk_at "go"
    rcases hx with ⟨z, rfl, hz, q⟩ | ⟨hx, q⟩
    · refine r_is (isa_str (b := true)) ?_
      walk_at "go"
      refine ⟨z, rfl, Nat.le_trans hz (by decide), ?_⟩
      walk_at "go"
      unfold nameOk at q
      refine ite2 (fun e => ?_) (fun e => ?_)
      · walk_at "go"
        refine ite2 (fun e2 => ?_) (fun e2 => ?_)
        · walk_at "go"
          have e1 := of_decide_eq_true e
          have e3 := of_decide_eq_true e2
          rw [decide_eq_true (by omega : 1 ≤ z.length ∧ z.length ≤ 8), Bool.true_and] at q
          exact ⟨z, _, _, 97, 122, rfl, rfl, rfl, hz, q⟩
        · have e3 := of_decide_eq_false (Bool.eq_false_iff.mpr e2)
          rw [decide_eq_false (by omega : ¬ (1 ≤ z.length ∧ z.length ≤ 8)), Bool.false_and] at q
          walk_at "go"
          exact q _ (Same.refl _)
      · have e3 := of_decide_eq_false (Bool.eq_false_iff.mpr e)
        rw [decide_eq_false (by omega : ¬ (1 ≤ z.length ∧ z.length ≤ 8)), Bool.false_and] at q
        walk_at "go"
        exact q _ (Same.refl _)
    · refine r_is hx ?_
      walk_at "go"
      exact q
theorem ok_whole {f : Addr} {fd : FuncData} (F : Fun K "is_whole" "is_whole" s_is_whole f fd) (T : Txt K mg A) : FnOk P w K mg base CX0 1 f fd ["thing", "low", "high"] spWh := by
  refine F.ok sc_is_whole (fun vs H Q E h => ?_) (fun cdv A' outer s H vs Q E hr h => ⟨_, (pss_one (ps_ret (pe_and (pe_callB call_is (by rfl) T.m_isinstance (by decide +kernel) (pa_cons (pv 0) (pa_cons (pe_bltn (v := .ty "int") (by rfl) T.m_int (by decide +kernel) rfl) pa_nil))) (pe_and (pe_not (pe_callB call_is (by rfl) T.m_isinstance (by decide +kernel) (pa_cons (pv 0) (pa_cons (pe_bltn (v := .ty "bool") (by rfl) T.m_bool (by decide +kernel) rfl) pa_nil)))) (pe_one (pe_chain op_le op_le (pv 1) (pv 0) (pv 2))))))), ?_⟩)
  · obtain ⟨x, lo, hi, rfl, _⟩ := h
    rfl
  · obtain ⟨x, lo, hi, rfl, q⟩ := h
    walk_at "go"
    refine r_is (isa_int (b := true)) ?_
    walk_at "go"
    refine r_is (isa_int (b := false)) ?_
    rw [Bool.decide_and] at q
    walk_at "go"
    refine ite2 (fun e => ?_) (fun e => ?_)
    · walk_at "go"
      rw [e, Bool.true_and] at q
      exact q
    · rw [Bool.eq_false_iff.mpr e, Bool.false_and] at q
      exact q
theorem ok_cknum {f : Addr} {fd fdM : FuncData} (F : Fun K "check_number" "check_number" s_check_number f fd) (T : Txt K mg A) (c_is_whole : CalD P w K mg base CX0 1 "is_whole" spWh [])
    (c_NoNumber_init : Own P w K mg base CX0 2 A.fM fdM ["self", "found"] (spInitN "found" A.CM)) : FnOk P w K mg base (L2.CX P w) 4 f fd ["thing", "low", "high"] spCkN := by
  refine F.okX sc_check_number (fun vs H Q E h => ?_) (fun cdv A' outer s H vs Q E hr h => ⟨_, (pss_one (ps_if (pt_not (pt_val (pe_cal c_is_whole hr (by decide) (by rfl) (pa_cons (pv 0) (pa_cons (pv 1) (pa_cons (pv 2) pa_nil)))))) (pss_one (ps_raise rfl (takes_of rfl rfl rfl rfl) (pmk_oexT T.ox_NoNumber T.i_NoNumber T.t_NoNumber c_NoNumber_init.ok (hr.mono (by decide)) c_NoNumber_init.bd .nil pass0 (by rfl) T.g_NoNumber (pa_cons (pv 0) pa_nil)))) pss_nil)), ?_⟩)
  · obtain ⟨x, lo, hi, rfl, _⟩ := h
    rfl
  · obtain ⟨x, lo, hi, rfl, h1, h2, q⟩ := h
    walk_at "go"
    refine ⟨x, lo, hi, rfl, ?_⟩
    rw [decide_eq_true ⟨h1, h2⟩]
    walk_at "go"
    exact q
theorem ok_word {f : Addr} {fd : FuncData} (F : Fun K "is_word" "is_word" s_is_word f fd) (T : Txt K mg A) (c_is_whole : CalD P w K mg base CX0 1 "is_whole" spWh []) : FnOk P w K mg base CX0 2 f fd ["thing"] spWord := by
  refine F.ok sc_is_word (fun vs H Q E h => ?_) (fun cdv A' outer s H vs Q E hr h => ⟨_, (pss_one (ps_ret (pe_cal c_is_whole hr (by decide) (by rfl) (pa_cons (pv 0) (pa_cons pe_int (pa_cons (C8.pe_gc (by rfl) T.c_MOST) pa_nil)))))), ?_⟩)
  · obtain ⟨x, rfl, _⟩ := h
    rfl
  · obtain ⟨x, rfl, q⟩ := h
    walk_at "go"
    exact ⟨x, 0, 4095, rfl, q⟩
theorem ok_ckw {f : Addr} {fd fdW : FuncData} (F : Fun K "check_word" "check_word" s_check_word f fd) (T : Txt K mg A) (c_is_word : CalD P w K mg base CX0 2 "is_word" spWord [])
    (c_NoWord_init : Own P w K mg base CX0 2 A.fW fdW ["self", "found"] (spInitN "found" A.CW)) : FnOk P w K mg base (L2.CX P w) 4 f fd ["thing"] spCkW := by
  refine F.okX sc_check_word (fun vs H Q E h => ?_) (fun cdv A' outer s H vs Q E hr h => ⟨_, (pss_one (ps_if (pt_not (pt_val (pe_cal c_is_word hr (by decide) (by rfl) (pa_cons (pv 0) pa_nil)))) (pss_one (ps_raise rfl (takes_of rfl rfl rfl rfl) (pmk_oexT T.ox_NoWord T.i_NoWord T.t_NoWord c_NoWord_init.ok (hr.mono (by decide)) c_NoWord_init.bd .nil pass0 (by rfl) T.g_NoWord (pa_cons (pv 0) pa_nil)))) pss_nil)), ?_⟩)
  · obtain ⟨x, rfl, _⟩ := h
    rfl
  · obtain ⟨x, rfl, h1, h2, q⟩ := h
    walk_at "go"
    refine ⟨x, rfl, ?_⟩
    rw [decide_eq_true ⟨h1, h2⟩]
    walk_at "go"
    exact q
theorem ok_rowI {f : Addr} {fd : FuncData} (F : Fun K "_is_row" "_is_row" s_is_row f fd) (T : Txt K mg A) (c_is_word : CalD P w K mg base CX0 2 "is_word" spWord []) : FnOk P w K mg base CX0 3 f fd ["thing"] (spRowI A) := by
  refine F.ok sc_is_row (fun vs H Q E h => ?_) (fun cdv A' outer s H vs Q E hr h => have hu := units1 hr; ⟨_, (pss_one (ps_ret (pe_and (pe_callB call_is (by rfl) T.m_isinstance (by decide +kernel) (pa_cons (pv 0) (pa_cons (pe_bltn (v := .ty "tuple") (by rfl) T.m_tuple (by decide +kernel) rfl) pa_nil))) (pe_and (pe_cmpR op_eq (pe_callB call_len_seq (by rfl) T.m_len (by decide +kernel) (pa_cons (pv 0) pa_nil)) (C8.pe_gc (by rfl) T.c_EIGHT) (nomark _)) (pe_one (pe_callB (cr_all rfl) (by rfl) T.m_all (by decide +kernel) (pa_cons (pe_lc (own := [("word", 1)]) rfl sc_is_row.nd (pi_tup (pv 0)) (blkOk_by (N := ["thing", "word"]) (sc := defScope s_is_row) (by decide +kernel)) (fun _ _ _ _ _ => (pg_name (i := 1) sc_is_row.nd rfl (.inl rfl))) (fun _ _ _ _ _ => pts_nil) (fun _ _ _ _ _ => (pe_cal c_is_word hr (by decide) (by rfl) (pa_cons (pv 1) pa_nil)))) pa_nil))))))), ?_⟩)
  · obtain ⟨t, ws, rfl, _⟩ := h
    rfl
  · obtain ⟨t, ws, rfl, hR, l8, le, q⟩ := h
    walk_at "go"
    refine r_is (hR.isT T) ?_
    walk_at "go"
    refine ⟨t, nv ws, rfl, .inr (hR.sq T), ?_⟩
    rw [show (nv ws).length = 8 from by unfold nv; rw [List.length_map]; exact l8]
    walk_at "go"
    rw [show decide (V.int ((8 : Nat) : Int) = V.int 8) = true from decide_eq_true rfl, if_pos rfl]
    refine r_cb (r_cons (lcT (fun _ => .bl true) rfl (hR.sq T) (by rw [nv_len]; omega) (fun _ => rfl) (fun i y H1 Q' hy s1 k => ?_) fun D H1 nD s1 e => ?_))
    · obtain ⟨w, hw, rfl⟩ := at_nv hy
      walk_at "go"
      refine ⟨_, rfl, ?_⟩
      rw [decide_eq_true ⟨by omega, by have := le w (List.mem_of_getElem? hw); omega⟩]
      exact k _ (Same.refl _)
    · refine r_nil ⟨D, List.replicate 8 true, rfl, ?_, q _ s1⟩
      rw [nv_len, l8] at e
      exact sqL e
theorem ok_eight {f : Addr} {fd : FuncData} (F : Fun K "is_eight" "is_eight" s_is_eight f fd) (T : Txt K mg A) (c_is_row : CalD P w K mg base CX0 3 "_is_row" (spRowI A) []) : FnOk P w K mg base CX0 4 f fd ["thing"] (spEight A) := by
  refine F.ok sc_is_eight (fun vs H Q E h => ?_) (fun cdv A' outer s H vs Q E hr h => have hu := units1 hr; ⟨_, (pss_one (ps_ret (pe_and (pe_callB call_is (by rfl) T.m_isinstance (by decide +kernel) (pa_cons (pv 0) (pa_cons (pe_bltn (v := .ty "tuple") (by rfl) T.m_tuple (by decide +kernel) rfl) pa_nil))) (pe_and (pe_cmpR op_eq (pe_callB call_len_seq (by rfl) T.m_len (by decide +kernel) (pa_cons (pv 0) pa_nil)) (C8.pe_gc (by rfl) T.c_EIGHT) (nomark _)) (pe_one (pe_callB (cr_all rfl) (by rfl) T.m_all (by decide +kernel) (pa_cons (pe_lc (own := [("row", 1)]) rfl sc_is_eight.nd (pi_tup (pv 0)) (blkOk_by (N := ["thing", "row"]) (sc := defScope s_is_eight) (by decide +kernel)) (fun _ _ _ _ _ => (pg_name (i := 1) sc_is_eight.nd rfl (.inl rfl))) (fun _ _ _ _ _ => pts_nil) (fun _ _ _ _ _ => (pe_cal c_is_row hr (by decide) (by rfl) (pa_cons (pv 1) pa_nil)))) pa_nil))))))), ?_⟩)
  · obtain ⟨t, ws, rfl, _⟩ := h
    rfl
  · obtain ⟨a, rows, rfl, ⟨ts, ea, tl, hR⟩, ok, q⟩ := h
    have l8 : ts.length = 8 := tl.trans ok.l8
    walk_at "go"
    refine r_is (isa_tup (b := true) ea) ?_
    walk_at "go"
    refine ⟨a, _, rfl, .inr (SqT.of ea), ?_⟩
    rw [show (ts.map V.ref).length = 8 from by rw [List.length_map]; exact l8]
    walk_at "go"
    rw [show decide (V.int ((8 : Nat) : Int) = V.int 8) = true from decide_eq_true rfl, if_pos rfl]
    refine r_cb (r_cons (lcT (fun _ => .bl true) rfl (SqT.of ea) (by rw [List.length_map]; omega) (fun _ => rfl) (fun i y H1 Q' hy s1 k => ?_) fun D H1 nD s1 e => ?_))
    · rw [List.getElem?_map] at hy
      cases et : ts[i]? with
      | none => rw [et] at hy; exact nomatch hy
      | some t =>
        rw [et] at hy
        obtain rfl := Option.some.inj hy
        have li : i < rows.length := by rw [← tl]; exact (List.getElem?_eq_some_iff.mp et).1
        have mr := List.getElem_mem li
        walk_at "go"
        exact ⟨t, rows[i], rfl, (hR i t _ et (List.getElem?_eq_getElem li)).keep (Same.ts s1), ok.e8 _ mr, ok.le _ mr, fun H2 s2 => k H2 s2⟩
    · refine r_nil ⟨D, List.replicate 8 true, rfl, ?_, q _ s1⟩
      rw [List.length_map, l8] at e
      exact sqL e
theorem ok_places {f : Addr} {fd : FuncData} (F : Fun K "_places" "_places" s_places f fd) (T : Txt K mg A) : FnOk P w K mg base CX0 1 f fd ["rooms"] (spPlaces A) := by
  refine F.ok sc_places (fun vs H Q E h => ?_) (fun cdv A' outer s H vs Q E hr h => have hu64 := hr.units; ⟨_, (pss_one (ps_ret (pe_lc (own := [("words", 1)]) rfl sc_places.nd (pi_tup (pv 0)) (blkOk_by (N := ["rooms", "words"]) (sc := defScope s_places) (by decide +kernel)) (fun _ _ _ _ _ => (pg_name (i := 1) sc_places.nd rfl (.inl rfl))) (fun _ _ _ _ _ => pts_nil) (fun _ _ _ _ _ => (pe_ifExp (pt_cmpR (op_eqDK (K := K) rfl hu64) (pv 1) (C8.pe_gc (by rfl) T.c_NOUGHTS) (nomark _)) pe_non (pv 1)))))), ?_⟩)
  · obtain ⟨t, ws, rfl, _⟩ := h
    rfl
  · obtain ⟨a, rows, rfl, ⟨ts, ea, tl, hR⟩, ok, q⟩ := h
    have l8 : ts.length = 8 := tl.trans ok.l8
    refine r_ret (lkT (fun i => (rows.map Rm.placeOf)[i]?) (fun p v H => PlV H p v) (fun z v H1 H2 t h => h.keep t) (SqT.of ea) (by rw [List.length_map]; omega) (fun QQ qq => r_var rfl qq) (fun i y H1 Q' R' hy s1 k _ => ?_) fun D H1 xs nD s1 e all => ?_)
    · rw [List.getElem?_map] at hy
      cases et : ts[i]? with
      | none => rw [et] at hy; exact nomatch hy
      | some t =>
        rw [et] at hy
        obtain rfl := Option.some.inj hy
        have li : i < rows.length := by rw [← tl]; exact (List.getElem?_eq_some_iff.mp et).1
        have er := List.getElem?_eq_getElem li
        have hr1 := (hR i t _ et er).keep (Same.ts s1)
        have k' := fun v => k (Rm.placeOf rows[i]) v H1 (by rw [List.getElem?_map, er]; rfl) (Same.refl _)
        refine ⟨rfl, r_yes ?_⟩
        walk_at "go"
        refine ⟨rowT rows[i], rowT zeros, dp_rowT (hr1.sq T), dp_rowT (T.no H1), sh_rowT _, sh_rowT _, ?_⟩
        rw [eqv_rowT]
        refine ⟨_, rfl, ?_⟩
        by_cases z : rows[i] = zeros
        · rw [decide_eq_true z, if_pos rfl]
          refine k' .non ?_
          rw [z]
          show PlV H1 (if zeros = zeros then Pl.blank else .own zeros) .non
          rw [if_pos rfl]
          exact rfl
        · rw [decide_eq_false z, if_neg (fun w => nomatch w)]
          refine ⟨_, rfl, k' _ ?_⟩
          show PlV H1 (if rows[i] = zeros then Pl.blank else .own rows[i]) _
          rw [if_neg z]
          exact ⟨t, rfl, hr1.elim id fun w => absurd w.2 z⟩
    · rw [List.length_map, tl, show rows.length = (rows.map Rm.placeOf).length from (List.length_map _).symm, rng_at] at all
      exact q D xs H1 nD s1 e all
end
end K17

namespace K17
open PySem PySem.Spec PyProof.Rows L2 Bk Rm


section
variable {P : Program} {w : World} {K : PySem.W.Frag} {mg : Str → Option Value} {base : Heap} {A : Ad}
theorem none_of {H H' : Hp} {b : Addr} (s : Same H H') (e : H' b = none) : H b = none := by
  cases z : H b with
  | none => rfl
  | some u => rw [s _ _ z] at e; exact nomatch e
theorem ok_many {f : Addr} {fd : FuncData} (F : Fun K "how_many" "Rooms.how_many" s_Rooms_how_many f fd) (T : Txt K mg A) : FnOk P w K mg base CX0 1 f fd ["self"] (spMany A) := by
  refine F.ok sc_Rooms_how_many (fun vs H Q E h => ?_) (fun cdv A' outer s H vs Q E hr h => ⟨_, (pss_one (ps_ret (pe_callB call_len_seq (by rfl) T.m_len (by decide +kernel) (pa_cons (pe_fld (pv 0) rfl) pa_nil)))), ?_⟩)
  · obtain ⟨k, s, rfl, _⟩ := h
    rfl
  · obtain ⟨k, s, rfl, hA, _, q⟩ := h
    obtain ⟨dx, fs, e, fC, fV, fN, fG, fl, fn⟩ := hA.ob
    walk_at "go"
    refine ⟨_, rfl, k.o, A.CR, dx, fs, _, rfl, e, T.cl_Rooms, T.na_cells, fC, ?_⟩
    walk_at "go"
    refine ⟨k.cl, _, rfl, .inl (sqL hA.cl), ?_⟩
    rw [List.length_map, hA.cn]
    exact q
theorem ok_names {f : Addr} {fd : FuncData} (F : Fun K "names" "Rooms.names" s_Rooms_names f fd) (T : Txt K mg A) : FnOk P w K mg base CX0 1 f fd ["self"] (spNames A) := by
  refine F.ok sc_Rooms_names (fun vs H Q E h => ?_) (fun cdv A' outer s H vs Q E hr h => ⟨_, (pss_one (ps_ret (pe_callTy (call_listD rfl) (by rfl) T.m_list (by decide +kernel) (pa_cons (pe_fld (pv 0) rfl) pa_nil)))), ?_⟩)
  · obtain ⟨k, s, rfl, _⟩ := h
    rfl
  · obtain ⟨k, s, rfl, hA, q⟩ := h
    obtain ⟨dx, fs, e, fC, fV, fN, fG, fl, fn⟩ := hA.ob
    walk_at "go"
    refine ⟨_, rfl, k.o, A.CR, dx, fs, _, rfl, e, T.cl_Rooms, T.na_guests, fG, ?_⟩
    walk_at "go"
    refine ⟨k.gd, _, rfl, .inl hA.gd, fun p np => ?_⟩
    refine q p _ np (same_upd np) ?_
    rw [upd_same]
    unfold dicF
    rw [List.map_map]
    rfl
theorem ok_inuse {f : Addr} {fd : FuncData} (F : Fun K "in_use" "Rooms.in_use" s_Rooms_in_use f fd) (T : Txt K mg A) : FnOk P w K mg base CX0 1 f fd ["self"] (spInUse A) := by
  refine F.ok sc_Rooms_in_use (fun vs H Q E h => ?_) (fun cdv A' outer s H vs Q E hr h => ⟨_, (pss_one (ps_ret (pe_callB (cr_sortedSet rfl) (by rfl) T.m_sorted (by decide +kernel) (pa_cons (pe_lock (pe_sc2 (own := [("places", 1), ("place", 2)]) (vs1 := [2]) rfl sc_Rooms_in_use.nd (pi_values (pe_fld (pv 0) rfl)) (blkOk_by (N := ["self", "places", "place"]) (sc := defScope s_Rooms_in_use) (by decide +kernel)) (by decide) (fun _ _ _ _ _ => (pg_name (i := 1) sc_Rooms_in_use.nd rfl (.inl rfl))) (fun _ _ _ _ _ => pts_nil) (fun _ _ _ _ _ => (pi_listK (K := K) rfl (pv 1))) (fun _ _ _ _ _ => (pg_name (i := 2) sc_Rooms_in_use.nd rfl (.inl rfl))) (fun _ _ _ _ _ => pts_one (pt_val (pe_callB (call_isK (K := K) rfl) (by rfl) T.m_isinstance (by decide +kernel) (pa_cons (pv 2) (pa_cons (pe_bltn (v := .ty "int") (by rfl) T.m_int (by decide +kernel) rfl) pa_nil))))) (fun _ _ _ _ _ => (pv 2)))) pa_nil)))), ?_⟩)
  · obtain ⟨k, s, rfl, _⟩ := h
    rfl
  · obtain ⟨k, s, rfl, hA, sm, q⟩ := h
    obtain ⟨dx, fs, e, fC, fV, fN, fG, fl, fn⟩ := hA.ob
    obtain ⟨Ls, hL⟩ := hA.lists
    have l8 := hL.flat fun g hg => (hA.ok.at_ g hg).1
    have l6 : s.gs.length ≤ 6 := by have := sm.six; unfold R.names at this; rwa [List.length_map] at this
    refine r_ret (r_cb (r_cons ?_))
    refine scInts (as := s.names.map k.ga) (Ls := Ls) hA.gd ?_ (by rw [hL.len]; unfold R.names; rw [List.length_map, List.length_map]) (fun i a xs ea ex => ?_) (by omega) (fun _ => rfl) (fun _ _ => rfl) (fun _ => rfl) (fun _ _ => rfl) (fun od QQ qq => ?_) (fun y x G QQ hx hG qq => ?_) fun D S ks H1 nD s1 eD nd hS hk => ?_
    · unfold dicF
      rw [List.map_map, List.map_map]
      rfl
    · unfold R.names at ea
      rw [List.getElem?_map, List.getElem?_map] at ea
      cases eg : s.gs[i]? with
      | none => rw [eg] at ea; exact nomatch ea
      | some g =>
        rw [eg] at ea
        obtain rfl := Option.some.inj ea
        exact (hL.at_ i g xs eg ex).1
    · refine ⟨_, rfl, k.o, A.CR, dx, fs, _, rfl, ?_, T.cl_Rooms, T.na_guests, fG, qq⟩
      rw [upd_ne (hA.o_ne hA.gd fun _ _ z => nomatch z)]
      exact e
    · obtain ⟨g, hg, p, hp, pv⟩ := hL.els hx
      walk_at "go"
      refine r_is (b := isI x) ?_ ⟨_, rfl, qq⟩
      cases p with
      | blank =>
        obtain rfl : x = .non := pv
        exact isa_non (b := false)
      | own ws =>
        obtain ⟨t, rfl, et⟩ := pv
        exact isa_tup (b := false) (hG t _ (ne_ct et hA.gd fun z => nomatch z) et)
      | «at» n =>
        obtain rfl : x = .int n := pv
        exact isa_int (b := true)
    · refine r_nil ⟨D, S, ks.length, rfl, eD, ?_, fun ns p pw mem len np => ?_⟩
      · have z := nd_le (l := ks.map V.int) (m := Ls.flatten) (List.Pairwise.map V.int (fun a b n e => n (by injection e)) nd) fun v hv => by
          obtain ⟨k, hk2, rfl⟩ := List.mem_map.mp hv
          exact (hk k).mp hk2
        rw [List.length_map] at z
        omega
      · refine q p _ (none_of s1 np) (s1.trans (same_upd np)) ?_
        rw [upd_same, inUse_rise hA.ok pw fun c => (mem c).trans ((hS c).trans ((hk c).trans hL.mem))]
end
end K17

namespace K17
open PySem PySem.Spec PyProof.Rows L2 Bk Rm


theorem refs_of {α : Type} {Pr : α → Addr → Hp → Prop} {l : List α} {ys : List V} {H : Hp} (h : All2 (fun z v H => ∃ t, v = .ref t ∧ Pr z t H) l ys H) : ∃ ts : List Addr, ys = ts.map V.ref ∧ ts.length = l.length ∧ ∀ (i : Nat) t z, ts[i]? = some t → l[i]? = some z → Pr z t H := by
  have key : ∀ (i : Nat) v, ys[i]? = some v → ∃ t, v = .ref t := fun i v e => by
    have lt : i < l.length := by rw [← h.1]; exact (List.getElem?_eq_some_iff.mp e).1
    obtain ⟨t, et, _⟩ := h.2 i l[i] v (List.getElem?_eq_getElem lt) e
    exact ⟨t, et⟩
  have e1 : ys = (ys.map fun v => match v with | .ref t => t | _ => 0).map V.ref := by
    rw [List.map_map]
    refine List.ext_getElem? fun i => ?_
    rw [List.getElem?_map]
    cases e : ys[i]? with
    | none => rfl
    | some v =>
      obtain ⟨t, rfl⟩ := key i v e
      rfl
  refine ⟨_, e1, by rw [List.length_map]; exact h.1, fun i t z a b => ?_⟩
  rw [List.getElem?_map] at a
  cases e : ys[i]? with
  | none => rw [e] at a; exact nomatch a
  | some v =>
    obtain ⟨t', rfl⟩ := key i v e
    rw [e] at a
    obtain ⟨t2, e2, p⟩ := h.2 i z _ b e
    injection e2 with e2
    have a : t' = t := Option.some.inj a
    rw [← a, e2]
    exact p
/-- a place of a guest as it lies in the heap -/
theorem at_plc {Cl : Addr} {H : Hp} {k : Sk} {s : R} (h : At Cl H k s) {x : Str} {r : Nat} (hx : x ∈ s.names) (hr : r < 8) : ∃ xs ps v, getG s.gs x = some ps ∧ H (k.ga x) = some (.lst xs) ∧ PlsV H ps xs ∧ ps.length = 8 ∧ ps[r]? = some (plc s x r) ∧ xs[r]? = some v ∧ PlV H (plc s x r) v ∧ PlOk s.cells (plc s x r) := by
  obtain ⟨ps, hp⟩ := getG_some hx
  obtain ⟨xs, ex, hpv⟩ := h.gl _ (getG_mem hp)
  have l8 := (h.ok.at_ _ (getG_mem hp)).1
  obtain ⟨p, e1, e2, e3, _⟩ := at_place h.ok hp hr
  have ep : plc s x r = p := e2
  have lr : r < xs.length := by rw [hpv.1]; exact (List.getElem?_eq_some_iff.mp e1).1
  rw [ep]
  exact ⟨xs, ps, xs[r], hp, ex, hpv, l8, e1, List.getElem?_eq_getElem lr, hpv.2 r p _ e1 (List.getElem?_eq_getElem lr), e3⟩
theorem all_at {Cl : Addr} {H : Hp} {k : Sk} {s : R} (h : At Cl H k s) {x : Str} (hx : x ∈ s.names) : ∃ xs ps, getG s.gs x = some ps ∧ allW8 s x = ps.map (words s.cells) ∧ H (k.ga x) = some (.lst xs) ∧ PlsV H ps xs ∧ ps.length = 8 ∧ ∀ p ∈ ps, PlOk s.cells p := by
  obtain ⟨ps, hp⟩ := getG_some hx
  obtain ⟨xs, ex, hpv⟩ := h.gl _ (getG_mem hp)
  have l8 := h.ok.at_ _ (getG_mem hp)
  refine ⟨xs, ps, hp, ?_, ex, hpv, l8.1, l8.2⟩
  unfold allW8
  rw [hp]
  rfl
section
variable {P : Program} {w : World} {K : PySem.W.Frag} {mg : Str → Option Value} {base : Heap} {A : Ad}
theorem r_gst {σ : L2.St} {H : Hp} {Q : VK} {k : Sk} {s : R} {x : Str} {i : Nat} (hA : At A.CR H k s) (T : Txt K mg A) (h0 : σ[0]? = some (some (.ref k.o))) (h1 : σ[i]? = some (some (.str x))) (hx : x ∈ s.names) (q : Q (.ref (k.ga x)) H) : tDGet (tFld K (tVar 0) "_guests") (tVar i) σ H Q := by
  obtain ⟨dx, fs, e, fC, fV, fN, fG, fl, fn⟩ := hA.ob
  exact ⟨_, h0, k.o, A.CR, dx, fs, _, rfl, e, T.cl_Rooms, T.na_guests, fG, _, h1, k.gd, .ref (k.ga x), rfl, .inl ⟨_, .inr x, .inl hA.gd, rfl, by rw [dicF_get, if_pos hx]⟩, q⟩
theorem r_cls {σ : L2.St} {H : Hp} {Q : VK} {k : Sk} {s : R} (hA : At A.CR H k s) (T : Txt K mg A) (h0 : σ[0]? = some (some (.ref k.o))) (q : Q (.ref k.cl) H) : tFld K (tVar 0) "_cells" σ H Q := by
  obtain ⟨dx, fs, e, fC, fV, fN, fG, fl, fn⟩ := hA.ob
  exact ⟨_, h0, k.o, A.CR, dx, fs, _, rfl, e, T.cl_Rooms, T.na_cells, fC, q⟩
theorem r_gvn {σ : L2.St} {H : Hp} {Q : VK} {k : Sk} {s : R} (hA : At A.CR H k s) (T : Txt K mg A) (h0 : σ[0]? = some (some (.ref k.o))) (q : Q (.ref k.gv) H) : tFld K (tVar 0) "_given" σ H Q := by
  obtain ⟨dx, fs, e, fC, fV, fN, fG, fl, fn⟩ := hA.ob
  exact ⟨_, h0, k.o, A.CR, dx, fs, _, rfl, e, T.cl_Rooms, T.na_given, fV, q⟩
theorem r_gds {σ : L2.St} {H : Hp} {Q : VK} {k : Sk} {s : R} (hA : At A.CR H k s) (T : Txt K mg A) (h0 : σ[0]? = some (some (.ref k.o))) (q : Q (.ref k.gd) H) : tFld K (tVar 0) "_guests" σ H Q := by
  obtain ⟨dx, fs, e, fC, fV, fN, fG, fl, fn⟩ := hA.ob
  exact ⟨_, h0, k.o, A.CR, dx, fs, _, rfl, e, T.cl_Rooms, T.na_guests, fG, q⟩
/-- a method of the object is not one of its fields -/
theorem no_fld {Cl : Addr} {H : Hp} {k : Sk} {s : R} (hA : At Cl H k s) {m : Str} (h1 : (m == ("_cells" : Str)) = false) (h2 : (m == ("_given" : Str)) = false) (h3 : (m == ("_givings" : Str)) = false) (h4 : (m == ("_guests" : Str)) = false) {G : Prop} (q : ∀ dx fs, H k.o = some (.ins Cl dx fs) → fs.lookup m = none → G) : G := by
  obtain ⟨dx, fs, e, fC, fV, fN, fG, fl, fn⟩ := hA.ob
  exact q dx fs e (fn m h1 h2 h3 h4)
theorem ok_ckg {f : Addr} {fd fdA : FuncData} (F : Fun K "_check_guest" "Rooms._check_guest" s_Rooms_check_guest f fd) (T : Txt K mg A) (c_is_name : CalD P w K mg base CX0 2 "is_name" (spName K) [])
    (c_NoGuest_init : Own P w K mg base CX0 2 A.fA fdA ["self", "found"] (spInitN "found" A.CA)) : FnOk P w K mg base (L2.CX P w) 4 f fd ["self", "name"] (spCkG A) := by
  refine F.okX sc_Rooms_check_guest (fun vs H Q E h => ?_) (fun cdv A' outer s H vs Q E hr h => have hu := units1 hr; ⟨_, (pss_one (ps_if (PW.pt (pw_or (pt_not (pt_val (pe_cal c_is_name hr (by decide) (by rfl) (pa_cons (pv 1) pa_nil)))) (pw_or1 (pt_cmp (pc_dnotin hu (pv 1) (pe_fld (pv 0) rfl)))))) (pss_one (ps_raise rfl (takes_of rfl rfl rfl rfl) (pmk_oexT T.ox_NoGuest T.i_NoGuest T.t_NoGuest c_NoGuest_init.ok (hr.mono (by decide)) c_NoGuest_init.bd .nil pass0 (by rfl) T.g_NoGuest (pa_cons (pv 1) pa_nil)))) pss_nil)), ?_⟩)
  · obtain ⟨k, s, x, rfl, _⟩ := h
    rfl
  · obtain ⟨k, s, x, rfl, hA, hz, hx, q⟩ := h
    obtain ⟨dx, fs, e, fC, fV, fN, fG, fl, fn⟩ := hA.ob
    walk_at "go"
    refine ⟨_, rfl, .inl ⟨x, rfl, by have := (len_of_name hz).2; omega, fun H1 s1 => ?_⟩⟩
    rw [hz]
    walk_at "go"
    refine ⟨_, rfl, _, rfl, k.o, A.CR, dx, fs, _, rfl, s1 _ _ e, T.cl_Rooms, T.na_guests, fG, k.gd, some (.ref (k.ga x)), rfl, .inl ⟨_, .inr x, .inl (s1 _ _ hA.gd), rfl, (by rw [dicF_get, if_pos hx])⟩, _, rfl, ?_⟩
    walk_at "go"
    exact q _ s1
theorem ok_words {f : Addr} {fd : FuncData} (F : Fun K "_words_at" "Rooms._words_at" s_Rooms_words_at f fd) (T : Txt K mg A) : FnOk P w K mg base CX0 1 f fd ["self", "place"] (spWordsAt A) := by
  refine F.ok sc_Rooms_words_at (fun vs H Q E h => ?_) (fun cdv A' outer s H vs Q E hr h => ⟨_, (pss_cons (ps_if (pt_cmpR op_isN (pv 1) pe_non (nomark _)) (pss_one (ps_ret (C8.pe_gc (by rfl) T.c_NOUGHTS))) pss_nil)
    (pss_one (ps_ret (pe_ifExp (pt_val (pe_callB call_is (by rfl) T.m_isinstance (by decide +kernel) (pa_cons (pv 1) (pa_cons (pe_bltn (v := .ty "int") (by rfl) T.m_int (by decide +kernel) rfl) pa_nil)))) (pe_ix ix_list (pe_fld (pv 0) rfl) (pv 1) (fun _ _ => rfl)) (pv 1))))), ?_⟩)
  · obtain ⟨k, s, p, v, rfl, _⟩ := h
    rfl
  · obtain ⟨k, s, p, v, rfl, hA, hp, ok, q⟩ := h
    obtain ⟨dx, fs, e, fC, fV, fN, fG, fl, fn⟩ := hA.ob
    walk_at "go"
    refine ⟨rfl, _, rfl, ?_⟩
    cases p with
    | blank =>
      obtain rfl : v = .non := hp
      rw [show decide (V.non = V.non) = true from decide_eq_true rfl]
      walk_at "go"
      exact q _ (.inl (.inr ⟨rfl, rfl⟩))
    | own ws =>
      obtain ⟨t, rfl, et⟩ := hp
      rw [show decide (V.ref t = V.non) = false from decide_eq_false fun z => nomatch z]
      walk_at "go"
      refine r_is (isa_tup (b := false) et) ?_
      walk_at "go"
      exact q _ (.inl (.inl et))
    | «at» n =>
      obtain rfl : v = .int n := hp
      rw [show decide (V.int n = V.non) = false from decide_eq_false fun z => nomatch z]
      walk_at "go"
      refine r_is (isa_int (b := true)) ?_
      walk_at "go"
      have ln := ok.2 n rfl
      have lc : n < k.cs.length := by rw [hA.cn]; exact ln
      refine r_cls hA T rfl ?_
      walk_at "go"
      refine r_ixL (sqL hA.cl) (v := .ref k.cs[n]) (atI_nat (by rw [List.getElem?_map, List.getElem?_eq_getElem lc]; rfl)) ?_
      exact q _ (.inr (hA.cx n _ (List.getElem?_eq_getElem lc)))
theorem ok_way {f : Addr} {fd : FuncData} (F : Fun K "way" "Rooms.way" s_Rooms_way f fd) (T : Txt K mg A) (c_check_number : CalX P w K mg base 4 "check_number" spCkN) (c_Rooms_check_guest : CalM P w K mg base (L2.CX P w) 4 A.CR "_check_guest" (spCkG A)) : FnOk P w K mg base (L2.CX P w) 5 f fd ["self", "name", "room"] (spWay A) := by
  refine F.okX sc_Rooms_way (fun vs H Q E h => ?_) (fun cdv A' outer s H vs Q E hr h => have hu := units1 hr; ⟨_, (pss_cons (ps_expr (pe_mth (pv 0) T.cl_Rooms c_Rooms_check_guest hr (by decide) (psX (takes_of rfl rfl rfl rfl)) (pa_cons (pv 1) pa_nil)))
    (pss_cons (ps_expr (pe_calX c_check_number hr (by decide) (by rfl) (takes_of rfl rfl rfl rfl) (pa_cons (pv 2) (pa_cons pe_int (pa_cons pe_int pa_nil)))))
    (pss_cons (ps_set (i := 3) sc_Rooms_way.nd rfl (.inl rfl) (pe_ix ix_list (pe_dget hu (pe_fld (pv 0) rfl) (pv 1) (fun _ _ => rfl)) (pv 2) (fun _ _ => rfl)))
    (pss_cons (ps_if (pt_cmpR op_isN (pv 3) pe_non (nomark _)) (pss_one (ps_ret pe_str)) pss_nil)
    (pss_one (ps_ret (pe_ifExp (pt_val (pe_callB call_is (by rfl) T.m_isinstance (by decide +kernel) (pa_cons (pv 3) (pa_cons (pe_bltn (v := .ty "int") (by rfl) T.m_int (by decide +kernel) rfl) pa_nil)))) (pv 3) pe_str))))))), ?_⟩)
  · obtain ⟨k, s, x, r, rfl, _⟩ := h
    rfl
  · obtain ⟨k, s, x, r, rfl, hA, hz, hx, r8, q⟩ := h
    obtain ⟨dx, fs, e, fC, fV, fN, fG, fl, fn⟩ := hA.ob
    walk_at "go"
    refine ⟨k.o, dx, fs, rfl, e, fn _ (by decide +kernel) (by decide +kernel) (by decide +kernel) (by decide +kernel), ?_⟩
    walk_at "go"
    refine ⟨k, s, x, rfl, hA, hz, hx, fun H1 s1 => ?_⟩
    walk_at "go"
    refine ⟨r, 0, 7, rfl, by omega, by omega, ?_⟩
    walk_at "go"
    have h1 := hA.same s1
    obtain ⟨xs, ps, v, eg, ex, _, _, _, ev, pv, _⟩ := at_plc h1 hx r8
    refine r_gst h1 T rfl rfl hx ?_
    walk_at "go"
    refine r_ixL (sqL ex) (v := v) (atI_nat ev) ?_
    walk_at "go"
    refine ⟨rfl, _, rfl, ?_⟩
    have q' := q H1 s1
    generalize plc s x r = p at pv q'
    cases p with
    | blank =>
      obtain rfl : v = .non := pv
      rw [show decide (V.non = V.non) = true from decide_eq_true rfl]
      walk_at "go"
      exact q'
    | own ws =>
      obtain ⟨t, rfl, et⟩ := pv
      rw [show decide (V.ref t = V.non) = false from decide_eq_false fun z => nomatch z]
      walk_at "go"
      refine r_is (isa_tup (b := false) et) ?_
      walk_at "go"
      exact q'
    | «at» n =>
      obtain rfl : v = .int n := pv
      rw [show decide (V.int n = V.non) = false from decide_eq_false fun z => nomatch z]
      walk_at "go"
      refine r_is (isa_int (b := true)) ?_
      walk_at "go"
      exact q'
end
end K17

namespace K17
open PySem PySem.Spec PyProof.Rows L2 Bk Rm


/-- a place as data -/
def plD : Pl → PyData
  | .blank => .none
  | .own ws => rowT ws
  | .at n => .int n
theorem dp_pl {K : PySem.W.Frag} {H : Hp} {p : Pl} {v : V} (h : PlV H p v) : Dp K H v (plD p) := by
  cases p with
  | blank => obtain rfl : v = .non := h; exact .non
  | own ws =>
    obtain ⟨t, rfl, e⟩ := h
    exact dp_rowT (SqT.of e)
  | «at» n => obtain rfl : v = .int n := h; exact .int _
theorem sh_pl (p : Pl) : SeqAt.shaped (plD p) = true := by
  cases p with
  | blank => rfl
  | own ws => exact sh_rowT ws
  | «at» n => rfl
theorem eqv_pl (p : Pl) (n : Nat) : PyData.eqv (plD p) (.int n) = isAt n p := by
  cases p with
  | blank => rfl
  | own ws =>
    show PyData.eqv (.tuple (numsD ws)) (.int n) = false
    simp only [PyData.eqv]
  | «at» m =>
    show PyData.eqv (.int m) (.int n) = decide (m = n)
    simp only [PyData.eqv]
    by_cases h : m = n
    · subst h; simp
    · rw [decide_eq_false h]
      exact beq_false_of_ne fun z => h (Int.ofNat.inj z)
section
variable {P : Program} {w : World} {K : PySem.W.Frag} {mg : Str → Option Value} {base : Heap} {A : Ad}
theorem ok_lying {f : Addr} {fd : FuncData} (F : Fun K "lying" "Rooms.lying" s_Rooms_lying f fd) (T : Txt K mg A) (c_check_number : CalX P w K mg base 4 "check_number" spCkN) : FnOk P w K mg base (L2.CX P w) 5 f fd ["self", "number"] (spLying A) := by
  refine F.okX sc_Rooms_lying (fun vs H Q E h => ?_) (fun cdv A' outer s H vs Q E hr h => have hu64 := hr.units; have hu := units1 hr; ⟨_, (pss_cons (ps_expr (pe_calX c_check_number hr (by decide) (by rfl) (takes_of rfl rfl rfl rfl) (pa_cons (pv 1) (pa_cons pe_int (pa_cons (pe_op op_sub (pe_callB call_len_seq (by rfl) T.m_len (by decide +kernel) (pa_cons (pe_fld (pv 0) rfl) pa_nil)) pe_int) pa_nil)))))
    (pss_cons (ps_set (i := 2) sc_Rooms_lying.nd rfl (.inl rfl) (pe_lstB pa_nil))
    (pss_cons (ps_lock (ps_for (passes_of rfl) rfl (pi_items (pe_fld (pv 0) rfl)) (pg_tup rfl (pgs_cons (pg_name (i := 3) sc_Rooms_lying.nd rfl (.inr rfl)) (pgs_cons (pg_name (i := 4) sc_Rooms_lying.nd rfl (.inl rfl)) pgs_nil)))
      (pss_one (ps_expr (pe_bm PySem.F.plainAttrs_list PySem.F.slot_list_extend PySem.F.type_list_extend mt_extend (pv 2) (pa_cons (pe_lc (own := [("room", 5), ("place", 6)]) rfl sc_Rooms_lying.nd (pi_enumA (by rfl) T.m_enumerate (pa_cons (pv 4) pa_nil)) (blkOk_by (N := ["self", "number", "found", "name", "places", "room", "place"]) (sc := defScope s_Rooms_lying) (by decide +kernel)) (fun _ _ _ _ _ => (pg_tupK (K := K) (n := 2) rfl rfl (pgs_cons (pg_name (i := 5) sc_Rooms_lying.nd rfl (.inl rfl)) (pgs_cons (pg_name (i := 6) sc_Rooms_lying.nd rfl (.inl rfl)) pgs_nil)))) (fun _ _ _ _ _ => pts_one (pt_cmpR (op_eqDK (K := K) rfl hu64) (pv 6) (pv 1) (nomark _))) (fun _ _ _ _ _ => (pe_tup (pa_cons (pv 3) (pa_cons (pv 5) pa_nil))))) pa_nil))))))
    (pss_one (ps_ret (pv 2)))))), ?_⟩)
  · obtain ⟨k, s, n, rfl, _⟩ := h
    rfl
  · obtain ⟨k, s, n, rfl, hA, sm, ln, q⟩ := h
    obtain ⟨Ls, hL⟩ := hA.lists
    have l6 : s.gs.length ≤ 6 := by have := sm.six; unfold R.names at this; rwa [List.length_map] at this
    walk_at "go"
    refine r_cls hA T rfl ?_
    walk_at "go"
    refine ⟨k.cl, _, rfl, .inl (sqL hA.cl), ?_⟩
    rw [List.length_map, hA.cn]
    walk_at "go"
    refine ⟨n, 0, _, rfl, by omega, by omega, ?_⟩
    walk_at "go"
    obtain ⟨dx, fs, e, fC, fV, fN, fG, fll, fn⟩ := hA.ob
    refine newLB fun fl H1 n1 g1 s1 e1 => ?_
    have h1 := hA.same s1
    walk_at "go"
    refine ⟨k.gd, .dK (dicF s.names fun x => .ref (k.ga x)), h1.gd, trivial, fun od => ?_⟩
    have nfg : fl ≠ k.gd := fun z => by rw [z, hA.gd] at n1; exact nomatch n1
    have lk : ∀ b u, b ≠ k.gd → H1 b = some u → upd H1 k.gd (.frz od (.dK (dicF s.names fun x => .ref (k.ga x)))) b = some u := fun b u nb eb => by rw [upd_ne nb]; exact eb
    have eL : upd H1 k.gd (.frz od (.dK (dicF s.names fun x => .ref (k.ga x)))) k.gd = some (.frz od (.dK (dicF s.names fun x => .ref (k.ga x)))) := upd_same
    have eo := lk _ _ (h1.o_ne h1.gd fun _ _ z => nomatch z) (s1 _ _ e)
    have ef := lk _ _ nfg e1
    have ul : ∀ b u, H b = some u → b ≠ k.gd → upd H1 k.gd (.frz od (.dK (dicF s.names fun x => .ref (k.ga x)))) b = some u := fun b u eb nb => lk _ _ nb (s1 _ _ eb)
    refine ⟨_, rfl, k.o, A.CR, dx, fs, _, rfl, eo, T.cl_Rooms, T.na_guests, fG, ?_⟩
    generalize upd H1 k.gd (.frz od (.dK (dicF s.names fun x => .ref (k.ga x)))) = HL at eL eo ef ul ⊢
    refine ⟨k.gd, od, _, rfl, eL, for_it walk_items (fun i σ G => (∃ x3 x4, σ = [some (.ref k.o), some (.int n), some (.ref fl), x3, x4, none, none]) ∧ (∀ b u, b ≠ fl → HL b = some u → G b = some u) ∧ ∃ xs, G fl = some (.lst xs) ∧ All2 PairV (lying (s.gs.take i) n) xs G) ⟨⟨_, _, rfl⟩, fun _ _ _ z => z, [], ef, All2.nil⟩ (fun i σ G _ h => h.2.1 _ _ nfg.symm eL) (fun i yv σ G G2 hi hP hY => ?_) (fun σ G hP => ?_)⟩
    · obtain ⟨⟨x3, x4, rfl⟩, sG, xs, exs, all⟩ := hP
      obtain ⟨T2, a, b, rfl, nT, rfl, ha, hb⟩ := hY
      rw [dicF_len] at hi
      have hi : i < s.gs.length := by unfold R.names at hi; rwa [List.length_map] at hi
      have ha : (s.names.map fun x => ((Sum.inr x : Key), V.ref (k.ga x)))[i]?.map (fun kv => kV kv.1) = some a := ha
      have hb : (s.names.map fun x => ((Sum.inr x : Key), V.ref (k.ga x)))[i]?.map Prod.snd = some b := hb
      unfold R.names at ha hb
      rw [List.map_map, List.getElem?_map, List.getElem?_eq_getElem hi] at ha hb
      obtain rfl := Option.some.inj ha
      obtain rfl := Option.some.inj hb
      have gi := List.getElem?_eq_getElem hi
      have gm := List.getElem_mem hi
      generalize s.gs[i] = g at gi gm ⊢
      obtain ⟨ys, ey, py⟩ := hA.gl g gm
      have sT : Same G (upd G T2 (.tup [.str g.1, .ref (k.ga g.1)])) := same_upd nT
      have eT : upd G T2 (.tup [.str g.1, .ref (k.ga g.1)]) T2 = some (.tup [.str g.1, .ref (k.ga g.1)]) := upd_same
      show gTup _ _ _ _ _ (upd G T2 (.tup [V.str g.1, V.ref (k.ga g.1)])) _
      generalize upd G T2 (.tup [.str g.1, .ref (k.ga g.1)]) = G2 at sT eT ⊢
      have nfy : k.ga g.1 ≠ fl := fun z => by rw [← z, ey] at n1; exact nomatch n1
      have tH : TS H G := fun a zs ea => sG _ _ (fun z => by rw [← z, ea] at n1; exact nomatch n1) (ul _ _ ea (ne_ct ea hA.gd fun z => nomatch z))
      have ey2 : G2 (k.ga g.1) = some (.lst ys) := sT _ _ (sG _ _ nfy (ul _ _ ey (hA.gd_ne ey).symm))
      have py2 : PlsV G2 g.2 ys := py.keep (tH.trans (Same.ts sT))
      refine ⟨_, _, rfl, sqT eT, rfl, ?_⟩
      refine ⟨_, _, rfl, _, _, rfl, rfl, ?_⟩
      walk_at "go"
      have ef2 : G2 fl = some (.lst xs) := sT _ _ exs
      have l8 := (hA.ok.at_ g gm).1
      refine ⟨.inl ⟨rfl, _, SqL.of ef2⟩, ?_⟩
      refine r_cons (lkE (fun j => if isAt n (g.2.getD j .blank) = true then some (g.1, j) else none) PairV (fun z v H1 H2 ts h => h.keep ts) (SqL.of ey2) (by rw [py.1, l8]; omega) (fun QQ qq => r_cons (r_var rfl (r_nil qq))) (fun j y T3 H3 Q' R' hy s3 eT3 k1 k2 => ?_) fun D H3 zs nD s3 ez allz => ?_)
      · refine ⟨_, _, rfl, sqT eT3, rfl, ?_⟩
        refine ⟨_, _, rfl, _, _, rfl, rfl, ?_⟩
        have lj : j < g.2.length := by rw [← py.1]; exact (List.getElem?_eq_some_iff.mp hy).1
        have gj := List.getElem?_eq_getElem lj
        have gD : g.2.getD j .blank = g.2[j] := by rw [List.getD_eq_getElem?_getD, gj]; rfl
        have pj := (py2.2 j _ y gj hy).keep (Same.ts s3)
        rw [gD] at k1 k2
        refine ⟨rfl, ?_⟩
        walk_at "go"
        refine ⟨plD g.2[j], .int n, dp_pl pj, .int _, sh_pl _, rfl, ?_⟩
        rw [eqv_pl]
        cases hb : isAt n g.2[j] with
        | true =>
          rw [hb] at k1
          walk_at "go"
          exact newT fun t H4 n4 s4 e4 => k1 (g.1, j) (.ref t) H4 (if_pos rfl) s4 ⟨t, rfl, e4⟩
        | false =>
          rw [hb] at k2
          exact ⟨_, rfl, k2 (if_neg fun z => nomatch z) _ (Same.refl _)⟩
      · have lz := lying_le (n := n) (gs := s.gs.take i) fun g hg => (hA.ok.at_ g (List.mem_of_mem_take hg)).1
        have ly := lyG_le (n := n) (g := g)
        rw [py.1, lyG_fm] at allz
        rw [List.length_take] at lz
        refine r_nil ⟨fl, D, xs, zs, rfl, rfl, s3 _ _ ef2, ez, ?_, ?_⟩
        · rw [all.1, allz.1, sizeLine_eq]
          omega
        · refine ⟨⟨_, _, rfl⟩, fun b u nb eb => by rw [upd_ne nb]; exact s3 _ _ (sT _ _ (sG _ _ nb eb)), xs ++ zs, upd_same, ?_⟩
          have tf : TS H3 (upd H3 fl (.lst (xs ++ zs))) := fun a vs ea => by
            rw [upd_ne fun z => by rw [z, s3 _ _ ef2] at ea; exact nomatch ea]
            exact ea
          rw [lying_succ gi]
          exact (all.keep fun z v h => h.keep (((Same.ts sT).trans (Same.ts s3)).trans tf)).append (allz.keep fun z v h => h.keep tf)
    · obtain ⟨⟨x3, x4, rfl⟩, sG, xs, exs, all⟩ := hP
      have eG := sG _ _ nfg.symm eL
      refine ⟨eG, ?_⟩
      walk_at "go"
      rw [dicF_len, show s.names.length = s.gs.length from List.length_map _, List.take_length] at all
      refine q fl xs _ n1 (fun b u eb => ?_) (by rw [upd_ne nfg]; exact exs) (all.keep fun z v h => h.keep fun a zs ea => ?_)
      · by_cases h : b = k.gd
        · rw [h, upd_same, ← hA.gd, ← h]
          exact eb
        · rw [upd_ne h]
          exact sG _ _ (fun z => by rw [← z, eb] at n1; exact nomatch n1) (ul _ _ eb h)
      · rw [upd_ne fun z => by rw [z, eG] at ea; exact nomatch ea]
        exact ea
end
end K17

namespace K17
open PySem PySem.Spec PyProof.Rows L2 Bk Rm


theorem Mv.tup {Cl : Addr} {H H' : Hp} {k k' : Sk} {s s' : R} (m : Mv Cl H k s H' k' s') (h : At Cl H k s) {a : Addr} {xs : List V} (e : H a = some (.tup xs)) : H' a = some (.tup xs) := m.fr _ _ (h.ntup e) e
theorem names_setAll {s : R} {p : Pl} : ∀ {l : List (Str × Nat)} {gs : Gs}, (setAll gs l p).map (·.1) = gs.map (·.1)
  | [], _ => rfl
  | z :: l, gs => by
    show (setAll (setAt gs z.1 z.2 p) l p).map (·.1) = _
    rw [names_setAll (s := s)]
    exact names_setAt
theorem ixn {n r : Nat} (h : r < n) : ixN n (r : Int) = some r := by
  unfold ixN
  rw [if_pos (Int.natCast_nonneg r), if_pos (Int.ofNat_lt.mpr h), Int.toNat_natCast]
section
variable {P : Program} {w : World} {K : PySem.W.Frag} {mg : Str → Option Value} {base : Heap} {A : Ad}
theorem ok_put {f : Addr} {fd : FuncData} (F : Fun K "_put" "Rooms._put" s_Rooms_put f fd) (T : Txt K mg A) (c_Rooms_lying : CalM P w K mg base (L2.CX P w) 5 A.CR "lying" (spLying A)) : FnOk P w K mg base (L2.CX P w) 6 f fd ["self", "number", "place"] (spPut A) := by
  refine F.okX sc_Rooms_put (fun vs H Q E h => ?_) (fun cdv A' outer s H vs Q E hr h => have hu := units1 hr; ⟨_, (pss_one (ps_for (passes_of rfl) rfl (pi_list (pe_mth (pv 0) T.cl_Rooms c_Rooms_lying hr (by decide) (psX (takes_of rfl rfl rfl rfl)) (pa_cons (pv 1) pa_nil))) (pg_tup rfl (pgs_cons (pg_name (i := 3) sc_Rooms_put.nd rfl (.inl rfl)) (pgs_cons (pg_name (i := 4) sc_Rooms_put.nd rfl (.inl rfl)) pgs_nil)))
      (pss_one (ps_asg (pv 2) (pg_sub (pe_dget hu (pe_fld (pv 0) rfl) (pv 3) (fun _ _ => rfl)) (pv 4) set_list))))), ?_⟩)
  · obtain ⟨k, s, n, p, v, rfl, _⟩ := h
    rfl
  · obtain ⟨k, s, n, p, v, rfl, hA, sm, ln, pv, pok, q⟩ := h
    refine no_fld hA (m := "lying") (by decide +kernel) (by decide +kernel) (by decide +kernel) (by decide +kernel) fun dx fs e nf => ?_
    refine r_for ?_
    walk_at "go"
    refine ⟨k.o, dx, fs, rfl, e, nf, ?_⟩
    walk_at "go"
    refine ⟨k, s, n, rfl, hA, sm, ln, fun D xs H1 nD s1 ex all => ?_⟩
    have h1 := hA.same s1
    have nown : ¬ own k s D := hA.none nD
    refine ⟨D, rfl, ⟨xs, SqL.of ex⟩, for_it walk_list (fun i σ G => (∃ x3 x4, σ = [some (.ref k.o), some (.int n), some v, x3, x4]) ∧ Mv A.CR H1 k s G k { s with gs := setAll s.gs ((lying s.gs n).take i) p }) ⟨⟨_, _, rfl⟩, Mv.refl h1⟩ (fun i σ G _ h => SqL.of (h.2.fr _ _ nown ex)) (fun i yv σ G G2 hi hP hY => ?_) (fun σ G hP => ?_)⟩
    · obtain ⟨⟨x3, x4, rfl⟩, mv⟩ := hP
      obtain ⟨rfl, hy⟩ := hY
      have li : i < (lying s.gs n).length := by rw [← all.1]; exact hi
      have ez := List.getElem?_eq_getElem li
      have mz := List.getElem_mem li
      have sa : setAll s.gs ((lying s.gs n).take (i + 1)) p = setAt (setAll s.gs ((lying s.gs n).take i) p) (lying s.gs n)[i].1 (lying s.gs n)[i].2 p := by
        unfold setAll
        rw [List.take_add_one, ez, List.foldl_append]
        rfl
      obtain ⟨t, rfl, et⟩ := all.2 i _ _ ez hy
      generalize (lying s.gs n)[i] = z at ez mz sa et
      obtain ⟨x, r⟩ := z
      obtain ⟨g, hg, gx, gr⟩ := mem_lying.mp mz
      have hx : x ∈ s.names := by rw [← gx]; exact h1.mem hg
      have r8 : r < 8 := by
        have := (List.getElem?_eq_some_iff.mp gr).1
        rw [(hA.ok.at_ g hg).1] at this
        exact this
      have hx' : x ∈ R.names { s with gs := setAll s.gs ((lying s.gs n).take i) p } := by
        show x ∈ (setAll s.gs _ p).map (·.1)
        rw [names_setAll (s := s)]
        exact hx
      have et2 : G2 t = some (HO.tup [.str x, .int r]) := Mv.tup mv h1 et
      obtain ⟨ys, ps, u, eg, ey, py, l8, e1, eu, pu, _⟩ := at_plc mv.at_ hx' r8
      refine ⟨_, _, rfl, sqT et2, rfl, ?_⟩
      refine ⟨_, _, rfl, _, _, rfl, rfl, ?_⟩
      walk_at "go"
      refine r_gst mv.at_ T rfl rfl hx' ?_
      walk_at "go"
      refine ⟨_, ys, _, r, rfl, rfl, ey, ixn (by rw [py.1]; omega), ?_⟩
      refine ⟨⟨_, _, rfl⟩, ?_⟩
      rw [sa]
      exact mv.trans (mv.at_.place eg ey (pv.keep ((Same.ts s1).trans (mv.ts h1))) (R.Ok.setAt mv.at_.ok pok))
    · obtain ⟨⟨x3, x4, rfl⟩, mv⟩ := hP
      rw [all.1, List.take_length, put_eq hA.ok.nd] at mv
      exact q G ((Mv.same hA s1).trans mv)
end
end K17

namespace K17
open PySem PySem.Spec PyProof.Rows L2 Bk Rm


theorem names_free {s : R} : s.free.1.names = s.names := by
  unfold R.free
  split
  · rfl
  · exact names_put
theorem inV_nv {n : Nat} {l : List Nat} : inV (.int n) (nv l) = decide (n ∈ l) := by
  unfold inV nv
  rw [List.any_map]
  induction l with
  | nil => exact (decide_eq_false (fun z => nomatch z)).symm
  | cons y r ih =>
    rw [List.any_cons, ih]
    show (decide (_ = _) || _) = _
    by_cases h : n = y
    · subst h
      rw [decide_eq_true rfl, Bool.true_or, decide_eq_true List.mem_cons_self]
    · rw [decide_eq_false (fun z => h (by injection z with z; omega)), Bool.false_or]
      exact decide_eq_decide.mpr ⟨List.mem_cons_of_mem _, fun z => (List.mem_cons.mp z).elim (fun w => absurd w h) id⟩
section
variable {P : Program} {w : World} {K : PySem.W.Frag} {mg : Str → Option Value} {base : Heap} {A : Ad}
theorem ok_free {f : Addr} {fd : FuncData} (F : Fun K "_free_room" "Rooms._free_room" s_Rooms_free_room f fd) (T : Txt K mg A) (c_Rooms_in_use : CalM P w K mg base CX0 1 A.CR "in_use" (spInUse A)) (c_Rooms_put : CalM P w K mg base (L2.CX P w) 6 A.CR "_put" (spPut A)) : FnOk P w K mg base (L2.CX P w) 7 f fd ["self"] (spFree A) := by
  refine F.okX sc_Rooms_free_room (fun vs H Q E h => ?_) (fun cdv A' outer s H vs Q E hr h => have hu := units1 hr; ⟨_, (pss_cons (ps_set (i := 1) sc_Rooms_free_room.nd rfl (.inl rfl) (pe_mth0 (pv 0) T.cl_Rooms c_Rooms_in_use hr (by decide) ps0))
    (pss_cons (ps_for (passes_of rfl) rfl (pi_range1 (by rfl) T.m_range (pa_cons (pe_callB call_len_seq (by rfl) T.m_len (by decide +kernel) (pa_cons (pe_fld (pv 0) rfl) pa_nil)) pa_nil)) (pg_name (i := 2) sc_Rooms_free_room.nd rfl (.inl rfl))
      (pss_one (ps_if (pt_cmpR op_notIn_seq (pv 2) (pv 1) (by rfl)) (pss_one (ps_ret (pv 2))) pss_nil)))
    (pss_cons (ps_set (i := 3) sc_Rooms_free_room.nd rfl (.inl rfl) (pe_bm PySem.F.plainAttrs_list PySem.F.slot_list_index PySem.F.type_list_index mt_index (pe_fld (pv 0) rfl) (pa_cons (pe_callB (cr_min rfl) (by rfl) T.m_min (by decide +kernel) (pa_cons (pe_fld (pv 0) rfl) pa_nil)) pa_nil)))
    (pss_cons (ps_expr (pe_mth (pv 0) T.cl_Rooms c_Rooms_put hr (by decide) (psX (takes_of rfl rfl rfl rfl)) (pa_cons (pv 3) (pa_cons (pe_callTy call_tuple_of (by rfl) T.m_tuple (by decide +kernel) (pa_cons (pe_ix ix_list (pe_fld (pv 0) rfl) (pv 3) (fun _ _ => rfl)) pa_nil)) pa_nil))))
    (pss_one (ps_ret (pv 3))))))), ?_⟩)
  · obtain ⟨k, s, rfl, _⟩ := h
    rfl
  · obtain ⟨k, s, rfl, hA, sm, q⟩ := h
    refine no_fld hA (m := "in_use") (by decide +kernel) (by decide +kernel) (by decide +kernel) (by decide +kernel) fun dx fs e nf => ?_
    walk_at "go"
    refine ⟨k.o, dx, fs, rfl, e, nf, ?_⟩
    walk_at "go"
    refine ⟨k, s, rfl, hA, sm, fun u H1 nu s1 eu => ?_⟩
    have h1 := hA.same s1
    walk_at "go"
    refine r_cls h1 T rfl ?_
    walk_at "go"
    refine ⟨k.cl, _, rfl, .inl (sqL h1.cl), ?_⟩
    rw [List.length_map, h1.cn]
    have c64 := sm.c64
    refine ⟨_, rfl, by omega, by omega, ?_⟩
    rw [Int.toNat_natCast]
    refine for_it walk_range (fun i σ G => (∃ x2, σ = [some (.ref k.o), some (.ref u), x2, none]) ∧ G = H1 ∧ ∀ j, j < i → used s.gs j = true) ⟨⟨_, rfl⟩, rfl, fun _ z => absurd z (Nat.not_lt_zero _)⟩ (fun _ _ _ _ _ => trivial) (fun i yv σ G G2 hi hP hY => ?_) (fun σ G hP => ?_)
    · obtain ⟨⟨x2, rfl⟩, rfl, hj⟩ := hP
      obtain ⟨rfl, rfl⟩ := hY
      show gName 2 (V.int (0 + (i : Int))) _ _ _
      rw [Int.zero_add]
      walk_at "go"
      refine ⟨u, _, rfl, .inl (sqL eu), rfl, List.all_eq_true.mpr fun v hv => ?_, ?_⟩
      · obtain ⟨z, _, rfl⟩ := List.mem_map.mp hv
        rfl
      rw [if_pos rfl, inV_nv]
      refine ⟨_, rfl, ?_⟩
      cases hu : used s.gs i with
      | false =>
        rw [decide_eq_false (show ¬ i ∈ inUse s from fun z => by have := (List.mem_filter.mp z).2; rw [hu] at this; exact nomatch this)]
        rw [free_some hi hj hu] at q
        walk_at "go"
        exact q _ (Mv.same hA s1)
      | true =>
        rw [decide_eq_true (show i ∈ inUse s from List.mem_filter.mpr ⟨List.mem_range.mpr hi, hu⟩)]
        walk_at "go"
        refine ⟨⟨_, rfl⟩, rfl, fun j lt => ?_⟩
        by_cases e : j = i
        · rw [e]; exact hu
        · exact hj j (by omega)
    · obtain ⟨⟨x2, rfl⟩, rfl, hj⟩ := hP
      have fe := free_none hj
      have gne : s.given ≠ [] := fun z => hA.ok.ne (List.length_eq_zero_iff.mp (by rw [← hA.ok.len, z]; rfl))
      obtain ⟨m0, g1, g2, g3, g4⟩ := least_spec gne
      have lo : leastAt s.given < s.cells.length := by rw [← hA.ok.len]; exact leastAt_lt gne
      have eg : nv s.given = (s.given.map fun (n : Nat) => (n : Int)).map V.int := by unfold nv; rw [List.map_map]; rfl
      walk_at "go"
      refine r_gvn h1 T rfl ?_
      refine ⟨.inl ⟨rfl, _, SqL.of h1.gv⟩, ?_⟩
      walk_at "go"
      refine r_gvn h1 T rfl ?_
      walk_at "go"
      refine ⟨k.gv, s.given.map fun (n : Nat) => (n : Int), rfl, by rw [← eg]; exact sqL h1.gv, by rw [List.length_map]; exact List.length_pos_of_mem g1, fun m hm hle => ?_⟩
      have em : m = (m0 : Int) := by
        obtain ⟨y, hy, rfl⟩ := List.mem_map.mp hm
        have a1 := hle m0 (List.mem_map.mpr ⟨m0, g1, rfl⟩)
        have a2 := g2 y hy
        omega
      subst em
      walk_at "go"
      refine ⟨k.gv, nv s.given, .int m0, leastAt s.given, .int m0, rfl, rfl, SqL.of h1.gv, rfl, List.all_eq_true.mpr fun v hv => ?_, nv_at g3, ?_, fun j z lt ej => ?_, ?_⟩
      · obtain ⟨z, _, rfl⟩ := List.mem_map.mp hv
        rfl
      · show ((m0 : Int) == m0) = true
        exact beq_self_eq_true _
      · obtain ⟨y, ey, rfl⟩ := at_nv ej
        have ny : y ≠ m0 := fun z => g4 j lt (by rw [ey, z])
        show ((y : Int) == m0) = false
        exact beq_false_of_ne fun z => ny (Int.ofNat.inj z)
      have lc : leastAt s.given < k.cs.length := by rw [h1.cn]; exact lo
      have ec := h1.cx _ _ (List.getElem?_eq_getElem lc)
      have ws8 : (s.cells.getD (leastAt s.given) []).length = 8 := by
        rw [List.getD_eq_getElem?_getD, List.getElem?_eq_getElem lo]
        exact hA.ok.eight _ (List.getElem_mem lo)
      rw [fe] at q
      refine no_fld h1 (m := "_put") (by decide +kernel) (by decide +kernel) (by decide +kernel) (by decide +kernel) fun dx2 fs2 e2 nf2 => ?_
      walk_at "go"
      refine ⟨k.o, dx2, fs2, rfl, e2, nf2, ?_⟩
      walk_at "go"
      refine r_cls h1 T rfl ?_
      walk_at "go"
      refine r_ixL (sqL h1.cl) (v := .ref k.cs[leastAt s.given]) (atI_nat (by rw [List.getElem?_map, List.getElem?_eq_getElem lc]; rfl)) ?_
      refine r_nil ⟨_, _, rfl, .inl ⟨sqL ec, fun t nt => ?_⟩⟩
      have s2 := same_upd (o := .tup (nv (s.cells.getD (leastAt s.given) []))) nt
      refine r_nil ⟨k, s, leastAt s.given, .own (s.cells.getD (leastAt s.given) []), .ref t, rfl, h1.same s2, sm, lo, ⟨t, rfl, upd_same⟩, PlOk.own ws8, fun H3 mv => ?_⟩
      walk_at "go"
      exact q H3 ((Mv.same hA (s1.trans s2)).trans mv)
theorem ok_brought {f : Addr} {fd : FuncData} (F : Fun K "_brought" "Rooms._brought" s_Rooms_brought f fd) (T : Txt K mg A) (c_Rooms_free_room : CalM P w K mg base (L2.CX P w) 7 A.CR "_free_room" (spFree A)) (c_Rooms_words_at : CalM P w K mg base CX0 1 A.CR "_words_at" (spWordsAt A)) : FnOk P w K mg base (L2.CX P w) 8 f fd ["self", "name", "room"] (spBrought A) := by
  refine F.okX sc_Rooms_brought (fun vs H Q E h => ?_) (fun cdv A' outer s H vs Q E hr h => have hu := units1 hr; ⟨_, (pss_cons (ps_set (i := 3) sc_Rooms_brought.nd rfl (.inl rfl) (pe_ix ix_list (pe_dget hu (pe_fld (pv 0) rfl) (pv 1) (fun _ _ => rfl)) (pv 2) (fun _ _ => rfl)))
    (pss_cons (ps_if (pt_val (pe_callB call_is (by rfl) T.m_isinstance (by decide +kernel) (pa_cons (pv 3) (pa_cons (pe_bltn (v := .ty "int") (by rfl) T.m_int (by decide +kernel) rfl) pa_nil)))) (pss_one (ps_ret (pv 3))) pss_nil)
    (pss_cons (ps_set (i := 4) sc_Rooms_brought.nd rfl (.inl rfl) (pe_mth0 (pv 0) T.cl_Rooms c_Rooms_free_room hr (by decide) (psX (takes_of rfl rfl rfl rfl))))
    (pss_cons (ps_asg (pe_callTy call_list_of (by rfl) T.m_list (by decide +kernel) (pa_cons (pe_mth (pv 0) T.cl_Rooms c_Rooms_words_at hr (by decide) ps0 (pa_cons (pv 3) pa_nil)) pa_nil)) (pg_sub (pe_fld (pv 0) rfl) (pv 4) set_list))
    (pss_cons (ps_asg (pv 4) (pg_sub (pe_dget hu (pe_fld (pv 0) rfl) (pv 1) (fun _ _ => rfl)) (pv 2) set_list))
    (pss_cons (ps_fldaug (pv 0) pe_int in_add)
    (pss_cons (ps_asg (pe_fld (pv 0) rfl) (pg_sub (pe_fld (pv 0) rfl) (pv 4) set_list))
    (pss_one (ps_ret (pv 4)))))))))), ?_⟩)
  · obtain ⟨k, s, x, r, rfl, _⟩ := h
    rfl
  · obtain ⟨k, s, x, r, rfl, hA, sm, hx, r8, q⟩ := h
    obtain ⟨xs, ps, v, eg, ex, py, l8, e1, ev, pv, pok⟩ := at_plc hA hx r8
    have pl : ((getG s.gs x).getD [])[r]?.getD .blank = plc s x r := rfl
    walk_at "go"
    refine r_gst hA T rfl rfl hx ?_
    walk_at "go"
    refine r_ixL (sqL ex) (v := v) (atI_nat ev) ?_
    walk_at "go"
    unfold R.brought at q
    rw [pl] at q
    refine r_is (b := isI v) ?_ ?_
    · cases hp : plc s x r with
      | blank => rw [hp] at pv; obtain rfl : v = .non := pv; exact isa_non (b := false)
      | own ws => rw [hp] at pv; obtain ⟨t, rfl, et⟩ := pv; exact isa_tup (b := false) et
      | «at» n => rw [hp] at pv; obtain rfl : v = .int n := pv; exact isa_int (b := true)
    by_cases hI : isI v = true
    · obtain ⟨n, en⟩ : ∃ n, plc s x r = .at n := by
        cases hp : plc s x r with
        | blank => rw [hp] at pv; obtain rfl : v = .non := pv; exact nomatch hI
        | own ws => rw [hp] at pv; obtain ⟨t, rfl, et⟩ := pv; exact nomatch hI
        | «at» n => exact ⟨n, rfl⟩
      rw [en] at q pv
      obtain rfl : v = .int n := pv
      rw [hI]
      walk_at "go"
      exact q k H (Mv.refl hA)
    · rw [Bool.not_eq_true] at hI
      rw [hI]
      have q : ∀ k' H', Mv A.CR H k s H' k' { cells := s.cells.set s.free.2 (words s.cells (plc s x r)), given := s.given.set s.free.2 (s.givings + 1), givings := s.givings + 1, gs := setAt s.free.1.gs x r (.at s.free.2) } → Q (.int s.free.2) H' := by
        cases hp : plc s x r with
        | blank => rw [hp] at q; exact q
        | own ws => rw [hp] at q; exact q
        | «at» n => rw [hp] at pv; obtain rfl : v = .int n := pv; exact nomatch hI
      obtain ⟨f1, f2, f3, f4, f5, f6⟩ := R.free_ok hA.ok
      have f4' : s.free.2 < s.free.1.cells.length := by rw [f1]; exact f4
      refine no_fld hA (m := "_free_room") (by decide +kernel) (by decide +kernel) (by decide +kernel) (by decide +kernel) fun dx fs e nf => ?_
      walk_at "go"
      refine ⟨k.o, dx, fs, rfl, e, nf, ?_⟩
      walk_at "go"
      refine ⟨k, s, rfl, hA, sm, fun H1 m1 => ?_⟩
      walk_at "go"
      refine no_fld m1.at_ (m := "_words_at") (by decide +kernel) (by decide +kernel) (by decide +kernel) (by decide +kernel) fun dx2 fs2 e2 nf2 => ?_
      refine ⟨k.o, dx2, fs2, rfl, e2, nf2, ?_⟩
      walk_at "go"
      refine ⟨k, s.free.1, plc s x r, v, rfl, m1.at_, pv.keep (m1.ts hA), by rw [f1]; exact pok, fun a ha => ?_⟩
      rw [f1] at ha
      refine r_nil ⟨a, nv (words s.cells (plc s x r)), rfl, ha.elim (fun z => .inr (z.sq T)) fun z => .inl (sqL z), fun l nl => ?_⟩
      have s2 := same_upd (o := .lst (nv (words s.cells (plc s x r)))) nl
      have h2 := m1.at_.same s2
      have el : upd H1 l (.lst (nv (words s.cells (plc s x r)))) l = some (.lst (nv (words s.cells (plc s x r)))) := upd_same
      generalize upd H1 l (.lst (nv (words s.cells (plc s x r)))) = H2 at s2 h2 el ⊢
      walk_at "go"
      refine r_cls h2 T rfl ?_
      walk_at "go"
      refine ⟨k.cl, _, _, s.free.2, rfl, rfl, h2.cl, ixn (by rw [List.length_map, h2.cn]; exact f4'), ?_⟩
      have m2 := m1.trans (h2.freshMv f4' m1.at_ s2 el nl (R.Ok.cell hA.ok.free (n := s.free.2) pok.1 (gv := s.free.1.given) rfl (k := s.free.1.givings)))
      rw [show (k.cs.map V.ref).set s.free.2 (.ref l) = (k.cs.set s.free.2 l).map V.ref from (List.map_set ..).symm]
      generalize upd H2 k.cl (.lst ((k.cs.set s.free.2 l).map V.ref)) = H3 at m2 ⊢
      have ko : k.o = ({ k with cs := k.cs.set s.free.2 l } : Sk).o := rfl
      generalize ({ k with cs := k.cs.set s.free.2 l } : Sk) = k2 at m2 ko ⊢
      have hx2 : x ∈ R.names { s.free.1 with cells := s.free.1.cells.set s.free.2 (words s.cells (plc s x r)) } := by
        show x ∈ s.free.1.names
        rw [names_free]
        exact hx
      obtain ⟨xs2, ps2, v2, eg2, ex2, py2, l82, e12, ev2, pv2, pok2⟩ := at_plc m2.at_ hx2 r8
      have m3 := m2.trans (m2.at_.place (r := r) eg2 ex2 (p := .at s.free.2) (v := .int s.free.2) rfl (R.Ok.setAt m2.at_.ok (PlOk.at_lt m2.at_.ok.eight (show s.free.2 < (s.free.1.cells.set _ _).length by rw [List.length_set]; exact f4'))))
      walk_at "go"
      refine r_gst m2.at_ T (by rw [← ko]; rfl) rfl hx2 ?_
      walk_at "go"
      refine ⟨_, xs2, _, r, rfl, rfl, ex2, ixn (by rw [py2.1]; omega), ?_⟩
      generalize upd H3 (k2.ga x) (.lst (xs2.set r (.int s.free.2))) = H4 at m3 ⊢
      obtain ⟨dx4, fs4, e4, fC4, fV4, fN4, fG4, fl4, fn4⟩ := m3.at_.ob
      have m4 := m3.trans (m3.at_.count (n := s.givings + 1) e4)
      have eN : V.int ((s.free.1.givings : Nat) + 1) = V.int ((s.givings + 1 : Nat)) := by rw [f3]; rfl
      walk_at "go"
      refine ⟨_, rfl, k.o, A.CR, dx4, fs4, _, rfl, by rw [ko]; exact e4, T.cl_Rooms, T.na_givings, fN4, ?_⟩
      refine ⟨_, 1, rfl, rfl, dx4, fs4, by rw [ko]; exact e4, by omega, ?_⟩
      dsimp only
      rw [eN]
      rw [← ko] at m4
      have e5 : upd H4 k.o (.ins A.CR dx4 (putF ("_givings" : Str) (.int ((s.givings + 1 : Nat))) fs4)) k.o = some (.ins A.CR dx4 (putF ("_givings" : Str) (.int ((s.givings + 1 : Nat))) fs4)) := upd_same
      generalize upd H4 k.o (.ins A.CR dx4 (putF ("_givings" : Str) (.int ((s.givings + 1 : Nat))) fs4)) = H5 at m4 e5 ⊢
      obtain ⟨dx5, fs5, e5', fC5, fV5, fN5, fG5, fl5, fn5⟩ := m4.at_.ob
      walk_at "go"
      refine ⟨_, rfl, k.o, A.CR, dx5, fs5, _, rfl, by rw [ko]; exact e5', T.cl_Rooms, T.na_givings, fN5, ?_⟩
      walk_at "go"
      refine r_gvn m4.at_ T (by rw [← ko]; rfl) ?_
      walk_at "go"
      have gl : s.free.1.given.length = s.cells.length := by rw [f2]; exact hA.ok.len
      refine ⟨k2.gv, nv s.free.1.given, _, s.free.2, rfl, rfl, m4.at_.gv, ixn (by rw [nv_len, gl]; exact f4), ?_⟩
      have m5 := m4.trans (m4.at_.given (g := s.free.1.given.set s.free.2 (s.givings + 1)) ⟨by have := m4.at_.ok.len; show (List.set _ _ _).length = _; rw [List.length_set]; exact this, m4.at_.ok.ne, m4.at_.ok.eight, m4.at_.ok.at_, m4.at_.ok.nd⟩)
      have es : (nv s.free.1.given).set s.free.2 (.int ((s.givings + 1 : Nat))) = nv (s.free.1.given.set s.free.2 (s.givings + 1)) := by unfold nv; rw [List.map_set]
      have m5' : Mv A.CR H k s (upd H5 k2.gv (.lst (nv (s.free.1.given.set s.free.2 (s.givings + 1))))) k2 { cells := s.free.1.cells.set s.free.2 (words s.cells (plc s x r)), given := s.free.1.given.set s.free.2 (s.givings + 1), givings := s.givings + 1, gs := setAt s.free.1.gs x r (.at s.free.2) } := m5
      rw [es]
      rw [f1, f2] at m5'
      walk_at "go"
      rw [f2]
      exact q k2 _ m5'
end
end K17

namespace K17
open PySem PySem.Spec PyProof.Rows L2 Bk Rm


theorem Mv.k0 {Cl : Addr} {H H' : Hp} {k k' : Sk} {s s' : R} (m : Mv Cl H k s H' k' s') {i : Nat} {σ : L2.St} (h : σ[i]? = some (some (.ref k.o))) : σ[i]? = some (some (.ref k'.o)) := by rw [m.oo]; exact h
/-- behind brought the place lies in the room -/
theorem plc_brought {s : R} (h : s.Ok) {x : Str} {r : Nat} (hx : x ∈ s.names) (hr : r < 8) : (s.brought x r).2 < (s.brought x r).1.cells.length ∧ (s.brought x r).1.cells.getD (s.brought x r).2 [] = words s.cells (plc s x r) ∧ (s.brought x r).1.names = s.names ∧ (s.brought x r).1.cells.length = s.cells.length := by
  obtain ⟨ps, hp⟩ := getG_some hx
  obtain ⟨t1, l1, k1⟩ := R.brought_told h hp hr
  obtain ⟨p, e1, e2, e3, _⟩ := at_place h hp hr
  have ep : plc s x r = p := e2
  have nm : (s.brought x r).1.names = s.names := by
    have := congrArg (fun l => l.map (·.1)) t1
    unfold told at this
    simp only [List.map_map] at this
    exact this
  have pl : ((getG s.gs x).getD [])[r]?.getD .blank = plc s x r := rfl
  obtain ⟨f1, f2, f3, f4, f5, f6⟩ := R.free_ok h
  refine ⟨by rw [k1]; exact l1, ?_, nm, k1⟩
  unfold R.brought
  rw [pl]
  cases hc : plc s x r with
  | «at» n => rfl
  | blank =>
    show (s.cells.set s.free.2 (words s.cells .blank)).getD s.free.2 [] = _
    rw [List.getD_eq_getElem?_getD, List.getElem?_set_self f4]
    rfl
  | own ws =>
    show (s.cells.set s.free.2 (words s.cells (.own ws))).getD s.free.2 [] = _
    rw [List.getD_eq_getElem?_getD, List.getElem?_set_self f4]
    rfl
section
variable {P : Program} {w : World} {K : PySem.W.Frag} {mg : Str → Option Value} {base : Heap} {A : Ad}
theorem ok_read {f : Addr} {fd : FuncData} (F : Fun K "read_cell" "Rooms.read_cell" s_Rooms_read_cell f fd) (T : Txt K mg A) (c_check_number : CalX P w K mg base 4 "check_number" spCkN) (c_Rooms_check_guest : CalM P w K mg base (L2.CX P w) 4 A.CR "_check_guest" (spCkG A)) (c_Rooms_brought : CalM P w K mg base (L2.CX P w) 8 A.CR "_brought" (spBrought A)) : FnOk P w K mg base (L2.CX P w) 9 f fd ["self", "name", "room", "cell"] (spRead A) := by
  refine F.okX sc_Rooms_read_cell (fun vs H Q E h => ?_) (fun cdv A' outer s H vs Q E hr h => have hu := units1 hr; ⟨_, (pss_cons (ps_expr (pe_mth (pv 0) T.cl_Rooms c_Rooms_check_guest hr (by decide) (psX (takes_of rfl rfl rfl rfl)) (pa_cons (pv 1) pa_nil)))
    (pss_cons (ps_expr (pe_calX c_check_number hr (by decide) (by rfl) (takes_of rfl rfl rfl rfl) (pa_cons (pv 2) (pa_cons pe_int (pa_cons pe_int pa_nil)))))
    (pss_cons (ps_expr (pe_calX c_check_number hr (by decide) (by rfl) (takes_of rfl rfl rfl rfl) (pa_cons (pv 3) (pa_cons pe_int (pa_cons pe_int pa_nil)))))
    (pss_cons (ps_if (pt_cmpR op_isN (pe_ix ix_list (pe_dget hu (pe_fld (pv 0) rfl) (pv 1) (fun _ _ => rfl)) (pv 2) (fun _ _ => rfl)) pe_non (nomark _)) (pss_one (ps_ret pe_int)) pss_nil)
    (pss_one (ps_ret (pe_ix ix_list (pe_ix ix_list (pe_fld (pv 0) rfl) (pe_mth (pv 0) T.cl_Rooms c_Rooms_brought hr (by decide) (psX (takes_of rfl rfl rfl rfl)) (pa_cons (pv 1) (pa_cons (pv 2) pa_nil))) (fun _ _ => rfl)) (pv 3) (fun _ _ => rfl)))))))), ?_⟩)
  · obtain ⟨k, s, x, r, c, rfl, _⟩ := h
    rfl
  · obtain ⟨k, s, x, r, c, rfl, hA, sm, hx, r8, c8, q⟩ := h
    refine no_fld hA (m := "_check_guest") (by decide +kernel) (by decide +kernel) (by decide +kernel) (by decide +kernel) fun dx fs e nf => ?_
    walk_at "go"
    refine ⟨k.o, dx, fs, rfl, e, nf, ?_⟩
    walk_at "go"
    refine ⟨k, s, x, rfl, hA, sm.nm x hx, hx, fun H1 s1 => ?_⟩
    have h1 := hA.same s1
    walk_at "go"
    refine ⟨r, 0, 7, rfl, by omega, by omega, ?_⟩
    walk_at "go"
    refine ⟨c, 0, 7, rfl, by omega, by omega, ?_⟩
    obtain ⟨xs, ps, v, eg, ex, py, l8, e1, ev, pv, pok⟩ := at_plc h1 hx r8
    walk_at "go"
    refine r_gst h1 T rfl rfl hx ?_
    walk_at "go"
    refine r_ixL (sqL ex) (v := v) (atI_nat ev) ?_
    walk_at "go"
    refine ⟨rfl, _, rfl, ?_⟩
    by_cases hb : plc s x r = .blank
    · rw [hb] at pv
      obtain rfl : v = .non := pv
      rw [show decide (V.non = V.non) = true from decide_eq_true rfl]
      walk_at "go"
      have er : R.read s x r = s := by unfold R.read; rw [hb]
      have ez : (words s.cells (plc s x r)).getD c 0 = 0 := by
        rw [hb]
        exact (by decide : ∀ c, c < 8 → zeros.getD c 0 = 0) c c8
      rw [er, ez] at q
      exact q k H1 (Mv.same hA s1)
    · rw [show decide (v = V.non) = false from decide_eq_false fun z => hb (by
        cases hp : plc s x r with
        | blank => rfl
        | own ws => rw [hp] at pv; obtain ⟨t, rfl, _⟩ := pv; exact nomatch z
        | «at» n => rw [hp] at pv; obtain rfl : v = .int n := pv; exact nomatch z)]
      walk_at "go"
      have er : R.read s x r = (s.brought x r).1 := by
        unfold R.read
        cases hp : plc s x r with
        | blank => exact absurd hp hb
        | own ws => rfl
        | «at» n => rfl
      rw [er] at q
      obtain ⟨b1, b2, b3, b4⟩ := plc_brought hA.ok hx r8
      refine r_cls h1 T rfl ?_
      refine no_fld h1 (m := "_brought") (by decide +kernel) (by decide +kernel) (by decide +kernel) (by decide +kernel) fun dx1 fs1 e1 nf1 => ?_
      walk_at "go"
      refine ⟨k.o, dx1, fs1, rfl, e1, nf1, ?_⟩
      walk_at "go"
      refine ⟨k, s, x, r, rfl, h1, sm, hx, r8, fun k2 H2 m2 => ?_⟩
      have lc : (s.brought x r).2 < k2.cs.length := by rw [m2.at_.cn]; exact b1
      have ec := List.getElem?_eq_getElem lc
      have scl : SqL K H2 k.cl (k2.cs.map V.ref) := by rw [← m2.cc]; exact sqL m2.at_.cl
      refine r_ixL scl (v := .ref k2.cs[(s.brought x r).2]) (atI_nat (by rw [List.getElem?_map, ec]; rfl)) ?_
      walk_at "go"
      have el := m2.at_.cx _ _ ec
      rw [b2] at el
      have lw : c < (words s.cells (plc s x r)).length := by rw [pok.1]; exact c8
      refine r_ixL (sqL el) (v := .int ((words s.cells (plc s x r)).getD c 0)) (atI_nat (nv_at (by rw [List.getD_eq_getElem?_getD, List.getElem?_eq_getElem lw]; rfl))) ?_
      exact q k2 H2 ((Mv.same hA s1).trans m2)
theorem ok_write {f : Addr} {fd : FuncData} (F : Fun K "write_cell" "Rooms.write_cell" s_Rooms_write_cell f fd) (T : Txt K mg A) (c_check_number : CalX P w K mg base 4 "check_number" spCkN) (c_check_word : CalX P w K mg base 4 "check_word" spCkW) (c_Rooms_check_guest : CalM P w K mg base (L2.CX P w) 4 A.CR "_check_guest" (spCkG A)) (c_Rooms_brought : CalM P w K mg base (L2.CX P w) 8 A.CR "_brought" (spBrought A))
    (c_Rooms_lying : CalM P w K mg base (L2.CX P w) 5 A.CR "lying" (spLying A)) : FnOk P w K mg base (L2.CX P w) 9 f fd ["self", "name", "room", "cell", "word"] (spWrite A) := by
  refine F.okX sc_Rooms_write_cell (fun vs H Q E h => ?_) (fun cdv A' outer s H vs Q E hr h => have hu := units1 hr; ⟨_, (pss_cons (ps_expr (pe_mth (pv 0) T.cl_Rooms c_Rooms_check_guest hr (by decide) (psX (takes_of rfl rfl rfl rfl)) (pa_cons (pv 1) pa_nil)))
    (pss_cons (ps_expr (pe_calX c_check_number hr (by decide) (by rfl) (takes_of rfl rfl rfl rfl) (pa_cons (pv 2) (pa_cons pe_int (pa_cons pe_int pa_nil)))))
    (pss_cons (ps_expr (pe_calX c_check_number hr (by decide) (by rfl) (takes_of rfl rfl rfl rfl) (pa_cons (pv 3) (pa_cons pe_int (pa_cons pe_int pa_nil)))))
    (pss_cons (ps_expr (pe_calX c_check_word hr (by decide) (by rfl) (takes_of rfl rfl rfl rfl) (pa_cons (pv 4) pa_nil)))
    (pss_cons (ps_set (i := 5) sc_Rooms_write_cell.nd rfl (.inl rfl) (pe_mth (pv 0) T.cl_Rooms c_Rooms_brought hr (by decide) (psX (takes_of rfl rfl rfl rfl)) (pa_cons (pv 1) (pa_cons (pv 2) pa_nil))))
    (C8.pss_cut (ps_if (pt_cmpR op_gt (pe_callB call_len_seq (by rfl) T.m_len (by decide +kernel) (pa_cons (pe_mth (pv 0) T.cl_Rooms c_Rooms_lying hr (by decide) (psX (takes_of rfl rfl rfl rfl)) (pa_cons (pv 5) pa_nil)) pa_nil)) pe_int (nomark _)) (pss_cons (ps_asg (pe_callTy call_tuple_of (by rfl) T.m_tuple (by decide +kernel) (pa_cons (pe_ix ix_list (pe_fld (pv 0) rfl) (pv 5) (fun _ _ => rfl)) pa_nil)) (pg_sub (pe_dget hu (pe_fld (pv 0) rfl) (pv 1) (fun _ _ => rfl)) (pv 2) set_list))
    (pss_one (ps_set (i := 5) sc_Rooms_write_cell.nd rfl (.inl rfl) (pe_mth (pv 0) T.cl_Rooms c_Rooms_brought hr (by decide) (psX (takes_of rfl rfl rfl rfl)) (pa_cons (pv 1) (pa_cons (pv 2) pa_nil)))))) pss_nil)
    (pss_one (ps_asg (pv 4) (pg_sub (pe_ix ix_list (pe_fld (pv 0) rfl) (pv 5) (fun _ _ => rfl)) (pv 3) set_list))))))))), ?_⟩)
  · obtain ⟨k, s, x, r, c, w, rfl, _⟩ := h
    rfl
  · obtain ⟨k, s, x, r, c, w, rfl, hA, sm, hx, r8, c8, w12, q⟩ := h
    refine no_fld hA (m := "_check_guest") (by decide +kernel) (by decide +kernel) (by decide +kernel) (by decide +kernel) fun dx fs e nf => ?_
    walk_at "go"
    refine ⟨k.o, dx, fs, rfl, e, nf, ?_⟩
    walk_at "go"
    refine ⟨k, s, x, rfl, hA, sm.nm x hx, hx, fun H1 s1 => ?_⟩
    have h1 := hA.same s1
    walk_at "go"
    refine ⟨r, 0, 7, rfl, by omega, by omega, ?_⟩
    walk_at "go"
    refine ⟨c, 0, 7, rfl, by omega, by omega, ?_⟩
    walk_at "go"
    refine ⟨w, rfl, by omega, by omega, ?_⟩
    refine no_fld h1 (m := "_brought") (by decide +kernel) (by decide +kernel) (by decide +kernel) (by decide +kernel) fun dx1 fs1 e1 nf1 => ?_
    walk_at "go"
    refine ⟨k.o, dx1, fs1, rfl, e1, nf1, ?_⟩
    walk_at "go"
    refine ⟨k, s, x, r, rfl, h1, sm, hx, r8, fun k2 H2 m2 => ?_⟩
    walk_at "go"
    obtain ⟨b1, b2, b3, b4⟩ := plc_brought hA.ok hx r8
    have sm2 : Sm (s.brought x r).1 := sm.of b3 b4
    have mm := (Mv.same hA s1).trans m2
    refine r_cut (fun σ G => ∃ k3 b, σ = [some (.ref k.o), some (.str x), some (.int r), some (.int c), some (.int w), some (.int (b : R × Nat).2)] ∧ Mv A.CR H k s G k3 b.1 ∧ b.2 < b.1.cells.length ∧ b = (if 1 < (lying (s.brought x r).1.gs (s.brought x r).2).length then R.brought { (s.brought x r).1 with gs := setAt (s.brought x r).1.gs x r (.own ((s.brought x r).1.cells.getD (s.brought x r).2 [])) } x r else s.brought x r)) ?_ ?_
    · refine no_fld m2.at_ (m := "lying") (by decide +kernel) (by decide +kernel) (by decide +kernel) (by decide +kernel) fun dx2 fs2 e2 nf2 => ?_
      walk_at "go"
      refine ⟨k.o, dx2, fs2, rfl, by rw [← m2.oo]; exact e2, nf2, ?_⟩
      walk_at "go"
      refine ⟨k2, (s.brought x r).1, (s.brought x r).2, by rw [m2.oo], m2.at_, sm2, b1, fun D xs H3 nD s3 ex all => ?_⟩
      refine r_nil ⟨D, xs, rfl, .inl (sqL ex), ?_⟩
      rw [all.1]
      walk_at "go"
      have h3 := m2.at_.same s3
      by_cases hm : 1 < (lying (s.brought x r).1.gs (s.brought x r).2).length
      · rw [decide_eq_true (by omega : (1 : Int) < ((lying (s.brought x r).1.gs (s.brought x r).2).length : Nat))]
        obtain ⟨_, _, _, _, _, _, _, _, _, _, pok⟩ := at_plc hA hx r8
        have hx' : x ∈ (s.brought x r).1.names := by rw [b3]; exact hx
        have lc : (s.brought x r).2 < k2.cs.length := by rw [m2.at_.cn]; exact b1
        have ec := List.getElem?_eq_getElem lc
        have el := h3.cx _ _ ec
        have w8 : ((s.brought x r).1.cells.getD (s.brought x r).2 []).length = 8 := by rw [b2]; exact pok.1
        walk_at "go"
        refine r_cls h3 T (Mv.k0 m2 rfl) ?_
        walk_at "go"
        refine r_ixL (sqL h3.cl) (v := .ref k2.cs[(s.brought x r).2]) (atI_nat (by rw [List.getElem?_map, ec]; rfl)) ?_
        refine r_nil ⟨_, _, rfl, .inl ⟨sqL el, fun t nt => ?_⟩⟩
        have s4 := same_upd (o := .tup (nv ((s.brought x r).1.cells.getD (s.brought x r).2 []))) nt
        have et : upd H3 t (.tup (nv ((s.brought x r).1.cells.getD (s.brought x r).2 []))) t = some (.tup (nv ((s.brought x r).1.cells.getD (s.brought x r).2 []))) := upd_same
        generalize upd H3 t (.tup (nv ((s.brought x r).1.cells.getD (s.brought x r).2 []))) = H4 at s4 et ⊢
        have h4 := h3.same s4
        obtain ⟨ys, ps4, v4, eg4, ey4, py4, _, _, _, _, _⟩ := at_plc h4 hx' r8
        have m5 := (mm.same' (s3.trans s4)).trans (h4.place (r := r) eg4 ey4 (p := .own ((s.brought x r).1.cells.getD (s.brought x r).2 [])) (v := .ref t) ⟨t, rfl, et⟩ (R.Ok.setAt h4.ok (PlOk.own w8)))
        walk_at "go"
        refine r_gst h4 T (Mv.k0 m2 rfl) rfl hx' ?_
        walk_at "go"
        refine ⟨_, ys, _, r, rfl, rfl, ey4, ixn (by rw [py4.1]; omega), ?_⟩
        generalize upd H4 (k2.ga x) (.lst (ys.set r (.ref t))) = H5 at m5 ⊢
        have hx5 : x ∈ R.names { (s.brought x r).1 with gs := setAt (s.brought x r).1.gs x r (.own ((s.brought x r).1.cells.getD (s.brought x r).2 [])) } := by rw [names_setAt']; exact hx'
        have sm5 : Sm { (s.brought x r).1 with gs := setAt (s.brought x r).1.gs x r (.own ((s.brought x r).1.cells.getD (s.brought x r).2 [])) } := sm2.of names_setAt' rfl
        refine no_fld m5.at_ (m := "_brought") (by decide +kernel) (by decide +kernel) (by decide +kernel) (by decide +kernel) fun dx5 fs5 e5 nf5 => ?_
        walk_at "go"
        refine ⟨k.o, dx5, fs5, rfl, by rw [← m5.oo]; exact e5, nf5, ?_⟩
        walk_at "go"
        refine ⟨k2, _, x, r, by rw [m5.oo], m5.at_, sm5, hx5, r8, fun k6 H6 m6 => ?_⟩
        walk_at "go"
        refine ⟨k6, _, rfl, m5.trans m6, (plc_brought m5.at_.ok hx5 r8).1, ?_⟩
        rw [if_pos hm]
      · rw [decide_eq_false (by omega : ¬ (1 : Int) < ((lying (s.brought x r).1.gs (s.brought x r).2).length : Nat))]
        walk_at "go"
        refine ⟨k2, s.brought x r, rfl, mm.same' s3, b1, ?_⟩
        rw [if_neg hm]
    · rintro σ' G ⟨k3, b, rfl, m3, lb, eb⟩
      have lc : b.2 < k3.cs.length := by rw [m3.at_.cn]; exact lb
      have ec := List.getElem?_eq_getElem lc
      have w8 : (b.1.cells.getD b.2 []).length = 8 := by
        rw [List.getD_eq_getElem?_getD, List.getElem?_eq_getElem lb]
        exact m3.at_.ok.eight _ (List.getElem_mem lb)
      walk_at "go"
      refine r_cls m3.at_ T (Mv.k0 m3 rfl) ?_
      walk_at "go"
      refine r_ixL (sqL m3.at_.cl) (v := .ref k3.cs[b.2]) (atI_nat (by rw [List.getElem?_map, ec]; rfl)) ?_
      walk_at "go"
      refine ⟨_, nv (b.1.cells.getD b.2 []), _, c, rfl, rfl, m3.at_.cx _ _ ec, ixn (by rw [nv_len]; omega), ?_⟩
      have es : (nv (b.1.cells.getD b.2 [])).set c (.int w) = nv ((b.1.cells.getD b.2 []).set c w) := by unfold nv; rw [List.map_set]
      rw [es]
      have ew : s.write x r c w = { b.1 with cells := b.1.cells.set b.2 ((b.1.cells.getD b.2 []).set c w) } := by
        rw [eb]
        rfl
      rw [ew] at q
      exact q k3 _ (m3.trans (m3.at_.cell ec (R.Ok.cell m3.at_.ok (by rw [List.length_set]; exact w8) rfl)))
end
end K17

namespace K17
open PySem PySem.Spec PyProof.Rows L2 Bk Rm


section
variable {P : Program} {w : World} {K : PySem.W.Frag} {mg : Str → Option Value} {base : Heap} {A : Ad}
theorem ok_come {f : Addr} {fd fdI fdN fdD fdF : FuncData} (F : Fun K "come" "Rooms.come" s_Rooms_come f fd) (T : Txt K mg A) (c_is_name : CalD P w K mg base CX0 2 "is_name" (spName K) []) (c_is_eight : CalD P w K mg base CX0 4 "is_eight" (spEight A) []) (c_places : CalD P w K mg base CX0 1 "_places" (spPlaces A) [])
    (c_NoImage_init : Own P w K mg base CX0 2 A.fI fdI ["self", "found"] (spInitN "found" A.CI)) (c_NoName_init : Own P w K mg base CX0 2 A.fN fdN ["self", "found"] (spInitN "found" A.CN)) (c_Doubled_init : Own P w K mg base CX0 2 A.fD fdD ["self", "found"] (spInitN "found" A.CD)) (c_Full_init : Own P w K mg base CX0 2 A.fF fdF ["self", "many"] (spInitN "many" A.CF)) : FnOk P w K mg base (L2.CX P w) 5 f fd ["self", "name", "rooms"] (spCome A) := by
  refine F.okX sc_Rooms_come (fun vs H Q E h => ?_) (fun cdv A' outer s H vs Q E hr h => have hu := units1 hr; ⟨_, (pss_cons (ps_if (pt_not (pt_val (pe_cal c_is_name hr (by decide) (by rfl) (pa_cons (pv 1) pa_nil)))) (pss_one (ps_raise rfl (takes_of rfl rfl rfl rfl) (pmk_oexT T.ox_NoName T.i_NoName T.t_NoName c_NoName_init.ok (hr.mono (by decide)) c_NoName_init.bd .nil pass0 (by rfl) T.g_NoName (pa_cons (pv 1) pa_nil)))) pss_nil)
    (pss_cons (ps_if (pt_not (pt_val (pe_cal c_is_eight hr (by decide) (by rfl) (pa_cons (pv 2) pa_nil)))) (pss_one (ps_raise rfl (takes_of rfl rfl rfl rfl) (pmk_oexT T.ox_NoImage T.i_NoImage T.t_NoImage c_NoImage_init.ok (hr.mono (by decide)) c_NoImage_init.bd .nil pass0 (by rfl) T.g_NoImage (pa_cons (pv 2) pa_nil)))) pss_nil)
    (pss_cons (ps_if (pt_cmp (pc_din hu (pv 1) (pe_fld (pv 0) rfl))) (pss_one (ps_raise rfl (takes_of rfl rfl rfl rfl) (pmk_oexT T.ox_Doubled T.i_Doubled T.t_Doubled c_Doubled_init.ok (hr.mono (by decide)) c_Doubled_init.bd .nil pass0 (by rfl) T.g_Doubled (pa_cons (pv 1) pa_nil)))) pss_nil)
    (pss_cons (ps_if (pt_cmpR op_eq (pe_callB call_lenD (by rfl) T.m_len (by decide +kernel) (pa_cons (pe_fld (pv 0) rfl) pa_nil)) (C8.pe_gc (by rfl) T.c_MOST_GUESTS) (nomark _)) (pss_one (ps_raise rfl (takes_of rfl rfl rfl rfl) (pmk_oexT T.ox_Full T.i_Full T.t_Full c_Full_init.ok (hr.mono (by decide)) c_Full_init.bd .nil pass0 (by rfl) T.g_Full (pa_cons (C8.pe_gc (by rfl) T.c_MOST_GUESTS) pa_nil)))) pss_nil)
    (pss_one (ps_asg (pe_cal c_places hr (by decide) (by rfl) (pa_cons (pv 2) pa_nil)) (pg_sub (pe_fld (pv 0) rfl) (pv 1) (set_dict hu)))))))), ?_⟩)
  · obtain ⟨k, s, x, a, rows, rfl, _⟩ := h
    rfl
  · obtain ⟨k, s, x, a, rows, rfl, hA, hz, hx, h6, h8, ok, q⟩ := h
    walk_at "go"
    refine ⟨_, rfl, .inl ⟨x, rfl, by have := (len_of_name hz).2; omega, fun H1 s1 => ?_⟩⟩
    rw [hz]
    walk_at "go"
    refine ⟨a, rows, rfl, h8.keep (Same.ts s1), ok, fun H2 s2 => ?_⟩
    have s12 := s1.trans s2
    have h2 := hA.same s12
    walk_at "go"
    obtain ⟨dx, fs, e, fC, fV, fN, fG, fl, fn⟩ := h2.ob
    refine ⟨_, rfl, _, rfl, k.o, A.CR, dx, fs, _, rfl, e, T.cl_Rooms, T.na_guests, fG, k.gd, none, rfl, .inl ⟨_, .inr x, .inl h2.gd, rfl, by rw [dicF_get, if_neg hx]⟩, _, rfl, ?_⟩
    walk_at "go"
    refine ⟨_, rfl, k.o, A.CR, dx, fs, _, rfl, e, T.cl_Rooms, T.na_guests, fG, ?_⟩
    walk_at "go"
    refine ⟨k.gd, _, rfl, h2.gd, ?_⟩
    rw [dicF_len]
    walk_at "go"
    rw [decide_eq_false (fun z => by injection z with z; omega : ¬ V.int (s.names.length : Nat) = V.int 6)]
    walk_at "go"
    refine ⟨a, rows, rfl, h8.keep (Same.ts s12), ok, fun p xs H3 np s3 ep pv => ?_⟩
    have h3 := h2.same s3
    walk_at "go"
    refine r_gds h3 T rfl ?_
    walk_at "go"
    refine ⟨k.gd, _, rfl, .inl ⟨_, .inr x, h3.gd, rfl, by rw [dicF_len, sizeLine_eq]; omega, rfl⟩, ?_⟩
    exact q _ _ ((Mv.same hA s12).trans (h3.come h2 s3 np ep pv hx (R.come_ok hA.ok ok.l8 ok.e8 (getG_none.mpr hx)).1))
end
end K17

namespace K17
open PySem PySem.Spec PyProof.Rows L2 Bk Rm


/-- a row of words as a key -/
def keyT (ws : List Nat) : List Key := ws.map fun (w : Nat) => (Sum.inl (w : Int) : Key)
theorem keyT_kV (ws : List Nat) : (keyT ws).map kV = nv ws := by
  unfold keyT nv
  rw [List.map_map]
  rfl
theorem keyT_inj : ∀ {a b : List Nat}, keyT a = keyT b → a = b
  | [], [], _ => rfl
  | [], _ :: _, h => nomatch h
  | _ :: _, [], h => nomatch h
  | x :: a, y :: b, h => by
    have h : (Sum.inl (x : Int) : Key) :: keyT a = (Sum.inl (y : Int) : Key) :: keyT b := h
    injection h with h1 h2
    injection h1 with h1
    rw [keyT_inj h2, Int.ofNat.inj h1]
def fstD (fs : List (List Nat × Nat)) : List (List Key × V) := fs.map fun e => (keyT e.1, .int e.2)
theorem fstD_get {ws : List Nat} : ∀ {fs : List (List Nat × Nat)}, valV (fstD fs) (keyT ws) = (fs.find? fun e => decide (e.1 = ws)).map fun e => V.int e.2
  | [] => rfl
  | e :: fs => by
    unfold fstD
    rw [List.map_cons, List.find?_cons]
    by_cases h : e.1 = ws
    · rw [valV_pos (by show keyT e.1 = keyT ws; rw [h]), decide_eq_true h]
      rfl
    · rw [valV_neg (fun z => h (keyT_inj z)), decide_eq_false h]
      exact fstD_get
theorem own_names {k : Sk} {s s' : R} (e : s'.names = s.names) {b : Addr} : own k s' b ↔ own k s b := by
  unfold own
  rw [e]
section
variable {P : Program} {w : World} {K : PySem.W.Frag} {mg : Str → Option Value} {base : Heap} {A : Ad}
theorem ok_share {f : Addr} {fd : FuncData} (F : Fun K "share" "Rooms.share" s_Rooms_share f fd) (T : Txt K mg A) (c_Rooms_in_use : CalM P w K mg base CX0 1 A.CR "in_use" (spInUse A)) (c_Rooms_put : CalM P w K mg base (L2.CX P w) 6 A.CR "_put" (spPut A)) : FnOk P w K mg base (L2.CX P w) 7 f fd ["self"] (spShare A) := by
  refine F.okX sc_Rooms_share (fun vs H Q E h => ?_) (fun cdv A' outer s H vs Q E hr h => have hu := units1 hr; ⟨_, (pss_cons (ps_set (i := 1) sc_Rooms_share.nd rfl (.inl rfl) pe_dnewT)
    (pss_cons (ps_set (i := 2) sc_Rooms_share.nd rfl (.inl rfl) pe_int)
    (pss_cons (ps_for (passes_of rfl) rfl (pi_list (pe_mth0 (pv 0) T.cl_Rooms c_Rooms_in_use hr (by decide) ps0)) (pg_name (i := 3) sc_Rooms_share.nd rfl (.inl rfl))
      (pss_cons (ps_set (i := 4) sc_Rooms_share.nd rfl (.inl rfl) (pe_callTy call_tuple_of (by rfl) T.m_tuple (by decide +kernel) (pa_cons (pe_ix ix_list (pe_fld (pv 0) rfl) (pv 3) (fun _ _ => rfl)) pa_nil)))
    (pss_one (ps_if (pt_cmp (pc_din hu (pv 4) (pv 1))) (pss_cons (ps_expr (pe_mth (pv 0) T.cl_Rooms c_Rooms_put hr (by decide) (psX (takes_of rfl rfl rfl rfl)) (pa_cons (pv 3) (pa_cons (pe_dget hu (pv 1) (pv 4) (fun _ _ => rfl)) pa_nil))))
    (pss_one (ps_aug (i := 2) sc_Rooms_share.nd rfl (.inl rfl) pe_int ip_add))) (pss_one (ps_asg (pv 3) (pg_sub (pv 1) (pv 4) (set_dict hu))))))))
    (pss_one (ps_ret (pv 2)))))), ?_⟩)
  · obtain ⟨k, s, rfl, _⟩ := h
    rfl
  · obtain ⟨k, s, rfl, hA, sm, q⟩ := h
    walk_at "go"
    intro d nd
    have s1 := same_upd (o := .dT []) nd
    have e1 : upd H d (.dT []) d = some (.dT []) := upd_same
    show tSeq _ _ _ _ (upd H d (.dT []))
    generalize upd H d (.dT []) = H1 at s1 e1 ⊢
    have h1 := hA.same s1
    have dn : ¬ own k s d := hA.none nd
    refine no_fld h1 (m := "in_use") (by decide +kernel) (by decide +kernel) (by decide +kernel) (by decide +kernel) fun dx fs e nf => ?_
    walk_at "go"
    refine ⟨k.o, dx, fs, rfl, e, nf, ?_⟩
    walk_at "go"
    refine ⟨k, s, rfl, h1, sm, fun u H2 nu s2 eu => ?_⟩
    have h2 := h1.same s2
    have un : ¬ own k s u := h1.none nu
    have nud : u ≠ d := fun z => by rw [z, e1] at nu; exact nomatch nu
    refine ⟨u, rfl, ⟨_, SqL.of eu⟩, for_it (walk_list (xs := nv (inUse s))) (fun i σ G => ∃ gs fs m x3 x4, σ = [some (.ref k.o), some (.ref d), some (.int (m : Nat)), x3, x4] ∧ At A.CR G k { s with gs := gs } ∧ R.names { s with gs := gs } = s.names ∧ (∀ b u, ¬ own k s b → b ≠ d → H2 b = some u → G b = some u) ∧ G d = some (.dT (fstD fs)) ∧ fs.length ≤ i ∧ (∀ e ∈ fs, e.2 < s.cells.length) ∧ shareGo s.cells ((inUse s).drop i) gs fs m = shareGo s.cells (inUse s) s.gs [] 0)
      ⟨s.gs, [], 0, _, _, rfl, h2, rfl, fun _ _ _ _ z => z, s2 _ _ e1, Nat.le_refl _, (fun _ z => (nomatch z)), rfl⟩ (fun i σ G _ h => ?_) (fun i yv σ G G2 hi hP hY => ?_) (fun σ G hP => ?_)⟩
    · obtain ⟨gs, fs, m, x3, x4, rfl, hG, nm, fr, _⟩ := h
      exact SqL.of (fr _ _ un nud eu)
    · obtain ⟨gs, fs, m, x3, x4, rfl, hG, nm, fr, ed, fl, flt, sg⟩ := hP
      obtain ⟨rfl, hy⟩ := hY
      obtain ⟨n, en, rfl⟩ := at_nv hy
      have mn := List.mem_of_getElem? en
      have ln : n < s.cells.length := List.mem_range.mp (List.mem_filter.mp mn).1
      have lc : n < k.cs.length := by rw [hA.cn]; exact ln
      have ec := List.getElem?_eq_getElem lc
      obtain ⟨li, ei⟩ := List.getElem?_eq_some_iff.mp en
      rw [List.drop_eq_getElem_cons li, ei] at sg
      have sg : (match fs.find? fun e => decide (e.1 = s.cells.getD n []) with | some e => shareGo s.cells ((inUse s).drop (i + 1)) (put gs n (.at e.2)) fs (m + 1) | none => shareGo s.cells ((inUse s).drop (i + 1)) gs (fs ++ [(s.cells.getD n [], n)]) m) = shareGo s.cells (inUse s) s.gs [] 0 := sg
      walk_at "go"
      refine r_cls hG T rfl ?_
      walk_at "go"
      refine r_ixL (sqL hG.cl) (v := .ref k.cs[n]) (atI_nat (by rw [List.getElem?_map, ec]; rfl)) ?_
      refine r_nil ⟨_, _, rfl, .inl ⟨sqL (hG.cx _ _ ec), fun t nt => ?_⟩⟩
      show gName _ _ _ (upd G2 t (.tup (nv (s.cells.getD n [])))) _
      have s3 := same_upd (o := .tup (nv (s.cells.getD n []))) nt
      have et : upd G2 t (.tup (nv (s.cells.getD n []))) t = some (.tup (nv (s.cells.getD n []))) := upd_same
      generalize upd G2 t (.tup (nv (s.cells.getD n []))) = G3 at s3 et ⊢
      generalize s.cells.getD n [] = ws at sg et ⊢
      have h3 := hG.same s3
      have ed3 := s3 _ _ ed
      have sm' : Sm { s with gs := gs } := sm.of nm rfl
      have dn' : ¬ own k { s with gs := gs } d := fun z => dn ((own_names nm).mp z)
      walk_at "go"
      refine ⟨_, rfl, _, rfl, d, _, rfl, .inr ⟨fstD fs, keyT ws, t, .inl ed3, rfl, by rw [keyT_kV]; exact et, rfl⟩, _, rfl, ?_⟩
      rw [fstD_get]
      cases hf : fs.find? fun e => decide (e.1 = ws) with
      | some e =>
        rw [hf] at sg
        have me := List.mem_of_find?_eq_some hf
        refine no_fld h3 (m := "_put") (by decide +kernel) (by decide +kernel) (by decide +kernel) (by decide +kernel) fun dx2 fs2 e2 nf2 => ?_
        rw [show (Option.map (fun e : List Nat × Nat => V.int e.2) (some e)).isSome = true from rfl]
        walk_at "go"
        refine ⟨k.o, dx2, fs2, rfl, e2, nf2, ?_⟩
        walk_at "go"
        refine ⟨_, rfl, _, rfl, d, .int e.2, rfl, .inr ⟨fstD fs, keyT ws, t, .inl ed3, rfl, by rw [keyT_kV]; exact et, by rw [fstD_get, hf]; rfl⟩, ?_⟩
        walk_at "go"
        refine ⟨k, _, n, .at e.2, .int e.2, rfl, h3, sm', ln, rfl, PlOk.at_lt h3.ok.eight (flt e me), fun H4 mv => ?_⟩
        show tAug _ _ _ _ _ H4
        refine ⟨_, rfl, _, _, rfl, rfl, ?_⟩
        exact ⟨put gs n (.at e.2), fs, m + 1, _, _, rfl, mv.at_, names_put'.trans nm, fun b u nb nd2 eb => mv.fr _ _ (fun z => nb ((own_names nm).mp z)) (s3 _ _ (fr b u nb nd2 eb)), mv.fr _ _ dn' ed3, Nat.le_succ_of_le fl, flt, sg⟩
      | none =>
        rw [hf] at sg
        rw [show (Option.map (fun e : List Nat × Nat => V.int e.2) none).isSome = false from rfl]
        walk_at "go"
        have l64 : (fstD fs).length < sizeLine := by
          unfold fstD
          have := sm.c64
          have hu : (inUse s).length ≤ s.cells.length := by
            unfold inUse
            exact Nat.le_trans (List.length_filter_le _ _) (Nat.le_of_eq List.length_range)
          rw [List.length_map, sizeLine_eq]
          omega
        refine ⟨d, _, rfl, .inr ⟨fstD fs, keyT ws, t, ed3, rfl, by rw [keyT_kV]; exact et, l64, rfl⟩, ?_⟩
        have ep : putK (fstD fs) (keyT ws) (.int n) = fstD (fs ++ [(ws, n)]) := by
          rw [putK_new _ (by rw [fstD_get, hf]; rfl)]
          unfold fstD
          rw [List.map_append]
          rfl
        rw [ep]
        have h4 : At A.CR (upd G3 d (.dT (fstD (fs ++ [(ws, n)])))) k { s with gs := gs } := h3.keep (fun b u o eb => by rw [upd_ne fun z => dn' (by rw [← z]; exact o)]; exact eb) fun a xs ea => by rw [upd_ne fun z => by rw [z, ed3] at ea; exact nomatch ea]; exact ea
        refine ⟨gs, fs ++ [(ws, n)], m, _, _, rfl, h4, nm, fun b u nb nd2 eb => by rw [upd_ne nd2]; exact s3 _ _ (fr b u nb nd2 eb), upd_same, by rw [List.length_append, List.length_singleton]; omega, fun e he => ?_, sg⟩
        rcases List.mem_append.mp he with z | z
        · exact flt e z
        · rw [List.mem_singleton.mp z]
          exact ln
    · obtain ⟨gs, fs, m, x3, x4, rfl, hG, nm, fr, ed, fl, flt, sg⟩ := hP
      have nl : (nv (inUse s)).length = (inUse s).length := nv_len
      rw [nl, List.drop_length] at sg
      have sg : (gs, m) = shareGo s.cells (inUse s) s.gs [] 0 := sg
      walk_at "go"
      unfold R.share at q
      dsimp only at q
      rw [← sg] at q
      refine q G ⟨hG, fun b u nb eb => ?_, fun b z => .inl ((own_names nm).mp z), rfl, rfl⟩
      exact fr b u nb (fun z => by rw [z, nd] at eb; exact nomatch eb) (s2 _ _ (s1 _ _ eb))
end
end K17

namespace K17
open PySem PySem.Spec PyProof.Rows L2 Bk Rm


/-- a comprehension over range(i), i a variable: item k is p k -/
theorem lcRangeP {σ : L2.St} {H : Hp} {Q : VK} {j : Nat} {vs : List Nat} {te : TE} {tn : TA} {n : Nat} (p : Nat → V) (hl : n ≤ 10000) (hn : ∀ R : List V → Hp → Prop, R [.int (n : Nat)] H → tn σ H R) (hw : ∀ x, wipe ((wipe σ vs).set j (some x)) vs = wipe σ vs)
    (ht : ∀ (i : Nat) (H' : Hp) (Q' : VK), i < n → Same H H' → (∀ H2, Same H' H2 → Q' (p i) H2) → te ((wipe σ vs).set j (some (.int i))) H' Q')
    (hq : ∀ (D : Addr) (H' : Hp), H D = none → Same H H' → H' D = some (.lst ((List.range n).map p)) → Q (.ref D) H') : tLc (iRng1 tn) (gName j) tYes te vs σ H Q := by
  refine hn _ ⟨_, rfl, by omega, by omega, fun D hD => ?_⟩
  rw [Int.toNat_natCast]
  exact lc_map (j := j) (walk_range (lo := 0) (n := n)) (fun _ _ _ _ _ z => z.1) p hl (fun _ _ => trivial) hw (fun i y H1 H' Q' hi e sm k => by
    obtain ⟨_, rfl⟩ := e
    show te ((wipe σ vs).set j (some (.int (0 + (i : Int))))) _ _
    rw [Int.zero_add]
    exact ht i H' Q' hi sm k) hq hD
def letter (j : Nat) : Nat := (Str.ofString "abcdefghijklmnopqrstuvwxyz").cps.toList.getD j 0
theorem letter_at : ∀ j, j < 26 → letter j = 97 + j := by decide +kernel
/-- a letter put into the stem -/
def nmA (stem : Str) (pl sh k : Nat) : Str := cutS stem none (some (pl : Nat)) ++ ⟨#[letter ((sh + 5 * k) % 26)]⟩ ++ cutS stem (some (pl : Nat)) none
theorem nmA_sign {stem : Str} {pl sh k : Nat} (h : pl ≤ stem.length) : (nmA stem pl sh k).cps.toList[pl]? = some (letter ((sh + 5 * k) % 26)) := by
  have c1 := cut_pre (z := stem) (m := (pl : Nat)) (by omega)
  have c1 : (cutS stem none (some (pl : Nat))).cps.toList.length = pl := by
    rw [Array.length_toList]
    show (cutS stem none (some (pl : Nat))).length = pl
    rw [c1]
    omega
  have ap : ∀ x y : Str, (x ++ y).cps.toList = x.cps.toList ++ y.cps.toList := fun x y => Array.toList_append
  unfold nmA
  rw [ap, ap, List.append_assoc, List.getElem?_append_right (by rw [c1]; exact Nat.le_refl _), c1, Nat.sub_self]
  rfl
theorem nmA_ok {stem : Str} {pl sh k : Nat} (hs : lowS stem) (h7 : stem.length = 7) (h : pl ≤ stem.length) : nameOk (nmA stem pl sh k) = true := by
  have c1 := cut_pre (z := stem) (m := (pl : Nat)) (by omega)
  have c2 := cut_suf (z := stem) (m := (pl : Nat)) (by omega)
  have lt := letter_at ((sh + 5 * k) % 26) (Nat.mod_lt _ (by decide))
  have l1 : ∀ c, (⟨#[c]⟩ : Str).length = 1 := fun _ => rfl
  have hl : (nmA stem pl sh k).length = stem.length + 1 := by
    unfold nmA
    rw [str_len_add, str_len_add, c1, c2, l1]
    omega
  refine nameOk_of ?_ (by rw [hl]; omega) (by rw [hl]; omega)
  unfold nmA
  exact low_app (low_app (low_cut hs) (sign_ok (by omega)).1) (low_cut hs)
theorem nmA_ne {stem : Str} {pl sh i j : Nat} (h : pl ≤ stem.length) (hi : i < 6) (hj : j < 6) (n : i ≠ j) : nmA stem pl sh i ≠ nmA stem pl sh j := fun z => by
  have a := nmA_sign (sh := sh) (k := i) h
  have b := nmA_sign (sh := sh) (k := j) h
  rw [z, b] at a
  have a := Option.some.inj a
  rw [letter_at _ (Nat.mod_lt _ (by decide)), letter_at _ (Nat.mod_lt _ (by decide))] at a
  omega
/-- a beginning of a word -/
def nmB (w : Str) (pl k : Nat) : Str := cutS w none (some ((1 + (pl + k) % 8 : Nat) : Int))
theorem nmB_len {w : Str} {pl k : Nat} (h8 : w.length = 8) : (nmB w pl k).length = 1 + (pl + k) % 8 := by
  have m : (pl + k) % 8 < 8 := Nat.mod_lt _ (by decide)
  unfold nmB
  rw [cut_pre (z := w) (m := ((1 + (pl + k) % 8 : Nat) : Int)) (by omega)]
  omega
theorem nmB_ok {w : Str} {pl k : Nat} (hs : lowS w) (h8 : w.length = 8) : nameOk (nmB w pl k) = true := by
  have m : (pl + k) % 8 < 8 := Nat.mod_lt _ (by decide)
  have hl := nmB_len (pl := pl) (k := k) h8
  exact nameOk_of (low_cut hs) (by rw [hl]; omega) (by rw [hl]; omega)
theorem nmB_ne {w : Str} {pl i j : Nat} (h8 : w.length = 8) (hi : i < 6) (hj : j < 6) (n : i ≠ j) : nmB w pl i ≠ nmB w pl j := fun z => by
  have a := nmB_len (pl := pl) (k := i) h8
  rw [z, nmB_len h8] at a
  omega
def spNamesN : Sp := fun vs H Q _ => ∃ (bx : Addr) (n z : Nat), vs = [.ref bx, .int z] ∧ z ≤ 6 ∧ Box bx n H ∧ n < 900000 ∧
  ∀ (D : Addr) (H' : Hp) (N : List Str), H D = none → But bx H H' → Box bx (n + 10) H' → H' D = some (.lst (N.map V.str)) → N.length = z → (∀ x ∈ N, nameOk x = true) → N.Nodup → Q (.ref D) H'
section
variable {P : Program} {w : World} {K : PySem.W.Frag} {mg : Str → Option Value} {base : Heap} {A : Ad}
theorem ok_names_L {f : Addr} {fd : FuncData} (F : Fun K "_law_names" "_law_names" s_names_L f fd) (T : Txt K mg A) (c_take_L : CalD P w K mg base CX0 1 "_law_take" spTake []) : FnOk P w K mg base CX0 2 f fd ["_law_box_here", "_law_many"] spNamesN := by
  refine F.ok sc_names_L (fun vs H Q E h => ?_) (fun cdv A' outer s H vs Q E hr h => have hu65 := units65 hr; have hu64 := hr.units; have hu := units1 hr; ⟨_, (pss_cons (ps_set (i := 2) sc_names_L.nd rfl (.inr rfl) pe_str)
    (pss_cons (ps_asg (pe_tup (pa_cons (pe_cal c_take_L hr (by decide) (by rfl) (pa_cons (pv 0) (pa_cons pe_int pa_nil))) (pa_cons (pe_cal c_take_L hr (by decide) (by rfl) (pa_cons (pv 0) (pa_cons pe_int pa_nil))) pa_nil))) (pg_tup rfl (pgs_cons (pg_name (i := 3) sc_names_L.nd rfl (.inr rfl)) (pgs_cons (pg_name (i := 4) sc_names_L.nd rfl (.inl rfl)) pgs_nil))))
    (pss_cons (ps_set (i := 5) sc_names_L.nd rfl (.inr rfl) (pe_join pe_str (pe_lc (own := [("_law_k", 7)]) rfl sc_names_L.nd (pi_range1 (by rfl) T.m_range (pa_cons pe_int pa_nil)) (blkOk_by (N := ["_law_box_here", "_law_many", "_law_letters", "_law_first", "_law_way", "_law_stem", "_law_at", "_law_k"]) (sc := defScope s_names_L) (by decide +kernel)) (fun _ _ _ _ _ => (pg_name (i := 7) sc_names_L.nd rfl (.inl rfl))) (fun _ _ _ _ _ => pts_nil) (fun _ _ _ _ _ => (pe_ix ix_str (pv 2) (pe_cal c_take_L hr (by decide) (by rfl) (pa_cons (pv 0) (pa_cons pe_int pa_nil))) (fun _ _ => rfl))))))
    (pss_cons (ps_set (i := 6) sc_names_L.nd rfl (.inr rfl) (pe_cal c_take_L hr (by decide) (by rfl) (pa_cons (pv 0) (pa_cons pe_int pa_nil))))
    (pss_cons (ps_if (pt_cmpR op_eq (pv 4) pe_int (nomark _)) (pss_one (ps_ret (pe_lc (own := [("_law_k", 7)]) rfl sc_names_L.nd (pi_range1 (by rfl) T.m_range (pa_cons (pv 1) pa_nil)) (blkOk_by (N := ["_law_box_here", "_law_many", "_law_letters", "_law_first", "_law_way", "_law_stem", "_law_at", "_law_k"]) (sc := defScope s_names_L) (by decide +kernel)) (fun _ _ _ _ _ => (pg_name (i := 7) sc_names_L.nd rfl (.inl rfl))) (fun _ _ _ _ _ => pts_nil) (fun _ _ _ _ _ => (pe_op op_add_str (pe_op op_add_str (pe_slice sl_str (pv 5) po_none (po_some (pv 6))) (pe_ix ix_str (pv 2) (pe_op op_mod (pe_op op_add (pv 3) (pe_op op_mulW pe_int (pv 7))) pe_int) (fun _ _ => rfl))) (pe_slice sl_str (pv 5) (po_some (pv 6)) po_none)))))) pss_nil)
    (pss_one (ps_ret (pe_lc (own := [("_law_k", 7)]) rfl sc_names_L.nd (pi_range1 (by rfl) T.m_range (pa_cons (pv 1) pa_nil)) (blkOk_by (N := ["_law_box_here", "_law_many", "_law_letters", "_law_first", "_law_way", "_law_stem", "_law_at", "_law_k"]) (sc := defScope s_names_L) (by decide +kernel)) (fun _ _ _ _ _ => (pg_name (i := 7) sc_names_L.nd rfl (.inl rfl))) (fun _ _ _ _ _ => pts_nil) (fun _ _ _ _ _ => (pe_slice sl_str (pe_op op_add_str (pv 5) (pe_ix ix_str (pv 2) (pv 3) (fun _ _ => rfl))) po_none (po_some (pe_op op_add pe_int (pe_op op_mod (pe_op op_add (pv 6) (pv 7)) pe_int))))))))))))), ?_⟩)
  · obtain ⟨bx, n, zz, rfl, _⟩ := h
    rfl
  · obtain ⟨bx, n, zz, rfl, hz6, hB, hn, q⟩ := h
    have hsg : (Str.ofString "abcdefghijklmnopqrstuvwxyz").length = 26 := by decide +kernel
    have hsl : ((Str.ofString "abcdefghijklmnopqrstuvwxyz").cps.toList.length : Int) = 26 := by decide +kernel
    have he0 : (Str.ofString "").length = 0 := by decide +kernel
    walk_at "go"
    refine r_take hB (fun d1 H1 h01 h11 hB1 b1 => ?_) (by omega) (by omega) (by omega)
    obtain ⟨sh, rfl⟩ := Int.eq_ofNat_of_zero_le h01
    walk_at "go"
    refine r_take hB1 (fun d2 H2 h02 h12 hB2 b2 => ?_) (by omega) (by omega) (by omega)
    walk_at "go"
    refine newT fun tp H3 n3 s3 e3 => ?_
    have hB3 := hB2.same s3
    refine ⟨_, _, rfl, sqT e3, rfl, ?_⟩
    refine ⟨_, _, rfl, _, _, rfl, rfl, ?_⟩
    walk_at "go"
    refine ⟨⟨_, rfl⟩, ?_⟩
    refine lcDraw (n := 7) (m := n + 2) (bx := bx) (fun v => ∃ y, v = .str y ∧ one1 y) (hB3.mono (by simp)) (by decide) (fun _ => rfl) (fun i H1 Q' hi hB1 kk => ?_) fun D H4 xs nD b4 hB4 e4 l4 p4 => ?_
    · walk_at "go"
      refine r_take hB1 (fun d H2 h0 h1 hB2 b2 => ?_) (by omega)
      refine r_ixS h0 (by rw [hsl]; exact h1) (by rw [hsg]; decide) fun c hc => ?_
      exact kk _ H2 ⟨_, rfl, sign_ok (signs_low c (List.mem_of_getElem? hc))⟩ hB2 b2
    obtain ⟨ys, rfl, ly, hys⟩ := strs_of p4
    rw [← ly] at l4
    have nD0 : H D = none := by
      cases z : H D with
      | none => rfl
      | some u => rw [s3 _ _ (b2 _ _ (hB3.ne nD) (b1 _ _ (hB3.ne nD) z))] at nD; exact nomatch nD
    refine ⟨_, D, ys, rfl, rfl, .inl (sqL e4), by rw [sum1 hys, he0]; omega, ?_⟩
    obtain ⟨jl, jn⟩ : lowS (Txt.join (Str.ofString "") ys) ∧ (Txt.join (Str.ofString "") ys).length = 7 := by
      obtain ⟨a, b⟩ := join_low hys (by omega)
      exact ⟨a, by rw [b]; exact l4⟩
    generalize Txt.join (Str.ofString "") ys = stem at jl jn ⊢
    walk_at "go"
    refine r_take hB4 (fun d5 H5 h05 h15 hB5 b5 => ?_) (by omega) (by omega) (by omega)
    obtain ⟨pl, rfl⟩ := Int.eq_ofNat_of_zero_le h05
    walk_at "go"
    have fin : ∀ (D6 : Addr) (H6 : Hp) (nm : Nat → Str), H5 D6 = none → Same H5 H6 → H6 D6 = some (.lst ((List.range zz).map fun k => V.str (nm k))) → (∀ k, k < zz → nameOk (nm k) = true) → (∀ i j, i < zz → j < zz → i ≠ j → nm i ≠ nm j) → Q (.ref D6) H6 := fun D6 H6 nm nD6 s6 e6 nok nne => by
      have bb : But bx H H6 := fun b o nb eb => s6 _ _ (b5 _ _ nb (b4 _ _ nb (s3 _ _ (b2 _ _ nb (b1 _ _ nb eb)))))
      have nb6 : D6 ≠ bx := hB5.ne nD6
      refine q D6 H6 ((List.range zz).map nm) ?_ bb ((hB5.same s6).mono (by omega)) (by rw [List.map_map]; exact e6) (by rw [List.length_map, List.length_range]) (fun x hx => ?_) ?_
      · cases z : H D6 with
        | none => rfl
        | some u =>
          rw [b5 _ _ nb6 (b4 _ _ nb6 (s3 _ _ (b2 _ _ nb6 (b1 _ _ nb6 z))))] at nD6
          exact nomatch nD6
      · obtain ⟨i, hi, rfl⟩ := List.mem_map.mp hx
        exact nok i (List.mem_range.mp hi)
      · refine List.pairwise_map.mpr (List.pairwise_iff_getElem.mpr fun i j hi hj lt => ?_)
        rw [List.length_range] at hi hj
        rw [List.getElem_range, List.getElem_range]
        exact nne i j hi hj (Nat.ne_of_lt lt)
    refine ite2 (fun e => ?_) (fun e => ?_)
    · refine r_ret (lcRangeP (n := zz) (fun k => V.str (nmA stem pl sh k)) (by omega) (fun R h => ⟨_, rfl, h⟩) (fun _ => rfl) (fun k G Q' hk sG kk => ?_) fun D2 G nD2 sG eG => fin D2 G (nmA stem pl sh) nD2 sG eG (fun k _ => nmA_ok jl jn (by omega)) fun i j hi hj ne => nmA_ne (by omega) (by omega) (by omega) ne)
      walk_at "go"
      have c1 := cut_pre (z := stem) (m := (pl : Nat)) (by omega)
      have c2 := cut_suf (z := stem) (m := (pl : Nat)) (by omega)
      refine ⟨stem, rfl, by rw [sizeLine_eq]; omega, ?_⟩
      walk_at "go"
      refine r_I (cmul (by decide) (by decide) (by omega) (by omega)) ?_
      walk_at "go"
      refine r_I (by decide) ?_
      have m0 : 0 ≤ ((sh : Int) + 5 * (k : Nat)) % 26 := Int.emod_nonneg _ (by decide)
      have m1 : ((sh : Int) + 5 * (k : Nat)) % 26 < 26 := Int.emod_lt_of_pos _ (by decide)
      have mt : (((sh : Int) + 5 * (k : Nat)) % 26).toNat = (sh + 5 * k) % 26 := by omega
      refine r_ixS m0 (by rw [hsl]; exact m1) (by rw [hsg]; decide) fun c hc => ?_
      rw [mt] at hc
      have hcd : letter ((sh + 5 * k) % 26) = c := by
        unfold letter
        rw [List.getD_eq_getElem?_getD, hc]
        rfl
      have hl1 : (⟨#[c]⟩ : Str).length = 1 := rfl
      refine ⟨_, _, rfl, rfl, by rw [c1, hl1, sizeLine_eq]; omega, ?_⟩
      walk_at "go"
      refine ⟨stem, rfl, by rw [sizeLine_eq]; omega, ?_⟩
      refine ⟨_, _, rfl, rfl, by rw [str_len_add, c1, c2, hl1, sizeLine_eq]; omega, ?_⟩
      have w := kk G (Same.refl _)
      unfold nmA at w
      rw [hcd] at w
      exact w
    · walk_at "go"
      have sh26 : sh < 26 := by omega
      have hlet : letter sh = 97 + sh := letter_at sh sh26
      have hl1 : (⟨#[letter sh]⟩ : Str).length = 1 := rfl
      have wl : (stem ++ ⟨#[letter sh]⟩ : Str).length = 8 := by rw [str_len_add, hl1, jn]
      have wlow : lowS (stem ++ ⟨#[letter sh]⟩ : Str) := low_app jl (sign_ok (by omega)).1
      refine lcRangeP (n := zz) (fun k => V.str (nmB (stem ++ ⟨#[letter sh]⟩) pl k)) (by omega) (fun R h => ⟨_, rfl, h⟩) (fun _ => rfl) (fun k G Q' hk sG kk => ?_) fun D2 G nD2 sG eG => fin D2 G (nmB (stem ++ ⟨#[letter sh]⟩) pl) nD2 sG eG (fun k _ => nmB_ok wlow wl) fun i j hi hj ne => nmB_ne wl (by omega) (by omega) ne
      walk_at "go"
      refine r_ixS (by omega) (by rw [hsl]; omega) (by rw [hsg]; decide) fun c hc => ?_
      rw [Int.toNat_natCast] at hc
      have hcd : letter sh = c := by
        unfold letter
        rw [List.getD_eq_getElem?_getD, hc]
        rfl
      refine ⟨_, _, rfl, rfl, by rw [jn, show (⟨#[c]⟩ : Str).length = 1 from rfl, sizeLine_eq]; omega, ?_⟩
      rw [← hcd]
      walk_at "go"
      refine r_I (by decide) ?_
      walk_at "go"
      refine ⟨_, rfl, by rw [wl, sizeLine_eq]; omega, ?_⟩
      have w := kk G (Same.refl _)
      unfold nmB at w
      rw [show (1 + ((pl : Int) + (k : Nat)) % 8) = ((1 + (pl + k) % 8 : Nat) : Int) by omega]
      exact w
end
end K17

namespace K17
open PySem PySem.Spec PyProof.Rows L2 Bk Rm


theorem lcNewRV {σ : L2.St} {H : Hp} {Q : VK} {j : Nat} {vs : List Nat} {te : TE} {tn : TA} {n : Nat} (c : Nat → HO) (hl : n ≤ 1000) (hn : ∀ R : List V → Hp → Prop, R [.int (n : Nat)] H → tn σ H R) (hw : ∀ x, wipe ((wipe σ vs).set j (some x)) vs = wipe σ vs)
    (ht : ∀ (i : Nat) (H1 : Hp) (Q' : VK), i < n → Same H H1 → (∀ t H3, H1 t = none → Same H1 H3 → H3 t = some (c i) → Q' (.ref t) H3) → te ((wipe σ vs).set j (some (.int (0 + (i : Int))))) H1 Q')
    (q : ∀ D H' (ts : List Addr), H D = none → Same H H' → H' D = some (.lst (ts.map V.ref)) → ts.length = n → (∀ k t, ts[k]? = some t → H' t = some (c k)) → (D :: ts).Nodup → (∀ t ∈ ts, H t = none) → Q (.ref D) H') :
    tLc (iRng1 tn) (gName j) tYes te vs σ H Q := by
  refine hn _ ⟨_, rfl, by omega, by omega, fun D hD => ?_⟩
  rw [Int.toNat_natCast]
  refine lc_new (g := gName j) (te := te) (vs := vs) (σ := σ) (Q := Q) walk_range c hD (by omega) (fun _ _ => trivial) (fun i x H1 H2 Q' R' hi sm y k => ?_) fun H' ts s e l all nd fr => q D H' ts hD s e l all nd fr
  obtain ⟨rfl, rfl⟩ := y
  exact ⟨hw _, r_yes (ht i H2 Q' hi sm k)⟩
theorem r0_ok {m : Nat} (h : 1 ≤ m) : (r0 m).Ok := by
  refine ⟨?_, ?_, ?_, fun _ z => (nomatch z), List.nodup_nil⟩
  · show (List.replicate m 0).length = (List.replicate m zeros).length
    rw [List.length_replicate, List.length_replicate]
  · show List.replicate m zeros ≠ []
    intro z
    have := congrArg List.length z
    rw [List.length_replicate] at this
    have : m = 0 := this
    omega
  · intro ws hw
    rw [List.eq_of_mem_replicate (show ws ∈ List.replicate m zeros from hw)]
    rfl
theorem rep1 {m : Nat} : (List.replicate m [V.int 0]).flatten = nv (List.replicate m 0) := by
  induction m with
  | zero => rfl
  | succ m ih =>
    rw [List.replicate_succ, List.flatten_cons, ih]
    rfl
section
variable {P : Program} {w : World} {K : PySem.W.Frag} {mg : Str → Option Value} {base : Heap} {A : Ad}
theorem ok_init {f : Addr} {fd : FuncData} (F : Fun K "__init__" "Rooms.__init__" s_Rooms_init f fd) (T : Txt K mg A) (c_check_number : CalX P w K mg base 4 "check_number" spCkN) : FnOk P w K mg base (L2.CX P w) 5 f fd ["self", "many"] (spInit A) := by
  refine F.okX sc_Rooms_init (fun vs H Q E h => ?_) (fun cdv A' outer s H vs Q E hr h => have hu := units1 hr; ⟨_, (pss_cons (ps_expr (pe_calX c_check_number hr (by decide) (by rfl) (takes_of rfl rfl rfl rfl) (pa_cons (pv 1) (pa_cons pe_int (pa_cons (C8.pe_gc (by rfl) T.c_MOST_ROOMS) pa_nil)))))
    (pss_cons (ps_fld (pv 0) (pe_lc (own := [("_", 2)]) rfl sc_Rooms_init.nd (pi_range1 (by rfl) T.m_range (pa_cons (pv 1) pa_nil)) (blkOk_by (N := ["self", "many", "_"]) (sc := defScope s_Rooms_init) (by decide +kernel)) (fun _ _ _ _ _ => (pg_name (i := 2) sc_Rooms_init.nd rfl (.inl rfl))) (fun _ _ _ _ _ => pts_nil) (fun _ _ _ _ _ => (pe_callTy (call_list_ofK (K := K) rfl) (by rfl) T.m_list (by decide +kernel) (pa_cons (C8.pe_gc (by rfl) T.c_NOUGHTS) pa_nil)))) rfl)
    (pss_cons (ps_fld (pv 0) (pe_op op_rep (pe_lstB (pa_cons pe_int pa_nil)) (pv 1)) rfl)
    (pss_cons (ps_fld (pv 0) pe_int rfl)
    (pss_one (ps_fld (pv 0) pe_dnewK rfl)))))), ?_⟩)
  · obtain ⟨x, dx, m, rfl, _⟩ := h
    rfl
  · obtain ⟨x, dx, m, rfl, m1, m64, ex, q⟩ := h
    walk_at "go"
    refine ⟨m, 1, 64, rfl, by omega, by omega, ?_⟩
    walk_at "go"
    refine lcNewRV (n := m) (fun _ => .lst (nv zeros)) (by omega) (fun R h => ⟨_, rfl, h⟩) (fun _ => rfl) (fun i H1 Q' hi s1 kk => ?_) fun D H1 ts nD s1 eD tl et nd0 fr => ?_
    · walk_at "go"
      refine ⟨A.aN, _, rfl, .inr (T.no H1), fun l nl => kk l _ nl (same_upd nl) upd_same⟩
    walk_at "go"
    refine ⟨x, A.CR, dx, _, rfl, s1 _ _ ex, T.cl_Rooms, T.na_cells, by decide, ?_⟩
    have xD : D ≠ x := (ne_of_none ex nD).symm
    have b1 : But x H (upd H1 x (.ins A.CR dx [("_cells", .ref D)])) := fun b u nb eb => by rw [upd_ne nb]; exact s1 _ _ eb
    have o1 : upd H1 x (.ins A.CR dx [("_cells", .ref D)]) x = some (.ins A.CR dx [("_cells", .ref D)]) := upd_same
    have eD1 : upd H1 x (.ins A.CR dx [("_cells", .ref D)]) D = some (.lst (ts.map V.ref)) := by rw [upd_ne xD]; exact eD
    have et1 : ∀ k t, ts[k]? = some t → upd H1 x (.ins A.CR dx [("_cells", .ref D)]) t = some (.lst (nv zeros)) := fun k t h => by
      rw [upd_ne (ne_of_none ex (fr t (List.mem_of_getElem? h))).symm]
      exact et k t h
    show tSeq _ _ _ _ (upd H1 x (.ins A.CR dx [("_cells", .ref D)]))
    generalize upd H1 x (.ins A.CR dx [("_cells", .ref D)]) = H2 at b1 o1 eD1 et1 ⊢
    walk_at "go"
    unfold sFld
    refine r_op (r_lstB (r_cons (r_c (r_nil (newLB fun la H3 n3 g3 s3 e3 => r_var rfl ?_)))))
    refine ⟨la, m, _, rfl, rfl, e3, by omega, by omega, by rw [Int.toNat_natCast]; simp; rw [sizeLine_eq]; omega, fun p np => ?_⟩
    rw [Int.toNat_natCast, rep1]
    have s4 := s3.trans (same_upd (o := .lst (nv (List.replicate m 0))) np)
    have e4 : upd H3 p (.lst (nv (List.replicate m 0))) p = some (.lst (nv (List.replicate m 0))) := upd_same
    generalize upd H3 p (.lst (nv (List.replicate m 0))) = H4 at s4 e4 ⊢
    have np2 : H2 p = none := none_of s3 np
    have xp : p ≠ x := (ne_of_none o1 np2).symm
    have dp : D ≠ p := ne_of_none eD1 np2
    have tp : ∀ t ∈ ts, p ≠ t := fun t ht z => by
      obtain ⟨i, hi, e⟩ := List.getElem_of_mem ht
      have := et1 i t (by rw [List.getElem?_eq_getElem hi, e])
      rw [← z, np2] at this
      exact nomatch this
    refine ⟨_, rfl, x, A.CR, dx, _, rfl, s4 _ _ o1, T.cl_Rooms, T.na_given, Nat.le_of_ble_eq_true rfl, ?_⟩
    have b2 : But x H (upd H4 x (.ins A.CR dx [("_cells", .ref D), ("_given", .ref p)])) := fun b u nb eb => by rw [upd_ne nb]; exact s4 _ _ (b1 _ _ nb eb)
    have o2 : upd H4 x (.ins A.CR dx [("_cells", .ref D), ("_given", .ref p)]) x = some (.ins A.CR dx [("_cells", .ref D), ("_given", .ref p)]) := upd_same
    have eD2 : upd H4 x (.ins A.CR dx [("_cells", .ref D), ("_given", .ref p)]) D = some (.lst (ts.map V.ref)) := by rw [upd_ne xD]; exact s4 _ _ eD1
    have ep2 : upd H4 x (.ins A.CR dx [("_cells", .ref D), ("_given", .ref p)]) p = some (.lst (nv (List.replicate m 0))) := by rw [upd_ne xp]; exact e4
    have et2 : ∀ k t, ts[k]? = some t → upd H4 x (.ins A.CR dx [("_cells", .ref D), ("_given", .ref p)]) t = some (.lst (nv zeros)) := fun k t h => by
      rw [upd_ne (ne_of_none ex (fr t (List.mem_of_getElem? h))).symm]
      exact s4 _ _ (et1 k t h)
    show tSeq _ _ _ _ (upd H4 x (.ins A.CR dx [("_cells", .ref D), ("_given", .ref p)]))
    generalize upd H4 x (.ins A.CR dx [("_cells", .ref D), ("_given", .ref p)]) = H5 at b2 o2 eD2 ep2 et2 ⊢
    walk_at "go"
    refine ⟨x, A.CR, dx, _, rfl, o2, T.cl_Rooms, T.na_givings, Nat.le_of_ble_eq_true rfl, ?_⟩
    have b3 : But x H (upd H5 x (.ins A.CR dx [("_cells", .ref D), ("_given", .ref p), ("_givings", .int 0)])) := fun b u nb eb => by rw [upd_ne nb]; exact b2 _ _ nb eb
    have o3 : upd H5 x (.ins A.CR dx [("_cells", .ref D), ("_given", .ref p), ("_givings", .int 0)]) x = some (.ins A.CR dx [("_cells", .ref D), ("_given", .ref p), ("_givings", .int 0)]) := upd_same
    have eD3 : upd H5 x (.ins A.CR dx [("_cells", .ref D), ("_given", .ref p), ("_givings", .int 0)]) D = some (.lst (ts.map V.ref)) := by rw [upd_ne xD]; exact eD2
    have ep3 : upd H5 x (.ins A.CR dx [("_cells", .ref D), ("_given", .ref p), ("_givings", .int 0)]) p = some (.lst (nv (List.replicate m 0))) := by rw [upd_ne xp]; exact ep2
    have et3 : ∀ k t, ts[k]? = some t → upd H5 x (.ins A.CR dx [("_cells", .ref D), ("_given", .ref p), ("_givings", .int 0)]) t = some (.lst (nv zeros)) := fun k t h => by
      rw [upd_ne (ne_of_none ex (fr t (List.mem_of_getElem? h))).symm]
      exact et2 k t h
    show sFld K (tVar 0) tDNewK "_guests" _ _ (upd H5 x (.ins A.CR dx [("_cells", .ref D), ("_given", .ref p), ("_givings", .int 0)]))
    generalize upd H5 x (.ins A.CR dx [("_cells", .ref D), ("_given", .ref p), ("_givings", .int 0)]) = H6 at b3 o3 eD3 ep3 et3 ⊢
    unfold sFld
    refine r_dnewK (newDK fun d H7 nd s7 e7 => r_var rfl ?_)
    have xd : d ≠ x := (ne_of_none o3 nd).symm
    refine ⟨x, A.CR, dx, _, rfl, s7 _ _ o3, T.cl_Rooms, T.na_guests, Nat.le_of_ble_eq_true rfl, ?_⟩
    have b4 : But x H (upd H7 x (.ins A.CR dx [("_cells", .ref D), ("_given", .ref p), ("_givings", .int 0), ("_guests", .ref d)])) := fun b u nb eb => by rw [upd_ne nb]; exact s7 _ _ (b3 _ _ nb eb)
    have nn : ∀ {H' : Hp} {b : Addr}, But x H H' → b ≠ x → H' b = none → H b = none := fun {H' b} bb nb z => by
      cases w : H b with
      | none => rfl
      | some u => rw [bb _ _ nb w] at z; exact nomatch z
    refine q ⟨x, D, p, d, ts, fun _ => 0⟩ _ rfl b4 (fun b hb => ?_) ⟨⟨dx, _, upd_same, rfl, rfl, rfl, rfl, Nat.le_of_ble_eq_true rfl, fun m h1 h2 h3 h4 => ?_⟩, by rw [upd_ne xD]; exact s7 _ _ eD3, by show ts.length = (List.replicate m zeros).length; rw [List.length_replicate]; exact tl, fun i c hc => ?_, by rw [upd_ne xp]; exact s7 _ _ ep3, by rw [upd_ne xd]; exact e7, fun _ z => (nomatch z), dp, fun c hc => ⟨fun z => (List.nodup_cons.mp nd0).1 (by have z : D = c := z; rw [z]; exact hc), tp c hc⟩, fun _ z => (nomatch z), fun _ z => (nomatch z), (List.nodup_cons.mp nd0).2, r0_ok m1⟩
    · rcases hb with h | h | h | h | h | ⟨y, hy, h⟩
      · exact .inl h
      · exact .inr (by rw [h]; exact nD)
      · exact .inr (by rw [h]; exact nn b1 xp np2)
      · exact .inr (by rw [h]; exact nn b3 xd nd)
      · exact .inr (fr b h)
      · exact nomatch hy
    · show List.lookup m [(("_cells" : Str), V.ref D), ("_given", .ref p), ("_givings", .int 0), ("_guests", .ref d)] = none
      rw [List.lookup_cons, h1, List.lookup_cons, h2, List.lookup_cons, h3, List.lookup_cons, h4]
      rfl
    · have l : i < m := by rw [← tl]; exact (List.getElem?_eq_some_iff.mp hc).1
      show _ = some (HO.lst (nv ((List.replicate m zeros).getD i [])))
      rw [List.getD_eq_getElem?_getD, List.getElem?_replicate, if_pos l, upd_ne (ne_of_none ex (fr c (List.mem_of_getElem? hc))).symm]
      exact s7 _ _ (et3 i c hc)
end
end K17

namespace K17
open PySem PySem.Spec PyProof.Rows L2 Bk Rm


/-! ### the model in the heap -/
structure Ms where
  d : Addr
  rl : Addr
  gd : Addr
  gl : Str → Addr
  wl : Nat → Addr
  x : Addr → Prop
def mown (m : Ms) (s : R) (U : Nat → Bool) (b : Addr) : Prop := b = m.d ∨ b = m.rl ∨ b = m.gd ∨ (∃ x ∈ s.names, b = m.gl x) ∨ (∃ n, n < s.cells.length ∧ U n = true ∧ b = m.wl n) ∨ m.x b
/-- an item of a guest: a way and a thing -/
def ItV (o : Addr → Prop) (H : Hp) : Pl → V → Prop
  | .blank, v => ∃ t, v = .ref t ∧ ¬ o t ∧ H t = some (.lst [.str "blank", .non])
  | .own ws, v => ∃ t c, v = .ref t ∧ ¬ o t ∧ ¬ o c ∧ H t = some (.lst [.str "away", .ref c]) ∧ H c = some (.lst (nv ws))
  | .at n, v => ∃ t, v = .ref t ∧ ¬ o t ∧ H t = some (.lst [.str "in", .int n])
def ItsV (o : Addr → Prop) (H : Hp) (ps : List Pl) (xs : List V) : Prop := xs.length = ps.length ∧ ∀ (i : Nat) p v, ps[i]? = some p → xs[i]? = some v → ItV o H p v
/-- a room of the house: none, or when it was given and its words -/
def RmV (o : Addr → Prop) (H : Hp) (m : Ms) (s : R) (U : Nat → Bool) (n : Nat) (v : V) : Prop :=
  (U n = false ∧ v = .non) ∨ (U n = true ∧ ∃ t, v = .ref t ∧ ¬ o t ∧ H t = some (.lst [.int (s.given.getD n 0), .ref (m.wl n)]) ∧ H (m.wl n) = some (.lst (nv (s.cells.getD n []))))
def fzo : Option Obj → HO → HO
  | none, u => u
  | some o, u => .frz o u
def dicM (m : Ms) (g : Nat) : List (Key × V) := [((.inr (Str.ofString "rooms") : Key), .ref m.rl), (.inr (Str.ofString "guests"), .ref m.gd), (.inr (Str.ofString "stamp"), .int g)]
structure Md (H : Hp) (m : Ms) (s : R) (U : Nat → Bool) (z : Option Obj) : Prop where
  d_ : H m.d = some (.dK (dicM m s.givings))
  rl_ : ∃ xs, H m.rl = some (.lst xs) ∧ xs.length = s.cells.length ∧ ∀ n v, xs[n]? = some v → RmV (mown m s U) H m s U n v
  gd_ : H m.gd = some (fzo z (.dK (dicF s.names fun x => .ref (m.gl x))))
  gl_ : ∀ g ∈ s.gs, ∃ xs, H (m.gl g.1) = some (.lst xs) ∧ ItsV (mown m s U) H g.2 xs
  n0 : m.d ≠ m.gd
  n1 : ∀ x ∈ s.names, m.rl ≠ m.gl x
  n2 : ∀ n, n < s.cells.length → U n = true → m.rl ≠ m.wl n ∧ ∀ x ∈ s.names, m.gl x ≠ m.wl n
  n4 : ∀ x ∈ s.names, ∀ y ∈ s.names, m.gl x = m.gl y → x = y
  n5 : ∀ i j, i < s.cells.length → j < s.cells.length → U i = true → U j = true → m.wl i = m.wl j → i = j
  nd : s.names.Nodup
  xh : ∀ b, m.x b → ∃ u, H b = some u
  xo : ∀ b, m.x b → b ≠ m.d ∧ b ≠ m.rl ∧ b ≠ m.gd ∧ (∀ x ∈ s.names, b ≠ m.gl x) ∧ ∀ n, n < s.cells.length → U n = true → b ≠ m.wl n
section
variable {H H' : Hp} {m m' : Ms} {s s' : R} {U U' : Nat → Bool} {z z' : Option Obj} {o o' : Addr → Prop}
theorem ItV.keep {p : Pl} {v : V} (h : ItV o H p v) (fr : ∀ b u, ¬ o b → H b = some u → H' b = some u) (nw : ∀ b, o' b → o b ∨ H b = none) : ItV o' H' p v := by
  have k : ∀ {b u}, ¬ o b → H b = some u → ¬ o' b := fun {b u} n e w => (nw b w).elim n fun q => by rw [q] at e; exact nomatch e
  cases p with
  | blank => obtain ⟨t, e, n, h⟩ := h; exact ⟨t, e, k n h, fr _ _ n h⟩
  | own ws => obtain ⟨t, c, e, n, n2, h, h2⟩ := h; exact ⟨t, c, e, k n h, k n2 h2, fr _ _ n h, fr _ _ n2 h2⟩
  | «at» l => obtain ⟨t, e, n, h⟩ := h; exact ⟨t, e, k n h, fr _ _ n h⟩
theorem ItsV.keep {ps : List Pl} {xs : List V} (h : ItsV o H ps xs) (fr : ∀ b u, ¬ o b → H b = some u → H' b = some u) (nw : ∀ b, o' b → o b ∨ H b = none) : ItsV o' H' ps xs := ⟨h.1, fun i p v a b => (h.2 i p v a b).keep fr nw⟩
theorem Md.has (h : Md H m s U z) {b : Addr} (w : mown m s U b) : ∃ u, H b = some u := by
  rcases w with w | w | w | ⟨x, hx, w⟩ | ⟨n, hn, hu, w⟩ | w
  · exact ⟨_, w ▸ h.d_⟩
  · obtain ⟨xs, e, _⟩ := h.rl_; exact ⟨_, w ▸ e⟩
  · exact ⟨_, w ▸ h.gd_⟩
  · obtain ⟨g, hg, e⟩ := List.mem_map.mp hx
    obtain ⟨xs, e2, _⟩ := h.gl_ g hg
    rw [w, ← e]; exact ⟨_, e2⟩
  · obtain ⟨xs, e, l, r⟩ := h.rl_
    rcases r n xs[n] (List.getElem?_eq_getElem (by rw [l]; exact hn)) with ⟨q, _⟩ | ⟨_, t, _, _, _, e2⟩
    · rw [hu] at q; exact nomatch q
    · rw [w]; exact ⟨_, e2⟩
  · exact h.xh _ w
theorem Md.none (h : Md H m s U z) {b : Addr} (e : H b = .none) : ¬ mown m s U b := fun w => by
  obtain ⟨u, eu⟩ := h.has w
  rw [e] at eu
  exact nomatch eu
/-- nothing of the model changes -/
theorem Md.keep (h : Md H m s U z) (f : ∀ b u, mown m s U b → H b = some u → H' b = some u) (fr : ∀ b u, ¬ mown m s U b → H b = some u → H' b = some u) : Md H' m s U z := by
  obtain ⟨xs, e, l, r⟩ := h.rl_
  refine ⟨f _ _ (.inl rfl) h.d_, ⟨xs, f _ _ (.inr (.inl rfl)) e, l, fun n v hv => ?_⟩, f _ _ (.inr (.inr (.inl rfl))) h.gd_, fun g hg => ?_, h.n0, h.n1, h.n2, h.n4, h.n5, h.nd, fun b w => (h.xh b w).imp fun u e => f _ _ (.inr (.inr (.inr (.inr (.inr w))))) e, h.xo⟩
  · rcases r n v hv with w | ⟨hu, t, ev, nt, e1, e2⟩
    · exact .inl w
    · have ln : n < s.cells.length := by rw [← l]; exact (List.getElem?_eq_some_iff.mp hv).1
      exact .inr ⟨hu, t, ev, nt, fr _ _ nt e1, f _ _ (.inr (.inr (.inr (.inr (.inl ⟨n, ln, hu, rfl⟩))))) e2⟩
  · obtain ⟨ys, e2, q⟩ := h.gl_ g hg
    exact ⟨ys, f _ _ (.inr (.inr (.inr (.inl ⟨g.1, List.mem_map.mpr ⟨g, hg, rfl⟩, rfl⟩)))) e2, q.keep fr fun b w => .inl w⟩
theorem Md.same (h : Md H m s U z) (f : Same H H') : Md H' m s U z := h.keep (fun b u _ e => f _ _ e) (fun b u _ e => f _ _ e)
/-- what a deed of the model may have changed -/
structure Mm (H : Hp) (m : Ms) (s : R) (U : Nat → Bool) (H' : Hp) (m' : Ms) (s' : R) (U' : Nat → Bool) : Prop where
  md : Md H' m' s' U' .none
  fr : ∀ b u, ¬ mown m s U b → H b = some u → H' b = some u
  nw : ∀ b, mown m' s' U' b → mown m s U b ∨ H b = .none
  dd : m'.d = m.d
  xx : m'.x = m.x
  xf : ∀ b u, m.x b → H b = some u → H' b = some u
theorem Mm.same (h : Md H m s U .none) (f : Same H H') : Mm H m s U H' m s U := ⟨h.same f, fun b u _ e => f _ _ e, fun b w => .inl w, rfl, rfl, fun b u _ e => f _ _ e⟩
theorem Mm.trans {H2 : Hp} {m2 : Ms} {s2 : R} {U2 : Nat → Bool} (a : Mm H m s U H' m' s' U') (b : Mm H' m' s' U' H2 m2 s2 U2) : Mm H m s U H2 m2 s2 U2 := by
  refine ⟨b.md, fun c u n e => b.fr c u (fun w => (a.nw c w).elim n fun q => by rw [q] at e; exact nomatch e) (a.fr c u n e), fun c w => ?_, b.dd.trans a.dd, b.xx.trans a.xx, fun c u w e => b.xf c u (by rw [a.xx]; exact w) (a.xf c u w e)⟩
  rcases b.nw c w with w | w
  · exact a.nw c w
  · cases e : H c with
    | none => exact .inr rfl
    | some u =>
      refine .inl (Classical.byContradiction fun n => ?_)
      rw [a.fr c u n e] at w
      exact nomatch w
theorem Mm.then (a : Mm H m s U H' m' s' U') {H2 : Hp} (f : Same H' H2) : Mm H m s U H2 m' s' U' := a.trans (Mm.same a.md f)
end
end K17

namespace K17
open PySem PySem.Spec PyProof.Rows L2 Bk Rm


section
variable {H Hb : Hp} {m : Ms} {s : R} {U : Nat → Bool}
theorem nms_setAt {gs : Gs} {x : Str} {r : Nat} {p : Pl} : (setAt gs x r p).map (·.1) = gs.map (·.1) := by
  unfold setAt
  rw [List.map_map]
  refine List.map_congr_left fun g _ => ?_
  show (if g.1 = x then (g.1, g.2.set r p) else g).1 = g.1
  split <;> rfl
/-- a list cell is no dict -/
theorem Md.ld {z : Option Obj} (h : Md H m s U z) {b : Addr} {xs : List V} (e : H b = some (.lst xs)) : b ≠ m.d ∧ b ≠ m.gd := by
  refine ⟨fun w => by rw [w, h.d_] at e; exact (nomatch e), fun w => ?_⟩
  rw [w, h.gd_] at e
  cases z with
  | none => exact nomatch e
  | some o => exact nomatch e
theorem Md.glx {z : Option Obj} (h : Md H m s U z) {x : Str} (hx : x ∈ s.names) : ∃ g xs, g ∈ s.gs ∧ g.1 = x ∧ H (m.gl x) = some (.lst xs) ∧ ItsV (mown m s U) H g.2 xs := by
  obtain ⟨g, hg, e⟩ := List.mem_map.mp hx
  obtain ⟨xs, e2, q⟩ := h.gl_ g hg
  have e : g.1 = x := e
  exact ⟨g, xs, hg, e, e ▸ e2, q⟩
theorem Md.wlx {z : Option Obj} (h : Md H m s U z) {n : Nat} (hn : n < s.cells.length) (hu : U n = true) : H (m.wl n) = some (.lst (nv (s.cells.getD n []))) := by
  obtain ⟨xs, e, l, r⟩ := h.rl_
  rcases r n xs[n] (List.getElem?_eq_getElem (by rw [l]; exact hn)) with ⟨q, _⟩ | ⟨_, t, _, _, _, e2⟩
  · rw [hu] at q; exact nomatch q
  · exact e2
theorem RmV.keep {o o' : Addr → Prop} {H' : Hp} {m' : Ms} {s' : R} {U' : Nat → Bool} {n : Nat} {v : V} (h : RmV o H m s U n v) (fr : ∀ b u, ¬ o b → H b = some u → H' b = some u) (nw : ∀ b, o' b → o b ∨ H b = none) (eU : U' n = U n) (ew : U n = true → m'.wl n = m.wl n) (eg : s'.given.getD n 0 = s.given.getD n 0) (hw : U n = true → H' (m.wl n) = some (.lst (nv (s'.cells.getD n [])))) : RmV o' H' m' s' U' n v := by
  rcases h with ⟨q, w⟩ | ⟨hu, t, ev, nt, e1, e2⟩
  · exact .inl ⟨by rw [eU]; exact q, w⟩
  · exact .inr ⟨by rw [eU]; exact hu, t, ev, fun w => (nw t w).elim nt (fun q => by rw [q] at e1; exact nomatch e1), by rw [ew hu, eg]; exact fr _ _ nt e1, by rw [ew hu]; exact hw hu⟩
theorem Md.item (h : Md H m s U .none) {x : Str} (hx : x ∈ s.names) {r : Nat} {p : Pl} {v : V} {xs : List V} (ex : H (m.gl x) = some (.lst xs)) (hv : ItV (mown m s U) H p v) : Mm H m s U (upd H (m.gl x) (.lst (xs.set r v))) m { s with gs := setAt s.gs x r p } U := by
  have nm : R.names { s with gs := setAt s.gs x r p } = s.names := nms_setAt
  have ow : ∀ b, mown m { s with gs := setAt s.gs x r p } U b → mown m s U b := fun b w => by unfold mown at w; rw [nm] at w; exact w
  have gx : mown m s U (m.gl x) := .inr (.inr (.inr (.inl ⟨x, hx, rfl⟩)))
  have fr : ∀ b u, ¬ mown m s U b → H b = some u → upd H (m.gl x) (.lst (xs.set r v)) b = some u := fun b u n e => by rw [upd_ne fun w => n (by rw [w]; exact gx)]; exact e
  obtain ⟨n1, n2⟩ := h.ld ex
  refine ⟨⟨by rw [upd_ne n1.symm]; exact h.d_, ?_, by rw [upd_ne n2.symm, nm]; exact h.gd_, fun g hg => ?_, h.n0, fun y hy => h.n1 y (nm ▸ hy), fun n hn hu => ⟨(h.n2 n hn hu).1, fun y hy => (h.n2 n hn hu).2 y (nm ▸ hy)⟩, fun a ha b hb => h.n4 a (nm ▸ ha) b (nm ▸ hb), h.n5, by rw [nm]; exact h.nd, fun b w => (h.xh b w).imp fun u e => by rw [upd_ne ((h.xo b w).2.2.2.1 x hx)]; exact e, fun b w => ⟨(h.xo b w).1, (h.xo b w).2.1, (h.xo b w).2.2.1, fun y hy => (h.xo b w).2.2.2.1 y (nm ▸ hy), (h.xo b w).2.2.2.2⟩⟩, fr, fun b w => .inl (ow b w), rfl, rfl, fun b u w e => by rw [upd_ne ((h.xo b w).2.2.2.1 x hx)]; exact e⟩
  · obtain ⟨ys, e, l, q⟩ := h.rl_
    refine ⟨ys, by rw [upd_ne (h.n1 x hx)]; exact e, l, fun n v' hv' => (q n v' hv').keep fr (fun b w => .inl (ow b w)) rfl (fun _ => rfl) rfl fun hu => ?_⟩
    have ln : n < s.cells.length := by rw [← l]; exact (List.getElem?_eq_some_iff.mp hv').1
    rw [upd_ne ((h.n2 n ln hu).2 x hx).symm]
    exact h.wlx ln hu
  · obtain ⟨g0, hg0, rfl⟩ := List.mem_map.mp hg
    obtain ⟨ys, e2, q⟩ := h.gl_ g0 hg0
    have q' := q.keep fr fun b w => .inl (ow b w)
    by_cases z : g0.1 = x
    · rw [if_pos z]
      have e3 : H (m.gl x) = some (.lst ys) := z ▸ e2
      rw [ex] at e3
      obtain rfl : xs = ys := by injection (Option.some.inj e3)
      refine ⟨xs.set r v, by show upd H (m.gl x) _ (m.gl g0.1) = _; rw [z, upd_same], ?_⟩
      refine ⟨by show (xs.set r v).length = (g0.2.set r p).length; rw [List.length_set, List.length_set]; exact q.1, fun i p' v' a b => ?_⟩
      have a : (g0.2.set r p)[i]? = some p' := a
      by_cases ir : r = i
      · subst ir
        have lr : r < xs.length := by have := (List.getElem?_eq_some_iff.mp b).1; rwa [List.length_set] at this
        rw [List.getElem?_set_self lr] at b
        rw [List.getElem?_set_self (by rw [← q.1]; exact lr)] at a
        obtain rfl := Option.some.inj a
        obtain rfl := Option.some.inj b
        exact hv.keep fr fun b w => .inl (ow b w)
      · rw [List.getElem?_set_ne ir] at a b
        exact q'.2 i p' v' a b
    · rw [if_neg z]
      refine ⟨ys, ?_, q'⟩
      rw [upd_ne fun w => z (h.n4 _ (List.mem_map.mpr ⟨g0, hg0, rfl⟩) _ hx w)]
      exact e2
/-- a room of the house becomes none -/
theorem Md.drop (h : Md H m s U .none) {n : Nat} {xs : List V} (er : H m.rl = some (.lst xs)) : Mm H m s U (upd H m.rl (.lst (xs.set n .non))) m s (fun i => if i = n then false else U i) := by
  have ow : ∀ b, mown m s (fun i => if i = n then false else U i) b → mown m s U b := fun b w => by
    rcases w with w | w | w | w | ⟨i, hi, hu, w⟩ | w
    · exact .inl w
    · exact .inr (.inl w)
    · exact .inr (.inr (.inl w))
    · exact .inr (.inr (.inr (.inl w)))
    · have hu : (if i = n then false else U i) = true := hu
      by_cases z : i = n
      · rw [if_pos z] at hu; exact nomatch hu
      · rw [if_neg z] at hu; exact .inr (.inr (.inr (.inr (.inl ⟨i, hi, hu, w⟩))))
    · exact .inr (.inr (.inr (.inr (.inr w))))
  have up : ∀ {i}, (if i = n then false else U i) = true → U i = true := fun {i} hu => by
    by_cases z : i = n
    · rw [if_pos z] at hu; exact nomatch hu
    · rw [if_neg z] at hu; exact hu
  have fr : ∀ b u, ¬ mown m s U b → H b = some u → upd H m.rl (.lst (xs.set n .non)) b = some u := fun b u nb e => by rw [upd_ne fun w => nb (.inr (.inl w))]; exact e
  obtain ⟨n1, n2⟩ := h.ld er
  refine ⟨⟨by rw [upd_ne n1.symm]; exact h.d_, ?_, by rw [upd_ne n2.symm]; exact h.gd_, fun g hg => ?_, h.n0, h.n1, fun i hi hu => h.n2 i hi (up hu), h.n4, fun i j hi hj hu hv => h.n5 i j hi hj (up hu) (up hv), h.nd, fun b w => (h.xh b w).imp fun u e => by rw [upd_ne (h.xo b w).2.1]; exact e, fun b w => ⟨(h.xo b w).1, (h.xo b w).2.1, (h.xo b w).2.2.1, (h.xo b w).2.2.2.1, fun i hi hu => (h.xo b w).2.2.2.2 i hi (up hu)⟩⟩, fr, fun b w => .inl (ow b w), rfl, rfl, fun b u w e => by rw [upd_ne (h.xo b w).2.1]; exact e⟩
  · obtain ⟨ys, e, l, q⟩ := h.rl_
    rw [er] at e
    obtain rfl : xs = ys := by injection (Option.some.inj e)
    refine ⟨xs.set n .non, upd_same, by rw [List.length_set]; exact l, fun i v hv => ?_⟩
    by_cases z : n = i
    · subst z
      have ln : n < xs.length := by have := (List.getElem?_eq_some_iff.mp hv).1; rwa [List.length_set] at this
      rw [List.getElem?_set_self ln] at hv
      exact .inl ⟨if_pos rfl, (Option.some.inj hv).symm⟩
    · rw [List.getElem?_set_ne z] at hv
      have ln : i < s.cells.length := by rw [← l]; exact (List.getElem?_eq_some_iff.mp hv).1
      refine (q i v hv).keep fr (fun b w => .inl (ow b w)) (if_neg fun w => z w.symm) (fun _ => rfl) rfl fun hu => ?_
      rw [upd_ne (h.n2 i ln hu).1.symm]
      exact h.wlx ln hu
  · obtain ⟨ys, e2, q⟩ := h.gl_ g hg
    exact ⟨ys, by rw [upd_ne (h.n1 _ (List.mem_map.mpr ⟨g, hg, rfl⟩)).symm]; exact e2, q.keep fr fun b w => .inl (ow b w)⟩
/-- the stamp -/
theorem Md.stamp (h : Md H m s U .none) {g : Nat} : Mm H m s U (upd H m.d (.dK (dicM m g))) m { s with givings := g } U := by
  have ld : ∀ {b : Addr} {xs : List V}, H b = some (.lst xs) → upd H m.d (.dK (dicM m g)) b = some (.lst xs) := fun {b xs} e => by rw [upd_ne (h.ld e).1]; exact e
  have fr : ∀ b u, ¬ mown m s U b → H b = some u → upd H m.d (.dK (dicM m g)) b = some u := fun b u nb e => by rw [upd_ne fun w => nb (.inl w)]; exact e
  refine ⟨⟨upd_same, ?_, by rw [upd_ne h.n0.symm]; exact h.gd_, fun g hg => ?_, h.n0, h.n1, h.n2, h.n4, h.n5, h.nd, fun b w => (h.xh b w).imp fun u e => by rw [upd_ne (h.xo b w).1]; exact e, h.xo⟩, fr, fun b w => .inl w, rfl, rfl, fun b u w e => by rw [upd_ne (h.xo b w).1]; exact e⟩
  · obtain ⟨ys, e, l, q⟩ := h.rl_
    exact ⟨ys, ld e, l, fun i v hv => (q i v hv).keep fr (fun b w => .inl w) rfl (fun _ => rfl) rfl fun hu => ld (h.wlx (by rw [← l]; exact (List.getElem?_eq_some_iff.mp hv).1) hu)⟩
  · obtain ⟨ys, e2, q⟩ := h.gl_ g hg
    exact ⟨ys, ld e2, q.keep fr fun b w => .inl w⟩
/-- a room's words -/
theorem Md.cell (h : Md H m s U .none) {n : Nat} {ws : List Nat} (hn : n < s.cells.length) (hu : U n = true) : Mm H m s U (upd H (m.wl n) (.lst (nv ws))) m { s with cells := s.cells.set n ws } U := by
  have ew := h.wlx hn hu
  have le : (s.cells.set n ws).length = s.cells.length := List.length_set
  have ow : ∀ b, mown m { s with cells := s.cells.set n ws } U b → mown m s U b := fun b w => by unfold mown at w; rw [show ({ s with cells := s.cells.set n ws } : R).cells.length = s.cells.length from le] at w; exact w
  have fr : ∀ b u, ¬ mown m s U b → H b = some u → upd H (m.wl n) (.lst (nv ws)) b = some u := fun b u nb e => by rw [upd_ne fun w => nb (.inr (.inr (.inr (.inr (.inl ⟨n, hn, hu, w⟩)))))]; exact e
  obtain ⟨n1, n2⟩ := h.ld ew
  have q2 := h.n2 n hn hu
  refine ⟨⟨by rw [upd_ne n1.symm]; exact h.d_, ?_, by rw [upd_ne n2.symm]; exact h.gd_, fun g hg => ?_, h.n0, h.n1, fun i hi hv => h.n2 i (le ▸ hi) hv, h.n4, fun i j hi hj => h.n5 i j (le ▸ hi) (le ▸ hj), h.nd, fun b w => (h.xh b w).imp fun u e => by rw [upd_ne ((h.xo b w).2.2.2.2 n hn hu)]; exact e, fun b w => ⟨(h.xo b w).1, (h.xo b w).2.1, (h.xo b w).2.2.1, (h.xo b w).2.2.2.1, fun i hi => (h.xo b w).2.2.2.2 i (le ▸ hi)⟩⟩, fr, fun b w => .inl (ow b w), rfl, rfl, fun b u w e => by rw [upd_ne ((h.xo b w).2.2.2.2 n hn hu)]; exact e⟩
  · obtain ⟨ys, e, l, q⟩ := h.rl_
    refine ⟨ys, by rw [upd_ne q2.1]; exact e, by rw [l]; exact le.symm, fun i v hv => (q i v hv).keep fr (fun b w => .inl (ow b w)) rfl (fun _ => rfl) rfl fun hv' => ?_⟩
    have li : i < s.cells.length := by rw [← l]; exact (List.getElem?_eq_some_iff.mp hv).1
    by_cases z : i = n
    · subst z
      rw [upd_same]
      show _ = some (HO.lst (nv ((s.cells.set i ws).getD i [])))
      rw [List.getD_eq_getElem?_getD, List.getElem?_set_self li]
      rfl
    · rw [upd_ne fun w => z (h.n5 _ _ li hn hv' hu w), h.wlx li hv']
      show _ = some (HO.lst (nv ((s.cells.set n ws).getD i [])))
      rw [List.getD_eq_getElem?_getD, List.getD_eq_getElem?_getD, List.getElem?_set_ne fun w => z w.symm]
  · obtain ⟨ys, e2, q⟩ := h.gl_ g hg
    exact ⟨ys, by rw [upd_ne (q2.2 _ (List.mem_map.mpr ⟨g, hg, rfl⟩))]; exact e2, q.keep fr fun b w => .inl (ow b w)⟩
/-- a room of the house is given anew -/
theorem Md.place (h : Md Hb m s U .none) (f : Same Hb H) {n g : Nat} {ws : List Nat} {t w : Addr} {xs : List V} (hn : n < s.cells.length) (hg : n < s.given.length) (er : Hb m.rl = some (.lst xs)) (nt : Hb t = .none) (nw : Hb w = .none) (tw : t ≠ w) (et : H t = some (.lst [.int g, .ref w])) (ew : H w = some (.lst (nv ws))) :
    Mm Hb m s U (upd H m.rl (.lst (xs.set n (.ref t)))) { m with wl := fun i => if i = n then w else m.wl i } { s with cells := s.cells.set n ws, given := s.given.set n g } (fun i => if i = n then true else U i) := by
  have h1 := h.same f
  have er1 := f _ _ er
  have le : (s.cells.set n ws).length = s.cells.length := List.length_set
  have has : ∀ {b}, mown m s U b → Hb b ≠ .none := fun {b} o e => by obtain ⟨u, eu⟩ := h.has o; rw [e] at eu; exact nomatch eu
  have up : ∀ {i}, i ≠ n → (if i = n then true else U i) = U i := fun {i} z => if_neg z
  have ow : ∀ b, mown { m with wl := fun i => if i = n then w else m.wl i } { s with cells := s.cells.set n ws, given := s.given.set n g } (fun i => if i = n then true else U i) b → mown m s U b ∨ Hb b = .none := fun b o => by
    rcases o with o | o | o | o | ⟨i, hi, hu, o⟩ | o
    · exact .inl (.inl o)
    · exact .inl (.inr (.inl o))
    · exact .inl (.inr (.inr (.inl o)))
    · exact .inl (.inr (.inr (.inr (.inl o))))
    · have o : b = if i = n then w else m.wl i := o
      have hu : (if i = n then true else U i) = true := hu
      by_cases z : i = n
      · rw [if_pos z] at o; exact .inr (by rw [o]; exact nw)
      · rw [if_neg z] at o hu; exact .inl (.inr (.inr (.inr (.inr (.inl ⟨i, le ▸ hi, hu, o⟩)))))
    · exact .inl (.inr (.inr (.inr (.inr (.inr o)))))
  have fr : ∀ b u, ¬ mown m s U b → Hb b = some u → upd H m.rl (.lst (xs.set n (.ref t))) b = some u := fun b u nb e => by rw [upd_ne fun w => nb (.inr (.inl w))]; exact f _ _ e
  obtain ⟨n1, n2⟩ := h1.ld er1
  have trl : t ≠ m.rl := fun z => by rw [z, er] at nt; exact nomatch nt
  have wrl : w ≠ m.rl := fun z => by rw [z, er] at nw; exact nomatch nw
  refine ⟨⟨by rw [upd_ne n1.symm]; exact h1.d_, ?_, by rw [upd_ne n2.symm]; exact h1.gd_, fun g' hg' => ?_, h.n0, h.n1, fun i hi hu => ?_, h.n4, fun i j hi hj hu hv e => ?_, h.nd, fun b w => (h.xh b w).imp fun u e => by rw [upd_ne (h.xo b w).2.1]; exact f _ _ e, fun b w0 => ⟨(h.xo b w0).1, (h.xo b w0).2.1, (h.xo b w0).2.2.1, (h.xo b w0).2.2.2.1, fun i hi hu => ?_⟩⟩, fr, ow, rfl, rfl, fun b u w e => by rw [upd_ne (h.xo b w).2.1]; exact f _ _ e⟩
  · obtain ⟨ys, e, l, q⟩ := h.rl_
    rw [er] at e
    obtain rfl : xs = ys := by injection (Option.some.inj e)
    refine ⟨xs.set n (.ref t), upd_same, by rw [List.length_set, l]; exact le.symm, fun i v hv => ?_⟩
    by_cases z : n = i
    · subst z
      rw [List.getElem?_set_self (by rw [l]; exact hn)] at hv
      refine .inr ⟨if_pos rfl, t, (Option.some.inj hv).symm, fun o => ?_, ?_, ?_⟩
      · rcases o with o | o | o | ⟨y, hy, o⟩ | ⟨i, hi, hu, o⟩ | o
        · exact has (.inl rfl) (o ▸ nt)
        · exact has (.inr (.inl rfl)) (o ▸ nt)
        · exact has (.inr (.inr (.inl rfl))) (o ▸ nt)
        · exact has (.inr (.inr (.inr (.inl ⟨y, hy, rfl⟩)))) (o ▸ nt)
        · have o : t = if i = n then w else m.wl i := o
          have hu : (if i = n then true else U i) = true := hu
          by_cases z : i = n
          · rw [if_pos z] at o; exact tw o
          · rw [if_neg z] at o hu; exact has (.inr (.inr (.inr (.inr (.inl ⟨i, le ▸ hi, hu, rfl⟩))))) (o ▸ nt)
        · exact has (.inr (.inr (.inr (.inr (.inr o))))) nt
      · show upd H m.rl _ t = some (.lst [.int ((s.given.set n g).getD n 0 : Nat), .ref (if n = n then w else m.wl n)])
        rw [upd_ne trl, et, if_pos rfl, List.getD_eq_getElem?_getD, List.getElem?_set_self hg]
        rfl
      · show upd H m.rl _ (if n = n then w else m.wl n) = some (.lst (nv ((s.cells.set n ws).getD n [])))
        rw [if_pos rfl, upd_ne wrl, ew, List.getD_eq_getElem?_getD, List.getElem?_set_self hn]
        rfl
    · rw [List.getElem?_set_ne z] at hv
      have z' : i ≠ n := fun y => z y.symm
      have li : i < s.cells.length := by rw [← l]; exact (List.getElem?_eq_some_iff.mp hv).1
      refine (q i v hv).keep fr ow (up z') (fun _ => if_neg z') (by show (s.given.set n g).getD i 0 = _; rw [List.getD_eq_getElem?_getD, List.getD_eq_getElem?_getD, List.getElem?_set_ne z]) fun hu => ?_
      rw [upd_ne (h.n2 i li hu).1.symm]
      show H (m.wl i) = some (.lst (nv ((s.cells.set n ws).getD i [])))
      rw [List.getD_eq_getElem?_getD, List.getElem?_set_ne z, ← List.getD_eq_getElem?_getD]
      exact h1.wlx li hu
  · obtain ⟨ys, e2, q⟩ := h.gl_ g' hg'
    exact ⟨ys, by rw [upd_ne (h.n1 _ (List.mem_map.mpr ⟨g', hg', rfl⟩)).symm]; exact f _ _ e2, q.keep fr ow⟩
  · have hu : (if i = n then true else U i) = true := hu
    show m.rl ≠ (if i = n then w else m.wl i) ∧ ∀ x ∈ s.names, m.gl x ≠ (if i = n then w else m.wl i)
    by_cases z : i = n
    · rw [if_pos z]
      exact ⟨wrl.symm, fun x hx y => has (.inr (.inr (.inr (.inl ⟨x, hx, rfl⟩)))) (y ▸ nw)⟩
    · rw [if_neg z] at hu ⊢
      exact h.n2 i (le ▸ hi) hu
  · have hu : (if i = n then true else U i) = true := hu
    have hv : (if j = n then true else U j) = true := hv
    have e : (if i = n then w else m.wl i) = (if j = n then w else m.wl j) := e
    by_cases zi : i = n <;> by_cases zj : j = n
    · exact zi.trans zj.symm
    · rw [if_pos zi, if_neg zj] at e
      rw [if_neg zj] at hv
      exact (has (.inr (.inr (.inr (.inr (.inl ⟨j, le ▸ hj, hv, rfl⟩))))) (e ▸ nw)).elim
    · rw [if_neg zi, if_pos zj] at e
      rw [if_neg zi] at hu
      exact (has (.inr (.inr (.inr (.inr (.inl ⟨i, le ▸ hi, hu, rfl⟩))))) (e.symm ▸ nw)).elim
    · rw [if_neg zi, if_neg zj] at e
      rw [if_neg zi] at hu
      rw [if_neg zj] at hv
      exact h.n5 i j (le ▸ hi) (le ▸ hj) hu hv e
  · have hu : (if i = n then true else U i) = true := hu
    show b ≠ (if i = n then w else m.wl i)
    by_cases z : i = n
    · rw [if_pos z]
      exact fun y => has (.inr (.inr (.inr (.inr (.inr w0))))) (y ▸ nw)
    · rw [if_neg z] at hu ⊢
      exact (h.xo b w0).2.2.2.2 i (le ▸ hi) hu
end
end K17

namespace K17
open PySem PySem.Spec PyProof.Rows L2 Bk Rm


section
variable {H Hb : Hp} {m : Ms} {s : R} {U : Nat → Bool}
/-- a guest comes -/
theorem Md.come (h : Md Hb m s U .none) (f : Same Hb H) {x : Str} {D : Addr} {xs : List V} {ps : List Pl} (hx : x ∉ s.names) (nD : Hb D = .none) (eD : H D = some (.lst xs)) (its : ItsV (fun b => Hb b ≠ .none ∨ b = D) H ps xs) :
    Mm Hb m s U (upd H m.gd (.dK (putK (dicF s.names fun y => .ref (m.gl y)) (.inr x : Key) (.ref D)))) { m with gl := fun y => if y = x then D else m.gl y } { s with gs := s.gs ++ [(x, ps)] } U := by
  have h1 := h.same f
  have nms : R.names { s with gs := s.gs ++ [(x, ps)] } = s.names ++ [x] := by unfold R.names; rw [List.map_append]; rfl
  have has : ∀ {b}, mown m s U b → Hb b ≠ .none := fun {b} o e => by obtain ⟨u, eu⟩ := h.has o; rw [e] at eu; exact nomatch eu
  have gly : ∀ {y}, y ∈ s.names → (if y = x then D else m.gl y) = m.gl y := fun {y} hy => if_neg fun (z : y = x) => hx (by rw [← z]; exact hy)
  have ow : ∀ b, mown { m with gl := fun y => if y = x then D else m.gl y } { s with gs := s.gs ++ [(x, ps)] } U b → mown m s U b ∨ b = D := fun b o => by
    rcases o with o | o | o | ⟨y, hy, o⟩ | o
    · exact .inl (.inl o)
    · exact .inl (.inr (.inl o))
    · exact .inl (.inr (.inr (.inl o)))
    · rw [nms] at hy
      have o : b = if y = x then D else m.gl y := o
      by_cases z : y = x
      · rw [if_pos z] at o; exact .inr o
      · rw [if_neg z] at o
        exact .inl (.inr (.inr (.inr (.inl ⟨y, (List.mem_append.mp hy).elim id fun w => absurd (List.mem_singleton.mp w) z, o⟩))))
    · exact .inl (.inr (.inr (.inr (.inr o))))
  have ow2 : ∀ b, mown { m with gl := fun y => if y = x then D else m.gl y } { s with gs := s.gs ++ [(x, ps)] } U b → mown m s U b ∨ Hb b = .none := fun b o => (ow b o).imp id fun z => by rw [z]; exact nD
  have lg : ∀ {b : Addr} {xs : List V}, H b = some (.lst xs) → upd H m.gd (.dK (putK (dicF s.names fun y => .ref (m.gl y)) (.inr x : Key) (.ref D))) b = some (.lst xs) := fun {b xs} e => by rw [upd_ne (h1.ld e).2]; exact e
  have fr : ∀ b u, ¬ mown m s U b → Hb b = some u → upd H m.gd (.dK (putK (dicF s.names fun y => .ref (m.gl y)) (.inr x : Key) (.ref D))) b = some u := fun b u nb e => by rw [upd_ne fun w => nb (.inr (.inr (.inl w)))]; exact f _ _ e
  have Dne : ∀ {b}, mown m s U b → D ≠ b := fun {b} o z => has o (z ▸ nD)
  refine ⟨⟨by rw [upd_ne h.n0]; exact h1.d_, ?_, ?_, fun g hg => ?_, h.n0, fun y hy => ?_, fun n hn hu => ⟨(h.n2 n hn hu).1, fun y hy => ?_⟩, fun a ha b hb e => ?_, h.n5, by rw [nms]; exact List.nodup_append.mpr ⟨h.nd, List.nodup_cons.mpr ⟨fun z => (nomatch z), List.nodup_nil⟩, fun a ha b hb e => hx (by rw [← List.mem_singleton.mp hb, ← e]; exact ha)⟩, fun b w => (h.xh b w).imp fun u e => by rw [upd_ne (h.xo b w).2.2.1]; exact f _ _ e, fun b w => ⟨(h.xo b w).1, (h.xo b w).2.1, (h.xo b w).2.2.1, fun y hy => ?_, (h.xo b w).2.2.2.2⟩⟩, fr, ow2, rfl, rfl, fun b u w e => by rw [upd_ne (h.xo b w).2.2.1]; exact f _ _ e⟩
  · obtain ⟨ys, e, l, q⟩ := h.rl_
    refine ⟨ys, lg (f _ _ e), l, fun i v hv => (q i v hv).keep fr ow2 rfl (fun _ => rfl) rfl fun hu => ?_⟩
    exact lg (f _ _ (h.wlx (by rw [← l]; exact (List.getElem?_eq_some_iff.mp hv).1) hu))
  · show upd H m.gd _ m.gd = some (.dK (dicF (R.names { s with gs := s.gs ++ [(x, ps)] }) fun y => .ref (if y = x then D else m.gl y)))
    rw [upd_same, nms, dicF_put, if_neg hx]
    refine congrArg (fun l => some (HO.dK l)) (dicF_congr fun y _ => ?_)
    split <;> rfl
  · show ∃ xs, upd H m.gd _ (if g.1 = x then D else m.gl g.1) = some (.lst xs) ∧ _
    rcases List.mem_append.mp hg with hg | hg
    · obtain ⟨ys, e2, q⟩ := h.gl_ g hg
      rw [gly (List.mem_map.mpr ⟨g, hg, rfl⟩)]
      exact ⟨ys, lg (f _ _ e2), q.keep fr ow2⟩
    · obtain rfl := List.mem_singleton.mp hg
      rw [if_pos rfl]
      refine ⟨xs, lg eD, its.keep (fun b u nb e => ?_) fun b o => .inl ((ow b o).imp has id)⟩
      rw [upd_ne fun w => nb (.inl (by rw [w]; exact has (.inr (.inr (.inl rfl)))))]
      exact e
  · show m.rl ≠ (if y = x then D else m.gl y)
    rw [nms] at hy
    by_cases z : y = x
    · rw [if_pos z]; exact (Dne (.inr (.inl rfl))).symm
    · rw [if_neg z]; exact h.n1 y ((List.mem_append.mp hy).elim id fun w => absurd (List.mem_singleton.mp w) z)
  · show (if y = x then D else m.gl y) ≠ m.wl n
    rw [nms] at hy
    by_cases z : y = x
    · rw [if_pos z]; exact Dne (.inr (.inr (.inr (.inr (.inl ⟨n, hn, hu, rfl⟩)))))
    · rw [if_neg z]; exact (h.n2 n hn hu).2 y ((List.mem_append.mp hy).elim id fun w => absurd (List.mem_singleton.mp w) z)
  · have e : (if a = x then D else m.gl a) = (if b = x then D else m.gl b) := e
    rw [nms] at ha hb
    have old : ∀ {c}, c ∈ s.names ++ [x] → c ≠ x → c ∈ s.names := fun {c} hc z => (List.mem_append.mp hc).elim id fun w => absurd (List.mem_singleton.mp w) z
    by_cases za : a = x <;> by_cases zb : b = x
    · exact za.trans zb.symm
    · rw [if_pos za, if_neg zb] at e
      exact absurd e (Dne (.inr (.inr (.inr (.inl ⟨b, old hb zb, rfl⟩)))))
    · rw [if_neg za, if_pos zb] at e
      exact absurd e.symm (Dne (.inr (.inr (.inr (.inl ⟨a, old ha za, rfl⟩)))))
    · rw [if_neg za, if_neg zb] at e
      exact h.n4 a (old ha za) b (old hb zb) e
  · show b ≠ (if y = x then D else m.gl y)
    rw [nms] at hy
    by_cases z : y = x
    · rw [if_pos z]; exact (Dne (.inr (.inr (.inr (.inr (.inr w)))))).symm
    · rw [if_neg z]; exact (h.xo b w).2.2.2.1 y ((List.mem_append.mp hy).elim id fun w => absurd (List.mem_singleton.mp w) z)
end
theorem iteX {c : Bool} {A B : Prop} (h : c = false) (q : B) : if c = true then A else B := by rw [h, if_neg Bool.false_ne_true]; exact q
theorem iteY {c : Bool} {A B : Prop} (h : c = true) (q : A) : if c = true then A else B := by rw [h, if_pos rfl]; exact q
theorem Md.rd {H : Hp} {m : Ms} {s : R} {U : Nat → Bool} {z : Option Obj} (h : Md H m s U z) : Rd H m.gd (.dK (dicF s.names fun x => .ref (m.gl x))) := by
  have := h.gd_
  cases z with
  | none => exact .inl this
  | some o => exact .inr ⟨o, this⟩
def spMWords : Sp := fun vs H Q _ => ∃ (m : Ms) (s : R) (U : Nat → Bool) (z : Option Obj) (x : Str) (r : Nat), vs = [.ref m.d, .str x, .int r] ∧ Md H m s U z ∧ s.Ok ∧ (∀ n, used s.gs n = true → U n = true) ∧ x ∈ s.names ∧ r < 8 ∧ ∀ p H', H p = none → Same H H' → H' p = some (.lst (nv (words s.cells (plc s x r)))) → Q (.ref p) H'
section
variable {P : Program} {w : World} {K : PySem.W.Frag} {mg : Str → Option Value} {base : Heap} {A : Ad}
theorem r_dM {σ : L2.St} {H : Hp} {Q : VK} {m : Ms} {s : R} {U : Nat → Bool} {z : Option Obj} {i : Nat} {k : Str} {v : V} (h : Md H m s U z) (h0 : σ[i]? = some (some (.ref m.d))) (hv : valV (dicM m s.givings) (.inr k : Key) = some v) (q : Q v H) : tDGet (tVar i) (tC (.str k)) σ H Q :=
  ⟨_, h0, m.d, v, rfl, .inl ⟨_, .inr k, .inl h.d_, rfl, hv.symm⟩, q⟩
theorem used_of {s : R} {g : Str × List Pl} {i n : Nat} (hg : g ∈ s.gs) (e : g.2[i]? = some (.at n)) : used s.gs n = true :=
  List.any_eq_true.mpr ⟨g, hg, List.any_eq_true.mpr ⟨_, List.mem_of_getElem? e, decide_eq_true rfl⟩⟩
theorem ok_mwords {f : Addr} {fd : FuncData} (F : Fun K "_law_words" "_law_words" s_words_L f fd) (T : Txt K mg A) : FnOk P w K mg base CX0 1 f fd ["_law_model_here", "_law_name", "_law_room"] spMWords := by
  refine F.ok sc_words_L (fun vs H Q E h => ?_) (fun cdv A' outer s H vs Q E hr h => have hu65 := units65 hr; have hu64 := hr.units; have hu := units1 hr; ⟨_, (pss_cons (ps_asg (pe_ix ix_list (pe_dget hu (pe_dget hu (pv 0) pe_str (fun _ _ => rfl)) (pv 1) (fun _ _ => rfl)) (pv 2) (fun _ _ => rfl)) (pg_lst rfl (pgs_cons (pg_name (i := 3) sc_words_L.nd rfl (.inl rfl)) (pgs_cons (pg_name (i := 4) sc_words_L.nd rfl (.inl rfl)) pgs_nil))))
    (pss_cons (ps_if (pt_cmpR op_eq (pv 3) pe_str (nomark _)) (pss_one (ps_ret (pe_callTy call_list_of (by rfl) T.m_list (by decide +kernel) (pa_cons (pe_ix ix_list (pe_ix ix_list (pe_dget hu (pv 0) pe_str (fun _ _ => rfl)) (pv 4) (fun _ _ => rfl)) pe_int (fun _ _ => rfl)) pa_nil)))) pss_nil)
    (pss_one (ps_ret (pe_ifExp (pt_cmpR op_eq (pv 3) pe_str (nomark _)) (pe_op op_rep (pe_lstB (pa_cons pe_int pa_nil)) pe_int) (pe_callTy call_list_of (by rfl) T.m_list (by decide +kernel) (pa_cons (pv 4) pa_nil))))))), ?_⟩)
  · obtain ⟨m, s, U, z, x, r, rfl, _⟩ := h
    rfl
  · obtain ⟨m, s, U, z, x, r, rfl, hM, ok, hU, hx, r8, q⟩ := h
    obtain ⟨g, xs, hg, eg, ex, its⟩ := hM.glx hx
    obtain ⟨ps, hp⟩ := getG_some hx
    obtain ⟨p, e1, e2, e3, e4⟩ := at_place ok hp r8
    have ep : plc s x r = p := e2
    rw [ep] at q
    have ei := e4 g hg eg
    have lr : r < xs.length := by rw [its.1]; exact (List.getElem?_eq_some_iff.mp ei).1
    have ev := List.getElem?_eq_getElem lr
    have iv := its.2 r p _ ei ev
    generalize xs[r] = v at ev iv
    walk_at "go"
    refine r_dM hM rfl (v := .ref m.gd) rfl ?_
    refine ⟨_, rfl, m.gd, .ref (m.gl x), rfl, .inl ⟨_, .inr x, hM.rd, rfl, by rw [dicF_get, if_pos hx]⟩, ?_⟩
    walk_at "go"
    refine r_ixL (sqL ex) (v := v) (atI_nat ev) ?_
    cases p with
    | blank =>
      obtain ⟨t, rfl, _, et⟩ := iv
      refine ⟨t, _, rfl, sqL et, rfl, ?_⟩
      refine ⟨_, _, rfl, _, _, rfl, rfl, ?_⟩
      walk_at "go"
      refine iteX (by decide +kernel) ?_
      walk_at "go"
      refine iteY (by decide +kernel) ?_
      walk_at "go"
      refine newLB fun la H1 n1 g1 s1 e1 => ?_
      walk_at "go"
      refine ⟨la, 8, _, rfl, rfl, e1, by decide, by decide, Nat.le_of_ble_eq_true rfl, fun p np => ?_⟩
      exact q p _ (none_of s1 np) (s1.trans (same_upd np)) (by rw [upd_same]; rfl)
    | own ws =>
      obtain ⟨t, c, rfl, _, _, et, ec⟩ := iv
      refine ⟨t, _, rfl, sqL et, rfl, ?_⟩
      refine ⟨_, _, rfl, _, _, rfl, rfl, ?_⟩
      walk_at "go"
      refine iteX (by decide +kernel) ?_
      walk_at "go"
      refine iteX (by decide +kernel) ?_
      walk_at "go"
      exact ⟨c, _, rfl, .inl (sqL ec), fun l nl => q l _ nl (same_upd nl) upd_same⟩
    | «at» n =>
      obtain ⟨t, rfl, _, et⟩ := iv
      refine ⟨t, _, rfl, sqL et, rfl, ?_⟩
      refine ⟨_, _, rfl, _, _, rfl, rfl, ?_⟩
      walk_at "go"
      refine iteY (by decide +kernel) ?_
      have un : U n = true := hU n (used_of hg ei)
      have ln : n < s.cells.length := e3.2 n rfl
      obtain ⟨rs, er, lrs, qr⟩ := hM.rl_
      have lnr : n < rs.length := by rw [lrs]; exact ln
      rcases qr n rs[n] (List.getElem?_eq_getElem lnr) with ⟨z0, _⟩ | ⟨_, t2, ev2, _, et2, ew2⟩
      · rw [un] at z0; exact nomatch z0
      · have ev3 : rs[n]? = some (.ref t2) := by rw [List.getElem?_eq_getElem lnr, ev2]
        walk_at "go"
        refine r_dM hM rfl (v := .ref m.rl) rfl ?_
        walk_at "go"
        refine r_ixL (sqL er) (v := .ref t2) (atI_nat ev3) ?_
        walk_at "go"
        refine r_ixL (sqL et2) (v := .ref (m.wl n)) (atI_nat (j := 1) rfl) ?_
        walk_at "go"
        exact ⟨m.wl n, _, rfl, .inl (sqL ew2), fun l nl => q l _ nl (same_upd nl) upd_same⟩
end
end K17

namespace K17
open PySem PySem.Spec PyProof.Rows L2 Bk Rm


section
variable {K : PySem.W.Frag} {σ : L2.St} {H : Hp} {Q : VK} {j : Nat} {vs : List Nat} {tl te : TE} {a : Addr} {xs : List V}
/-- over a tuple: what is laid stays, all but the list itself stays -/
theorem lcPD (Pr : Addr → Nat → V → Hp → Prop) (st : ∀ D i v H1 H2, But D H1 H2 → Pr D i v H1 → Pr D i v H2) (hs : SqT K H a xs) (hl : xs.length ≤ 10000) (hv : ∀ QQ : VK, QQ (.ref a) H → tl σ H QQ) (hw : ∀ x, wipe ((wipe σ vs).set j (some x)) vs = wipe σ vs)
    (ht : ∀ (D : Addr) (i : Nat) (y : V) (H1 : Hp) (acc : List V) (Q' : VK), H D = none → xs[i]? = some y → Same H H1 → H1 D = some (.lst acc) → (∀ v H3, Same H1 H3 → Pr D i v H3 → Q' v H3) → te ((wipe σ vs).set j (some y)) H1 Q')
    (q : ∀ D H' (ys : List V), H D = none → Same H H' → H' D = some (.lst ys) → ys.length = xs.length → (∀ k v, ys[k]? = some v → Pr D k v H') → Q (.ref D) H') : tLc (iTup K tl) (gName j) tYes te vs σ H Q := by
  refine hv _ ⟨a, rfl, ⟨xs, hs⟩, fun D hD => ?_⟩
  refine lc_it (g := gName j) (te := te) (tt := tYes) (vs := vs) (σ := σ) (walk_tup (K := K) (a := a) (xs := xs)) (fun i G => Same H G ∧ ∃ ys : List V, G D = some (.lst ys) ∧ ys.length = i ∧ (∀ k v, ys[k]? = some v → Pr D k v G))
    ⟨same_upd hD, [], upd_same, rfl, fun _ _ z => nomatch z⟩ (fun i G _ z => seqT z.1 hs) (fun i x H1 H2 hi ⟨sm, ys, e, l, all⟩ y => ?_) fun G ⟨sm, ys, e, l, all⟩ => q D G ys hD sm e l all
  obtain ⟨rfl, hy⟩ := y
  refine ⟨hw _, r_yes (ht D i x _ ys _ hD hy sm e fun v H3 s3 pv => ?_)⟩
  have e3 := s3 _ _ e
  have bD : But D H3 (upd H3 D (.lst (ys ++ [v]))) := But.upd
  refine ⟨ys, e3, by rw [l, sizeLine_eq]; omega, fun b u eb => ?_, ys ++ [v], upd_same, by rw [List.length_append, l]; rfl, fun k u hk => ?_⟩
  · rw [upd_ne (ne_of_none eb hD)]
    exact s3 _ _ (sm _ _ eb)
  · by_cases hk2 : k < ys.length
    · rw [List.getElem?_append_left hk2] at hk
      exact st _ _ _ _ _ (But.trans (But.of s3) bD) (all k u hk)
    · have e4 : k = i := by
        have := (List.getElem?_eq_some_iff.mp hk).1
        rw [List.length_append, List.length_singleton] at this
        omega
      subst e4
      rw [List.getElem?_append_right (by omega), l, Nat.sub_self] at hk
      obtain rfl := Option.some.inj hk
      exact st _ _ _ _ _ bD pv
end
theorem op_repTK {X : Cx} {K : PySem.W.Frag} (h : X.K = K) : OpR X (binaryOp .Mult) (rRepT K) := by
  subst h
  exact op_repT
theorem flat_rep {n : Nat} {v : V} : (List.replicate n [v]).flatten = List.replicate n v := by
  induction n with
  | zero => rfl
  | succ n ih => rw [List.replicate_succ, List.flatten_cons, ih]; rfl
def spModel : Sp := fun vs H Q _ => ∃ (n : Nat) (X : Addr → Prop), vs = [.int n] ∧ (∀ b, X b → ∃ u, H b = some u) ∧ 1 ≤ n ∧ n ≤ 64 ∧ ∀ (m : Ms) H', Same H H' → Md H' m (r0 n) (fun _ => false) none → (∀ b, mown m (r0 n) (fun _ => false) b → X b ∨ H b = none) → m.x = X → Q (.ref m.d) H'
def spMComes (A : Ad) : Sp := fun vs H Q _ => ∃ (m : Ms) (s : R) (U : Nat → Bool) (x : Str) (a : Addr) (rows : List (List Nat)), vs = [.ref m.d, .str x, .ref a] ∧ Md H m s U none ∧ x ∉ s.names ∧ s.names.length < 6 ∧ Eight A H a rows ∧ RowsOk rows ∧ ∀ m' H', Mm H m s U H' m' { s with gs := s.gs ++ [(x, rows.map Rm.placeOf)] } U → Q .non H'
def spMLying : Sp := fun vs H Q _ => ∃ (m : Ms) (s : R) (U : Nat → Bool) (n : Nat), vs = [.ref m.d, .int n] ∧ Md H m s U none ∧ s.Ok ∧ s.names.length ≤ 6 ∧ n < 64 ∧ ∀ p (xs : List V) H', H p = none → Same H H' → H' p = some (.lst xs) → All2 PairV (lying s.gs n) xs H' → Q (.ref p) H'
section
variable {P : Program} {w : World} {K : PySem.W.Frag} {mg : Str → Option Value} {base : Heap} {A : Ad}
theorem ok_model {f : Addr} {fd : FuncData} (F : Fun K "_law_model" "_law_model" s_model_L f fd) (T : Txt K mg A) : FnOk P w K mg base CX0 1 f fd ["_law_many"] spModel := by
  refine F.ok sc_model_L (fun vs H Q E h => ?_) (fun cdv A' outer s H vs Q E hr h => have hu65 := units65 hr; have hu64 := hr.units; have hu := units1 hr; ⟨_, (pss_one (ps_ret (pe_disp (pps_cons pe_str (pe_op op_rep (pe_lstB (pa_cons pe_non pa_nil)) (pv 0)) (pps_cons pe_str pe_dnewK (pps_cons pe_str pe_int pps_nil))) rfl rfl (by simp) (by decide)))), ?_⟩)
  · obtain ⟨n, X, rfl, _⟩ := h
    rfl
  · obtain ⟨n, X, rfl, hX, n1, n64, q⟩ := h
    walk_at "go"
    intro p np
    refine r_op (r_lstB (r_cons (r_c (r_nil (newLB fun la H1 n1' g1 s1 e1 => r_var rfl ?_)))))
    refine ⟨la, n, _, rfl, rfl, e1, by omega, by omega, by rw [sizeLine_eq]; simp; omega, fun rl nrl => ?_⟩
    intro gd ngd
    have e2 : (List.replicate (Int.toNat n) [V.non]).flatten = List.replicate n V.non := by rw [Int.toNat_natCast]; exact flat_rep
    rw [e2] at ngd ⊢
    have ep1 : H1 p = some (.dK []) := s1 _ _ upd_same
    have prl : p ≠ rl := fun z => by rw [← z, ep1] at nrl; exact nomatch nrl
    have rlg : rl ≠ gd := fun z => by rw [← z, upd_same] at ngd; exact nomatch ngd
    have ngd' : H1 gd = none := by rw [upd_ne rlg.symm] at ngd; exact ngd
    have pgd : p ≠ gd := fun z => by rw [← z, ep1] at ngd'; exact nomatch ngd'
    refine ⟨by rw [upd_ne pgd, upd_ne prl]; exact ep1, dicM ⟨p, rl, gd, fun _ => 0, fun _ => 0, X⟩ 0, rfl, (by show 3 ≤ 15; decide), ?_⟩
    rw [show mergeK [] (dicM ⟨p, rl, gd, fun _ => 0, fun _ => 0, X⟩ 0) = dicM ⟨p, rl, gd, fun _ => 0, fun _ => 0, X⟩ 0 from rfl]
    have z0 : ∀ {b}, H1 b = none → H b = none := fun {b} z => by
      cases w : H b with
      | none => rfl
      | some u => rw [s1 b u (by rw [upd_ne (ne_of_none w np)]; exact w)] at z; exact nomatch z
    refine q ⟨p, rl, gd, fun _ => 0, fun _ => 0, X⟩ _ (fun b u eb => ?_) ⟨upd_same, ⟨List.replicate n .non, by rw [upd_ne prl.symm, upd_ne rlg]; exact upd_same, by show (List.replicate n V.non).length = (List.replicate n zeros).length; rw [List.length_replicate, List.length_replicate], fun i v hv => .inl ⟨rfl, (List.eq_of_mem_replicate (List.mem_of_getElem? hv))⟩⟩, by rw [upd_ne pgd.symm]; exact upd_same, fun _ z => (nomatch z), pgd, fun _ z => (nomatch z), fun _ _ z => (nomatch z), fun _ z => (nomatch z), fun _ _ _ _ z => (nomatch z), List.nodup_nil, fun b z => ?_, fun b z => ?_⟩ (fun b z => ?_) ?_
    · rw [upd_ne (ne_of_none eb np), upd_ne (ne_of_none eb (z0 ngd')), upd_ne (ne_of_none eb (z0 nrl))]
      exact s1 _ _ (by rw [upd_ne (ne_of_none eb np)]; exact eb)
    · obtain ⟨u, eb⟩ := hX b z
      refine ⟨u, ?_⟩
      rw [upd_ne (ne_of_none eb np), upd_ne (ne_of_none eb (z0 ngd')), upd_ne (ne_of_none eb (z0 nrl))]
      exact s1 _ _ (by rw [upd_ne (ne_of_none eb np)]; exact eb)
    · obtain ⟨u, eb⟩ := hX b z
      exact ⟨ne_of_none eb np, ne_of_none eb (z0 nrl), ne_of_none eb (z0 ngd'), fun _ z => (nomatch z), fun _ _ z => (nomatch z)⟩
    · rcases z with z | z | z | ⟨_, hy, _⟩ | ⟨_, _, hu, _⟩ | z
      · rw [z]; exact .inr np
      · rw [z]; exact .inr (z0 nrl)
      · rw [z]; exact .inr (z0 ngd')
      · exact nomatch hy
      · exact nomatch hu
      · exact .inl z
    · rfl
theorem ok_comes {f : Addr} {fd : FuncData} (F : Fun K "_law_comes" "_law_comes" s_comes_L f fd) (T : Txt K mg A) : FnOk P w K mg base CX0 1 f fd ["_law_model_here", "_law_name", "_law_rooms"] (spMComes A) := by
  refine F.ok sc_comes_L (fun vs H Q E h => ?_) (fun cdv A' outer s H vs Q E hr h => have hu65 := units65 hr; have hu64 := hr.units; have hu := units1 hr; ⟨_, (pss_one (ps_asg (pe_lc (own := [("_law_row_here", 3)]) rfl sc_comes_L.nd (pi_tup (pv 2)) (blkOk_by (N := ["_law_model_here", "_law_name", "_law_rooms", "_law_row_here"]) (sc := defScope s_comes_L) (by decide +kernel)) (fun _ _ _ _ _ => (pg_name (i := 3) sc_comes_L.nd rfl (.inl rfl))) (fun _ _ _ _ _ => pts_nil) (fun _ _ _ _ _ => (pe_ifExp (pt_cmpR (op_eqDK (K := K) rfl hu64) (pv 3) (pe_op (op_repTK (K := K) rfl) (pe_tup (pa_cons pe_int pa_nil)) pe_int) (nomark _)) (pe_lstB (pa_cons pe_str (pa_cons pe_non pa_nil))) (pe_lstB (pa_cons pe_str (pa_cons (pe_callTy (call_list_ofK (K := K) rfl) (by rfl) T.m_list (by decide +kernel) (pa_cons (pv 3) pa_nil)) pa_nil)))))) (pg_sub (pe_dget hu (pv 0) pe_str (fun _ _ => rfl)) (pv 1) (set_dict hu)))), ?_⟩)
  · obtain ⟨m, s, U, x, a, rows, rfl, _⟩ := h
    rfl
  · obtain ⟨m, s, U, x, a, rows, rfl, hM, hx, h6, h8, ok, q⟩ := h
    obtain ⟨us, ea, ul, hu8⟩ := h8
    have l8 : us.length = 8 := ul.trans ok.l8
    walk_at "go"
    refine lcPD (fun D i v G => ∃ ws, rows[i]? = some ws ∧ ItV (fun b => H b ≠ none ∨ b = D) G (Rm.placeOf ws) v) (fun D i v H1 H2 bD h => by
      obtain ⟨ws, e, it⟩ := h
      exact ⟨ws, e, it.keep (fun b u nb eb => bD b u (fun z => nb (.inr z)) eb) fun b o => .inl o⟩) (SqT.of ea) (by rw [List.length_map]; omega) (fun QQ qq => r_var rfl qq) (fun _ => rfl) (fun D i y H1 acc Q' nD hy s1 eD kk => ?_) fun D H1 ys nD s1 eD lys all => ?_
    · rw [List.getElem?_map] at hy
      cases eu : us[i]? with
      | none => rw [eu] at hy; exact nomatch hy
      | some u =>
        rw [eu] at hy
        obtain rfl := Option.some.inj hy
        have li : i < rows.length := by rw [← ul]; exact (List.getElem?_eq_some_iff.mp eu).1
        have er := List.getElem?_eq_getElem li
        have hr1 := (hu8 i u _ eu er).keep (Same.ts s1)
        generalize rows[i] = ws at er hr1
        walk_at "go"
        refine newT fun p H2 n2 s2 e2 => ?_
        walk_at "go"
        refine ⟨p, 8, _, rfl, rfl, SqT.of e2, by simp, by decide, by decide, Nat.le_of_ble_eq_true rfl, fun p2 np2 => ?_⟩
        have s3 := s2.trans (same_upd (o := .tup (List.replicate (Int.toNat 8) [V.int 0]).flatten) np2)
        have e3 : upd H2 p2 (.tup (List.replicate (Int.toNat 8) [V.int 0]).flatten) p2 = some (.tup (nv zeros)) := by rw [upd_same]; rfl
        generalize upd H2 p2 (.tup (List.replicate (Int.toNat 8) [V.int 0]).flatten) = H3 at s3 e3 ⊢
        refine ⟨rowT ws, rowT zeros, dp_rowT ((hr1.keep (Same.ts s3)).sq T), dp_rowT (SqT.of e3), sh_rowT _, sh_rowT _, ?_⟩
        rw [eqv_rowT]
        have eD3 := s3 _ _ eD
        by_cases hz : ws = zeros
        · rw [decide_eq_true hz]
          walk_at "go"
          refine newLB fun t H4 n4 g4 s4 e4 => kk _ H4 (s3.trans s4) ⟨ws, er, ?_⟩
          have pz : Rm.placeOf ws = .blank := by unfold Rm.placeOf; rw [if_pos hz]
          rw [pz]
          exact ⟨t, rfl, fun o => o.elim (fun z => z (none_of (s1.trans s3) n4)) fun z => by rw [z, eD3] at n4; exact (nomatch n4), e4⟩
        · rw [decide_eq_false hz]
          walk_at "go"
          refine ⟨u, _, rfl, .inr ((hr1.keep (Same.ts s3)).sq T), fun c nc => ?_⟩
          have s4 := same_upd (o := .lst (nv ws)) nc
          have ec : upd H3 c (.lst (nv ws)) c = some (.lst (nv ws)) := upd_same
          generalize upd H3 c (.lst (nv ws)) = H4 at s4 ec ⊢
          walk_at "go"
          refine newLB fun t H5 n5 g5 s5 e5 => kk _ H5 ((s3.trans s4).trans s5) ⟨ws, er, ?_⟩
          have pz : Rm.placeOf ws = .own ws := by unfold Rm.placeOf; rw [if_neg hz]
          rw [pz]
          exact ⟨t, c, rfl, fun o => o.elim (fun z => z (none_of ((s1.trans s3).trans s4) n5)) fun z => by rw [z, s4 _ _ eD3] at n5; exact (nomatch n5), fun o => o.elim (fun z => z (none_of (s1.trans s3) nc)) fun z => by rw [z, eD3] at nc; exact (nomatch nc), e5, s5 _ _ ec⟩
    · have M1 := hM.same s1
      have l8' : ys.length = (rows.map Rm.placeOf).length := by rw [lys, List.length_map, List.length_map]; exact ul
      have its : ItsV (fun b => H b ≠ none ∨ b = D) H1 (rows.map Rm.placeOf) ys := ⟨l8', fun i p v a b => by
        obtain ⟨ws, e, it⟩ := all i v b
        rw [List.getElem?_map, e] at a
        obtain rfl := Option.some.inj a
        exact it⟩
      walk_at "go"
      refine r_dM M1 rfl (v := .ref m.gd) rfl ?_
      walk_at "go"
      refine ⟨m.gd, _, rfl, .inl ⟨_, .inr x, M1.gd_, rfl, by rw [dicF_len, sizeLine_eq]; omega, rfl⟩, ?_⟩
      exact q _ _ (hM.come s1 hx nD eD its)
end
end K17

namespace K17
open PySem PySem.Spec PyProof.Rows L2 Bk Rm


def itD : Pl → PyData
  | .blank => .list [.str (Str.ofString "blank"), .none]
  | .own ws => .list [.str (Str.ofString "away"), rowL ws]
  | .at n => .list [.str (Str.ofString "in"), .int n]
theorem eqv_it {p : Pl} {n : Nat} : PyData.eqv (itD p) (.list [.str (Str.ofString "in"), .int n]) = isAt n p := by
  cases p with
  | blank =>
    simp only [itD, PyData.eqv, PyData.eqvAll]
    rw [show (Str.ofString "blank" == Str.ofString "in") = false by decide +kernel]
    rfl
  | own ws =>
    simp only [itD, PyData.eqv, PyData.eqvAll]
    rw [show (Str.ofString "away" == Str.ofString "in") = false by decide +kernel]
    rfl
  | «at» l =>
    simp only [itD, PyData.eqv, PyData.eqvAll]
    rw [show (Str.ofString "in" == Str.ofString "in") = true by decide +kernel, Bool.true_and, Bool.and_true]
    show ((l : Int) == (n : Int)) = decide (l = n)
    by_cases h : l = n
    · rw [h, decide_eq_true rfl]
      exact beq_self_eq_true _
    · rw [decide_eq_false h]
      exact beq_false_of_ne fun z => h (by omega)
theorem sh_own (X : List PyData) (h1 : PyData.canLayAll0 X = true) (h2 : PyData.depthAll X = 0) : SeqAt.shaped (.list [.str (Str.ofString "away"), .list X]) = true := by
  unfold SeqAt.shaped
  have a : PyData.canLay0 (.list [.str (Str.ofString "away"), .list X]) = true := by
    show (PyData.canLay0 (.str (Str.ofString "away")) && (PyData.canLay0 (.list X) && PyData.canLayAll0 [])) = true
    rw [show PyData.canLay0 (.list X) = true from h1, show PyData.canLay0 (.str (Str.ofString "away")) = true by decide +kernel]
    rfl
  have b : PyData.depth (.list [.str (Str.ofString "away"), .list X]) ≤ 64 := by
    simp only [PyData.depth, PyData.depthAll, h2]
    decide
  rw [a, decide_eq_true b]
  rfl
theorem sh_in (n : Nat) : SeqAt.shaped (.list [.str (Str.ofString "in"), .int n]) = true := by
  unfold SeqAt.shaped
  have a : PyData.canLay0 (.list [.str (Str.ofString "in"), .int n]) = true := by
    show (PyData.canLay0 (.str (Str.ofString "in")) && (PyData.canLay0 (.int n) && PyData.canLayAll0 [])) = true
    rw [show PyData.canLay0 (.str (Str.ofString "in")) = true by decide +kernel]
    rfl
  have b : PyData.depth (.list [.str (Str.ofString "in"), .int n]) ≤ 64 := by
    simp only [PyData.depth, PyData.depthAll]
    decide
  rw [a, decide_eq_true b]
  rfl
theorem sh_it (p : Pl) : SeqAt.shaped (itD p) = true := by
  cases p with
  | blank => decide +kernel
  | own ws => exact sh_own _ (lay_nums ws).1 (lay_nums ws).2
  | «at» n => exact sh_in n
theorem dp_it {K : PySem.W.Frag} {o : Addr → Prop} {H : Hp} {p : Pl} {v : V} (h : ItV o H p v) : Dp K H v (itD p) := by
  cases p with
  | blank => obtain ⟨t, rfl, _, e⟩ := h; exact .lst (sqL e) (.cons (.str _) (.cons .non .nil))
  | own ws => obtain ⟨t, c, rfl, _, _, e, ec⟩ := h; exact .lst (sqL e) (.cons (.str _) (.cons (dp_rowL (sqL ec)) .nil))
  | «at» n => obtain ⟨t, rfl, _, e⟩ := h; exact .lst (sqL e) (.cons (.str _) (.cons (.int _) .nil))
theorem Md.lock {H : Hp} {m : Ms} {s : R} {U : Nat → Bool} (h : Md H m s U .none) {od : Obj} : Md (upd H m.gd (.frz od (.dK (dicF s.names fun x => .ref (m.gl x))))) m s U (some od) := by
  have lg : ∀ {b : Addr} {xs : List V}, H b = some (.lst xs) → upd H m.gd (.frz od (.dK (dicF s.names fun x => .ref (m.gl x)))) b = some (.lst xs) := fun {b xs} e => by rw [upd_ne (h.ld e).2]; exact e
  have fr : ∀ b u, ¬ mown m s U b → H b = some u → upd H m.gd (.frz od (.dK (dicF s.names fun x => .ref (m.gl x)))) b = some u := fun b u nb e => by rw [upd_ne fun w => nb (.inr (.inr (.inl w)))]; exact e
  refine ⟨by rw [upd_ne h.n0]; exact h.d_, ?_, upd_same, fun g hg => ?_, h.n0, h.n1, h.n2, h.n4, h.n5, h.nd, fun b w => (h.xh b w).imp fun u e => by rw [upd_ne (h.xo b w).2.2.1]; exact e, h.xo⟩
  · obtain ⟨ys, e, l, q⟩ := h.rl_
    exact ⟨ys, lg e, l, fun i v hv => (q i v hv).keep fr (fun b w => .inl w) rfl (fun _ => rfl) rfl fun hu => lg (h.wlx (by rw [← l]; exact (List.getElem?_eq_some_iff.mp hv).1) hu)⟩
  · obtain ⟨ys, e2, q⟩ := h.gl_ g hg
    exact ⟨ys, lg e2, q.keep fr fun b w => .inl w⟩
section
variable {P : Program} {w : World} {K : PySem.W.Frag} {mg : Str → Option Value} {base : Heap} {A : Ad}
theorem ok_mlying {f : Addr} {fd : FuncData} (F : Fun K "_law_lying" "_law_lying" s_lying_L f fd) (T : Txt K mg A) : FnOk P w K mg base CX0 1 f fd ["_law_model_here", "_law_at"] spMLying := by
  refine F.ok sc_lying_L (fun vs H Q E h => ?_) (fun cdv A' outer s H vs Q E hr h => have hu65 := units65 hr; have hu64 := hr.units; have hu := units1 hr; ⟨_, (pss_cons (ps_set (i := 2) sc_lying_L.nd rfl (.inl rfl) (pe_lstB pa_nil))
    (pss_cons (ps_lock (ps_for PassesOwn.never rfl (pi_items (pe_dget hu (pv 0) pe_str (fun _ _ => rfl))) (pg_tup rfl (pgs_cons (pg_name (i := 3) sc_lying_L.nd rfl (.inr rfl)) (pgs_cons (pg_name (i := 4) sc_lying_L.nd rfl (.inl rfl)) pgs_nil)))
      (pss_one (ps_set (i := 2) sc_lying_L.nd rfl (.inl rfl) (pe_op op_cat (pv 2) (pe_lc (own := [("_law_room", 5), ("_law_item", 6)]) rfl sc_lying_L.nd (pi_enumA (by rfl) T.m_enumerate (pa_cons (pv 4) pa_nil)) (blkOk_by (N := ["_law_model_here", "_law_at", "_law_found", "_law_name", "_law_items", "_law_room", "_law_item"]) (sc := defScope s_lying_L) (by decide +kernel)) (fun _ _ _ _ _ => (pg_tupK (K := K) (n := 2) rfl rfl (pgs_cons (pg_name (i := 5) sc_lying_L.nd rfl (.inl rfl)) (pgs_cons (pg_name (i := 6) sc_lying_L.nd rfl (.inl rfl)) pgs_nil)))) (fun _ _ _ _ _ => pts_one (pt_cmpR (op_eqDK (K := K) rfl hu64) (pv 6) (pe_lstB (pa_cons pe_str (pa_cons (pv 1) pa_nil))) (nomark _))) (fun _ _ _ _ _ => (pe_tup (pa_cons (pv 3) (pa_cons (pv 5) pa_nil))))))))))
    (pss_one (ps_ret (pv 2))))), ?_⟩)
  · obtain ⟨m, s, U, n, rfl, _⟩ := h
    rfl
  · obtain ⟨m, s, U, n, rfl, hM, ok, l6, n64, q⟩ := h
    have l6' : s.gs.length ≤ 6 := by unfold R.names at l6; rwa [List.length_map] at l6
    walk_at "go"
    refine newLB fun fl0 H1 n1 g1 s1 e1 => ?_
    have M1 := hM.same s1
    walk_at "go"
    refine ⟨m.gd, .dK (dicF s.names fun x => .ref (m.gl x)), M1.gd_, trivial, fun od => ?_⟩
    have M2 := M1.lock (od := od)
    have eL : upd H1 m.gd (.frz od (.dK (dicF s.names fun x => .ref (m.gl x)))) m.gd = some (.frz od (.dK (dicF s.names fun x => .ref (m.gl x)))) := upd_same
    have lk : ∀ b u, b ≠ m.gd → H1 b = some u → upd H1 m.gd (.frz od (.dK (dicF s.names fun x => .ref (m.gl x)))) b = some u := fun b u nb eb => by rw [upd_ne nb]; exact eb
    have nfg : fl0 ≠ m.gd := fun z => by rw [z, hM.gd_] at n1; exact nomatch n1
    have ef := lk _ _ nfg e1
    generalize upd H1 m.gd (.frz od (.dK (dicF s.names fun x => .ref (m.gl x)))) = HL at M2 eL lk ef ⊢
    walk_at "go"
    refine r_dM M2 rfl (v := .ref m.gd) rfl ?_
    refine ⟨m.gd, od, _, rfl, eL, for_it walk_items (fun i σ G => ∃ fl, (∃ x3 x4, σ = [some (.ref m.d), some (.int n), some (.ref fl), x3, x4, none, none]) ∧ Same HL G ∧ (H fl = none ∧ fl ≠ m.gd) ∧ ∃ xs, G fl = some (.lst xs) ∧ All2 PairV (lying (s.gs.take i) n) xs G) ⟨fl0, ⟨_, _, rfl⟩, Same.refl _, ⟨n1, nfg⟩, [], ef, All2.nil⟩ (fun i σ G _ h => by obtain ⟨_, _, sm, _⟩ := h; exact sm _ _ eL) (fun i yv σ G G2 hi hP hY => ?_) (fun σ G hP => ?_)⟩
    · obtain ⟨fl, ⟨x3, x4, rfl⟩, sG, ⟨nf, nfg2⟩, xs, exs, all⟩ := hP
      obtain ⟨T2, a, b, rfl, nT, rfl, ha, hb⟩ := hY
      rw [dicF_len] at hi
      have hi : i < s.gs.length := by unfold R.names at hi; rwa [List.length_map] at hi
      have ha : (s.names.map fun x => ((Sum.inr x : Key), V.ref (m.gl x)))[i]?.map (fun kv => kV kv.1) = some a := ha
      have hb : (s.names.map fun x => ((Sum.inr x : Key), V.ref (m.gl x)))[i]?.map Prod.snd = some b := hb
      unfold R.names at ha hb
      rw [List.map_map, List.getElem?_map, List.getElem?_eq_getElem hi] at ha hb
      obtain rfl := Option.some.inj ha
      obtain rfl := Option.some.inj hb
      have gi := List.getElem?_eq_getElem hi
      have gm := List.getElem_mem hi
      generalize s.gs[i] = g at gi gm ⊢
      have sT : Same G (upd G T2 (.tup [.str g.1, .ref (m.gl g.1)])) := same_upd nT
      have eT : upd G T2 (.tup [.str g.1, .ref (m.gl g.1)]) T2 = some (.tup [.str g.1, .ref (m.gl g.1)]) := upd_same
      show gTup _ _ _ _ _ (upd G T2 (.tup [V.str g.1, V.ref (m.gl g.1)])) _
      generalize upd G T2 (.tup [.str g.1, .ref (m.gl g.1)]) = G2 at sT eT ⊢
      have M3 := (M2.same sG).same sT
      obtain ⟨ys, ey2, py2⟩ := M3.gl_ g gm
      have ef2 : G2 fl = some (.lst xs) := sT _ _ exs
      have l8 := (ok.at_ g gm).1
      refine ⟨_, _, rfl, sqT eT, rfl, ?_⟩
      refine ⟨_, _, rfl, _, _, rfl, rfl, ?_⟩
      walk_at "go"
      refine lkE (fun j => if isAt n (g.2.getD j .blank) = true then some (g.1, j) else none) PairV (fun z v H1 H2 ts h => h.keep ts) (SqL.of ey2) (by rw [py2.1, l8]; omega) (fun QQ qq => by exact r_cons (r_var rfl (r_nil qq))) (fun j y T3 H3 Q' R' hy s3 eT3 k1 k2 => ?_) fun D H3 zs nD s3 ez allz => ?_
      · refine ⟨_, _, rfl, sqT eT3, rfl, ?_⟩
        refine ⟨_, _, rfl, _, _, rfl, rfl, ?_⟩
        have lj : j < g.2.length := by rw [← py2.1]; exact (List.getElem?_eq_some_iff.mp hy).1
        have gj := List.getElem?_eq_getElem lj
        have gD : g.2.getD j .blank = g.2[j] := by rw [List.getD_eq_getElem?_getD, gj]; rfl
        have pj := (py2.2 j _ y gj hy).keep (fun b u _ e => s3 _ _ e) fun b w => .inl w
        rw [gD] at k1 k2
        refine ⟨rfl, ?_⟩
        walk_at "go"
        refine newLB fun q1 H4 m1 h1 s4 e4 => ?_
        refine ⟨itD g.2[j], .list [.str (Str.ofString "in"), .int n], dp_it (pj.keep (fun b u _ e => s4 _ _ e) fun b w => .inl w), .lst (sqL e4) (.cons (.str _) (.cons (.int _) .nil)), sh_it _, sh_in n, ?_⟩
        rw [eqv_it]
        cases hb : isAt n g.2[j] with
        | true =>
          rw [hb] at k1
          walk_at "go"
          exact newT fun t H5 n5 s5 e5 => k1 (g.1, j) (.ref t) H5 (if_pos rfl) (s4.trans s5) ⟨t, rfl, e5⟩
        | false =>
          rw [hb] at k2
          exact ⟨_, rfl, k2 (if_neg fun z => nomatch z) _ s4⟩
      · have lz := lying_le (n := n) (gs := s.gs.take i) fun g hg => (ok.at_ g (List.mem_of_mem_take hg)).1
        have ly := lyG_le (n := n) (g := g)
        rw [py2.1, lyG_fm] at allz
        rw [List.length_take] at lz
        refine r_cat (s3 _ _ ef2) ez (fun fl2 H4 n4 s4 e4 => ?_) (by rw [all.1, allz.1]; omega)
        walk_at "go"
        refine ⟨fl2, ⟨_, _, rfl⟩, ((sG.trans sT).trans s3).trans s4, ?_, _, e4, ?_⟩
        · have nHL : HL fl2 = none := none_of (((sG.trans sT).trans s3)) (none_of (Same.refl _) n4)
          refine ⟨?_, fun z => by rw [z, eL] at nHL; exact nomatch nHL⟩
          cases w : H fl2 with
          | none => rfl
          | some u =>
            by_cases z : fl2 = m.gd
            · rw [z, eL] at nHL; exact nomatch nHL
            · rw [lk _ _ z (s1 _ _ w)] at nHL; exact nomatch nHL
        · rw [lying_succ gi]
          exact (all.keep fun z v h => h.keep (Same.ts ((sT.trans s3).trans s4))).append (allz.keep fun z v h => h.keep (Same.ts s4))
    · obtain ⟨fl, ⟨x3, x4, rfl⟩, sG, ⟨nf, nfg2⟩, xs, exs, all⟩ := hP
      have eG := sG _ _ eL
      refine ⟨eG, ?_⟩
      walk_at "go"
      rw [dicF_len, show s.names.length = s.gs.length from List.length_map _, List.take_length] at all
      refine q fl xs _ nf (fun b u eb => ?_) (by rw [upd_ne nfg2]; exact exs) (all.keep fun z v h => h.keep fun a zs ea => ?_)
      · by_cases h : b = m.gd
        · rw [h, upd_same]
          rw [h] at eb
          rw [← eb]
          exact hM.gd_.symm
        · rw [upd_ne h]
          exact sG _ _ (lk _ _ h (s1 _ _ eb))
      · rw [upd_ne fun z => by rw [z, eG] at ea; exact nomatch ea]
        exact ea
end
end K17

namespace K17
open PySem PySem.Spec PyProof.Rows L2 Bk Rm


theorem least_lex {l : List Nat} {n : Nat} (hn : n < l.length) (h : ∀ i, i < l.length → ¬ (l.getD i 0 < l.getD n 0 ∨ (l.getD i 0 = l.getD n 0 ∧ i < n))) : n = leastAt l := by
  have ne : l ≠ [] := fun z => by rw [z] at hn; exact absurd hn (Nat.not_lt_zero _)
  obtain ⟨m, hm, le, e, fst⟩ := least_spec ne
  have ll := leastAt_lt ne
  have en : l[n]? = some (l.getD n 0) := by rw [List.getD_eq_getElem?_getD, List.getElem?_eq_getElem hn]; rfl
  have eL : l.getD (leastAt l) 0 = m := by rw [List.getD_eq_getElem?_getD, e]; rfl
  have mn : m ≤ l.getD n 0 := le _ (List.mem_of_getElem? en)
  have a := h _ ll
  rw [eL] at a
  have mn' : l.getD n 0 = m := by
    have : ¬ m < l.getD n 0 := fun z => a (.inl z)
    omega
  have b : ¬ leastAt l < n := fun z => a (.inr ⟨mn'.symm, z⟩)
  have c : ¬ n < leastAt l := fun z => fst n z (by rw [en, mn'])
  omega
section
variable {K : PySem.W.Frag} {σ : L2.St} {H : Hp} {Q : VK} {vs : List Nat} {te : TE} {tt : TT} {g : TG} {ta : TA} {a : Addr} {ys : List V} {α : Type}
theorem lkEL (c : Nat → Option α) (Pr : α → V → Hp → Prop) (st : ∀ z v H1 H2, TS H1 H2 → Pr z v H1 → Pr z v H2) (hs : SqL K H a ys) (hl : ys.length ≤ 10000) (hv : ∀ QQ : List V → Hp → Prop, QQ [.ref a] H → ta σ H QQ)
    (ht : ∀ i x T (H1 : Hp) (Q' : VK) (R' : Hp → Prop), ys[i]? = some x → Same H H1 → H1 T = some (.tup [.int (i : Nat), x]) → (∀ z v H3, c i = some z → Same H1 H3 → Pr z v H3 → Q' v H3) → (c i = none → ∀ H3, Same H1 H3 → R' H3) →
      g (.ref T) (wipe σ vs) H1 fun τ H3 => wipe τ vs = wipe σ vs ∧ tt τ H3 fun b H4 => if b = true then te τ H4 Q' else R' H4)
    (q : ∀ D H' (xs : List V), H D = none → Same H H' → H' D = some (.lst xs) → All2 Pr ((List.range ys.length).filterMap c) xs H' → Q (.ref D) H') : tLc (iEnum K ta) g tt te vs σ H Q := by
  refine hv _ ⟨a, ys, rfl, hs, fun D hD => ?_⟩
  refine lc_keep (g := g) (tt := tt) (te := te) (vs := vs) (σ := σ) (Q := Q) (walk_enum (xs := ys)) c Pr st hD hl (fun H' s => Same.seq s hs) (fun i H1 x H2 _ y => ?_) (fun i x H1 H2 Q' R' hi sm y h1 h2 => ?_) fun H' xs s e all => q D H' xs hD s e all
  · obtain ⟨T, b, c, rfl, nT, rfl, hb, hc⟩ := y
    exact same_upd nT
  · obtain ⟨T, b, c, rfl, nT, rfl, hb, hc⟩ := y
    obtain rfl := Option.some.inj hb
    have sT : Same H1 (upd H1 T (.tup [.int (i : Nat), c])) := same_upd nT
    exact ht i c T _ Q' R' hc (sm.trans sT) upd_same h1 h2
end
theorem head_free {gs : Gs} : ∀ {k n : Nat}, ((List.range' n k).filterMap fun i => if used gs i = true then none else some i).head? = freeAt gs k n
  | 0, _ => rfl
  | k + 1, n => by
    rw [List.range'_succ, List.filterMap_cons]
    unfold freeAt
    by_cases h : used gs n = true
    · rw [if_pos h, if_pos h]
      exact head_free
    · rw [if_neg h, if_neg h]
      rfl
theorem all2_map {α : Type} {f : α → V} {l : List α} {xs : List V} {H : Hp} (h : All2 (fun z v _ => v = f z) l xs H) : xs = l.map f := by
  refine List.ext_getElem? fun i => ?_
  rw [List.getElem?_map]
  cases e : l[i]? with
  | none =>
    have := List.getElem?_eq_none_iff.mp e
    exact List.getElem?_eq_none_iff.mpr (by rw [h.1]; exact this)
  | some z =>
    obtain ⟨v, ev, rfl⟩ := h.at e
    exact ev
/-- the pair in the heap -/
def kfP (H : Hp) : V → Int × Int
  | .ref t => match H t with
    | some (.tup [.int i, .int j]) => (i, j)
    | _ => (0, 0)
  | _ => (0, 0)
theorem kfP_of {H : Hp} {t : Addr} {i j : Int} (e : H t = some (.tup [.int i, .int j])) : kfP H (.ref t) = (i, j) := by
  show (match H t with | some (.tup [.int i, .int j]) => (i, j) | _ => (0, 0)) = (i, j)
  rw [e]
theorem Mm.ts {H H' : Hp} {m m' : Ms} {s s' : R} {U U' : Nat → Bool} (a : Mm H m s U H' m' s' U') (h : Md H m s U .none) : TS H H' := fun b xs e => by
  by_cases w : mown m s U b
  · rcases w with w | w | w | ⟨x, hx, w⟩ | ⟨n, hn, hu, w⟩ | w
    · rw [w, h.d_] at e; exact nomatch e
    · obtain ⟨ys, e2, _⟩ := h.rl_; rw [w, e2] at e; exact nomatch e
    · rw [w, h.gd_] at e; exact nomatch e
    · obtain ⟨g, ys, _, _, e2, _⟩ := h.glx hx; rw [w, e2] at e; exact nomatch e
    · rw [w, h.wlx hn hu] at e; exact nomatch e
    · exact a.xf _ _ w e
  · exact a.fr _ _ w e
theorem lying_nil {gs : Gs} {n : Nat} (h : used gs n = false) : lying gs n = [] :=
  List.eq_nil_iff_forall_not_mem.mpr fun z hz => by
    obtain ⟨g, hg, _, e⟩ := mem_lying.mp (show (z.1, z.2) ∈ lying gs n from hz)
    have : used gs n = true := List.any_eq_true.mpr ⟨g, hg, List.any_eq_true.mpr ⟨_, List.mem_of_getElem? e, decide_eq_true rfl⟩⟩
    rw [h] at this
    exact nomatch this
theorem setAll_snoc {gs : Gs} {l : List (Str × Nat)} {z : Str × Nat} {p : Pl} : setAll gs (l ++ [z]) p = setAt (setAll gs l p) z.1 z.2 p := by
  unfold setAll
  rw [List.foldl_append]
  rfl
theorem fold_len {p : Pl} : ∀ {l : List (Str × Nat)} {ps : List Pl}, (l.foldl (fun ps z => ps.set z.2 p) ps).length = ps.length
  | [], _ => rfl
  | z :: l, ps => by rw [List.foldl_cons, fold_len, List.length_set]
theorem setAll_8 {gs : Gs} {l : List (Str × Nat)} {p : Pl} (h : ∀ g ∈ gs, g.2.length = 8) : ∀ g ∈ setAll gs l p, g.2.length = 8 := fun g hg => by
  rw [setAll_map] at hg
  obtain ⟨g0, hg0, rfl⟩ := List.mem_map.mp hg
  show (List.foldl _ g0.2 _).length = 8
  rw [fold_len]
  exact h g0 hg0
theorem free_gs {s : R} (ok : s.Ok) : setAll s.gs (lying s.gs s.free.2) (.own (s.cells.getD s.free.2 [])) = s.free.1.gs ∧ ∀ i, i ≠ s.free.2 → used s.free.1.gs i = used s.gs i := by
  unfold R.free
  cases e : freeAt s.gs s.cells.length 0 with
  | some n =>
    dsimp only
    rw [lying_nil (freeAt_ok e).2.2]
    exact ⟨rfl, fun _ _ => rfl⟩
  | none =>
    dsimp only
    refine ⟨put_eq ok.nd, fun i hi => ?_⟩
    rw [used_put (show isAt i (.own (s.cells.getD (leastAt s.given) [])) = false from rfl), decide_eq_false hi]
    exact Bool.and_true _
def U2 (s : R) (n : Nat) : Nat → Bool := fun i => if i = n then true else used s.free.1.gs i
def givenR (s : R) (ws : List Nat) : R := { s.free.1 with cells := s.free.1.cells.set s.free.2 ws, given := s.free.1.given.set s.free.2 (s.givings + 1), givings := s.givings + 1 }
def spGiven : Sp := fun vs H Q _ => ∃ (m : Ms) (s : R) (c : Addr) (ws : List Nat), vs = [.ref m.d, .ref c] ∧ H c = some (.lst (nv ws)) ∧ ¬ mown m s (used s.gs) c ∧ Md H m s (used s.gs) none ∧ s.Ok ∧ s.names.length ≤ 6 ∧ s.cells.length ≤ 64 ∧
  ∀ m' H', Mm H m s (used s.gs) H' m' (givenR s ws) (U2 s s.free.2) → Q (.int s.free.2) H'
section
variable {P : Program} {w : World} {K : PySem.W.Frag} {mg : Str → Option Value} {base : Heap} {A : Ad}
theorem ok_given {f : Addr} {fd : FuncData} (F : Fun K "_law_given" "_law_given" s_given_L f fd) (T : Txt K mg A) (c_lying_L : CalD P w K mg base CX0 1 "_law_lying" spMLying []) : FnOk P w K mg base CX0 2 f fd ["_law_model_here", "_law_words_here"] spGiven := by
  refine F.ok sc_given_L (fun vs H Q E h => ?_) (fun cdv A' outer s H vs Q E hr h => have hu65 := units65 hr; have hu64 := hr.units; have hu := units1 hr; ⟨_, (pss_cons (ps_set (i := 2) sc_given_L.nd rfl (.inl rfl) (pe_dget hu (pv 0) pe_str (fun _ _ => rfl)))
    (pss_cons (ps_setLc (i := 5) (own := [("_law_at", 3), ("_law_room", 4)]) rfl sc_given_L.nd rfl rfl (sw_true rfl rfl rfl (by decide +kernel)) (pi_enum (by rfl) T.m_enumerate (pa_cons (pv 2) pa_nil)) (blkOk_by (N := ["_law_model_here", "_law_words_here", "_law_rooms", "_law_at", "_law_room", "_law_free", "_law_name", "_law_k"]) (sc := defScope s_given_L) (by decide +kernel)) (fun _ _ _ _ _ => (pg_tupK (K := K) (n := 2) rfl rfl (pgs_cons (pg_name (i := 3) sc_given_L.nd rfl (.inl rfl)) (pgs_cons (pg_name (i := 4) sc_given_L.nd rfl (.inl rfl)) pgs_nil)))) (fun _ _ _ _ _ => pts_one (pt_cmpR op_isN (pv 4) pe_non (nomark _))) (fun _ _ _ _ _ => (pv 3)))
    (pss_cons (ps_set (i := 3) sc_given_L.nd rfl (.inl rfl) (pe_ix ix_list (pe_op op_cat (pv 5) (pe_lstB (pa_cons pe_int pa_nil))) pe_int (fun _ _ => rfl)))
    (C8.pss_cut (ps_if (pt_cmpR (op_eqD hu64) (pv 5) (pe_lstB pa_nil) (nomark _)) (pss_one (ps_set (i := 3) sc_given_L.nd rfl (.inl rfl) (pe_ix ix_tup (pe_ix ix_list (pe_callB cr_sortedPO (by rfl) T.m_sorted (by decide +kernel) (pa_cons (pe_lc (own := [("_law_k", 7), ("_law_room", 4)]) rfl sc_given_L.nd (pi_enum (by rfl) T.m_enumerate (pa_cons (pv 2) pa_nil)) (blkOk_by (N := ["_law_model_here", "_law_words_here", "_law_rooms", "_law_at", "_law_room", "_law_free", "_law_name", "_law_k"]) (sc := defScope s_given_L) (by decide +kernel)) (fun _ _ _ _ _ => (pg_tupK (K := K) (n := 2) rfl rfl (pgs_cons (pg_name (i := 7) sc_given_L.nd rfl (.inl rfl)) (pgs_cons (pg_name (i := 4) sc_given_L.nd rfl (.inl rfl)) pgs_nil)))) (fun _ _ _ _ _ => pts_nil) (fun _ _ _ _ _ => (pe_tup (pa_cons (pe_ix (ix_listK (K := K) rfl) (pv 4) pe_int (fun _ _ => rfl)) (pa_cons (pv 7) pa_nil))))) pa_nil)) pe_int (fun _ _ => rfl)) pe_int (fun _ _ => rfl)))) pss_nil)
    (pss_cons (ps_for PassesOwn.never rfl (pi_list (pe_cal c_lying_L hr (by decide) (by rfl) (pa_cons (pv 0) (pa_cons (pv 3) pa_nil)))) (pg_tup rfl (pgs_cons (pg_name (i := 6) sc_given_L.nd rfl (.inl rfl)) (pgs_cons (pg_name (i := 4) sc_given_L.nd rfl (.inl rfl)) pgs_nil)))
      (pss_one (ps_asg (pe_lstB (pa_cons pe_str (pa_cons (pe_callTy call_list_of (by rfl) T.m_list (by decide +kernel) (pa_cons (pe_ix ix_list (pe_ix ix_list (pv 2) (pv 3) (fun _ _ => rfl)) pe_int (fun _ _ => rfl)) pa_nil)) pa_nil))) (pg_sub (pe_dget hu (pe_dget hu (pv 0) pe_str (fun _ _ => rfl)) (pv 6) (fun _ _ => rfl)) (pv 4) set_list))))
    (pss_cons (ps_asg (pe_op op_add (pe_dget hu (pv 0) pe_str (fun _ _ => rfl)) pe_int) (pg_sub (pv 0) pe_str (set_dict hu)))
    (pss_cons (ps_asg (pe_lstB (pa_cons (pe_dget hu (pv 0) pe_str (fun _ _ => rfl)) (pa_cons (pe_callTy call_list_of (by rfl) T.m_list (by decide +kernel) (pa_cons (pv 1) pa_nil)) pa_nil))) (pg_sub (pv 2) (pv 3) set_list))
    (pss_one (ps_ret (pv 3)))))))))), ?_⟩)
  · obtain ⟨m, s, c, ws, rfl, _⟩ := h
    rfl
  · obtain ⟨m, s, c, ws, rfl, ec, nc, hM, ok, l6, c64, q⟩ := h
    obtain ⟨rs, er, lrs, qr⟩ := hM.rl_
    walk_at "go"
    refine r_dM hM rfl (v := .ref m.rl) rfl ?_
    walk_at "go"
    refine lkEL (fun i => if used s.gs i = true then none else some i) (fun z v _ => v = V.int (z : Nat)) (fun _ _ _ _ _ h => h) (sqL er) (by omega) (fun QQ qq => by exact r_cons (r_var rfl (r_nil qq))) (fun i y T H1 Q' R' hy s1 eT k1 k2 => ?_) fun D H1 xs nD s1 eD all => ?_
    · refine ⟨_, _, rfl, sqT eT, rfl, ?_⟩
      refine ⟨_, _, rfl, _, _, rfl, rfl, ?_⟩
      refine ⟨rfl, ?_⟩
      walk_at "go"
      refine ⟨rfl, ?_⟩
      rcases qr i y hy with ⟨hu', rfl⟩ | ⟨hu', t, rfl, _⟩
      · rw [hu'] at k1
        exact ⟨_, rfl, iteY (decide_eq_true rfl) (r_var rfl (k1 i _ H1 (if_neg Bool.false_ne_true) (Same.refl _) rfl))⟩
      · rw [hu'] at k2
        exact ⟨_, rfl, iteX (decide_eq_false fun z => nomatch z) (k2 (if_pos rfl) H1 (Same.refl _))⟩
    · obtain rfl := all2_map all
      have hd := head_free (gs := s.gs) (k := s.cells.length) (n := 0)
      rw [← List.range_eq_range'] at hd
      rw [lrs] at eD
      have hfl : ((List.range s.cells.length).filterMap fun i => if used s.gs i = true then none else some i).length ≤ 64 := Nat.le_trans (List.length_filterMap_le _ _) (by rw [List.length_range]; exact c64)
      generalize hfl0 : ((List.range s.cells.length).filterMap fun i => if used s.gs i = true then none else some i) = fl at eD hd hfl
      walk_at "go"
      refine newLB fun la H2 n2 g2 s2 e2 => ?_
      refine r_cat (s2 _ _ eD) e2 (fun p H3 n3 s3 e3 => ?_) (by have : fl.length ≤ 64 := hfl; rw [List.length_map]; simp; omega)
      walk_at "go"
      refine r_ixL (sqL e3) (v := .int (fl.headD 0 : Nat)) (atI_nat (j := 0) (by cases fl <;> rfl)) ?_
      walk_at "go"
      have s13 := (s1.trans s2).trans s3
      have eD3 : H3 D = some (.lst (nv fl)) := s3 _ _ (s2 _ _ eD)
      refine r_cut (fun σ G => (∃ z4, σ = [some (.ref m.d), some (.ref c), some (.ref m.rl), some (.int (s.free.2 : Nat)), z4, some (.ref D), none, none]) ∧ Same H G) ?_ ?_
      · walk_at "go"
        refine newLB fun lb H4 n4 g4 s4 e4 => ?_
        refine ⟨rowL fl, .list [], dp_rowL (sqL (s4 _ _ eD3)), .lst (sqL e4) .nil, sh_rowL _, by decide +kernel, ?_⟩
        have s14 := s13.trans s4
        rw [show PyData.eqv (rowL fl) (.list []) = decide (numsD fl = []) from eqv_nil]
        cases fl with
        | cons n0 r =>
          have fe : s.free = (s, n0) := by
            unfold R.free
            rw [← hd]
            rfl
          refine ⟨_, rfl, ?_⟩
          refine iteX rfl ?_
          walk_at "go"
          exact ⟨⟨none, by rw [fe]; rfl⟩, s14⟩
        | nil =>
          have fe : s.free = ({ s with gs := put s.gs (leastAt s.given) (.own (s.cells.getD (leastAt s.given) [])) }, leastAt s.given) := by
            unfold R.free
            rw [← hd]
            rfl
          have allU : ∀ i, i < s.cells.length → used s.gs i = true := fun i hi => by
            cases hu : used s.gs i with
            | true => rfl
            | false =>
              have : i ∈ ((List.range s.cells.length).filterMap fun i => if used s.gs i = true then none else some i) := List.mem_filterMap.mpr ⟨i, List.mem_range.mpr hi, by rw [hu]; rfl⟩
              rw [hfl0] at this
              exact nomatch this
          refine ⟨_, rfl, ?_⟩
          refine iteY rfl ?_
          walk_at "go"
          have er4 := s14 _ _ er
          refine lkEL (fun i => some i) (fun z v H => ∃ t, v = V.ref t ∧ H t = some (.tup [.int (s.given.getD z 0 : Nat), .int (z : Nat)])) (fun z v H1 H2 ts h => by obtain ⟨t, e, h⟩ := h; exact ⟨t, e, ts _ _ h⟩) (sqL er4) (by omega) (fun QQ qq => by exact r_cons (r_var rfl (r_nil qq))) (fun i y T H5 Q' R' hy s5 eT k1 k2 => ?_) fun D2 H5 xs nD2 s5 eD2 all2 => ?_
          · refine ⟨_, _, rfl, sqT eT, rfl, ?_⟩
            refine ⟨_, _, rfl, _, _, rfl, rfl, ?_⟩
            refine ⟨rfl, ?_⟩
            have li : i < s.cells.length := by rw [← lrs]; exact (List.getElem?_eq_some_iff.mp hy).1
            rcases qr i y hy with ⟨hu', rfl⟩ | ⟨hu', t, rfl, _, et, _⟩
            · rw [allU i li] at hu'; exact nomatch hu'
            · refine r_yes ?_
              walk_at "go"
              refine r_ixL (sqL (s5 _ _ (s14 _ _ et))) (v := .int (s.given.getD i 0 : Nat)) (atI_nat (j := 0) rfl) ?_
              walk_at "go"
              exact newT fun t2 H6 n6 s6 e6 => k1 i _ H6 rfl s6 ⟨t2, rfl, e6⟩
          · rw [lrs, List.filterMap_some] at all2
            walk_at "go"
            have key : ∀ x ∈ xs, ∃ i t, i < s.cells.length ∧ x = V.ref t ∧ H5 t = some (.tup [.int (s.given.getD i 0 : Nat), .int (i : Nat)]) := fun x hx => by
              obtain ⟨i, hi, e⟩ := List.getElem_of_mem hx
              have li : i < s.cells.length := by have := all2.1; rw [List.length_range] at this; omega
              obtain ⟨t, e1, e2⟩ := all2.2 i i x (List.getElem?_range li) (by rw [List.getElem?_eq_getElem hi, e])
              exact ⟨i, t, li, e1, e2⟩
            refine ⟨D2, xs, kfP H5, rfl, sqL eD2, fun x hx => ?_, fun ys p4 srt stb np4 => ?_⟩
            · obtain ⟨i, t, _, rfl, et⟩ := key x hx
              exact ⟨t, rfl, by rw [kfP_of et]; exact et⟩
            · have lx : xs.length = s.cells.length := by rw [all2.1, List.length_range]
              have lpos : 0 < s.cells.length := List.length_pos_iff.mpr ok.ne
              cases ys with
              | nil =>
                have := stb.perm.length_eq
                rw [lx] at this
                exact absurd this.symm (by simp; exact ok.ne)
              | cons x0 yr =>
                have mem : ∀ y, y ∈ xs ↔ y ∈ x0 :: yr := fun y => stb.perm.mem_iff.symm
                obtain ⟨n0, t0, hn0, rfl, et0⟩ := key x0 ((mem x0).mpr List.mem_cons_self)
                have srt1 := (List.pairwise_cons.mp srt).1
                have n0e : n0 = leastAt s.given := by
                  refine least_lex (by rw [ok.len]; exact hn0) fun i hi hlt => ?_
                  rw [ok.len] at hi
                  obtain ⟨t, e1, e2⟩ := all2.at (k := i) (z := i) (List.getElem?_range hi)
                  obtain ⟨t, rfl, et⟩ := e2
                  have my : V.ref t ∈ xs := List.mem_of_getElem? e1
                  have nl : SrtO.lexB (kfP H5 (.ref t)) (kfP H5 (.ref t0)) = false := by
                    rcases List.mem_cons.mp ((mem _).mp my) with z | z
                    · rw [z]
                      unfold SrtO.lexB
                      rw [if_pos rfl]
                      exact decide_eq_false (Int.lt_irrefl _)
                    · exact srt1 _ z
                  rw [kfP_of et, kfP_of et0] at nl
                  unfold SrtO.lexB at nl
                  dsimp only at nl
                  rcases hlt with z | ⟨z1, z2⟩
                  · rw [if_neg (by omega)] at nl
                    have := of_decide_eq_false nl
                    omega
                  · rw [if_pos (by omega)] at nl
                    have := of_decide_eq_false nl
                    omega
                walk_at "go"
                refine r_ixL (sqL upd_same) (v := .ref t0) (atI_nat (j := 0) rfl) ?_
                walk_at "go"
                have et1 : upd H5 p4 (.lst (V.ref t0 :: yr)) t0 = some (.tup [.int (s.given.getD n0 0 : Nat), .int (n0 : Nat)]) := by rw [upd_ne (ne_of_none et0 np4)]; exact et0
                refine r_ixT (sqT et1) (v := .int (n0 : Nat)) (atI_nat (j := 1) rfl) ?_
                walk_at "go"
                exact ⟨⟨none, by rw [fe, n0e]; rfl⟩, (s14.trans s5).trans (same_upd np4)⟩
      · rintro σ G ⟨⟨z4, rfl⟩, sG⟩
        obtain ⟨f1, f2, f3, f4, f5, _⟩ := R.free_ok ok
        obtain ⟨fg, fu⟩ := free_gs ok
        generalize hn : s.free.2 = n at f4 f5 fg fu ⊢
        have MG := hM.same sG
        walk_at "go"
        refine ⟨m, s, used s.gs, n, rfl, MG, ok, l6, by omega, fun p xs H1 np s1 ep all => ?_⟩
        have M1 := MG.same s1
        have npo : ¬ mown m s (used s.gs) p := MG.none np
        refine ⟨p, rfl, ⟨_, sqL ep⟩, for_list (K := K) (a := p) (xs := xs) (fun i σ G2 => (∃ z4 z6, σ = [some (.ref m.d), some (.ref c), some (.ref m.rl), some (.int (n : Nat)), z4, some (.ref D), z6, none]) ∧ Mm H1 m s (used s.gs) G2 m { s with gs := setAll s.gs ((lying s.gs n).take i) (.own (s.cells.getD n [])) } (used s.gs)) ⟨⟨_, _, rfl⟩, Mm.same M1 (Same.refl _)⟩ (fun i σ G2 _ h => sqL (h.2.fr _ _ npo ep)) ?_ ?_⟩
        · rintro i y σ G2 hy ⟨⟨z4, z6, rfl⟩, mm⟩
          have li : i < (lying s.gs n).length := by rw [← all.1]; exact (List.getElem?_eq_some_iff.mp hy).1
          have zi := List.getElem?_eq_getElem li
          have tk : (lying s.gs n).take (i + 1) = (lying s.gs n).take i ++ [(lying s.gs n)[i]] := (List.take_append_getElem li).symm
          have zm := List.getElem_mem li
          obtain ⟨t, rfl, et⟩ := all.2 i _ y zi hy
          generalize (lying s.gs n)[i] = z at tk zm et
          obtain ⟨x, r⟩ := z
          obtain ⟨g, hg, gx, gr⟩ := mem_lying.mp zm
          have un : used s.gs n = true := used_of hg gr
          have hx : x ∈ s.names := List.mem_map.mpr ⟨g, hg, gx⟩
          have et2 := mm.ts M1 _ _ et
          generalize hs' : ({ s with gs := setAll s.gs ((lying s.gs n).take i) (.own (s.cells.getD n [])) } : R) = s' at mm
          have nms : s'.names = s.names := by
            rw [← hs']
            show (setAll s.gs _ _).map (·.1) = s.gs.map (·.1)
            rw [setAll_map, List.map_map]
            rfl
          have cs' : s'.cells = s.cells := by rw [← hs']
          have gv' : s'.given = s.given := by rw [← hs']
          have gg' : s'.givings = s.givings := by rw [← hs']
          obtain ⟨rs2, er2, lrs2, qr2⟩ := mm.md.rl_
          have ln2 : n < rs2.length := by rw [lrs2, cs']; exact f4
          rcases qr2 n rs2[n] (List.getElem?_eq_getElem ln2) with ⟨q0, _⟩ | ⟨_, t2, ev2, _, et3, ew2⟩
          · rw [un] at q0; exact nomatch q0
          have ev3 : rs2[n]? = some (.ref t2) := by rw [List.getElem?_eq_getElem ln2, ev2]
          refine ⟨t, _, rfl, sqT et2, rfl, ?_⟩
          refine ⟨_, _, rfl, _, _, rfl, rfl, ?_⟩
          walk_at "go"
          refine r_ixL (sqL er2) (v := .ref t2) (atI_nat ev3) ?_
          walk_at "go"
          refine r_ixL (sqL et3) (v := .ref (m.wl n)) (atI_nat (j := 1) rfl) ?_
          walk_at "go"
          refine ⟨m.wl n, _, rfl, .inl (sqL ew2), fun c2 nc2 => ?_⟩
          have s3 := same_upd (o := .lst (nv (s'.cells.getD n []))) nc2
          have ec2 : upd G2 c2 (.lst (nv (s'.cells.getD n []))) c2 = some (.lst (nv (s'.cells.getD n []))) := upd_same
          generalize upd G2 c2 (.lst (nv (s'.cells.getD n []))) = G3 at s3 ec2 ⊢
          walk_at "go"
          refine newLB fun it G4 nit git s4 eit => ?_
          have M4 := (mm.md.same s3).same s4
          obtain ⟨g', xs', hg', _, ex', its'⟩ := M4.glx (nms ▸ hx : x ∈ s'.names)
          have l8 : g'.2.length = 8 := by
            have hg2 := hg'
            rw [← hs'] at hg2
            exact setAll_8 (fun g hg => (ok.at_ g hg).1) g' hg2
          have r8 : r < 8 := by rw [← (ok.at_ g hg).1]; exact (List.getElem?_eq_some_iff.mp gr).1
          walk_at "go"
          refine r_dM M4 rfl (v := .ref m.gd) rfl ?_
          refine ⟨_, rfl, m.gd, .ref (m.gl x), rfl, .inl ⟨_, .inr x, M4.rd, rfl, by rw [dicF_get, if_pos (nms ▸ hx : x ∈ s'.names)]⟩, ?_⟩
          walk_at "go"
          refine ⟨m.gl x, _, _, r, rfl, rfl, ex', ixn (by rw [its'.1, l8]; exact r8), ?_⟩
          have hv : ItV (mown m s' (used s.gs)) G4 (.own (s.cells.getD n [])) (.ref it) := ⟨it, c2, rfl, (mm.md.same s3).none nit, mm.md.none nc2, eit, by rw [← cs']; exact s4 _ _ ec2⟩
          have mi := ((mm.then s3).then s4).trans (M4.item (nms ▸ hx : x ∈ s'.names) (r := r) ex' hv)
          refine ⟨⟨_, _, rfl⟩, ?_⟩
          rw [tk, setAll_snoc]
          subst hs'
          exact mi
        · rintro σ G2 ⟨⟨z4, z6, rfl⟩, mm⟩
          rw [List.take_of_length_le (by rw [all.1]; exact Nat.le_refl _), fg] at mm
          have nco : ¬ mown m s (used s.gs) c := nc
          have ec1 : G2 c = some (.lst (nv ws)) := mm.fr _ _ nc (s1 _ _ (sG _ _ ec))
          have nco2 : ¬ mown m { s with gs := s.free.1.gs } (used s.gs) c := fun w => (mm.nw c w).elim nc fun z => by rw [s1 _ _ (sG _ _ ec)] at z; exact nomatch z
          refine r_dM mm.md rfl (v := .int s.givings) rfl ?_
          walk_at "go"
          refine ⟨m.d, _, rfl, .inl ⟨_, .inr (Str.ofString "stamp"), mm.md.d_, rfl, (by show 3 < sizeLine; rw [sizeLine_eq]; decide), rfl⟩, ?_⟩
          have st := mm.md.stamp (g := s.givings + 1)
          have es : dicM m (s.givings + 1) = putK (dicM m s.givings) (.inr (Str.ofString "stamp") : Key) (.int ((s.givings : Int) + 1)) := rfl
          rw [es] at st
          dsimp only at st ⊢
          generalize upd G2 m.d (.dK (putK (dicM m s.givings) (.inr (Str.ofString "stamp") : Key) (.int ((s.givings : Int) + 1)))) = G3 at st ⊢
          have mm3 := mm.trans st
          have ec3 := st.fr _ _ nco2 ec1
          walk_at "go"
          refine r_dM mm3.md rfl (v := .int (s.givings + 1 : Nat)) rfl ?_
          walk_at "go"
          refine ⟨c, _, rfl, .inl (sqL ec3), fun c3 nc3 => ?_⟩
          have s4 := same_upd (o := .lst (nv ws)) nc3
          have ec4 : upd G3 c3 (.lst (nv ws)) c3 = some (.lst (nv ws)) := upd_same
          generalize upd G3 c3 (.lst (nv ws)) = G4 at s4 ec4 ⊢
          walk_at "go"
          refine newLB fun t3 G5 nt3 gt3 s5 et3 => ?_
          obtain ⟨rs3, er3, lrs3, _⟩ := mm3.md.rl_
          have tc : t3 ≠ c3 := fun z => by rw [z, ec4] at nt3; exact nomatch nt3
          have pl := mm3.md.place (s4.trans s5) (n := n) (g := s.givings + 1) (ws := ws) f4 (by show n < s.given.length; rw [ok.len]; exact f4) er3 (none_of s4 nt3) nc3 tc et3 (s5 _ _ ec4)
          walk_at "go"
          refine ⟨m.rl, _, _, n, rfl, rfl, s5 _ _ (s4 _ _ er3), ixn (by rw [lrs3]; exact f4), ?_⟩
          walk_at "go"
          have fin := ((Mm.same hM (sG.trans s1)).trans mm3).trans pl
          have eR : givenR s ws = { s with cells := s.cells.set n ws, given := s.given.set n (s.givings + 1), givings := s.givings + 1, gs := s.free.1.gs } := by
            unfold givenR
            rw [f1, f2, hn]
          have eU : U2 s n = fun i => if i = n then true else used s.gs i := funext fun i => by
            unfold U2
            by_cases z : i = n
            · rw [if_pos z, if_pos z]
            · rw [if_neg z, if_neg z, fu i z]
          rw [hn] at q
          rw [eR, eU] at q
          exact q _ _ fin
end
end K17

namespace K17
open PySem PySem.Spec PyProof.Rows L2 Bk Rm


theorem used_iff {gs : Gs} {n : Nat} : used gs n = true ↔ ∃ g ∈ gs, ∃ j : Nat, g.2[j]? = some (Pl.at n) := by
  unfold used
  rw [List.any_eq_true]
  constructor
  · rintro ⟨g, hg, h⟩
    obtain ⟨p, hp, e⟩ := List.any_eq_true.mp h
    rw [isAt_iff.mp e] at hp
    obtain ⟨j, hj, e2⟩ := List.getElem_of_mem hp
    exact ⟨g, hg, j, by rw [List.getElem?_eq_getElem hj, e2]⟩
  · rintro ⟨g, hg, j, h⟩
    exact ⟨g, hg, List.any_eq_true.mpr ⟨_, List.mem_of_getElem? h, decide_eq_true rfl⟩⟩
/-- which rooms are used, where one place is told otherwise -/
theorem used_setAt_ne {gs : Gs} {x : Str} {r i : Nat} {p : Pl} (hp : p ≠ .at i) (ho : ∀ g ∈ gs, g.1 = x → g.2[r]? ≠ some (.at i)) : used (setAt gs x r p) i = used gs i := by
  rw [Bool.eq_iff_iff, used_iff, used_iff]
  constructor
  · rintro ⟨g, hg, j, h⟩
    obtain ⟨g0, hg0, rfl⟩ := List.mem_map.mp hg
    by_cases z : g0.1 = x
    · rw [if_pos z] at h
      have h : (g0.2.set r p)[j]? = some (.at i) := h
      by_cases rj : r = j
      · subst rj
        have l := (List.getElem?_eq_some_iff.mp h).1
        rw [List.length_set] at l
        rw [List.getElem?_set_self l] at h
        exact absurd (Option.some.inj h) hp
      · rw [List.getElem?_set_ne rj] at h
        exact ⟨g0, hg0, j, h⟩
    · rw [if_neg z] at h
      exact ⟨g0, hg0, j, h⟩
  · rintro ⟨g, hg, j, h⟩
    refine ⟨_, List.mem_map.mpr ⟨g, hg, rfl⟩, j, ?_⟩
    by_cases z : g.1 = x
    · rw [if_pos z]
      show (g.2.set r p)[j]? = _
      rw [List.getElem?_set_ne fun w => ho g hg z (by rw [w]; exact h)]
      exact h
    · rw [if_neg z]
      exact h
theorem used_setAt_self {gs : Gs} {x : Str} {r n : Nat} (h : ∃ g ∈ gs, g.1 = x ∧ r < g.2.length) : used (setAt gs x r (.at n)) n = true := by
  obtain ⟨g, hg, e, l⟩ := h
  refine used_iff.mpr ⟨_, List.mem_map.mpr ⟨g, hg, rfl⟩, r, ?_⟩
  rw [if_pos e]
  exact List.getElem?_set_self l
theorem free_place {s : R} (ok : s.Ok) {x : Str} {r : Nat} {ps : List Pl} {p : Pl} {g2 : Str × List Pl} (hg2 : g2 ∈ s.free.1.gs) (e : g2.1 = x) (np : ∀ n, p ≠ Pl.at n) (hp : getG s.gs x = some ps) (e1 : ps[r]? = some p) (i : Nat) : g2.2[r]? ≠ some (Pl.at i) := by
  unfold R.free at hg2
  cases h : freeAt s.gs s.cells.length 0 with
  | some n =>
    rw [h] at hg2
    rw [getG_uniq ok.nd hp hg2 e, e1]
    exact fun z => np i (Option.some.inj z)
  | none =>
    rw [h] at hg2
    obtain ⟨g0, hg0, rfl⟩ := List.mem_map.mp hg2
    have e0 : g0.1 = x := e
    show (g0.2.map _)[r]? ≠ some (Pl.at i)
    rw [List.getElem?_map, getG_uniq ok.nd hp hg0 e0, e1]
    intro z
    have z := Option.some.inj z
    have z : (if isAt (leastAt s.given) p = true then Pl.own (s.cells.getD (leastAt s.given) []) else p) = Pl.at i := z
    split at z
    · exact nomatch z
    · exact np i z
def spMBrought : Sp := fun vs H Q _ => ∃ (m : Ms) (s : R) (x : Str) (r : Nat), vs = [.ref m.d, .str x, .int r] ∧ Md H m s (used s.gs) none ∧ s.Ok ∧ s.names.length ≤ 6 ∧ s.cells.length ≤ 64 ∧ x ∈ s.names ∧ r < 8 ∧ ∀ m' H', Mm H m s (used s.gs) H' m' (s.brought x r).1 (used (s.brought x r).1.gs) → Q .non H'
section
variable {P : Program} {w : World} {K : PySem.W.Frag} {mg : Str → Option Value} {base : Heap} {A : Ad}
theorem ok_mbrought {f : Addr} {fd : FuncData} (F : Fun K "_law_brought" "_law_brought" s_brought_L f fd) (T : Txt K mg A) (c_words_L : CalD P w K mg base CX0 1 "_law_words" spMWords []) (c_given_L : CalD P w K mg base CX0 2 "_law_given" spGiven []) : FnOk P w K mg base CX0 3 f fd ["_law_model_here", "_law_name", "_law_room"] spMBrought := by
  refine F.ok sc_brought_L (fun vs H Q E h => ?_) (fun cdv A' outer s H vs Q E hr h => have hu65 := units65 hr; have hu64 := hr.units; have hu := units1 hr; ⟨_, (pss_cons (ps_set (i := 3) sc_brought_L.nd rfl (.inl rfl) (pe_cal c_words_L hr (by decide) (by rfl) (pa_cons (pv 0) (pa_cons (pv 1) (pa_cons (pv 2) pa_nil)))))
    (pss_one (ps_if (pt_cmpR op_ne (pe_ix ix_list (pe_ix ix_list (pe_dget hu (pe_dget hu (pv 0) pe_str (fun _ _ => rfl)) (pv 1) (fun _ _ => rfl)) (pv 2) (fun _ _ => rfl)) pe_int (fun _ _ => rfl)) pe_str (nomark _)) (pss_one (ps_asg (pe_lstB (pa_cons pe_str (pa_cons (pe_cal c_given_L hr (by decide) (by rfl) (pa_cons (pv 0) (pa_cons (pv 3) pa_nil))) pa_nil))) (pg_sub (pe_dget hu (pe_dget hu (pv 0) pe_str (fun _ _ => rfl)) (pv 1) (fun _ _ => rfl)) (pv 2) set_list))) pss_nil))), ?_⟩)
  · obtain ⟨m, s, x, r, rfl, _⟩ := h
    rfl
  · obtain ⟨m, s, x, r, rfl, hM, ok, l6, c64, hx, r8, q⟩ := h
    walk_at "go"
    refine ⟨m, s, used s.gs, none, x, r, rfl, hM, ok, fun _ h => h, hx, r8, fun p H1 np s1 ep => ?_⟩
    have M1 := hM.same s1
    obtain ⟨g, xs, hg, eg, ex, its⟩ := M1.glx hx
    obtain ⟨ps, hp⟩ := getG_some hx
    obtain ⟨pl, e1, e2, e3, e4⟩ := at_place ok hp r8
    have epl : plc s x r = pl := e2
    have ei := e4 g hg eg
    have lr : r < xs.length := by rw [its.1]; exact (List.getElem?_eq_some_iff.mp ei).1
    have ev := List.getElem?_eq_getElem lr
    have iv := its.2 r pl _ ei ev
    generalize xs[r] = v at ev iv
    walk_at "go"
    refine r_dM M1 rfl (v := .ref m.gd) rfl ?_
    refine ⟨_, rfl, m.gd, .ref (m.gl x), rfl, .inl ⟨_, .inr x, M1.rd, rfl, by rw [dicF_get, if_pos hx]⟩, ?_⟩
    walk_at "go"
    refine r_ixL (sqL ex) (v := v) (atI_nat ev) ?_
    walk_at "go"
    obtain ⟨f1, f2, f3, f4, f5, f6⟩ := R.free_ok ok
    have nmf : ∀ ws, (givenR s ws).names = s.names := fun ws => by
      have := congrArg (fun l => l.map (·.1)) f6
      unfold told at this
      simp only [List.map_map] at this
      exact this
    cases pl with
    | «at» n =>
      obtain ⟨t, rfl, _, et⟩ := iv
      refine r_ixL (sqL et) (v := .str (Str.ofString "in")) (atI_nat (j := 0) rfl) ?_
      walk_at "go"
      refine iteX (by decide +kernel) ?_
      walk_at "go"
      have er : (s.brought x r).1 = s := by unfold R.brought; rw [e2]
      rw [er] at q
      exact q m H1 (Mm.same hM s1)
    | blank =>
      obtain ⟨t, rfl, _, et⟩ := iv
      refine r_ixL (sqL et) (v := .str (Str.ofString "blank")) (atI_nat (j := 0) rfl) ?_
      walk_at "go"
      refine iteY (by decide +kernel) ?_
      walk_at "go"
      rw [epl] at ep
      refine ⟨m, s, p, _, rfl, ep, hM.none np, M1, ok, l6, c64, fun m' H2 mm => ?_⟩
      walk_at "go"
      refine newLB fun it H3 nit git s3 eit => ?_
      have M3 := mm.md.same s3
      have hx3 : x ∈ (givenR s (words s.cells .blank)).names := by rw [nmf]; exact hx
      obtain ⟨g', xs', hg', gx', ex', its'⟩ := M3.glx hx3
      walk_at "go"
      refine r_dM M3 (by rw [mm.dd]; rfl) (v := .ref m'.gd) rfl ?_
      refine ⟨_, rfl, m'.gd, .ref (m'.gl x), rfl, .inl ⟨_, .inr x, M3.rd, rfl, by rw [dicF_get, if_pos hx3]⟩, ?_⟩
      walk_at "go"
      refine ⟨m'.gl x, _, _, r, rfl, rfl, ex', ixn (by rw [its'.1, show g'.2.length = 8 from R.free_8 ok g' hg']; exact r8), ?_⟩
      have mi := (((Mm.same hM s1).trans mm).then s3).trans (M3.item hx3 (r := r) ex' (p := .at s.free.2) (v := .ref it) ⟨it, rfl, mm.md.none nit, eit⟩)
      walk_at "go"
      have er : (s.brought x r).1 = { givenR s (words s.cells .blank) with gs := setAt (givenR s (words s.cells .blank)).gs x r (.at s.free.2) } := by
        unfold R.brought givenR
        rw [e2, f1, f2]
      rw [er] at q
      have eU : used (setAt (givenR s (words s.cells .blank)).gs x r (.at s.free.2)) = U2 s s.free.2 := funext fun i => by
        unfold U2
        by_cases z : i = s.free.2
        · rw [if_pos z, z]
          exact used_setAt_self ⟨g', hg', gx', by rw [show g'.2.length = 8 from R.free_8 ok g' hg']; exact r8⟩
        · rw [if_neg z]
          refine used_setAt_ne (fun w => z (by injection w with w; exact w.symm)) fun g2 hg2 e w => ?_
          exact absurd w (free_place ok (p := .blank) hg2 e (fun n w => nomatch w) hp e1 i)
      rw [eU] at q
      exact q m' _ mi
    | own ws =>
      obtain ⟨t, c, rfl, _, _, et, _⟩ := iv
      refine r_ixL (sqL et) (v := .str (Str.ofString "away")) (atI_nat (j := 0) rfl) ?_
      walk_at "go"
      refine iteY (by decide +kernel) ?_
      walk_at "go"
      rw [epl] at ep
      refine ⟨m, s, p, _, rfl, ep, hM.none np, M1, ok, l6, c64, fun m' H2 mm => ?_⟩
      walk_at "go"
      refine newLB fun it H3 nit git s3 eit => ?_
      have M3 := mm.md.same s3
      have hx3 : x ∈ (givenR s (words s.cells (.own ws))).names := by rw [nmf]; exact hx
      obtain ⟨g', xs', hg', gx', ex', its'⟩ := M3.glx hx3
      walk_at "go"
      refine r_dM M3 (by rw [mm.dd]; rfl) (v := .ref m'.gd) rfl ?_
      refine ⟨_, rfl, m'.gd, .ref (m'.gl x), rfl, .inl ⟨_, .inr x, M3.rd, rfl, by rw [dicF_get, if_pos hx3]⟩, ?_⟩
      walk_at "go"
      refine ⟨m'.gl x, _, _, r, rfl, rfl, ex', ixn (by rw [its'.1, show g'.2.length = 8 from R.free_8 ok g' hg']; exact r8), ?_⟩
      have mi := (((Mm.same hM s1).trans mm).then s3).trans (M3.item hx3 (r := r) ex' (p := .at s.free.2) (v := .ref it) ⟨it, rfl, mm.md.none nit, eit⟩)
      walk_at "go"
      have er : (s.brought x r).1 = { givenR s (words s.cells (.own ws)) with gs := setAt (givenR s (words s.cells (.own ws))).gs x r (.at s.free.2) } := by
        unfold R.brought givenR
        rw [e2, f1, f2]
      rw [er] at q
      have eU : used (setAt (givenR s (words s.cells (.own ws))).gs x r (.at s.free.2)) = U2 s s.free.2 := funext fun i => by
        unfold U2
        by_cases z : i = s.free.2
        · rw [if_pos z, z]
          exact used_setAt_self ⟨g', hg', gx', by rw [show g'.2.length = 8 from R.free_8 ok g' hg']; exact r8⟩
        · rw [if_neg z]
          refine used_setAt_ne (fun w => z (by injection w with w; exact w.symm)) fun g2 hg2 e w => ?_
          exact absurd w (free_place ok (p := .own ws) hg2 e (fun n w => nomatch w) hp e1 i)
      rw [eU] at q
      exact q m' _ mi
end
end K17

namespace K17
open PySem PySem.Spec PyProof.Rows L2 Bk Rm


theorem plc_at {s : R} (ok : s.Ok) {x : Str} {r : Nat} (hx : x ∈ s.names) (r8 : r < 8) : plc (s.brought x r).1 x r = .at (s.brought x r).2 ∧ used (s.brought x r).1.gs (s.brought x r).2 = true ∧ (x, r) ∈ lying (s.brought x r).1.gs (s.brought x r).2 := by
  obtain ⟨ps, hp⟩ := getG_some hx
  obtain ⟨_, a, _⟩ := R.brought_ok ok hp r8
  obtain ⟨b1, b2, b3, b4⟩ := plc_brought ok hx r8
  obtain ⟨ps2, hp2⟩ := getG_some (b3 ▸ hx : x ∈ (s.brought x r).1.names)
  have e : ps2[r]? = some (.at (s.brought x r).2) := a _ (getG_mem hp2) rfl
  refine ⟨?_, used_of (getG_mem hp2) e, mem_lying.mpr ⟨_, getG_mem hp2, rfl, e⟩⟩
  unfold plc
  rw [hp2]
  show (ps2[r]?).getD .blank = _
  rw [e]
  rfl
theorem Md.it {H : Hp} {m : Ms} {s : R} {U : Nat → Bool} {z : Option Obj} (h : Md H m s U z) (ok : s.Ok) {x : Str} {r : Nat} (hx : x ∈ s.names) (r8 : r < 8) : ∃ xs v, H (m.gl x) = some (.lst xs) ∧ xs.length = 8 ∧ xs[r]? = some v ∧ ItV (mown m s U) H (plc s x r) v := by
  obtain ⟨g, xs, hg, eg, ex, its⟩ := h.glx hx
  obtain ⟨ps, hp⟩ := getG_some hx
  obtain ⟨pl, e1, e2, e3, e4⟩ := at_place ok hp r8
  have epl : plc s x r = pl := e2
  have ei := e4 g hg eg
  have l8 : xs.length = 8 := by rw [its.1]; exact (ok.at_ g hg).1
  have lr : r < xs.length := by omega
  have ev := List.getElem?_eq_getElem lr
  exact ⟨xs, xs[r], ex, l8, ev, by rw [epl]; exact its.2 r pl _ ei ev⟩
theorem lying_nd {gs : Gs} {n : Nat} (nd : (gs.map (·.1)).Nodup) : (lying gs n).Nodup := by
  unfold lying
  refine List.pairwise_flatMap.mpr ⟨fun g _ => ?_, ?_⟩
  · have nd2 : ((List.range g.2.length).filter fun j => isAt n (g.2.getD j .blank)).Nodup := List.Pairwise.sublist List.filter_sublist List.nodup_range
    exact List.pairwise_map.mpr (nd2.imp fun {a b} h z => h (Prod.mk.inj z).2)
  · refine List.Pairwise.imp ?_ (List.pairwise_map.mp nd)
    intro a b h y hy z hz e
    obtain ⟨_, _, rfl⟩ := List.mem_map.mp hy
    obtain ⟨_, _, rfl⟩ := List.mem_map.mp hz
    exact h (Prod.mk.inj e).1
theorem two_lie {gs : Gs} {n r : Nat} {x : Str} (nd : (gs.map (·.1)).Nodup) (h : 1 < (lying gs n).length) : ∃ y j, (y, j) ∈ lying gs n ∧ (y ≠ x ∨ j ≠ r) := by
  have w := lying_nd (n := n) nd
  generalize lying gs n = l at h w
  match l, h, w with
  | a :: b :: l, _, w =>
    by_cases ea : a = (x, r)
    · refine ⟨b.1, b.2, List.mem_cons_of_mem _ List.mem_cons_self, Classical.byContradiction fun z => ?_⟩
      have z1 : b.1 = x := Classical.byContradiction fun q => z (.inl q)
      have z2 : b.2 = r := Classical.byContradiction fun q => z (.inr q)
      exact (List.pairwise_cons.mp w).1 b List.mem_cons_self (ea.trans (Prod.ext z1 z2).symm)
    · refine ⟨a.1, a.2, List.mem_cons_self, Classical.byContradiction fun z => ea ?_⟩
      have z1 : a.1 = x := Classical.byContradiction fun q => z (.inl q)
      have z2 : a.2 = r := Classical.byContradiction fun q => z (.inr q)
      exact Prod.ext z1 z2
/-- one place of several that lie in a room leaves it: the same rooms are used -/
theorem used_leave {gs : Gs} {x : Str} {r n : Nat} {ws : List Nat} (nd : (gs.map (·.1)).Nodup) (h : 1 < (lying gs n).length) (hx : ∀ g ∈ gs, g.1 = x → g.2[r]? = some (.at n)) : used (setAt gs x r (.own ws)) = used gs := funext fun i => by
  by_cases z : i = n
  · subst z
    obtain ⟨y, j, m, ne⟩ := two_lie (x := x) (r := r) nd h
    obtain ⟨g, hg, gy, gj⟩ := mem_lying.mp m
    rw [used_iff.mpr ⟨g, hg, j, gj⟩]
    refine used_iff.mpr ⟨_, List.mem_map.mpr ⟨g, hg, rfl⟩, j, ?_⟩
    by_cases e : g.1 = x
    · rw [if_pos e]
      show (g.2.set r _)[j]? = _
      rw [List.getElem?_set_ne fun w => ne.elim (fun q => q (gy ▸ e)) fun q => q w.symm]
      exact gj
    · rw [if_neg e]
      exact gj
  · refine used_setAt_ne (fun w => nomatch w) fun g hg e w => ?_
    rw [hx g hg e] at w
    have w := Option.some.inj w
    injection w with w
    exact z w.symm
def spMRead : Sp := fun vs H Q _ => ∃ (m : Ms) (s : R) (x : Str) (r c : Nat), vs = [.ref m.d, .str x, .int r, .int c] ∧ Md H m s (used s.gs) none ∧ s.Ok ∧ s.names.length ≤ 6 ∧ s.cells.length ≤ 64 ∧ x ∈ s.names ∧ r < 8 ∧ c < 8 ∧ ∀ m' H', Mm H m s (used s.gs) H' m' (R.read s x r) (used (R.read s x r).gs) → Q (.int ((words s.cells (plc s x r)).getD c 0)) H'
def spMWrite : Sp := fun vs H Q _ => ∃ (m : Ms) (s : R) (x : Str) (r c w : Nat), vs = [.ref m.d, .str x, .int r, .int c, .int w] ∧ Md H m s (used s.gs) none ∧ s.Ok ∧ s.names.length ≤ 6 ∧ s.cells.length ≤ 64 ∧ x ∈ s.names ∧ r < 8 ∧ c < 8 ∧ ∀ m' H', Mm H m s (used s.gs) H' m' (s.write x r c w) (used (s.write x r c w).gs) → Q .non H'
theorem nv_get {ws : List Nat} {c : Nat} (h : c < ws.length) : (nv ws)[c]? = some (.int (ws.getD c 0 : Nat)) := by
  unfold nv
  rw [List.getElem?_map, List.getD_eq_getElem?_getD, List.getElem?_eq_getElem h]
  rfl
section
variable {P : Program} {w : World} {K : PySem.W.Frag} {mg : Str → Option Value} {base : Heap} {A : Ad}
theorem ok_mread {f : Addr} {fd : FuncData} (F : Fun K "_law_read" "_law_read" s_read_L f fd) (T : Txt K mg A) (c_words_L : CalD P w K mg base CX0 1 "_law_words" spMWords []) (c_brought_L : CalD P w K mg base CX0 3 "_law_brought" spMBrought []) : FnOk P w K mg base CX0 4 f fd ["_law_model_here", "_law_name", "_law_room", "_law_cell_here"] spMRead := by
  refine F.ok sc_read_L (fun vs H Q E h => ?_) (fun cdv A' outer s H vs Q E hr h => have hu65 := units65 hr; have hu64 := hr.units; have hu := units1 hr; ⟨_, (pss_cons (ps_if (pt_cmpR op_eq (pe_ix ix_list (pe_ix ix_list (pe_dget hu (pe_dget hu (pv 0) pe_str (fun _ _ => rfl)) (pv 1) (fun _ _ => rfl)) (pv 2) (fun _ _ => rfl)) pe_int (fun _ _ => rfl)) pe_str (nomark _)) (pss_one (ps_ret pe_int)) pss_nil)
    (pss_cons (ps_expr (pe_cal c_brought_L hr (by decide) (by rfl) (pa_cons (pv 0) (pa_cons (pv 1) (pa_cons (pv 2) pa_nil)))))
    (pss_one (ps_ret (pe_ix ix_list (pe_cal c_words_L hr (by decide) (by rfl) (pa_cons (pv 0) (pa_cons (pv 1) (pa_cons (pv 2) pa_nil)))) (pv 3) (fun _ _ => rfl)))))), ?_⟩)
  · obtain ⟨m, s, x, r, c, rfl, _⟩ := h
    rfl
  · obtain ⟨m, s, x, r, c, rfl, hM, ok, l6, c64, hx, r8, c8, q⟩ := h
    obtain ⟨xs, v, ex, l8, ev, iv⟩ := hM.it ok hx r8
    walk_at "go"
    refine r_dM hM rfl (v := .ref m.gd) rfl ?_
    refine ⟨_, rfl, m.gd, .ref (m.gl x), rfl, .inl ⟨_, .inr x, hM.rd, rfl, by rw [dicF_get, if_pos hx]⟩, ?_⟩
    walk_at "go"
    refine r_ixL (sqL ex) (v := v) (atI_nat ev) ?_
    walk_at "go"
    obtain ⟨b1, b2, b3, b4⟩ := plc_brought ok hx r8
    obtain ⟨ps, hp⟩ := getG_some hx
    obtain ⟨o1, _, _⟩ := R.brought_ok ok hp r8
    obtain ⟨p1, p2, p3⟩ := plc_at ok hx r8
    obtain ⟨pl0, _, pe, pok, _⟩ := at_place ok hp r8
    have pe : plc s x r = pl0 := pe
    have pok : PlOk s.cells (plc s x r) := by rw [pe]; exact pok
    cases epl : plc s x r with
    | blank =>
      rw [epl] at iv
      obtain ⟨t, rfl, _, et⟩ := iv
      refine r_ixL (sqL et) (v := .str (Str.ofString "blank")) (atI_nat (j := 0) rfl) ?_
      walk_at "go"
      refine iteY (by decide +kernel) ?_
      walk_at "go"
      have er : R.read s x r = s := by unfold R.read; rw [epl]
      have ez : (words s.cells (plc s x r)).getD c 0 = 0 := by
        rw [epl]
        exact (by decide : ∀ c, c < 8 → zeros.getD c 0 = 0) c c8
      rw [er, ez] at q
      exact q m H (Mm.same hM (Same.refl _))
    | own ws =>
      rw [epl] at iv
      obtain ⟨t, c2, rfl, _, _, et, _⟩ := iv
      refine r_ixL (sqL et) (v := .str (Str.ofString "away")) (atI_nat (j := 0) rfl) ?_
      walk_at "go"
      refine iteX (by decide +kernel) ?_
      walk_at "go"
      refine ⟨m, s, x, r, rfl, hM, ok, l6, c64, hx, r8, fun m1 H1 mm => ?_⟩
      walk_at "go"
      refine ⟨m1, (s.brought x r).1, _, none, x, r, by rw [mm.dd]; rfl, mm.md, o1, fun _ h => h, by rw [b3]; exact hx, r8, fun p H2 np s2 ep => ?_⟩
      rw [p1, show words (s.brought x r).1.cells (.at (s.brought x r).2) = (s.brought x r).1.cells.getD (s.brought x r).2 [] from rfl, b2] at ep
      walk_at "go"
      refine r_ixL (sqL ep) (v := .int ((words s.cells (plc s x r)).getD c 0)) (atI_nat (nv_get (by rw [pok.1]; exact c8))) ?_
      have er : R.read s x r = (s.brought x r).1 := by unfold R.read; rw [epl]
      rw [er] at q
      exact q m1 H2 (mm.then s2)
    | «at» n =>
      rw [epl] at iv
      obtain ⟨t, rfl, _, et⟩ := iv
      refine r_ixL (sqL et) (v := .str (Str.ofString "in")) (atI_nat (j := 0) rfl) ?_
      walk_at "go"
      refine iteX (by decide +kernel) ?_
      walk_at "go"
      refine ⟨m, s, x, r, rfl, hM, ok, l6, c64, hx, r8, fun m1 H1 mm => ?_⟩
      walk_at "go"
      refine ⟨m1, (s.brought x r).1, _, none, x, r, by rw [mm.dd]; rfl, mm.md, o1, fun _ h => h, by rw [b3]; exact hx, r8, fun p H2 np s2 ep => ?_⟩
      rw [p1, show words (s.brought x r).1.cells (.at (s.brought x r).2) = (s.brought x r).1.cells.getD (s.brought x r).2 [] from rfl, b2] at ep
      walk_at "go"
      refine r_ixL (sqL ep) (v := .int ((words s.cells (plc s x r)).getD c 0)) (atI_nat (nv_get (by rw [pok.1]; exact c8))) ?_
      have er : R.read s x r = (s.brought x r).1 := by unfold R.read; rw [epl]
      rw [er] at q
      exact q m1 H2 (mm.then s2)
theorem ok_mwrite {f : Addr} {fd : FuncData} (F : Fun K "_law_write" "_law_write" s_write_L f fd) (T : Txt K mg A) (c_words_L : CalD P w K mg base CX0 1 "_law_words" spMWords []) (c_lying_L : CalD P w K mg base CX0 1 "_law_lying" spMLying []) (c_brought_L : CalD P w K mg base CX0 3 "_law_brought" spMBrought []) : FnOk P w K mg base CX0 4 f fd ["_law_model_here", "_law_name", "_law_room", "_law_cell_here", "_law_word"] spMWrite := by
  refine F.ok sc_write_L (fun vs H Q E h => ?_) (fun cdv A' outer s H vs Q E hr h => have hu65 := units65 hr; have hu64 := hr.units; have hu := units1 hr; ⟨_, (pss_cons (ps_expr (pe_cal c_brought_L hr (by decide) (by rfl) (pa_cons (pv 0) (pa_cons (pv 1) (pa_cons (pv 2) pa_nil)))))
    (pss_cons (ps_set (i := 5) sc_write_L.nd rfl (.inl rfl) (pe_ix ix_list (pe_ix ix_list (pe_dget hu (pe_dget hu (pv 0) pe_str (fun _ _ => rfl)) (pv 1) (fun _ _ => rfl)) (pv 2) (fun _ _ => rfl)) pe_int (fun _ _ => rfl)))
    (C8.pss_cut (ps_if (pt_cmpR op_gt (pe_callB call_len_seq (by rfl) T.m_len (by decide +kernel) (pa_cons (pe_cal c_lying_L hr (by decide) (by rfl) (pa_cons (pv 0) (pa_cons (pv 5) pa_nil))) pa_nil)) pe_int (nomark _)) (pss_cons (ps_asg (pe_lstB (pa_cons pe_str (pa_cons (pe_cal c_words_L hr (by decide) (by rfl) (pa_cons (pv 0) (pa_cons (pv 1) (pa_cons (pv 2) pa_nil)))) pa_nil))) (pg_sub (pe_dget hu (pe_dget hu (pv 0) pe_str (fun _ _ => rfl)) (pv 1) (fun _ _ => rfl)) (pv 2) set_list))
    (pss_cons (ps_expr (pe_cal c_brought_L hr (by decide) (by rfl) (pa_cons (pv 0) (pa_cons (pv 1) (pa_cons (pv 2) pa_nil)))))
    (pss_one (ps_set (i := 5) sc_write_L.nd rfl (.inl rfl) (pe_ix ix_list (pe_ix ix_list (pe_dget hu (pe_dget hu (pv 0) pe_str (fun _ _ => rfl)) (pv 1) (fun _ _ => rfl)) (pv 2) (fun _ _ => rfl)) pe_int (fun _ _ => rfl)))))) pss_nil)
    (pss_one (ps_asg (pv 4) (pg_sub (pe_ix ix_list (pe_ix ix_list (pe_dget hu (pv 0) pe_str (fun _ _ => rfl)) (pv 5) (fun _ _ => rfl)) pe_int (fun _ _ => rfl)) (pv 3) set_list)))))), ?_⟩)
  · obtain ⟨m, s, x, r, c, w, rfl, _⟩ := h
    rfl
  · obtain ⟨m, s, x, r, c, w, rfl, hM, ok, l6, c64, hx, r8, c8, q⟩ := h
    obtain ⟨b1, b2, b3, b4⟩ := plc_brought ok hx r8
    obtain ⟨ps, hp⟩ := getG_some hx
    obtain ⟨o1, a1, _⟩ := R.brought_ok ok hp r8
    obtain ⟨p1, p2, p3⟩ := plc_at ok hx r8
    walk_at "go"
    refine ⟨m, s, x, r, rfl, hM, ok, l6, c64, hx, r8, fun m1 H1 mm1 => ?_⟩
    have eW : s.write x r c w = { (if 1 < (lying (s.brought x r).1.gs (s.brought x r).2).length then R.brought { (s.brought x r).1 with gs := setAt (s.brought x r).1.gs x r (.own ((s.brought x r).1.cells.getD (s.brought x r).2 [])) } x r else s.brought x r).1 with cells := (if 1 < (lying (s.brought x r).1.gs (s.brought x r).2).length then R.brought { (s.brought x r).1 with gs := setAt (s.brought x r).1.gs x r (.own ((s.brought x r).1.cells.getD (s.brought x r).2 [])) } x r else s.brought x r).1.cells.set (if 1 < (lying (s.brought x r).1.gs (s.brought x r).2).length then R.brought { (s.brought x r).1 with gs := setAt (s.brought x r).1.gs x r (.own ((s.brought x r).1.cells.getD (s.brought x r).2 [])) } x r else s.brought x r).2 (((if 1 < (lying (s.brought x r).1.gs (s.brought x r).2).length then R.brought { (s.brought x r).1 with gs := setAt (s.brought x r).1.gs x r (.own ((s.brought x r).1.cells.getD (s.brought x r).2 [])) } x r else s.brought x r).1.cells.getD (if 1 < (lying (s.brought x r).1.gs (s.brought x r).2).length then R.brought { (s.brought x r).1 with gs := setAt (s.brought x r).1.gs x r (.own ((s.brought x r).1.cells.getD (s.brought x r).2 [])) } x r else s.brought x r).2 []).set c w) } := rfl
    have hx1 : x ∈ (s.brought x r).1.names := by rw [b3]; exact hx
    have w8 : ((s.brought x r).1.cells.getD (s.brought x r).2 []).length = 8 := (PlOk.at_lt o1.eight b1).1
    rw [← b3] at l6
    rw [← b4] at c64
    generalize s.brought x r = S at mm1 b1 o1 a1 p1 p2 p3 eW hx1 w8 l6 c64
    obtain ⟨s1, n1⟩ := S
    dsimp only at mm1 b1 o1 a1 p1 p2 p3 eW hx1 w8 l6 c64
    obtain ⟨xs1, v1, ex1, l81, ev1, iv1⟩ := mm1.md.it o1 hx1 r8
    rw [p1] at iv1
    obtain ⟨t1, rfl, _, et1⟩ := iv1
    walk_at "go"
    refine r_dM mm1.md (by rw [mm1.dd]; rfl) (v := .ref m1.gd) rfl ?_
    refine ⟨_, rfl, m1.gd, .ref (m1.gl x), rfl, .inl ⟨_, .inr x, mm1.md.rd, rfl, by rw [dicF_get, if_pos hx1]⟩, ?_⟩
    walk_at "go"
    refine r_ixL (sqL ex1) (v := .ref t1) (atI_nat ev1) ?_
    walk_at "go"
    refine r_ixL (sqL et1) (v := .int (n1 : Nat)) (atI_nat (j := 1) rfl) ?_
    walk_at "go"
    refine r_cut (fun σ G => ∃ m3 b, σ = [some (.ref m.d), some (.str x), some (.int r), some (.int c), some (.int w), some (.int (b : R × Nat).2)] ∧ Mm H m s (used s.gs) G m3 b.1 (used b.1.gs) ∧ b.1.Ok ∧ b.2 < b.1.cells.length ∧ used b.1.gs b.2 = true ∧ b = (if 1 < (lying s1.gs n1).length then R.brought { s1 with gs := setAt s1.gs x r (.own (s1.cells.getD n1 [])) } x r else (s1, n1))) ?_ ?_
    · walk_at "go"
      refine ⟨m1, s1, _, n1, by rw [mm1.dd]; rfl, mm1.md, o1, l6, by omega, fun D xs H2 nD s2 eD all => ?_⟩
      refine r_nil ⟨D, xs, rfl, .inl (sqL eD), ?_⟩
      rw [all.1]
      walk_at "go"
      have M2 := mm1.md.same s2
      by_cases hm : 1 < (lying s1.gs n1).length
      · rw [decide_eq_true (by omega : (1 : Int) < ((lying s1.gs n1).length : Nat))]
        walk_at "go"
        refine ⟨m1, s1, _, none, x, r, by rw [mm1.dd]; rfl, M2, o1, fun _ h => h, hx1, r8, fun p H3 np s3 ep => ?_⟩
        rw [p1, show words s1.cells (.at n1) = s1.cells.getD n1 [] from rfl] at ep
        walk_at "go"
        refine newLB fun it H4 nit git s4 eit => ?_
        have M4 := (M2.same s3).same s4
        obtain ⟨xs4, v4, ex4, l84, ev4, iv4⟩ := M4.it o1 hx1 r8
        walk_at "go"
        refine r_dM M4 (by rw [mm1.dd]; rfl) (v := .ref m1.gd) rfl ?_
        refine ⟨_, rfl, m1.gd, .ref (m1.gl x), rfl, .inl ⟨_, .inr x, M4.rd, rfl, by rw [dicF_get, if_pos hx1]⟩, ?_⟩
        walk_at "go"
        refine ⟨m1.gl x, _, _, r, rfl, rfl, ex4, ixn (by rw [l84]; exact r8), ?_⟩
        have mi := (((mm1.then s2).then s3).then s4).trans (M4.item hx1 (r := r) ex4 (p := .own (s1.cells.getD n1 [])) (v := .ref it) ⟨it, p, rfl, (M2.same s3).none nit, M2.none np, eit, s4 _ _ ep⟩)
        generalize upd H4 (m1.gl x) (.lst (xs4.set r (.ref it))) = H5 at mi ⊢
        have eU : used s1.gs = used (setAt s1.gs x r (.own (s1.cells.getD n1 []))) := (used_leave o1.nd hm a1).symm
        rw [eU] at mi
        have mi : Mm H m s (used s.gs) H5 m1 { s1 with gs := setAt s1.gs x r (.own (s1.cells.getD n1 [])) } (used (R.gs { s1 with gs := setAt s1.gs x r (.own (s1.cells.getD n1 [])) })) := mi
        have o2 : R.Ok { s1 with gs := setAt s1.gs x r (.own (s1.cells.getD n1 [])) } := o1.setAt (PlOk.own w8)
        have hx2 : x ∈ R.names { s1 with gs := setAt s1.gs x r (.own (s1.cells.getD n1 [])) } := by rw [names_setAt']; exact hx1
        have l62 : (R.names { s1 with gs := setAt s1.gs x r (.own (s1.cells.getD n1 [])) }).length ≤ 6 := by rw [names_setAt']; exact l6
        rw [if_pos hm]
        have c642 : ({ s1 with gs := setAt s1.gs x r (.own (s1.cells.getD n1 [])) } : R).cells.length ≤ 64 := c64
        generalize ({ s1 with gs := setAt s1.gs x r (.own (s1.cells.getD n1 [])) } : R) = s5 at mi o2 hx2 l62 c642 ⊢
        walk_at "go"
        refine ⟨m1, s5, x, r, by rw [mm1.dd]; rfl, mi.md, o2, l62, c642, hx2, r8, fun m6 H6 mm6 => ?_⟩
        obtain ⟨b11, b12, b13, b14⟩ := plc_brought o2 hx2 r8
        obtain ⟨ps2, hp2⟩ := getG_some hx2
        obtain ⟨o6, _, _⟩ := R.brought_ok o2 hp2 r8
        obtain ⟨p11, p12, _⟩ := plc_at o2 hx2 r8
        have hx6 : x ∈ (s5.brought x r).1.names := by rw [b13]; exact hx2
        obtain ⟨xs6, v6, ex6, l86, ev6, iv6⟩ := mm6.md.it o6 hx6 r8
        rw [p11] at iv6
        obtain ⟨t6, rfl, _, et6⟩ := iv6
        have mf := mi.trans mm6
        walk_at "go"
        refine r_dM mm6.md (by rw [mf.dd]; rfl) (v := .ref m6.gd) rfl ?_
        refine ⟨_, rfl, m6.gd, .ref (m6.gl x), rfl, .inl ⟨_, .inr x, mm6.md.rd, rfl, by rw [dicF_get, if_pos hx6]⟩, ?_⟩
        walk_at "go"
        refine r_ixL (sqL ex6) (v := .ref t6) (atI_nat ev6) ?_
        walk_at "go"
        refine r_ixL (sqL et6) (v := .int ((s5.brought x r).2 : Nat)) (atI_nat (j := 1) rfl) ?_
        walk_at "go"
        exact ⟨m6, s5.brought x r, rfl, mf, o6, b11, p12, rfl⟩
      · rw [decide_eq_false (by omega : ¬ (1 : Int) < ((lying s1.gs n1).length : Nat))]
        walk_at "go"
        refine ⟨m1, (s1, n1), rfl, mm1.then s2, o1, b1, p2, ?_⟩
        rw [if_neg hm]
    · rintro σ G ⟨m3, b, rfl, m_, o_, lb, ub, eb⟩
      rw [← eb] at eW
      obtain ⟨rs, er, lrs, qr⟩ := m_.md.rl_
      have lnr : b.2 < rs.length := by rw [lrs]; exact lb
      rcases qr b.2 rs[b.2] (List.getElem?_eq_getElem lnr) with ⟨z0, _⟩ | ⟨_, t2, ev2, _, et2, ew2⟩
      · rw [ub] at z0; exact nomatch z0
      · have ev3 : rs[b.2]? = some (.ref t2) := by rw [List.getElem?_eq_getElem lnr, ev2]
        walk_at "go"
        refine r_dM m_.md (by rw [m_.dd]; rfl) (v := .ref m3.rl) rfl ?_
        walk_at "go"
        refine r_ixL (sqL er) (v := .ref t2) (atI_nat ev3) ?_
        walk_at "go"
        refine r_ixL (sqL et2) (v := .ref (m3.wl b.2)) (atI_nat (j := 1) rfl) ?_
        walk_at "go"
        have w82 : (b.1.cells.getD b.2 []).length = 8 := (PlOk.at_lt o_.eight lb).1
        refine ⟨m3.wl b.2, nv (b.1.cells.getD b.2 []), _, c, rfl, rfl, ew2, ixn (by rw [nv_len]; omega), ?_⟩
        have es : (nv (b.1.cells.getD b.2 [])).set c (.int w) = nv ((b.1.cells.getD b.2 []).set c w) := by unfold nv; rw [List.map_set]
        rw [es]
        rw [eW] at q
        walk_at "go"
        exact q m3 _ (m_.trans (m_.md.cell (ws := (b.1.cells.getD b.2 []).set c w) lb ub))
end
end K17

namespace K17
open PySem PySem.Spec PyProof.Rows L2 Bk Rm
/-! ### sharing, as a map of places -/
def mvP (φ : Nat → Nat) : Pl → Pl
  | .at n => .at (φ n)
  | p => p
def mapAt (φ : Nat → Nat) (gs : Gs) : Gs := gs.map fun g => (g.1, g.2.map (mvP φ))
theorem mapAt_names {φ : Nat → Nat} {gs : Gs} : (mapAt φ gs).map (·.1) = gs.map (·.1) := by
  unfold mapAt
  rw [List.map_map]
  rfl
theorem mapAt_congr {φ ψ : Nat → Nat} {gs : Gs} (h : ∀ n, used gs n = true → φ n = ψ n) : mapAt φ gs = mapAt ψ gs := by
  unfold mapAt
  refine List.map_congr_left fun g hg => ?_
  congr 1
  refine List.map_congr_left fun p hp => ?_
  cases p with
  | blank => rfl
  | own ws => rfl
  | «at» n => exact congrArg Pl.at (h n (List.any_eq_true.mpr ⟨g, hg, List.any_eq_true.mpr ⟨_, hp, decide_eq_true rfl⟩⟩))
theorem mapAt_id {gs : Gs} : mapAt (fun n => n) gs = gs := by
  unfold mapAt
  have : ∀ g ∈ gs, (fun g : Str × List Pl => (g.1, g.2.map (mvP fun n => n))) g = id g := fun g _ => by
    show (g.1, g.2.map (mvP fun n => n)) = g
    have : mvP (fun n => n) = id := funext fun p => by cases p <;> rfl
    rw [this, List.map_id]
  rw [List.map_congr_left this, List.map_id]
theorem put_mapAt {φ : Nat → Nat} {gs : Gs} {a b : Nat} : put (mapAt φ gs) b (.at a) = mapAt (fun n => if φ n = b then a else φ n) gs := by
  unfold put mapAt
  rw [List.map_map]
  refine List.map_congr_left fun g _ => ?_
  show (g.1, (g.2.map (mvP φ)).map fun q => if isAt b q = true then Pl.at a else q) = (g.1, g.2.map (mvP fun n => if φ n = b then a else φ n))
  rw [List.map_map]
  congr 1
  refine List.map_congr_left fun p _ => ?_
  cases p with
  | blank => rfl
  | own ws => rfl
  | «at» n =>
    show (if decide (φ n = b) = true then Pl.at a else Pl.at (φ n)) = Pl.at (if φ n = b then a else φ n)
    by_cases h : φ n = b
    · rw [if_pos h, if_pos (decide_eq_true h)]
    · rw [if_neg h, if_neg (fun z => h (of_decide_eq_true z))]
theorem used_mapAt {φ : Nat → Nat} {gs : Gs} {i : Nat} : used (mapAt φ gs) i = true ↔ ∃ n, used gs n = true ∧ φ n = i := by
  rw [used_iff]
  constructor
  · rintro ⟨g, hg, j, h⟩
    obtain ⟨g0, hg0, rfl⟩ := List.mem_map.mp hg
    have h : (g0.2.map (mvP φ))[j]? = some (.at i) := h
    rw [List.getElem?_map] at h
    cases e : g0.2[j]? with
    | none => rw [e] at h; exact nomatch h
    | some p =>
      rw [e] at h
      have h := Option.some.inj h
      cases p with
      | blank => exact nomatch h
      | own ws => exact nomatch h
      | «at» n =>
        injection h with h
        exact ⟨n, used_iff.mpr ⟨g0, hg0, j, e⟩, h⟩
  · rintro ⟨n, hn, rfl⟩
    obtain ⟨g, hg, j, h⟩ := used_iff.mp hn
    exact ⟨_, List.mem_map.mpr ⟨g, hg, rfl⟩, j, by show (g.2.map (mvP φ))[j]? = _; rw [List.getElem?_map, h]; rfl⟩
/-- the first room in use with the words of n -/
def F1 (s : R) (n : Nat) : Nat := ((List.range n).find? fun j => used s.gs j && decide (s.cells.getD j [] = s.cells.getD n [])).getD n
theorem F1_cases (s : R) (n : Nat) : (F1 s n = n ∧ ∀ j, j < n → used s.gs j = true → s.cells.getD j [] ≠ s.cells.getD n []) ∨ (F1 s n < n ∧ used s.gs (F1 s n) = true ∧ s.cells.getD (F1 s n) [] = s.cells.getD n [] ∧ ∀ j, j < F1 s n → used s.gs j = true → s.cells.getD j [] ≠ s.cells.getD n []) := by
  unfold F1
  cases h : (List.range n).find? fun j => used s.gs j && decide (s.cells.getD j [] = s.cells.getD n []) with
  | none =>
    refine .inl ⟨rfl, fun j hj hu e => ?_⟩
    have := List.find?_eq_none.mp h j (List.mem_range.mpr hj)
    rw [hu, decide_eq_true e] at this
    exact this rfl
  | some i =>
    obtain ⟨p, m, q⟩ := List.find?_range_eq_some.mp h
    rw [Bool.and_eq_true] at p
    refine .inr ⟨List.mem_range.mp m, p.1, of_decide_eq_true p.2, fun j hj hu e => ?_⟩
    have := q j hj
    rw [hu, decide_eq_true e] at this
    exact nomatch this
section
variable {s : R} {n m : Nat}
theorem F1_le : F1 s n ≤ n := by rcases F1_cases s n with h | h <;> omega
theorem F1_used (h : used s.gs n = true) : used s.gs (F1 s n) = true := by
  rcases F1_cases s n with q | q
  · rw [q.1]; exact h
  · exact q.2.1
theorem F1_w : s.cells.getD (F1 s n) [] = s.cells.getD n [] := by
  rcases F1_cases s n with q | q
  · rw [q.1]
  · exact q.2.2.1
theorem F1_min (h : m < F1 s n) (hu : used s.gs m = true) : s.cells.getD m [] ≠ s.cells.getD n [] := by
  rcases F1_cases s n with q | q
  · exact q.2 m (by rw [q.1] at h; exact h) hu
  · exact q.2.2.2 m h hu
theorem F1_same (hn : used s.gs n = true) (hm : used s.gs m = true) (e : s.cells.getD m [] = s.cells.getD n []) : F1 s m = F1 s n := by
  have a : ¬ F1 s m < F1 s n := fun z => F1_min z (F1_used hm) (F1_w.trans e)
  have b : ¬ F1 s n < F1 s m := fun z => F1_min z (F1_used hn) (F1_w.trans e.symm)
  omega
theorem F1_idem (hn : used s.gs n = true) : F1 s (F1 s n) = F1 s n := F1_same hn (F1_used hn) F1_w
theorem F1_lt (hn : used s.gs n = true) (hm : used s.gs m = true) (e : s.cells.getD m [] = s.cells.getD n []) : F1 s n ≤ m := Nat.le_of_not_lt fun z => F1_min z hm e
end
theorem inUse_pw {s : R} : (inUse s).Pairwise (· < ·) := List.Pairwise.sublist List.filter_sublist List.pairwise_lt_range
theorem used_lt {s : R} (ok : s.Ok) {n : Nat} (h : used s.gs n = true) : n < s.cells.length := by
  obtain ⟨g, hg, j, e⟩ := used_iff.mp h
  exact ((ok.at_ g hg).2 _ (List.mem_of_getElem? e)).2 n rfl
theorem mem_inU {s : R} (ok : s.Ok) {n : Nat} : n ∈ inUse s ↔ used s.gs n = true := by
  unfold inUse
  rw [List.mem_filter, List.mem_range]
  exact ⟨fun h => h.2, fun h => ⟨used_lt ok h, h⟩⟩
theorem shareGo_eq {s : R} (ok : s.Ok) : ∀ {l pre : List Nat} {k : Nat}, inUse s = pre ++ l →
    shareGo s.cells l (mapAt (fun n => if n ∈ pre then F1 s n else n) s.gs) ((pre.filter fun n => decide (F1 s n = n)).map fun n => (s.cells.getD n [], n)) k = (mapAt (F1 s) s.gs, k + (l.filter fun n => decide (F1 s n ≠ n)).length)
  | [], pre, k, e => by
    unfold shareGo
    rw [List.append_nil] at e
    refine Prod.ext (mapAt_congr fun n hn => ?_) rfl
    have : n ∈ pre := e ▸ (mem_inU ok).mpr hn
    exact if_pos this
  | n :: l, pre, k, e => by
    have un : ∀ {i}, i ∈ pre ++ n :: l → used s.gs i = true := fun {i} h => (mem_inU ok).mp (e.symm ▸ h)
    have hn := un (List.mem_append.mpr (.inr List.mem_cons_self))
    have pw : (pre ++ n :: l).Pairwise (· < ·) := e ▸ inUse_pw
    obtain ⟨_, pw2, pw3⟩ := List.pairwise_append.mp pw
    have plt : ∀ i ∈ pre, i < n := fun i hi => pw3 i hi n List.mem_cons_self
    have inp : ∀ {i}, used s.gs i = true → i < n → i ∈ pre := fun {i} hu hi => by
      rcases List.mem_append.mp (e ▸ (mem_inU ok).mpr hu : i ∈ pre ++ n :: l) with z | z
      · exact z
      · rcases List.mem_cons.mp z with z | z
        · omega
        · have := (List.pairwise_cons.mp pw2).1 i z
          omega
    have e' : inUse s = (pre ++ [n]) ++ l := by rw [List.append_assoc]; exact e
    have npre : n ∉ pre := fun z => Nat.lt_irrefl _ (plt n z)
    unfold shareGo
    by_cases hF : F1 s n = n
    · have hf : (((pre.filter fun n => decide (F1 s n = n)).map fun n => (s.cells.getD n [], n)).find? fun e => decide (e.1 = s.cells.getD n [])) = none := by
        rw [List.find?_eq_none]
        intro x hx hd
        obtain ⟨m, hm, rfl⟩ := List.mem_map.mp hx
        have mp := (List.mem_filter.mp hm).1
        exact F1_min (s := s) (n := n) (m := m) (by rw [hF]; exact plt m mp) (un (List.mem_append.mpr (.inl mp))) (of_decide_eq_true hd)
      rw [hf]
      dsimp only
      have a1 : mapAt (fun i => if i ∈ pre then F1 s i else i) s.gs = mapAt (fun i => if i ∈ pre ++ [n] then F1 s i else i) s.gs := mapAt_congr fun i _ => by
        by_cases hi : i ∈ pre
        · rw [if_pos hi, if_pos (List.mem_append.mpr (.inl hi))]
        · rw [if_neg hi]
          by_cases z : i = n
          · rw [z, if_pos (List.mem_append.mpr (.inr List.mem_cons_self)), hF]
          · rw [if_neg fun w => (List.mem_append.mp w).elim hi fun w => z (List.mem_singleton.mp w)]
      have a2 : ((pre.filter fun n => decide (F1 s n = n)).map fun n => (s.cells.getD n [], n)) ++ [(s.cells.getD n [], n)] = (((pre ++ [n]).filter fun n => decide (F1 s n = n)).map fun n => (s.cells.getD n [], n)) := by
        rw [List.filter_append, List.map_append, List.filter_cons_of_pos (by exact decide_eq_true hF)]
        rfl
      rw [a1, a2, shareGo_eq ok e', List.filter_cons_of_neg (by rw [decide_eq_true_eq]; exact fun z => z hF)]
    · have hlt : F1 s n < n := Nat.lt_of_le_of_ne F1_le hF
      have mp : F1 s n ∈ pre := inp (F1_used hn) hlt
      have hf : ∃ x, (((pre.filter fun n => decide (F1 s n = n)).map fun n => (s.cells.getD n [], n)).find? fun e => decide (e.1 = s.cells.getD n [])) = some x ∧ x.2 = F1 s n := by
        cases q : (((pre.filter fun n => decide (F1 s n = n)).map fun n => (s.cells.getD n [], n)).find? fun e => decide (e.1 = s.cells.getD n [])) with
        | none =>
          rw [List.find?_eq_none] at q
          exact absurd (decide_eq_true F1_w) (q (s.cells.getD (F1 s n) [], F1 s n) (List.mem_map.mpr ⟨_, List.mem_filter.mpr ⟨mp, decide_eq_true (F1_idem hn)⟩, rfl⟩))
        | some x =>
          refine ⟨x, rfl, ?_⟩
          have q1 := List.mem_of_find?_eq_some q
          have q2 : x.1 = s.cells.getD n [] := of_decide_eq_true (List.find?_some (p := fun e : List Nat × Nat => decide (e.1 = s.cells.getD n [])) q)
          obtain ⟨m, hm, rfl⟩ := List.mem_map.mp q1
          obtain ⟨m1, m2⟩ := List.mem_filter.mp hm
          show m = F1 s n
          rw [← of_decide_eq_true m2]
          exact F1_same hn (un (List.mem_append.mpr (.inl m1))) q2
      obtain ⟨x, hx, ex⟩ := hf
      rw [hx]
      dsimp only
      rw [ex, put_mapAt]
      have a1 : mapAt (fun i => if (if i ∈ pre then F1 s i else i) = n then F1 s n else (if i ∈ pre then F1 s i else i)) s.gs = mapAt (fun i => if i ∈ pre ++ [n] then F1 s i else i) s.gs := mapAt_congr fun i _ => by
        by_cases hi : i ∈ pre
        · rw [if_pos hi, if_pos (List.mem_append.mpr (.inl hi)), if_neg]
          have := plt i hi
          have := F1_le (s := s) (n := i)
          omega
        · rw [if_neg hi]
          by_cases z : i = n
          · rw [if_pos z, z, if_pos (List.mem_append.mpr (.inr List.mem_cons_self))]
          · rw [if_neg z, if_neg fun w => (List.mem_append.mp w).elim hi fun w => z (List.mem_singleton.mp w)]
      have a2 : ((pre.filter fun n => decide (F1 s n = n)).map fun n => (s.cells.getD n [], n)) = (((pre ++ [n]).filter fun n => decide (F1 s n = n)).map fun n => (s.cells.getD n [], n)) := by
        rw [List.filter_append, List.map_append, List.filter_cons_of_neg (by rw [decide_eq_true_eq]; exact hF)]
        exact (List.append_nil _).symm
      rw [a1, a2, shareGo_eq ok e', List.filter_cons_of_pos (by exact decide_eq_true hF), List.length_cons]
      exact Prod.ext rfl (by dsimp only; omega)
theorem share_eq {s : R} (ok : s.Ok) : s.share = ({ s with gs := mapAt (F1 s) s.gs }, ((inUse s).filter fun n => decide (F1 s n ≠ n)).length) := by
  have h := shareGo_eq ok (l := inUse s) (pre := []) (k := 0) rfl
  have e : mapAt (fun n => if n ∈ ([] : List Nat) then F1 s n else n) s.gs = s.gs := by
    rw [mapAt_congr (ψ := fun n => n) fun n _ => if_neg (fun z => nomatch z), mapAt_id]
  rw [e] at h
  unfold R.share
  rw [show shareGo s.cells (inUse s) s.gs [] 0 = _ from h]
  dsimp only
  rw [Nat.zero_add]
/-- shared again: nothing is left to share -/
theorem share_twice {s : R} (ok : s.Ok) : s.share.1.share = (s.share.1, 0) := by
  have ok' : s.share.1.Ok := (R.share_ok ok).1
  have uF : ∀ n, used s.share.1.gs n = true → F1 s.share.1 n = n := fun n hn => by
    refine Nat.le_antisymm F1_le (Nat.le_of_not_lt fun z => ?_)
    have u2 := F1_used hn
    have w2 : s.cells.getD (F1 s.share.1 n) [] = s.cells.getD n [] := by
      have := F1_w (s := s.share.1) (n := n)
      rwa [show s.share.1.cells = s.cells by rw [share_eq ok]] at this
    rw [share_eq ok] at hn
    rw [show s.share.1.gs = mapAt (F1 s) s.gs by rw [share_eq ok]] at u2
    obtain ⟨i, hi, ei⟩ := used_mapAt.mp hn
    obtain ⟨j, hj, ej⟩ := used_mapAt.mp u2
    have un : used s.gs n = true := by rw [← ei]; exact F1_used hi
    have fn : F1 s n = n := by rw [← ei]; exact F1_idem hi
    have uj : used s.gs (F1 s.share.1 n) = true := by rw [← ej]; exact F1_used hj
    have fj : F1 s (F1 s.share.1 n) = F1 s.share.1 n := by
      have := F1_idem hj
      rwa [ej] at this
    have := F1_same un uj w2
    omega
  rw [share_eq ok']
  refine Prod.ext ?_ ?_
  · show ({ s.share.1 with gs := mapAt (F1 s.share.1) s.share.1.gs } : R) = s.share.1
    rw [mapAt_congr (ψ := fun n => n) uF, mapAt_id]
  · show ((inUse s.share.1).filter fun n => decide (F1 s.share.1 n ≠ n)).length = 0
    rw [List.length_eq_zero_iff, List.filter_eq_nil_iff]
    intro n hn hd
    exact of_decide_eq_true hd (uF n ((mem_inU ok').mp hn))
/-! ### the same by pairs -/
def phi (s : R) (a b n : Nat) : Nat := if F1 s n < a ∨ (F1 s n = a ∧ n < b) then F1 s n else n
def psi (s : R) (a n : Nat) : Nat := if F1 s n < a then F1 s n else n
theorem phi_start {s : R} {a : Nat} : mapAt (phi s a (a + 1)) s.gs = mapAt (psi s a) s.gs := mapAt_congr fun n _ => by
  unfold phi psi
  by_cases h : F1 s n < a
  · rw [if_pos (.inl h), if_pos h]
  · rw [if_neg h]
    by_cases h2 : F1 s n = a ∧ n < a + 1
    · rw [if_pos (.inr h2)]
      have := F1_le (s := s) (n := n)
      omega
    · rw [if_neg fun z => z.elim h h2]
theorem phi_end {s : R} (ok : s.Ok) {a : Nat} : mapAt (phi s a s.cells.length) s.gs = mapAt (psi s (a + 1)) s.gs := mapAt_congr fun n hn => by
  have ln := used_lt ok hn
  unfold phi psi
  by_cases h : F1 s n < a + 1
  · rw [if_pos (by omega), if_pos h]
  · rw [if_neg (by omega), if_neg h]
theorem psi_zero {s : R} : mapAt (psi s 0) s.gs = s.gs := (mapAt_congr (ψ := fun n => n) fun n _ => if_neg (Nat.not_lt_zero _)).trans mapAt_id
theorem psi_end {s : R} (ok : s.Ok) : mapAt (psi s s.cells.length) s.gs = mapAt (F1 s) s.gs := mapAt_congr fun n hn => by
  have ln := used_lt ok hn
  have := F1_le (s := s) (n := n)
  unfold psi
  rw [if_pos (by omega)]
theorem phi_a {s : R} {a b : Nat} (h : a < b) : used (mapAt (phi s a b) s.gs) a = true ↔ used s.gs a = true ∧ F1 s a = a := by
  rw [used_mapAt]
  constructor
  · rintro ⟨n, hn, e⟩
    unfold phi at e
    by_cases c : F1 s n < a ∨ (F1 s n = a ∧ n < b)
    · rw [if_pos c] at e
      rw [← e]
      exact ⟨F1_used hn, F1_idem hn⟩
    · rw [if_neg c] at e
      subst e
      have := F1_le (s := s) (n := n)
      omega
  · rintro ⟨h1, h2⟩
    refine ⟨a, h1, ?_⟩
    unfold phi
    rw [if_pos (.inr ⟨h2, h⟩)]
    exact h2
theorem phi_b {s : R} {a b : Nat} (h : a < b) : used (mapAt (phi s a b) s.gs) b = true ↔ used s.gs b = true ∧ a ≤ F1 s b := by
  rw [used_mapAt]
  constructor
  · rintro ⟨n, hn, e⟩
    unfold phi at e
    by_cases c : F1 s n < a ∨ (F1 s n = a ∧ n < b)
    · rw [if_pos c] at e
      omega
    · rw [if_neg c] at e
      subst e
      exact ⟨hn, by omega⟩
  · rintro ⟨h1, h2⟩
    refine ⟨b, h1, ?_⟩
    unfold phi
    rw [if_neg (by omega)]
/-- where two rooms in use have the same words -/
theorem phi_iff {s : R} {a b : Nat} (h : a < b) : (used (mapAt (phi s a b) s.gs) a = true ∧ used (mapAt (phi s a b) s.gs) b = true ∧ s.cells.getD a [] = s.cells.getD b []) ↔ used s.gs b = true ∧ F1 s b = a := by
  rw [phi_a h, phi_b h]
  constructor
  · rintro ⟨⟨h1, h2⟩, ⟨h3, h4⟩, h5⟩
    exact ⟨h3, Nat.le_antisymm (F1_lt h3 h1 h5) h4⟩
  · rintro ⟨h1, rfl⟩
    exact ⟨⟨F1_used h1, F1_idem h1⟩, ⟨h1, Nat.le_refl _⟩, F1_w⟩
theorem phi_yes {s : R} {a b : Nat} (h : a < b) (hb : used s.gs b = true) (e : F1 s b = a) : put (mapAt (phi s a b) s.gs) b (.at a) = mapAt (phi s a (b + 1)) s.gs := by
  rw [put_mapAt]
  refine mapAt_congr fun n hn => ?_
  unfold phi
  have l := F1_le (s := s) (n := n)
  by_cases c : F1 s n < a ∨ (F1 s n = a ∧ n < b)
  · rw [if_pos c, if_neg (by omega), if_pos (by omega)]
  · rw [if_neg c]
    by_cases z : n = b
    · subst z
      rw [if_pos (rfl : n = n), if_pos (by omega : F1 s n < a ∨ (F1 s n = a ∧ n < n + 1)), e]
    · rw [if_neg z, if_neg (by omega)]
theorem phi_no {s : R} {a b : Nat} (h : ¬ (used s.gs b = true ∧ F1 s b = a)) : mapAt (phi s a b) s.gs = mapAt (phi s a (b + 1)) s.gs := mapAt_congr fun n hn => by
  unfold phi
  by_cases c : F1 s n < a ∨ (F1 s n = a ∧ n < b)
  · rw [if_pos c, if_pos (by omega)]
  · rw [if_neg c]
    by_cases z : n = b
    · subst z
      have : F1 s n ≠ a := fun e => h ⟨hn, e⟩
      rw [if_neg (by omega)]
    · rw [if_neg (by omega)]
/-- one room in use fewer -/
theorem put_less {s : R} {gs : Gs} {a b : Nat} (ab : a ≠ b) (ha : used gs a = true) (hb : used gs b = true) (lb : b < s.cells.length) : (∀ i, used (put gs b (.at a)) i = (used gs i && !decide (i = b))) ∧ (inUse { s with gs := put gs b (.at a) }).length + 1 = (inUse { s with gs := gs }).length := by
  have e : ∀ i, used (put gs b (.at a)) i = (used gs i && !decide (i = b)) := fun i => by
    by_cases z : i = a
    · rw [z, ha, decide_eq_false ab]
      obtain ⟨g, hg, j, h⟩ := used_iff.mp ha
      refine used_iff.mpr ⟨_, List.mem_map.mpr ⟨g, hg, rfl⟩, j, ?_⟩
      show (g.2.map _)[j]? = _
      rw [List.getElem?_map, h]
      show some (if decide (a = b) = true then Pl.at a else Pl.at a) = _
      rw [ite_self]
    · exact used_put (decide_eq_false fun w => z w.symm)
  refine ⟨e, ?_⟩
  unfold inUse
  show ((List.range s.cells.length).filter (used (put gs b (.at a)))).length + 1 = ((List.range s.cells.length).filter (used gs)).length
  have m : b ∈ (List.range s.cells.length).filter (used gs) := List.mem_filter.mpr ⟨List.mem_range.mpr lb, hb⟩
  have nd : ((List.range s.cells.length).filter (used gs)).Nodup := List.Pairwise.sublist List.filter_sublist List.nodup_range
  have e2 : (List.range s.cells.length).filter (used (put gs b (.at a))) = ((List.range s.cells.length).filter (used gs)).erase b := by
    rw [List.Nodup.erase_eq_filter nd, List.filter_filter]
    refine List.filter_congr fun i _ => ?_
    rw [e, Bool.and_comm]
    by_cases z : i = b
    · simp [z]
    · simp [z]
  rw [e2, List.length_erase_of_mem m]
  have := List.length_pos_of_mem m
  omega
theorem share_count {s : R} (ok : s.Ok) {k : Nat} (h : k + (inUse { s with gs := mapAt (F1 s) s.gs }).length = (inUse s).length) : k = s.share.2 := by
  rw [share_eq ok]
  show k = ((inUse s).filter fun n => decide (F1 s n ≠ n)).length
  have e : inUse { s with gs := mapAt (F1 s) s.gs } = (inUse s).filter fun n => decide (F1 s n = n) := by
    unfold inUse
    show (List.range s.cells.length).filter (used (mapAt (F1 s) s.gs)) = _
    rw [List.filter_filter]
    refine List.filter_congr fun i _ => ?_
    rw [Bool.eq_iff_iff, used_mapAt, Bool.and_eq_true, decide_eq_true_eq]
    constructor
    · rintro ⟨n, hn, rfl⟩
      exact ⟨F1_idem hn, F1_used hn⟩
    · rintro ⟨h1, h2⟩
      exact ⟨i, h2, h1⟩
  rw [e] at h
  have c := List.length_eq_countP_add_countP (fun n => decide (F1 s n = n)) (l := inUse s)
  rw [List.countP_eq_length_filter, List.countP_eq_length_filter] at c
  have e3 : ((inUse s).filter fun n => decide (¬ decide (F1 s n = n) = true)) = ((inUse s).filter fun n => decide (F1 s n ≠ n)) := List.filter_congr fun n _ => by
    by_cases z : F1 s n = n
    · simp [z]
    · simp [z]
  rw [e3] at c
  omega
end K17

namespace K17
open PySem PySem.Spec PyProof.Rows L2 Bk Rm


def spMShared : Sp := fun vs H Q _ => ∃ (m : Ms) (s : R), vs = [.ref m.d] ∧ Md H m s (used s.gs) none ∧ s.Ok ∧ s.names.length ≤ 6 ∧ s.cells.length ≤ 64 ∧ ∀ H', Mm H m s (used s.gs) H' m s.share.1 (used s.share.1.gs) → Q (.int s.share.2) H'
theorem Ok_gs {s : R} (ok : s.Ok) {gs : Gs} (nd : (gs.map (·.1)).Nodup) (h : ∀ g ∈ gs, g.2.length = 8 ∧ ∀ p ∈ g.2, PlOk s.cells p) : R.Ok { s with gs := gs } := ⟨ok.len, ok.ne, ok.eight, h, nd⟩
theorem mapAt_ok {s : R} (ok : s.Ok) {φ : Nat → Nat} (h : ∀ n, used s.gs n = true → φ n < s.cells.length) : R.Ok { s with gs := mapAt φ s.gs } := by
  refine Ok_gs ok (by rw [mapAt_names]; exact ok.nd) fun g hg => ?_
  obtain ⟨g0, hg0, rfl⟩ := List.mem_map.mp hg
  obtain ⟨a, b⟩ := ok.at_ g0 hg0
  refine ⟨(List.length_map _).trans a, fun p hp => ?_⟩
  obtain ⟨p0, hp0, rfl⟩ := List.mem_map.mp hp
  cases p0 with
  | blank => exact b _ hp0
  | own ws => exact b _ hp0
  | «at» n =>
    obtain ⟨j, hj, e⟩ := List.getElem_of_mem hp0
    exact PlOk.at_lt ok.eight (h n (used_of hg0 (by rw [List.getElem?_eq_getElem hj, e])))
theorem phi_ok {s : R} (ok : s.Ok) {a b : Nat} : R.Ok { s with gs := mapAt (phi s a b) s.gs } := mapAt_ok ok fun n hn => by
  have := used_lt ok hn
  have := F1_le (s := s) (n := n)
  unfold phi
  split <;> omega
section
variable {P : Program} {w : World} {K : PySem.W.Frag} {mg : Str → Option Value} {base : Heap} {A : Ad}
theorem ok_mshared {f : Addr} {fd : FuncData} (F : Fun K "_law_shared" "_law_shared" s_shared_L f fd) (T : Txt K mg A) (c_lying_L : CalD P w K mg base CX0 1 "_law_lying" spMLying []) : FnOk P w K mg base CX0 2 f fd ["_law_model_here"] spMShared := by
  refine F.ok sc_shared_L (fun vs H Q E h => ?_) (fun cdv A' outer s H vs Q E hr h => have hu65 := units65 hr; have hu64 := hr.units; have hu := units1 hr; ⟨_, (pss_cons (ps_par (i := 1) (j := 2) rfl sc_shared_L.nd rfl rfl (by decide) rfl rfl (pa_cons (pe_dget hu (pv 0) pe_str (fun _ _ => rfl)) (pa_cons pe_int pa_nil)) (by rfl))
    (pss_cons (ps_for PassesOwn.never rfl (pi_range1 (by rfl) T.m_range (pa_cons (pe_callB call_len_seq (by rfl) T.m_len (by decide +kernel) (pa_cons (pv 1) pa_nil)) pa_nil)) (pg_name (i := 3) sc_shared_L.nd rfl (.inl rfl))
      (pss_one (ps_for PassesOwn.never rfl (pi_range2 (by rfl) T.m_range (pa_cons (pe_op op_add (pv 3) pe_int) (pa_cons (pe_callB call_len_seq (by rfl) T.m_len (by decide +kernel) (pa_cons (pv 1) pa_nil)) pa_nil))) (pg_name (i := 4) sc_shared_L.nd rfl (.inl rfl))
      (pss_one (ps_if (PW.pt (pw_and (pt_cmpR op_notN (pe_ix ix_list (pv 1) (pv 3) (fun _ _ => rfl)) pe_non (nomark _)) (pw_and (pt_cmpR op_notN (pe_ix ix_list (pv 1) (pv 4) (fun _ _ => rfl)) pe_non (nomark _)) (pw_and1 (pt_cmpR (op_eqD hu64) (pe_ix ix_list (pe_ix ix_list (pv 1) (pv 3) (fun _ _ => rfl)) pe_int (fun _ _ => rfl)) (pe_ix ix_list (pe_ix ix_list (pv 1) (pv 4) (fun _ _ => rfl)) pe_int (fun _ _ => rfl)) (nomark _)))))) (pss_cons (ps_for PassesOwn.never rfl (pi_list (pe_cal c_lying_L hr (by decide) (by rfl) (pa_cons (pv 0) (pa_cons (pv 4) pa_nil)))) (pg_tup rfl (pgs_cons (pg_name (i := 5) sc_shared_L.nd rfl (.inl rfl)) (pgs_cons (pg_name (i := 6) sc_shared_L.nd rfl (.inl rfl)) pgs_nil)))
      (pss_one (ps_asg (pe_lstB (pa_cons pe_str (pa_cons (pv 3) pa_nil))) (pg_sub (pe_dget hu (pe_dget hu (pv 0) pe_str (fun _ _ => rfl)) (pv 5) (fun _ _ => rfl)) (pv 6) set_list))))
    (pss_cons (ps_asg pe_non (pg_sub (pv 1) (pv 4) set_list))
    (pss_one (ps_set (i := 2) sc_shared_L.nd rfl (.inl rfl) (pe_op op_add (pv 2) pe_int))))) pss_nil)))))
    (pss_one (ps_ret (pv 2))))), ?_⟩)
  · obtain ⟨m, s, rfl, _⟩ := h
    rfl
  · obtain ⟨m, s, rfl, hM, ok, l6, c64, q⟩ := h
    walk_at "go"
    refine r_dM hM rfl (v := .ref m.rl) rfl ?_
    obtain ⟨rs0, er0, lrs0, _⟩ := hM.rl_
    walk_at "go"
    refine ⟨_, _, rfl, ?_⟩
    walk_at "go"
    refine ⟨m.rl, _, rfl, .inl (sqL er0), ?_⟩
    rw [lrs0]
    refine r_nil ⟨_, rfl, by omega, by omega, ?_⟩
    rw [Int.toNat_natCast]
    refine for_it walk_range (fun i σ G => ∃ k x3 x4 x5 x6, σ = [some (.ref m.d), some (.ref m.rl), some (.int (k : Nat)), x3, x4, x5, x6] ∧ Mm H m s (used s.gs) G m { s with gs := mapAt (psi s i) s.gs } (used (mapAt (psi s i) s.gs)) ∧ k + (inUse { s with gs := mapAt (psi s i) s.gs }).length = (inUse s).length) ⟨0, _, _, _, _, rfl, by rw [psi_zero]; exact Mm.same hM (Same.refl _), by rw [psi_zero, Nat.zero_add]⟩ (fun _ _ _ _ _ => trivial) (fun a yv σ G G2 ha hP hY => ?_) (fun σ G hP => ?_)
    · obtain ⟨k, x3, x4, x5, x6, rfl, mm, hk⟩ := hP
      obtain ⟨rfl, rfl⟩ := hY
      show gName 3 (V.int (0 + (a : Int))) _ _ _
      rw [Int.zero_add]
      rw [← phi_start] at mm hk
      obtain ⟨rs, er, lrs, _⟩ := mm.md.rl_
      walk_at "go"
      refine ⟨m.rl, _, rfl, .inl (sqL er), ?_⟩
      rw [lrs]
      have kN : k ≤ (inUse s).length := by omega
      have uN : (inUse s).length ≤ 64 := Nat.le_trans (List.length_filter_le _ _) (by rw [List.length_range]; exact c64)
      refine r_nil ⟨_, _, rfl, (by show _ ∧ _ ∧ _ ∧ ((s.cells.length : Nat) : Int) < _; omega), ?_⟩
      rw [show (((s.cells.length : Nat) : Int) - ((a : Int) + 1)).toNat = s.cells.length - (a + 1) by omega]
      refine for_it walk_range (fun j σ G2 => ∃ k x4 x5 x6, σ = [some (.ref m.d), some (.ref m.rl), some (.int (k : Nat)), some (.int (a : Nat)), x4, x5, x6] ∧ Mm H m s (used s.gs) G2 m { s with gs := mapAt (phi s a (a + 1 + j)) s.gs } (used (mapAt (phi s a (a + 1 + j)) s.gs)) ∧ k + (inUse { s with gs := mapAt (phi s a (a + 1 + j)) s.gs }).length = (inUse s).length) ⟨k, _, _, _, rfl, mm, hk⟩ (fun _ _ _ _ _ => trivial) (fun j yv σ G2 G3 hj hP hY => ?_) (fun σ G2 hP => ?_)
      · obtain ⟨k, x4, x5, x6, rfl, mm, hk⟩ := hP
        obtain ⟨rfl, rfl⟩ := hY
        have ab : a < a + 1 + j := by omega
        have lb : a + 1 + j < s.cells.length := by omega
        show gName 4 (V.int ((a : Int) + 1 + (j : Int))) _ _ _
        rw [show (a : Int) + 1 + (j : Int) = ((a + 1 + j : Nat) : Int) by omega]
        rw [show a + 1 + (j + 1) = a + 1 + j + 1 by omega]
        generalize hb : a + 1 + j = b at mm hk ab lb ⊢
        have okS : R.Ok { s with gs := mapAt (phi s a b) s.gs } := phi_ok ok
        have piff := phi_iff (s := s) ab
        obtain ⟨rs, er, lrs, qr⟩ := mm.md.rl_
        have lrs : rs.length = s.cells.length := lrs
        have eva := List.getElem?_eq_getElem (show a < rs.length by omega)
        have evb := List.getElem?_eq_getElem (show b < rs.length by omega)
        have ra := qr a _ eva
        have rb := qr b _ evb
        generalize rs[a] = va at eva ra
        generalize rs[b] = vb at evb rb
        have skip : ¬ (used s.gs b = true ∧ F1 s b = a) → ∀ x4 x5 x6, ∃ k' y4 y5 y6, [some (.ref m.d), some (.ref m.rl), some (V.int (k : Nat)), some (.int (a : Nat)), x4, x5, x6] = [some (.ref m.d), some (.ref m.rl), some (.int (k' : Nat)), some (.int (a : Nat)), y4, y5, y6] ∧ Mm H m s (used s.gs) G3 m { s with gs := mapAt (phi s a (b + 1)) s.gs } (used (mapAt (phi s a (b + 1)) s.gs)) ∧ k' + (inUse { s with gs := mapAt (phi s a (b + 1)) s.gs }).length = (inUse s).length := fun hno x4 x5 x6 => ⟨k, x4, x5, x6, rfl, by rw [← phi_no hno]; exact mm, by rw [← phi_no hno]; exact hk⟩
        walk_at "go"
        refine r_ixL (sqL er) (v := va) (atI_nat eva) ?_
        walk_at "go"
        refine ⟨rfl, ?_⟩
        rcases ra with ⟨hua, rfl⟩ | ⟨hua, ta, rfl, _, eta, ewa⟩
        · have hua : used (mapAt (phi s a b) s.gs) a = false := hua
          rw [decide_eq_true (rfl : V.non = V.non)]
          walk_at "go"
          exact skip (fun z => by have := (piff.mpr z).1; rw [hua] at this; exact nomatch this) _ _ _
        · have hua : used (mapAt (phi s a b) s.gs) a = true := hua
          rw [decide_eq_false (fun z => nomatch z : V.ref ta ≠ V.non)]
          walk_at "go"
          refine r_ixL (sqL er) (v := vb) (atI_nat evb) ?_
          walk_at "go"
          refine ⟨rfl, ?_⟩
          rcases rb with ⟨hub, rfl⟩ | ⟨hub, tb, rfl, _, etb, ewb⟩
          · have hub : used (mapAt (phi s a b) s.gs) b = false := hub
            rw [decide_eq_true (rfl : V.non = V.non)]
            walk_at "go"
            exact skip (fun z => by have := (piff.mpr z).2.1; rw [hub] at this; exact nomatch this) _ _ _
          · have hub : used (mapAt (phi s a b) s.gs) b = true := hub
            rw [decide_eq_false (fun z => nomatch z : V.ref tb ≠ V.non)]
            walk_at "go"
            refine r_ixL (sqL er) (v := .ref ta) (atI_nat eva) ?_
            walk_at "go"
            refine r_ixL (sqL eta) (v := .ref (m.wl a)) (atI_nat (j := 1) rfl) ?_
            walk_at "go"
            refine r_ixL (sqL er) (v := .ref tb) (atI_nat evb) ?_
            walk_at "go"
            refine r_ixL (sqL etb) (v := .ref (m.wl b)) (atI_nat (j := 1) rfl) ?_
            refine ⟨rowL (s.cells.getD a []), rowL (s.cells.getD b []), dp_rowL (sqL ewa), dp_rowL (sqL ewb), sh_rowL _, sh_rowL _, ?_⟩
            rw [eqv_rowL]
            refine ⟨_, rfl, ?_⟩
            by_cases hw : s.cells.getD a [] = s.cells.getD b []
            · obtain ⟨p1, p2⟩ := piff.mp ⟨hua, hub, hw⟩
              have ep := phi_yes ab p1 p2
              refine iteY (decide_eq_true hw) ?_
              obtain ⟨lessU, lessN⟩ := put_less (s := s) (by omega : a ≠ b) hua hub lb
              rw [ep] at lessU lessN
              walk_at "go"
              refine ⟨m, { s with gs := mapAt (phi s a b) s.gs }, _, b, rfl, mm.md, okS, (by unfold R.names; rw [mapAt_names]; exact l6), by omega, fun p xs H1 np s1 epp all => ?_⟩
              have M1 := mm.md.same s1
              have npo := mm.md.none np
              refine ⟨p, rfl, ⟨_, sqL epp⟩, for_list (K := K) (a := p) (xs := xs) (fun i σ G4 => (∃ z5 z6, σ = [some (.ref m.d), some (.ref m.rl), some (.int (k : Nat)), some (.int (a : Nat)), some (.int (b : Nat)), z5, z6]) ∧ Mm H1 m { s with gs := mapAt (phi s a b) s.gs } (used (mapAt (phi s a b) s.gs)) G4 m { s with gs := setAll (mapAt (phi s a b) s.gs) ((lying (mapAt (phi s a b) s.gs) b).take i) (.at a) } (used (mapAt (phi s a b) s.gs))) ⟨⟨_, _, rfl⟩, Mm.same M1 (Same.refl _)⟩ (fun i σ G2 _ h => sqL (h.2.fr _ _ npo epp)) ?_ ?_⟩
              · rintro i y σ G4 hy ⟨⟨z5, z6, rfl⟩, mi⟩
                have li : i < (lying (mapAt (phi s a b) s.gs) b).length := by rw [← all.1]; exact (List.getElem?_eq_some_iff.mp hy).1
                have zi := List.getElem?_eq_getElem li
                have tk : (lying (mapAt (phi s a b) s.gs) b).take (i + 1) = (lying (mapAt (phi s a b) s.gs) b).take i ++ [(lying (mapAt (phi s a b) s.gs) b)[i]] := (List.take_append_getElem li).symm
                have zm := List.getElem_mem li
                obtain ⟨t, rfl, et⟩ := all.2 i _ y zi hy
                generalize (lying (mapAt (phi s a b) s.gs) b)[i] = z at tk zm et
                obtain ⟨x, r⟩ := z
                obtain ⟨g, hg, gx, gr⟩ := mem_lying.mp zm
                have et2 := mi.ts M1 _ _ et
                have hx : x ∈ R.names { s with gs := setAll (mapAt (phi s a b) s.gs) ((lying (mapAt (phi s a b) s.gs) b).take i) (.at a) } := by
                  show x ∈ (setAll _ _ _).map (·.1)
                  rw [setAll_map, List.map_map]
                  exact List.mem_map.mpr ⟨g, hg, gx⟩
                refine ⟨t, _, rfl, sqT et2, rfl, ?_⟩
                refine ⟨_, _, rfl, _, _, rfl, rfl, ?_⟩
                walk_at "go"
                refine newLB fun it G5 nit git s5 eit => ?_
                have M5 := mi.md.same s5
                obtain ⟨g', xs', hg', _, ex', its'⟩ := M5.glx hx
                have l8 : g'.2.length = 8 := setAll_8 (fun g hg => (okS.at_ g hg).1) g' hg'
                have r8 : r < 8 := by rw [← (okS.at_ g hg).1]; exact (List.getElem?_eq_some_iff.mp gr).1
                walk_at "go"
                refine r_dM M5 rfl (v := .ref m.gd) rfl ?_
                refine ⟨_, rfl, m.gd, .ref (m.gl x), rfl, .inl ⟨_, .inr x, M5.rd, rfl, by rw [dicF_get, if_pos hx]⟩, ?_⟩
                walk_at "go"
                refine ⟨m.gl x, _, _, r, rfl, rfl, ex', ixn (by rw [its'.1, l8]; exact r8), ?_⟩
                have mj := (mi.then s5).trans (M5.item hx (r := r) ex' (p := .at a) (v := .ref it) ⟨it, rfl, mi.md.none nit, eit⟩)
                refine ⟨⟨_, _, rfl⟩, ?_⟩
                rw [tk, setAll_snoc]
                exact mj
              · rintro σ G4 ⟨⟨z5, z6, rfl⟩, mi⟩
                rw [List.take_of_length_le (by rw [all.1]; exact Nat.le_refl _), put_eq okS.nd, ep] at mi
                obtain ⟨rs4, er4, lrs4, _⟩ := mi.md.rl_
                walk_at "go"
                refine ⟨m.rl, _, _, b, rfl, rfl, er4, ixn (by rw [lrs4]; exact lb), ?_⟩
                have md := (mm.then s1).trans (mi.trans (mi.md.drop (n := b) er4))
                have eU : (fun i => if i = b then false else used (mapAt (phi s a b) s.gs) i) = used (mapAt (phi s a (b + 1)) s.gs) := funext fun i => by
                  rw [lessU]
                  by_cases z : i = b
                  · rw [if_pos z, decide_eq_true z, Bool.not_true, Bool.and_false]
                  · rw [if_neg z, decide_eq_false z, Bool.not_false, Bool.and_true]
                rw [eU] at md
                walk_at "go"
                exact ⟨k + 1, _, _, _, rfl, md, by omega⟩
            · refine iteX (decide_eq_false hw) ?_
              walk_at "go"
              exact skip (fun z => hw (piff.mpr z).2.2) _ _ _
      · obtain ⟨k, x4, x5, x6, rfl, mm, hk⟩ := hP
        rw [show a + 1 + (s.cells.length - (a + 1)) = s.cells.length by omega, phi_end ok] at mm hk
        exact ⟨k, _, _, _, _, rfl, mm, hk⟩
    · obtain ⟨k, x3, x4, x5, x6, rfl, mm, hk⟩ := hP
      rw [psi_end ok] at mm hk
      rw [share_count ok hk]
      rw [show ({ s with gs := mapAt (F1 s) s.gs } : R) = s.share.1 by rw [share_eq ok]] at mm
      rw [show mapAt (F1 s) s.gs = s.share.1.gs by rw [share_eq ok]] at mm
      walk_at "go"
      exact q _ mm
end
end K17

namespace K17
open PySem PySem.Spec PyProof.Rows L2 Bk Rm


theorem str_sm {x : Str} (h : nameOk x = true) : smQ (.str x) = true ∧ (PyData.str x).bulk ≤ 8 := by
  have l := len_of_name h
  have c : ∀ a ∈ x.cps.toList, 97 ≤ a ∧ a ≤ 122 := fun a ha => by
    have z := List.all_eq_true.mp (Bool.and_eq_true_iff.mp h).2 a ha
    obtain ⟨u, v⟩ := Bool.and_eq_true_iff.mp z
    exact ⟨of_decide_eq_true u, of_decide_eq_true v⟩
  refine ⟨?_, ?_⟩
  · simp only [smQ]
    refine List.all_eq_true.mpr fun a ha => decide_eq_true ?_
    have := c a ha
    omega
  · simp only [PyData.bulk]
    exact l.2
/-! ### sizes of data -/
structure SmB (d : PyData) (b e : Nat) : Prop where
  sm : smQ d = true
  bk : d.bulk ≤ b
  dp : d.depth ≤ e
theorem SmB.all {b e : Nat} : ∀ {ds : List PyData}, (∀ d ∈ ds, SmB d b e) → smQL ds = true ∧ PyData.bulkAll ds ≤ (b + 1) * ds.length ∧ PyData.depthAll ds ≤ e
  | [], _ => ⟨rfl, Nat.zero_le _, Nat.zero_le _⟩
  | d :: ds, h => by
    obtain ⟨a1, a2, a3⟩ := h d List.mem_cons_self
    obtain ⟨b1, b2, b3⟩ := SmB.all fun z hz => h z (List.mem_cons_of_mem _ hz)
    refine ⟨by simp only [smQL, a1, b1, Bool.and_true], ?_, ?_⟩
    · simp only [PyData.bulkAll, List.length_cons]
      rw [Nat.mul_succ]
      omega
    · simp only [PyData.depthAll]
      omega
theorem SmB.lst {b e n : Nat} {ds : List PyData} (h : ∀ d ∈ ds, SmB d b e) (l : ds.length ≤ n) : SmB (.list ds) ((b + 1) * n) (e + 1) := by
  obtain ⟨a1, a2, a3⟩ := SmB.all h
  refine ⟨by simpa only [smQ] using a1, ?_, by simp only [PyData.depth]; omega⟩
  simp only [PyData.bulk]
  exact Nat.le_trans a2 (Nat.mul_le_mul_left _ l)
theorem SmB.tup {b e n : Nat} {ds : List PyData} (h : ∀ d ∈ ds, SmB d b e) (l : ds.length ≤ n) : SmB (.tuple ds) ((b + 1) * n) (e + 1) := by
  obtain ⟨a1, a2, a3⟩ := SmB.all h
  refine ⟨by simpa only [smQ] using a1, ?_, by simp only [PyData.depth]; omega⟩
  simp only [PyData.bulk]
  exact Nat.le_trans a2 (Nat.mul_le_mul_left _ l)
theorem SmB.mono {d : PyData} {b e b' e' : Nat} (h : SmB d b e) (h1 : b ≤ b') (h2 : e ≤ e') : SmB d b' e' := ⟨h.sm, Nat.le_trans h.bk h1, Nat.le_trans h.dp h2⟩
theorem SmB.int {n : Nat} (h : n < 10 ^ 31) : SmB (.int n) 0 0 := ⟨by simp only [smQ, decide_eq_true_eq, Int.natAbs_natCast]; omega, Nat.le_refl _, Nat.zero_le _⟩
theorem SmB.nums {ws : List Nat} {n : Nat} (h : ∀ w ∈ ws, w < 10 ^ 31) (l : ws.length ≤ n) : SmB (rowL ws) n 1 := by
  have := SmB.lst (b := 0) (e := 0) (n := n) (ds := numsD ws) (fun d hd => by
    obtain ⟨w, hw, rfl⟩ := List.mem_map.mp hd
    exact SmB.int (h w hw)) (by unfold numsD; rw [List.length_map]; exact l)
  rw [Nat.one_mul] at this
  exact this
/-! ### what is told of all, as data -/
def wayD : Pl → PyData
  | .blank => .str (Str.ofString "blank")
  | .own _ => .str (Str.ofString "away")
  | .at n => .int n
def entD (s : R) (z : Str × Nat) : PyData := .tuple [.str z.1, .int z.2, wayD (plc s z.1 z.2), rowL (words s.cells (plc s z.1 z.2))]
def places (s : R) : List (Str × Nat) := s.names.flatMap fun x => (List.range 8).map fun r => (x, r)
def crowd (s : R) : Nat := ((List.range s.cells.length).filter fun n => decide (1 < (lying s.gs n).length)).length
def allD (s : R) : PyData := .list [.list ((places s).map (entD s)), .list ((List.range s.cells.length).map fun n => .list ((lying s.gs n).map askD)), rowL (inUse s), .int (crowd s)]
/-- no word over the bound -/
def Le (s : R) : Prop := ∀ g ∈ told s.cells s.gs, ∀ ws ∈ g.2, ∀ w ∈ ws, w ≤ 4095
theorem plc_told {s : R} (ok : s.Ok) {x : Str} {r : Nat} (hx : x ∈ s.names) (r8 : r < 8) : (words s.cells (plc s x r)).length = 8 ∧ ∃ g ∈ told s.cells s.gs, words s.cells (plc s x r) ∈ g.2 := by
  obtain ⟨ps, hp⟩ := getG_some hx
  obtain ⟨p, e1, e2, e3, e4⟩ := at_place ok hp r8
  have ep : plc s x r = p := e2
  rw [ep]
  exact ⟨e3.1, _, List.mem_map.mpr ⟨_, getG_mem hp, rfl⟩, List.mem_map.mpr ⟨p, List.mem_of_getElem? e1, rfl⟩⟩
theorem mem_places {s : R} {z : Str × Nat} : z ∈ places s ↔ z.1 ∈ s.names ∧ z.2 < 8 := by
  unfold places
  rw [List.mem_flatMap]
  constructor
  · rintro ⟨x, hx, m⟩
    obtain ⟨r, hr, rfl⟩ := List.mem_map.mp m
    exact ⟨hx, List.mem_range.mp hr⟩
  · rintro ⟨h1, h2⟩
    exact ⟨z.1, h1, List.mem_map.mpr ⟨z.2, List.mem_range.mpr h2, rfl⟩⟩
theorem flat_len {α β : Type} {f : α → List β} {m : Nat} : ∀ {l : List α}, (∀ x ∈ l, (f x).length = m) → (l.flatMap f).length = m * l.length
  | [], _ => rfl
  | x :: l, h => by
    rw [List.flatMap_cons, List.length_append, h x List.mem_cons_self, flat_len fun y hy => h y (List.mem_cons_of_mem _ hy), List.length_cons, Nat.mul_succ]
    omega
theorem places_len {s : R} : (places s).length = 8 * s.names.length := flat_len fun x _ => by rw [List.length_map, List.length_range]
theorem allD_small {s : R} (ok : s.Ok) (sm : Sm s) (le : Le s) : SmB (allD s) 390000 60 := by
  have six := sm.six
  have c64 := sm.c64
  have gs6 : s.gs.length ≤ 6 := by unfold R.names at six; rwa [List.length_map] at six
  have g8 : ∀ g ∈ s.gs, g.2.length = 8 := fun g hg => (ok.at_ g hg).1
  have e1 : SmB (.list ((places s).map (entD s))) (41 * 48) 3 := by
    refine SmB.lst (b := 40) (e := 2) (fun d hd => ?_) (by rw [List.length_map, places_len]; omega)
    obtain ⟨z, hz, rfl⟩ := List.mem_map.mp hd
    obtain ⟨hx, r8⟩ := mem_places.mp hz
    obtain ⟨l8, g, hg, hw⟩ := plc_told ok hx r8
    have hs := str_sm (sm.nm _ hx)
    refine SmB.mono (SmB.tup (b := 9) (e := 1) (n := 4) (fun d hd => ?_) (Nat.le_refl _)) (by decide) (by decide)
    rcases List.mem_cons.mp hd with rfl | hd
    · exact ⟨hs.1, Nat.le_trans hs.2 (by decide), by simp only [PyData.depth]; omega⟩
    rcases List.mem_cons.mp hd with rfl | hd
    · exact (SmB.int (by omega)).mono (by decide) (by decide)
    rcases List.mem_cons.mp hd with rfl | hd
    · cases hp : plc s z.1 z.2 with
      | blank => exact ⟨by decide +kernel, by decide +kernel, by decide +kernel⟩
      | own ws => exact ⟨by show smQ (.str _) = true; decide +kernel, by show PyData.bulk (.str _) ≤ 9; decide +kernel, by show PyData.depth (.str _) ≤ 1; decide +kernel⟩
      | «at» n =>
        have ln : n < s.cells.length := by
          obtain ⟨ps, hp2⟩ := getG_some hx
          obtain ⟨p, _, e2, e3, _⟩ := at_place ok hp2 r8
          have e2 : plc s z.1 z.2 = p := e2
          exact e3.2 n (e2.symm.trans hp)
        exact (SmB.int (n := n) (by omega)).mono (by decide) (by decide)
    · obtain rfl := List.mem_singleton.mp hd
      exact (SmB.nums (n := 8) (fun w hw2 => by have := le g hg _ hw w hw2; omega) (by omega)).mono (by decide) (by decide)
  have e2 : SmB (.list ((List.range s.cells.length).map fun n => PyData.list ((lying s.gs n).map askD))) (913 * 64) 3 := by
    refine SmB.lst (b := 912) (e := 2) (fun d hd => ?_) (by rw [List.length_map, List.length_range]; omega)
    obtain ⟨n, hn, rfl⟩ := List.mem_map.mp hd
    have ll := lying_le (n := n) g8
    refine SmB.mono (SmB.lst (b := 18) (e := 1) (n := 48) (fun d hd => ?_) (by rw [List.length_map]; omega)) (by decide) (by decide)
    obtain ⟨z, hz, rfl⟩ := List.mem_map.mp hd
    obtain ⟨g, hg, gx, gr⟩ := mem_lying.mp (show (z.1, z.2) ∈ lying s.gs n from hz)
    have hs := str_sm (sm.nm z.1 (List.mem_map.mpr ⟨g, hg, gx⟩))
    have lz : z.2 < 8 := by rw [← g8 g hg]; exact (List.getElem?_eq_some_iff.mp gr).1
    refine SmB.mono (SmB.tup (b := 8) (e := 0) (n := 2) (fun d hd => ?_) (Nat.le_refl _)) (by decide) (by decide)
    rcases List.mem_cons.mp hd with rfl | hd
    · exact ⟨hs.1, hs.2, by simp only [PyData.depth]; omega⟩
    · obtain rfl := List.mem_singleton.mp hd
      exact (SmB.int (by omega)).mono (by decide) (by decide)
  have lu : (inUse s).length ≤ 64 := Nat.le_trans (List.length_filter_le _ _) (by rw [List.length_range]; exact c64)
  have e3 : SmB (rowL (inUse s)) 64 1 := SmB.nums (fun w hw => by have := List.mem_range.mp (List.mem_filter.mp hw).1; omega) lu
  have e4 : SmB (.int (crowd s)) 0 0 := SmB.int (by
    have : crowd s ≤ 64 := Nat.le_trans (List.length_filter_le _ _) (by rw [List.length_range]; exact c64)
    omega)
  refine SmB.mono (SmB.lst (b := 58432) (e := 3) (n := 4) (fun d hd => ?_) (Nat.le_refl _)) (by decide) (by decide)
  rcases List.mem_cons.mp hd with rfl | hd
  · exact e1.mono (by decide) (by decide)
  rcases List.mem_cons.mp hd with rfl | hd
  · exact e2.mono (by decide) (by decide)
  rcases List.mem_cons.mp hd with rfl | hd
  · exact e3.mono (by decide) (by decide)
  · obtain rfl := List.mem_singleton.mp hd
    exact e4.mono (by decide) (by decide)
theorem dq_same {b : Bool} {K : PySem.W.Frag} {H H' : Hp} (s : Same H H') {vs : List V} {ds : List PyData} (h : DqAll b K H vs ds) : DqAll b K H' vs ds :=
  DqAll.rec (motive_1 := fun v d _ => Dq b K H' v d) (motive_2 := fun vs ds _ => DqAll b K H' vs ds) .non .bl .int .str (fun n h _ ih => .lst n (s.seq h) ih) (fun h _ ih => .tup (seqT s h) ih) (fun e h _ _ i1 i2 => .dK e (s _ _ h) i1 i2) .nil (fun _ _ i1 i2 => .cons i1 i2) h
theorem dqa_of {α : Type} {K : PySem.W.Frag} {H : Hp} {f : α → PyData} {Pr : α → V → Hp → Prop} (hp : ∀ z v, Pr z v H → Dq false K H v (f z)) : ∀ {l : List α} {xs : List V}, All2 Pr l xs H → DqAll false K H xs (l.map f)
  | [], [], _ => .nil
  | [], _ :: _, h => nomatch h.1
  | _ :: _, [], h => nomatch h.1
  | z :: l, v :: xs, h => .cons (hp z v (h.2 0 z v rfl rfl)) (dqa_of hp ⟨by have := h.1; rw [List.length_cons, List.length_cons] at this; omega, fun k z v a b => h.2 (k + 1) z v a b⟩)
theorem dqa_nums {K : PySem.W.Frag} {H : Hp} : ∀ ws : List Nat, DqAll false K H (nv ws) (numsD ws)
  | [] => .nil
  | w :: ws => .cons (.int _) (dqa_nums ws)
theorem dq_row {K : PySem.W.Frag} {H : Hp} {a : Addr} {ws : List Nat} (h : H a = some (.lst (nv ws))) : Dq false K H (.ref a) (rowL ws) := .lst (fun z => nomatch z) (sqL h) (dqa_nums ws)
theorem dq_way {K : PySem.W.Frag} {H : Hp} {p : Pl} : Dq false K H (wayV p) (wayD p) := by
  cases p with
  | blank => exact .str _
  | own ws => exact .str _
  | «at» n => exact .int _
theorem dq_pair {K : PySem.W.Frag} {H : Hp} {z : Str × Nat} {v : V} (h : PairV z v H) : Dq false K H v (askD z) := by
  obtain ⟨t, rfl, e⟩ := h
  exact .tup (sqT e) (.cons (.str _) (.cons (.int _) .nil))
def spWordsM (A : Ad) : Sp := fun vs H Q _ => ∃ (k : Sk) (s : R) (x : Str) (r : Nat), vs = [.ref k.o, .str x, .int r] ∧ At A.CR H k s ∧ nameOk x = true ∧ x ∈ s.names ∧ r < 8 ∧ ∀ p H', H p = none → Same H H' → H' p = some (.lst (nv (words s.cells (plc s x r)))) → Q (.ref p) H'
def spSharedN (A : Ad) : Sp := fun vs H Q _ => ∃ (k : Sk) (s : R), vs = [.ref k.o] ∧ At A.CR H k s ∧ Sm s ∧ ∀ H', Same H H' → Q (.int (crowd s)) H'
theorem crowd_eq {s : R} : ((inUse s).filter fun n => decide (1 < (lying s.gs n).length)).length = crowd s := by
  unfold inUse crowd
  rw [List.filter_filter]
  congr 1
  refine List.filter_congr fun n _ => ?_
  by_cases h : used s.gs n = true
  · rw [h, Bool.and_true]
  · rw [Bool.not_eq_true] at h
    rw [h, lying_nil h]
    rfl
theorem fm_if {α : Type} {p : α → Prop} [DecidablePred p] : ∀ l : List α, l.filterMap (fun x => if p x then some x else none) = l.filter fun x => decide (p x)
  | [] => rfl
  | x :: l => by
    rw [List.filterMap_cons, List.filter_cons]
    by_cases h : p x
    · rw [if_pos h, decide_eq_true h, if_pos rfl, fm_if l]
    · rw [if_neg h, decide_eq_false h, if_neg Bool.false_ne_true, fm_if l]
theorem lc_src {K : PySem.W.Frag} {σ : L2.St} {H : Hp} {Q : VK} {g : TG} {tt : TT} {te tl : TE} {vs : List Nat} (h : tl σ H fun x H1 => tLc (iList K (tC x)) g tt te vs σ H1 Q) : tLc (iList K tl) g tt te vs σ H Q := h
theorem rng_ifs {p : Nat → Prop} [DecidablePred p] (l : List Nat) : (List.range l.length).filterMap (fun i => (l[i]?).bind fun n => if p n then some n else none) = l.filter fun n => decide (p n) := by
  have h := rng_at l
  conv => rhs; rw [← h]
  rw [← fm_if, List.filterMap_filterMap]
section
variable {P : Program} {w : World} {K : PySem.W.Frag} {mg : Str → Option Value} {base : Heap} {A : Ad}
theorem ok_wordsM {f : Addr} {fd : FuncData} (F : Fun K "words" "Rooms.words" s_Rooms_words f fd) (T : Txt K mg A) (c_check_number : CalX P w K mg base 4 "check_number" spCkN) (c_Rooms_check_guest : CalM P w K mg base (L2.CX P w) 4 A.CR "_check_guest" (spCkG A)) (c_Rooms_words_at : CalM P w K mg base CX0 1 A.CR "_words_at" (spWordsAt A)) : FnOk P w K mg base (L2.CX P w) 5 f fd ["self", "name", "room"] (spWordsM A) := by
  refine F.okX sc_Rooms_words (fun vs H Q E h => ?_) (fun cdv A' outer s H vs Q E hr h => have hu := units1 hr; ⟨_, (pss_cons (ps_expr (pe_mth (pv 0) T.cl_Rooms c_Rooms_check_guest hr (by decide) (psX (takes_of rfl rfl rfl rfl)) (pa_cons (pv 1) pa_nil)))
    (pss_cons (ps_expr (pe_calX c_check_number hr (by decide) (by rfl) (takes_of rfl rfl rfl rfl) (pa_cons (pv 2) (pa_cons pe_int (pa_cons pe_int pa_nil)))))
    (pss_one (ps_ret (pe_callTy call_list_of (by rfl) T.m_list (by decide +kernel) (pa_cons (pe_mth (pv 0) T.cl_Rooms c_Rooms_words_at hr (by decide) ps0 (pa_cons (pe_ix ix_list (pe_dget hu (pe_fld (pv 0) rfl) (pv 1) (fun _ _ => rfl)) (pv 2) (fun _ _ => rfl)) pa_nil)) pa_nil)))))), ?_⟩)
  · obtain ⟨k, s, x, r, rfl, _⟩ := h
    rfl
  · obtain ⟨k, s, x, r, rfl, hA, hz, hx, r8, q⟩ := h
    refine no_fld hA (m := "_check_guest") (by decide +kernel) (by decide +kernel) (by decide +kernel) (by decide +kernel) fun dx fs e nf => ?_
    walk_at "go"
    refine ⟨k.o, dx, fs, rfl, e, nf, ?_⟩
    walk_at "go"
    refine ⟨k, s, x, rfl, hA, hz, hx, fun H1 s1 => ?_⟩
    have h1 := hA.same s1
    walk_at "go"
    refine ⟨r, 0, 7, rfl, by omega, by omega, ?_⟩
    walk_at "go"
    obtain ⟨xs, ps, v, eg, ex, py, l8, e1, ev, pv, pok⟩ := at_plc h1 hx r8
    refine no_fld h1 (m := "_words_at") (by decide +kernel) (by decide +kernel) (by decide +kernel) (by decide +kernel) fun dx2 fs2 e2 nf2 => ?_
    walk_at "go"
    refine ⟨k.o, dx2, fs2, rfl, e2, nf2, ?_⟩
    walk_at "go"
    refine r_gst h1 T rfl rfl hx ?_
    walk_at "go"
    refine r_ixL (sqL ex) (v := v) (atI_nat ev) ?_
    walk_at "go"
    refine ⟨k, s, plc s x r, v, rfl, h1, pv, pok, fun a ha => ?_⟩
    walk_at "go"
    have sa : SqL K H1 a (nv (words s.cells (plc s x r))) ∨ SqT K H1 a (nv (words s.cells (plc s x r))) := by
      rcases ha with ha | ha
      · exact .inr (ha.sq T)
      · exact .inl (sqL ha)
    exact ⟨a, nv (words s.cells (plc s x r)), rfl, sa, fun l nl => q l _ (none_of s1 nl) (s1.trans (same_upd nl)) upd_same⟩
theorem ok_sharedN {f : Addr} {fd : FuncData} (F : Fun K "shared" "Rooms.shared" s_Rooms_shared f fd) (T : Txt K mg A) (c_Rooms_in_use : CalM P w K mg base CX0 1 A.CR "in_use" (spInUse A)) (c_Rooms_lying : CalM P w K mg base (L2.CX P w) 5 A.CR "lying" (spLying A)) : FnOk P w K mg base (L2.CX P w) 6 f fd ["self"] (spSharedN A) := by
  refine F.okX sc_Rooms_shared (fun vs H Q E h => ?_) (fun cdv A' outer s H vs Q E hr h => have hu := units1 hr; ⟨_, (pss_one (ps_ret (pe_callB call_len_seq (by rfl) T.m_len (by decide +kernel) (pa_cons (pe_lc (own := [("number", 1)]) rfl sc_Rooms_shared.nd (pi_list (pe_mth0 (pv 0) T.cl_Rooms c_Rooms_in_use hr (by decide) ps0)) (blkOk_by (N := ["self", "number"]) (sc := defScope s_Rooms_shared) (by decide +kernel)) (fun _ _ _ _ _ => (pg_name (i := 1) sc_Rooms_shared.nd rfl (.inl rfl))) (fun _ _ _ _ _ => pts_one (pt_cmpR op_gt (pe_callB (call_len_seqK (K := K) rfl) (by rfl) T.m_len (by decide +kernel) (pa_cons (pe_mth (pv 0) T.cl_Rooms c_Rooms_lying hr (by decide) psY (pa_cons (pv 1) pa_nil)) pa_nil)) pe_int (nomark _))) (fun _ _ _ _ _ => (pv 1))) pa_nil)))), ?_⟩)
  · obtain ⟨k, s, rfl, _⟩ := h
    rfl
  · obtain ⟨k, s, rfl, hA, sm, q⟩ := h
    refine no_fld hA (m := "in_use") (by decide +kernel) (by decide +kernel) (by decide +kernel) (by decide +kernel) fun dx fs e nf => ?_
    walk_at "go"
    refine lc_src ?_
    walk_at "go"
    refine ⟨k.o, dx, fs, rfl, e, nf, ?_⟩
    walk_at "go"
    refine ⟨k, s, rfl, hA, sm, fun p H1 np s1 ep => ?_⟩
    have h1 := hA.same s1
    have lu : (inUse s).length ≤ 64 := Nat.le_trans (List.length_filter_le _ _) (by rw [List.length_range]; exact sm.c64)
    refine lkL (fun i => ((inUse s)[i]?).bind fun n => if 1 < (lying s.gs n).length then some n else none) (fun _ _ _ => True) (fun _ _ _ _ _ h => h) (sqL ep) (by rw [nv_len]; omega) (fun QQ qq => qq) (fun i y H2 Q' R' hy s2 k1 k2 => ?_) fun D H2 xs nD s2 ex all => ?_
    · obtain ⟨n, en, rfl⟩ := at_nv hy
      rw [en] at k1 k2
      have h2 := h1.same s2
      have ln : n < s.cells.length := List.mem_range.mp (List.mem_filter.mp (List.mem_of_getElem? en)).1
      refine no_fld h2 (m := "lying") (by decide +kernel) (by decide +kernel) (by decide +kernel) (by decide +kernel) fun dx2 fs2 e2 nf2 => ?_
      refine ⟨rfl, ?_⟩
      walk_at "go"
      refine ⟨k.o, dx2, fs2, rfl, e2, nf2, ?_⟩
      walk_at "go"
      refine ⟨k, s, n, rfl, h2, sm, ln, fun p2 ys H3 np2 s3 ep2 all2 => ?_⟩
      refine r_nil ⟨p2, ys, rfl, .inl (sqL ep2), ?_⟩
      rw [all2.1]
      walk_at "go"
      by_cases hm : 1 < (lying s.gs n).length
      · refine iteY (decide_eq_true (by omega)) ?_
        exact r_var rfl (k1 n _ _ (if_pos hm) s3 trivial)
      · refine iteX (decide_eq_false (by omega)) ?_
        exact k2 (if_neg hm) _ s3
    · refine r_nil ⟨D, xs, rfl, .inl (sqL ex), ?_⟩
      rw [all.1, nv_len, rng_ifs, crowd_eq]
      exact q _ (s1.trans s2)
end
end K17

namespace K17
open PySem PySem.Spec PyProof.Rows L2 Bk Rm


section
variable {K : PySem.W.Frag} {σ : L2.St} {H : Hp} {Q : VK} {j : Nat} {vs : List Nat} {te : TE} {ta : TA}
/-- over range(n): what is laid stays, all but the list itself stays -/
theorem lcRD (n : Nat) (Pr : Addr → Nat → V → Hp → Prop) (st : ∀ D i v H1 H2, But D H1 H2 → Pr D i v H1 → Pr D i v H2) (hl : n ≤ 10000) (hv : ∀ QQ : List V → Hp → Prop, QQ [.int n] H → ta σ H QQ) (hw : ∀ x, wipe ((wipe σ vs).set j (some x)) vs = wipe σ vs)
    (ht : ∀ (D : Addr) (i : Nat) (H1 : Hp) (acc : List V) (Q' : VK), H D = none → i < n → Same H H1 → H1 D = some (.lst acc) → (∀ v H3, Same H1 H3 → Pr D i v H3 → Q' v H3) → te ((wipe σ vs).set j (some (.int (i : Nat)))) H1 Q')
    (q : ∀ D H' (ys : List V), H D = none → Same H H' → H' D = some (.lst ys) → ys.length = n → (∀ k v, ys[k]? = some v → Pr D k v H') → Q (.ref D) H') : tLc (iRng1 ta) (gName j) tYes te vs σ H Q := by
  refine hv _ ⟨_, rfl, by omega, by omega, fun D hD => ?_⟩
  rw [Int.toNat_natCast]
  refine lc_it (g := gName j) (te := te) (tt := tYes) (vs := vs) (σ := σ) walk_range (fun i G => Same H G ∧ ∃ ys : List V, G D = some (.lst ys) ∧ ys.length = i ∧ (∀ k v, ys[k]? = some v → Pr D k v G))
    ⟨same_upd hD, [], upd_same, rfl, fun _ _ z => nomatch z⟩ (fun i G _ z => trivial) (fun i x H1 H2 hi ⟨sm, ys, e, l, all⟩ y => ?_) fun G ⟨sm, ys, e, l, all⟩ => q D G ys hD sm e l all
  obtain ⟨rfl, rfl⟩ := y
  dsimp only
  rw [Int.zero_add]
  refine ⟨hw _, r_yes (ht D i _ ys _ hD hi sm e fun v H3 s3 pv => ?_)⟩
  have e3 := s3 _ _ e
  have bD : But D H3 (upd H3 D (.lst (ys ++ [v]))) := But.upd
  refine ⟨ys, e3, by rw [l, sizeLine_eq]; omega, fun b u eb => ?_, ys ++ [v], upd_same, by rw [List.length_append, l]; rfl, fun k u hk => ?_⟩
  · rw [upd_ne (ne_of_none eb hD)]
    exact s3 _ _ (sm _ _ eb)
  · by_cases hk2 : k < ys.length
    · rw [List.getElem?_append_left hk2] at hk
      exact st _ _ _ _ _ (But.trans (But.of s3) bD) (all k u hk)
    · have e4 : k = i := by
        have := (List.getElem?_eq_some_iff.mp hk).1
        rw [List.length_append, List.length_singleton] at this
        omega
      subst e4
      rw [List.getElem?_append_right (by omega), l, Nat.sub_self] at hk
      obtain rfl := Option.some.inj hk
      exact st _ _ _ _ _ bD pv
end
theorem dq_same1 {b : Bool} {K : PySem.W.Frag} {H H' : Hp} (s : Same H H') {v : V} {d : PyData} (h : Dq b K H v d) : Dq b K H' v d := by
  have := dq_same s (DqAll.cons h .nil)
  cases this
  assumption
def placesOf (l : List Str) : List (Str × Nat) := l.flatMap fun x => (List.range 8).map fun r => (x, r)
theorem placesOf_succ {l : List Str} {i : Nat} {x : Str} (h : l[i]? = some x) : placesOf (l.take (i + 1)) = placesOf (l.take i) ++ (List.range 8).map fun r => (x, r) := by
  unfold placesOf
  rw [List.take_add_one, h, List.flatMap_append]
  refine congrArg _ ?_
  show List.flatMap _ [x] = _
  rw [List.flatMap_cons, List.flatMap_nil, List.append_nil]
theorem all2_rng {Pr : Nat → V → Hp → Prop} {ys : List V} {n : Nat} {H : Hp} (l : ys.length = n) (h : ∀ k v, ys[k]? = some v → Pr k v H) : All2 Pr (List.range n) ys H :=
  ⟨by rw [List.length_range, l], fun k z v a b => by
    obtain ⟨h1, h2⟩ := List.getElem?_eq_some_iff.mp a
    rw [List.getElem_range] at h2
    subst h2
    exact h _ v b⟩
theorem all2_map' {α β : Type} {f : α → β} {Pr : β → V → Hp → Prop} {l : List α} {ys : List V} {H : Hp} (h : All2 (fun a v H => Pr (f a) v H) l ys H) : All2 Pr (l.map f) ys H :=
  ⟨by rw [List.length_map]; exact h.1, fun k z v a b => by
    rw [List.getElem?_map] at a
    cases e : l[k]? with
    | none => rw [e] at a; exact nomatch a
    | some y =>
      rw [e] at a
      obtain rfl := Option.some.inj a
      exact h.2 k y v e b⟩
theorem all2_imp {α : Type} {Pr Pr' : α → V → Hp → Prop} {l : List α} {ys : List V} {H : Hp} (h : All2 Pr l ys H) (f : ∀ z v, z ∈ l → Pr z v H → Pr' z v H) : All2 Pr' l ys H := ⟨h.1, fun k z v a b => f z v (List.mem_of_getElem? a) (h.2 k z v a b)⟩
/-- one place as told, apart from the list D -/
def EntV (s : R) (D : Addr) (x : Str) (r : Nat) (v : V) (H : Hp) : Prop := ∃ t p, v = .ref t ∧ t ≠ D ∧ p ≠ D ∧ H t = some (.tup [.str x, .int r, wayV (plc s x r), .ref p]) ∧ H p = some (.lst (nv (words s.cells (plc s x r))))
theorem EntV.keep {s : R} {D : Addr} {x : Str} {r : Nat} {v : V} {H H' : Hp} (h : EntV s D x r v H) (b : ∀ c u, c ≠ D → H c = some u → H' c = some u) : EntV s D x r v H' := by
  obtain ⟨t, p, e, n1, n2, e1, e2⟩ := h
  exact ⟨t, p, e, n1, n2, b _ _ n1 e1, b _ _ n2 e2⟩
theorem EntV.dq {K : PySem.W.Frag} {s : R} {D : Addr} {x : Str} {r : Nat} {v : V} {H : Hp} (h : EntV s D x r v H) : Dq false K H v (entD s (x, r)) := by
  obtain ⟨t, p, rfl, _, _, e1, e2⟩ := h
  exact .tup (sqT e1) (.cons (.str _) (.cons (.int _) (.cons dq_way (.cons (dq_row e2) .nil))))
/-- what lies in a room, apart from the list D -/
def LieV (s : R) (D : Addr) (n : Nat) (v : V) (H : Hp) : Prop := ∃ p xs, v = .ref p ∧ p ≠ D ∧ H p = some (.lst xs) ∧ All2 (fun z v H => ∃ t, v = .ref t ∧ t ≠ D ∧ H t = some (.tup [.str z.1, .int z.2])) (lying s.gs n) xs H
theorem LieV.keep {s : R} {D : Addr} {n : Nat} {v : V} {H H' : Hp} (h : LieV s D n v H) (b : ∀ c u, c ≠ D → H c = some u → H' c = some u) : LieV s D n v H' := by
  obtain ⟨p, xs, e, n1, e1, all⟩ := h
  exact ⟨p, xs, e, n1, b _ _ n1 e1, all.keep fun z v q => by obtain ⟨t, e, n, q⟩ := q; exact ⟨t, e, n, b _ _ n q⟩⟩
theorem LieV.of {s : R} {D p : Addr} {n : Nat} {acc xs : List V} {H : Hp} (eD : H D = some (.lst acc)) (np : p ≠ D) (ep : H p = some (.lst xs)) (all : All2 PairV (lying s.gs n) xs H) : LieV s D n (.ref p) H :=
  ⟨p, xs, rfl, np, ep, all2_imp all fun z v _ q => by
    obtain ⟨t, e, q⟩ := q
    exact ⟨t, e, fun w => by rw [w, eD] at q; exact (nomatch q), q⟩⟩
theorem LieV.dq {K : PySem.W.Frag} {s : R} {D : Addr} {n : Nat} {v : V} {H : Hp} (h : LieV s D n v H) : Dq false K H v (.list ((lying s.gs n).map askD)) := by
  obtain ⟨p, xs, rfl, _, e1, all⟩ := h
  exact .lst (fun z => nomatch z) (sqL e1) (dqa_of (fun z v q => by obtain ⟨t, rfl, _, e⟩ := q; exact .tup (sqT e) (.cons (.str _) (.cons (.int _) .nil))) all)
def spAsked (K : PySem.W.Frag) (A : Ad) : Sp := fun vs H Q _ => ∃ (k : Sk) (s : R), vs = [.ref k.o] ∧ At A.CR H k s ∧ Sm s ∧ ∀ p H', Same H H' → Dq false K H' (.ref p) (allD s) → Q (.ref p) H'
def spTold (K : PySem.W.Frag) : Sp := fun vs H Q _ => ∃ (m : Ms) (s : R), vs = [.ref m.d] ∧ Md H m s (used s.gs) none ∧ s.Ok ∧ s.names.length ≤ 6 ∧ s.cells.length ≤ 64 ∧ ∀ p H', Same H H' → Dq false K H' (.ref p) (allD s) → Q (.ref p) H'
section
variable {P : Program} {w : World} {K : PySem.W.Frag} {mg : Str → Option Value} {base : Heap} {A : Ad}
theorem ok_asked {f : Addr} {fd : FuncData} (F : Fun K "_law_asked" "_law_asked" s_asked_L f fd) (T : Txt K mg A) (c_Rooms_how_many : CalM P w K mg base CX0 1 A.CR "how_many" (spMany A)) (c_Rooms_lying : CalM P w K mg base (L2.CX P w) 5 A.CR "lying" (spLying A)) (c_Rooms_in_use : CalM P w K mg base CX0 1 A.CR "in_use" (spInUse A)) (c_Rooms_names : CalM P w K mg base CX0 1 A.CR "names" (spNames A)) (c_Rooms_way : CalM P w K mg base (L2.CX P w) 5 A.CR "way" (spWay A)) (c_Rooms_words : CalM P w K mg base (L2.CX P w) 5 A.CR "words" (spWordsM A)) (c_Rooms_shared : CalM P w K mg base (L2.CX P w) 6 A.CR "shared" (spSharedN A)) : FnOk P w K mg base CX0 7 f fd ["_law_rooms"] (spAsked K A) := by
  refine F.ok sc_asked_L (fun vs H Q E h => ?_) (fun cdv A' outer s H vs Q E hr h => have hu65 := units65 hr; have hu64 := hr.units; have hu := units1 hr; ⟨_, (pss_cons (ps_set (i := 1) sc_asked_L.nd rfl (.inl rfl) (pe_lstB pa_nil))
    (pss_cons (ps_for PassesOwn.never rfl (pi_list (pe_mth0 (pv 0) T.cl_Rooms c_Rooms_names hr (by decide) ps0)) (pg_name (i := 2) sc_asked_L.nd rfl (.inr rfl))
      (pss_one (ps_set (i := 1) sc_asked_L.nd rfl (.inl rfl) (pe_op op_cat (pv 1) (pe_lc (own := [("_law_room", 4)]) rfl sc_asked_L.nd (pi_range1 (by rfl) T.m_range (pa_cons pe_int pa_nil)) (blkOk_by (N := ["_law_rooms", "_law_found", "_law_name", "_law_at", "_law_room"]) (sc := defScope s_asked_L) (by decide +kernel)) (fun _ _ _ _ _ => (pg_name (i := 4) sc_asked_L.nd rfl (.inl rfl))) (fun _ _ _ _ _ => pts_nil) (fun _ _ _ _ _ => (pe_tup (pa_cons (pv 2) (pa_cons (pv 4) (pa_cons (pe_mth (pv 0) T.cl_Rooms c_Rooms_way hr (by decide) psY (pa_cons (pv 2) (pa_cons (pv 4) pa_nil))) (pa_cons (pe_mth (pv 0) T.cl_Rooms c_Rooms_words hr (by decide) psY (pa_cons (pv 2) (pa_cons (pv 4) pa_nil))) pa_nil)))))))))))
    (pss_one (ps_ret (pe_lstB (pa_cons (pv 1) (pa_cons (pe_lc (own := [("_law_at", 3)]) rfl sc_asked_L.nd (pi_range1 (by rfl) T.m_range (pa_cons (pe_mth0 (pv 0) T.cl_Rooms c_Rooms_how_many hr (by decide) ps0) pa_nil)) (blkOk_by (N := ["_law_rooms", "_law_found", "_law_name", "_law_at", "_law_room"]) (sc := defScope s_asked_L) (by decide +kernel)) (fun _ _ _ _ _ => (pg_name (i := 3) sc_asked_L.nd rfl (.inl rfl))) (fun _ _ _ _ _ => pts_nil) (fun _ _ _ _ _ => (pe_mth (pv 0) T.cl_Rooms c_Rooms_lying hr (by decide) psY (pa_cons (pv 3) pa_nil)))) (pa_cons (pe_mth0 (pv 0) T.cl_Rooms c_Rooms_in_use hr (by decide) ps0) (pa_cons (pe_mth0 (pv 0) T.cl_Rooms c_Rooms_shared hr (by decide) psY) pa_nil))))))))), ?_⟩)
  · obtain ⟨k, s, rfl, _⟩ := h
    rfl
  · obtain ⟨k, s, rfl, hA, sm, q⟩ := h
    have c64 := sm.c64
    have mf : ∀ {m : Str} {G : Hp}, At A.CR G k s → (m == ("_cells" : Str)) = false → (m == ("_given" : Str)) = false → (m == ("_givings" : Str)) = false → (m == ("_guests" : Str)) = false → ∃ dx fs, G k.o = some (.ins A.CR dx fs) ∧ fs.lookup m = none := fun {m G} h a b c d => no_fld h a b c d fun dx fs e n => ⟨dx, fs, e, n⟩
    walk_at "go"
    refine newLB fun fl0 H1 n1 g1 s1 e1 => ?_
    have h1 := hA.same s1
    obtain ⟨dx, fs, eo, nf⟩ := mf (m := "names") h1 (by decide +kernel) (by decide +kernel) (by decide +kernel) (by decide +kernel)
    walk_at "go"
    refine ⟨k.o, dx, fs, rfl, eo, nf, ?_⟩
    walk_at "go"
    refine ⟨k, s, rfl, h1, fun nl H2 nn s2 en => ?_⟩
    have six := sm.six
    refine ⟨nl, rfl, ⟨_, SqL.of en⟩, for_it (walk_list (xs := s.names.map V.str)) (fun i σ G => ∃ fl x2 xs, σ = [some (.ref k.o), some (.ref fl), x2, none, none] ∧ Same H2 G ∧ G fl = some (.lst xs) ∧ All2 (fun z v H => Dq false K H v (entD s z)) (placesOf (s.names.take i)) xs G) ⟨fl0, _, [], rfl, Same.refl _, s2 _ _ e1, All2.nil⟩ (fun i σ G _ h => ?_) (fun i yv σ G G2 hi hP hY => ?_) (fun σ G hP => ?_)⟩
    · obtain ⟨fl, x2, xs, rfl, sG, _⟩ := h
      exact SqL.of (sG _ _ en)
    · obtain ⟨fl, x2, xs, rfl, sG, ef, all⟩ := hP
      obtain ⟨rfl, hy⟩ := hY
      rw [List.length_map] at hi
      have gi := List.getElem?_eq_getElem hi
      have hx := List.getElem_mem hi
      rw [List.getElem?_map, gi] at hy
      obtain rfl := Option.some.inj hy
      generalize s.names[i] = x at gi hx ⊢
      have h3 := (h1.same s2).same sG
      walk_at "go"
      refine lcRD 8 (fun D r v H => EntV s D x r v H) (fun D r v H1 H2 b h => h.keep fun c u n e => b _ _ n e) (by decide) (fun QQ qq => qq) (fun _ => rfl) (fun D r H5 acc Q' nD r8 s5 eD kk => ?_) fun D H5 ys nD s5 eD ly all5 => ?_
      · have h5 := h3.same s5
        obtain ⟨dx5, fs5, eo5, nf5⟩ := mf (m := "way") h5 (by decide +kernel) (by decide +kernel) (by decide +kernel) (by decide +kernel)
        walk_at "go"
        refine ⟨k.o, dx5, fs5, rfl, eo5, nf5, ?_⟩
        walk_at "go"
        refine ⟨k, s, x, r, rfl, h5, sm.nm _ hx, hx, r8, fun H6 s6 => ?_⟩
        have h6 := h5.same s6
        obtain ⟨dx6, fs6, eo6, nf6⟩ := mf (m := "words") h6 (by decide +kernel) (by decide +kernel) (by decide +kernel) (by decide +kernel)
        walk_at "go"
        refine ⟨k.o, dx6, fs6, rfl, eo6, nf6, ?_⟩
        walk_at "go"
        refine ⟨k, s, x, r, rfl, h6, sm.nm _ hx, hx, r8, fun p H7 np s7 ep => ?_⟩
        walk_at "go"
        refine newT fun t H8 nt s8 et => kk _ H8 ((s6.trans s7).trans s8) ⟨t, p, rfl, ?_, ?_, et, s8 _ _ ep⟩
        · exact (ne_of_none (s7 _ _ (s6 _ _ eD)) nt).symm
        · exact (ne_of_none (s6 _ _ eD) np).symm
      · have l1 : (placesOf (s.names.take i)).length ≤ 48 := by
          unfold placesOf
          rw [flat_len (m := 8) fun x _ => by rw [List.length_map, List.length_range], List.length_take]
          omega
        refine r_cat (s5 _ _ ef) eD (fun p H6 np s6 ep => ?_) (by rw [all.1, ly]; omega)
        walk_at "go"
        refine ⟨p, _, _, rfl, (sG.trans s5).trans s6, ep, ?_⟩
        rw [placesOf_succ gi]
        refine All2.append (all.keep fun z v h => dq_same1 (s5.trans s6) h) ?_
        exact (all2_map' (f := fun r => (x, r)) (Pr := fun z v H => Dq false K H v (entD s z)) (all2_rng ly fun r v hv => (all5 r v hv).dq)).keep fun z v h => dq_same1 s6 h
    · obtain ⟨fl, x2, xs, rfl, sG, ef, all⟩ := hP
      rw [List.length_map, List.take_length] at all
      have h3 := (h1.same s2).same sG
      obtain ⟨dx3, fs3, eo3, nf3⟩ := mf (m := "how_many") h3 (by decide +kernel) (by decide +kernel) (by decide +kernel) (by decide +kernel)
      walk_at "go"
      refine lcRD s.cells.length (fun D n v H => LieV s D n v H) (fun D r v H1 H2 b h => h.keep fun c u n e => b _ _ n e) (by omega) (fun QQ qq => ?_) (fun _ => rfl) (fun D n H5 acc Q' nD ln s5 eD kk => ?_) fun D H5 ys nD s5 eD ly all5 => ?_
      · exact ⟨_, rfl, k.o, dx3, fs3, rfl, eo3, nf3, ⟨k, s, rfl, h3, c64, r_nil qq⟩⟩
      · have h5 := h3.same s5
        obtain ⟨dx5, fs5, eo5, nf5⟩ := mf (m := "lying") h5 (by decide +kernel) (by decide +kernel) (by decide +kernel) (by decide +kernel)
        walk_at "go"
        refine ⟨k.o, dx5, fs5, rfl, eo5, nf5, ?_⟩
        walk_at "go"
        refine ⟨k, s, n, rfl, h5, sm, ln, fun p xs6 H6 np s6 ep all6 => ?_⟩
        exact kk _ H6 s6 (LieV.of (s6 _ _ eD) (ne_of_none eD np).symm ep all6)
      · have h5 := h3.same s5
        obtain ⟨dx5, fs5, eo5, nf5⟩ := mf (m := "in_use") h5 (by decide +kernel) (by decide +kernel) (by decide +kernel) (by decide +kernel)
        walk_at "go"
        refine ⟨k.o, dx5, fs5, rfl, eo5, nf5, ?_⟩
        walk_at "go"
        refine ⟨k, s, rfl, h5, sm, fun p6 H6 np6 s6 ep6 => ?_⟩
        have h6 := h5.same s6
        obtain ⟨dx6, fs6, eo6, nf6⟩ := mf (m := "shared") h6 (by decide +kernel) (by decide +kernel) (by decide +kernel) (by decide +kernel)
        walk_at "go"
        refine ⟨k.o, dx6, fs6, rfl, eo6, nf6, ?_⟩
        walk_at "go"
        refine ⟨k, s, rfl, h6, sm, fun H7 s7 => ?_⟩
        walk_at "go"
        refine newLB fun a H8 n8 g8 s8 e8 => ?_
        have s58 := (s6.trans s7).trans s8
        refine q a H8 ((((s1.trans s2).trans sG).trans s5).trans s58) (.lst (fun z => nomatch z) (sqL e8) (.cons ?_ (.cons ?_ (.cons ?_ (.cons (.int _) .nil)))))
        · exact .lst (fun z => nomatch z) (sqL (s58 _ _ (s5 _ _ ef))) (dqa_of (fun z v h => h) (all.keep fun z v h => dq_same1 (s5.trans s58) h))
        · exact .lst (fun z => nomatch z) (sqL (s58 _ _ eD)) (dqa_of (fun z v h => h) ((all2_rng (Pr := fun n v H => Dq false K H v (.list ((lying s.gs n).map askD))) ly fun r v hv => (all5 r v hv).dq).keep fun z v h => dq_same1 s58 h))
        · exact dq_row (s8 _ _ (s7 _ _ ep6))
end
end K17

namespace K17
open PySem PySem.Spec PyProof.Rows L2 Bk Rm


theorem plc_mem {s : R} (h : s.Ok) {g : Str × List Pl} (hg : g ∈ s.gs) {r : Nat} : plc s g.1 r = g.2.getD r .blank := by
  obtain ⟨ps, hp⟩ := getG_some (gs := s.gs) (List.mem_map.mpr ⟨g, hg, rfl⟩)
  have := getG_uniq h.nd hp hg rfl
  unfold plc
  rw [hp, ← this, List.getD_eq_getElem?_getD]
  rfl
theorem ItV.two {o : Addr → Prop} {H : Hp} {p : Pl} {v : V} (h : ItV o H p v) : ∃ t a0 a1, v = .ref t ∧ H t = some (.lst [.str a0, a1]) ∧ (decide (V.str a0 = V.str (Str.ofString "in")) = true ∧ wayV p = a1 ∨ decide (V.str a0 = V.str (Str.ofString "in")) = false ∧ wayV p = .str a0) := by
  cases p with
  | blank => obtain ⟨t, e, _, h⟩ := h; exact ⟨t, _, _, e, h, .inr ⟨decide_eq_false (fun z => by injection z with z; exact absurd z (by decide +kernel)), rfl⟩⟩
  | own ws => obtain ⟨t, c, e, _, _, h, _⟩ := h; exact ⟨t, _, _, e, h, .inr ⟨decide_eq_false (fun z => by injection z with z; exact absurd z (by decide +kernel)), rfl⟩⟩
  | «at» n => obtain ⟨t, e, _, h⟩ := h; exact ⟨t, _, _, e, h, .inl ⟨decide_eq_true rfl, rfl⟩⟩
theorem all2_to {α : Type} {Pr Pr' : α → V → Hp → Prop} {l : List α} {ys : List V} {H H' : Hp} (h : All2 Pr l ys H) (f : ∀ z v, Pr z v H → Pr' z v H') : All2 Pr' l ys H' := ⟨h.1, fun k z v a b => f z v (h.2 k z v a b)⟩
theorem Md.lock2 {H G : Hp} {m : Ms} {s : R} {U : Nat → Bool} {od : Obj} (h : Md H m s U .none) (eg : G m.gd = some (.frz od (.dK (dicF s.names fun x => .ref (m.gl x))))) (f : ∀ b u, b ≠ m.gd → H b = some u → G b = some u) : Md G m s U (some od) := by
  have k : ∀ b u, upd H m.gd (.frz od (.dK (dicF s.names fun x => .ref (m.gl x)))) b = some u → G b = some u := fun b u e => by
    by_cases z : b = m.gd
    · rw [z, upd_same] at e
      rw [z, eg, ← Option.some.inj e]
    · rw [upd_ne z] at e
      exact f b u z e
  exact h.lock.keep (fun b u _ e => k b u e) (fun b u _ e => k b u e)
section
variable {P : Program} {w : World} {K : PySem.W.Frag} {mg : Str → Option Value} {base : Heap} {A : Ad}
theorem ok_told {f : Addr} {fd : FuncData} (F : Fun K "_law_told" "_law_told" s_told_L f fd) (T : Txt K mg A) (c_lying_L : CalD P w K mg base CX0 1 "_law_lying" spMLying []) (c_words_L : CalD P w K mg base CX0 1 "_law_words" spMWords []) : FnOk P w K mg base CX0 2 f fd ["_law_model_here"] (spTold K) := by
  refine F.ok sc_told_L (fun vs H Q E h => ?_) (fun cdv A' outer s H vs Q E hr h => have hu65 := units65 hr; have hu64 := hr.units; have hu := units1 hr; ⟨_, (pss_cons (ps_set (i := 1) sc_told_L.nd rfl (.inl rfl) (pe_lstB pa_nil))
    (pss_cons (ps_lock (ps_for PassesOwn.never rfl (pi_items (pe_dget hu (pv 0) pe_str (fun _ _ => rfl))) (pg_tup rfl (pgs_cons (pg_name (i := 2) sc_told_L.nd rfl (.inl rfl)) (pgs_cons (pg_name (i := 3) sc_told_L.nd rfl (.inl rfl)) pgs_nil)))
      (pss_one (ps_for PassesOwn.never rfl (pi_enum (by rfl) T.m_enumerate (pa_cons (pv 3) pa_nil)) (pg_tup rfl (pgs_cons (pg_name (i := 4) sc_told_L.nd rfl (.inl rfl)) (pgs_cons (pg_name (i := 5) sc_told_L.nd rfl (.inl rfl)) pgs_nil)))
      (pss_one (ps_expr (pe_bm PySem.F.plainAttrs_list PySem.F.slot_list_append PySem.F.type_list_append mt_append (pv 1) (pa_cons (pe_tup (pa_cons (pv 2) (pa_cons (pv 4) (pa_cons (pe_ix ix_list (pe_lstB (pa_cons (pe_ix ix_list (pv 5) pe_int (fun _ _ => rfl)) (pa_cons (pe_ix ix_list (pv 5) pe_int (fun _ _ => rfl)) pa_nil))) (pe_callTy call_int1 (by rfl) T.m_int (by decide +kernel) (pa_cons (pe_cmpR op_eq (pe_ix ix_list (pv 5) pe_int (fun _ _ => rfl)) pe_str (nomark _)) pa_nil)) (fun _ _ => rfl)) (pa_cons (pe_cal c_words_L hr (by decide) (by rfl) (pa_cons (pv 0) (pa_cons (pv 2) (pa_cons (pv 4) pa_nil)))) pa_nil))))) pa_nil))))))))
    (pss_cons (ps_setLc (i := 6) (own := [("_law_at", 8)]) rfl sc_told_L.nd rfl rfl (sw_true rfl rfl rfl (by decide +kernel)) (pi_range1 (by rfl) T.m_range (pa_cons (pe_callB call_len_seq (by rfl) T.m_len (by decide +kernel) (pa_cons (pe_dget hu (pv 0) pe_str (fun _ _ => rfl)) pa_nil)) pa_nil)) (blkOk_by (N := ["_law_model_here", "_law_found", "_law_name", "_law_items", "_law_room", "_law_item", "_law_lying_here", "_law_used", "_law_at", "_law_some"]) (sc := defScope s_told_L) (by decide +kernel)) (fun _ _ _ _ _ => (pg_name (i := 8) sc_told_L.nd rfl (.inl rfl))) (fun _ _ _ _ _ => pts_nil) (fun _ _ _ _ _ => (pe_cal c_lying_L hr (by decide) (by rfl) (pa_cons (pv 0) (pa_cons (pv 8) pa_nil)))))
    (pss_cons (ps_setLc (i := 7) (own := [("_law_at", 8), ("_law_room", 4)]) rfl sc_told_L.nd rfl rfl (sw_true rfl rfl rfl (by decide +kernel)) (pi_enum (by rfl) T.m_enumerate (pa_cons (pe_dget hu (pv 0) pe_str (fun _ _ => rfl)) pa_nil)) (blkOk_by (N := ["_law_model_here", "_law_found", "_law_name", "_law_items", "_law_room", "_law_item", "_law_lying_here", "_law_used", "_law_at", "_law_some"]) (sc := defScope s_told_L) (by decide +kernel)) (fun _ _ _ _ _ => (pg_tupK (K := K) (n := 2) rfl rfl (pgs_cons (pg_name (i := 8) sc_told_L.nd rfl (.inl rfl)) (pgs_cons (pg_name (i := 4) sc_told_L.nd rfl (.inl rfl)) pgs_nil)))) (fun _ _ _ _ _ => pts_one (pt_cmpR op_notN (pv 4) pe_non (nomark _))) (fun _ _ _ _ _ => (pv 8)))
    (pss_one (ps_ret (pe_lstB (pa_cons (pv 1) (pa_cons (pv 6) (pa_cons (pv 7) (pa_cons (pe_callB call_len_seq (by rfl) T.m_len (by decide +kernel) (pa_cons (pe_lc (own := [("_law_some", 9)]) rfl sc_told_L.nd (pi_list (pv 6)) (blkOk_by (N := ["_law_model_here", "_law_found", "_law_name", "_law_items", "_law_room", "_law_item", "_law_lying_here", "_law_used", "_law_at", "_law_some"]) (sc := defScope s_told_L) (by decide +kernel)) (fun _ _ _ _ _ => (pg_name (i := 9) sc_told_L.nd rfl (.inl rfl))) (fun _ _ _ _ _ => pts_one (pt_cmpR op_gt (pe_callB (call_len_seqK (K := K) rfl) (by rfl) T.m_len (by decide +kernel) (pa_cons (pv 9) pa_nil)) pe_int (nomark _))) (fun _ _ _ _ _ => (pv 9))) pa_nil)) pa_nil))))))))))), ?_⟩)
  · obtain ⟨m, s, rfl, _⟩ := h
    rfl
  · obtain ⟨m, s, rfl, hM, ok, l6, c64, q⟩ := h
    have gs6 : s.gs.length ≤ 6 := by unfold R.names at l6; rwa [List.length_map] at l6
    walk_at "go"
    refine newLB fun fl H1 n1 g1 s1 e1 => ?_
    have M1 := hM.same s1
    walk_at "go"
    refine ⟨m.gd, .dK (dicF s.names fun x => .ref (m.gl x)), M1.gd_, trivial, fun od => ?_⟩
    have eL : upd H1 m.gd (.frz od (.dK (dicF s.names fun x => .ref (m.gl x)))) m.gd = some (.frz od (.dK (dicF s.names fun x => .ref (m.gl x)))) := upd_same
    have lk : ∀ b u, b ≠ m.gd → H1 b = some u → upd H1 m.gd (.frz od (.dK (dicF s.names fun x => .ref (m.gl x)))) b = some u := fun b u nb eb => by rw [upd_ne nb]; exact eb
    have nfg : fl ≠ m.gd := fun z => by rw [z, hM.gd_] at n1; exact nomatch n1
    have ef := lk _ _ nfg e1
    have lk0 : ∀ b u, b ≠ m.gd → H b = some u → upd H1 m.gd (.frz od (.dK (dicF s.names fun x => .ref (m.gl x)))) b = some u := fun b u nb eb => lk b u nb (s1 _ _ eb)
    have M2 := hM.lock2 eL lk0
    generalize upd H1 m.gd (.frz od (.dK (dicF s.names fun x => .ref (m.gl x)))) = HL at M2 eL lk lk0 ef ⊢
    walk_at "go"
    refine r_dM M2 rfl (v := .ref m.gd) rfl ?_
    refine ⟨m.gd, od, _, rfl, eL, for_it walk_items (fun i σ G => (∃ x2 x3 x4 x5 x6 x7 x8 x9, σ = [some (.ref m.d), some (.ref fl), x2, x3, x4, x5, x6, x7, x8, x9]) ∧ G m.gd = some (.frz od (.dK (dicF s.names fun x => .ref (m.gl x)))) ∧ (∀ b u, b ≠ m.gd → H b = some u → G b = some u) ∧ ∃ xs, G fl = some (.lst xs) ∧ All2 (fun z v G => EntV s fl z.1 z.2 v G) (placesOf (s.names.take i)) xs G) ⟨⟨_, _, _, _, _, _, _, _, rfl⟩, eL, lk0, [], ef, All2.nil⟩ (fun i σ G _ h => h.2.1) (fun i yv σ G G2 hi hP hY => ?_) (fun σ G hP => ?_)⟩
    · obtain ⟨⟨x2, x3, x4, x5, x6, x7, x8, x9, rfl⟩, eG, kG, xs, exs, all⟩ := hP
      obtain ⟨T2, a, b, rfl, nT, rfl, ha, hb⟩ := hY
      rw [dicF_len] at hi
      have hi : i < s.gs.length := by unfold R.names at hi; rwa [List.length_map] at hi
      have ha : (s.names.map fun x => ((Sum.inr x : Key), V.ref (m.gl x)))[i]?.map (fun kv => kV kv.1) = some a := ha
      have hb : (s.names.map fun x => ((Sum.inr x : Key), V.ref (m.gl x)))[i]?.map Prod.snd = some b := hb
      unfold R.names at ha hb
      rw [List.map_map, List.getElem?_map, List.getElem?_eq_getElem hi] at ha hb
      obtain rfl := Option.some.inj ha
      obtain rfl := Option.some.inj hb
      have gi := List.getElem?_eq_getElem hi
      have gm := List.getElem_mem hi
      generalize s.gs[i] = g at gi gm ⊢
      have sT : Same G (upd G T2 (.tup [.str g.1, .ref (m.gl g.1)])) := same_upd nT
      have eT : upd G T2 (.tup [.str g.1, .ref (m.gl g.1)]) T2 = some (.tup [.str g.1, .ref (m.gl g.1)]) := upd_same
      show gTup _ _ _ _ _ (upd G T2 (.tup [V.str g.1, V.ref (m.gl g.1)])) _
      generalize upd G T2 (.tup [.str g.1, .ref (m.gl g.1)]) = G2 at sT eT ⊢
      have kG2 : ∀ b u, b ≠ m.gd → H b = some u → G2 b = some u := fun b u n e => sT _ _ (kG b u n e)
      have eG2 := sT _ _ eG
      have M3 := hM.lock2 eG2 kG2
      obtain ⟨ys, ey2, py2⟩ := M3.gl_ g gm
      have eyH : H (m.gl g.1) = some (.lst ys) := by
        obtain ⟨zs, ez, _⟩ := hM.gl_ g gm
        have := kG2 _ _ (hM.ld ez).2 ez
        rw [ey2] at this
        rw [ez, this]
      have all2 := all.keep fun z v h => h.keep fun c u _ e => sT _ _ e
      have ef2 : G2 fl = some (.lst xs) := sT _ _ exs
      have l8 := (ok.at_ g gm).1
      have hx : g.1 ∈ s.names := List.mem_map.mpr ⟨g, gm, rfl⟩
      have ni : s.names[i]? = some g.1 := by unfold R.names; rw [List.getElem?_map, gi]; rfl
      refine ⟨_, _, rfl, sqT eT, rfl, ?_⟩
      refine ⟨_, _, rfl, _, _, rfl, rfl, ?_⟩
      walk_at "go"
      refine r_cons (r_var rfl (r_nil ?_))
      refine ⟨m.gl g.1, ys, rfl, sqL ey2, for_it (walk_enum (xs := ys)) (fun j σ G => (∃ x4 x5 x6 x7 x8 x9, σ = [some (.ref m.d), some (.ref fl), some (.str g.1), some (.ref (m.gl g.1)), x4, x5, x6, x7, x8, x9]) ∧ G m.gd = some (.frz od (.dK (dicF s.names fun x => .ref (m.gl x)))) ∧ (∀ b u, b ≠ m.gd → H b = some u → G b = some u) ∧ ∃ xs, G fl = some (.lst xs) ∧ All2 (fun z v G => EntV s fl z.1 z.2 v G) (placesOf (s.names.take i) ++ (List.range j).map fun r => (g.1, r)) xs G) ⟨⟨_, _, _, _, _, _, rfl⟩, eG2, kG2, xs, ef2, ?_⟩ (fun j σ G _ h => ?_) (fun j yv σ G G4 hj hP hY => ?_) (fun σ G hP => ?_)⟩
      · rw [List.range_zero, List.map_nil, List.append_nil]
        exact all2
      · exact sqL (h.2.2.1 _ _ (hM.ld eyH).2 eyH)
      · obtain ⟨⟨x4, x5, x6, x7, x8, x9, rfl⟩, eG, kG, xs, exs, all⟩ := hP
        obtain ⟨T3, b3, c3, rfl, nT3, rfl, hb3, hc3⟩ := hY
        obtain rfl := Option.some.inj hb3
        have sT : Same G (upd G T3 (.tup [.int (j : Nat), c3])) := same_upd nT3
        have eT : upd G T3 (.tup [.int (j : Nat), c3]) T3 = some (.tup [.int (j : Nat), c3]) := upd_same
        show gTup _ _ _ _ _ (upd G T3 (.tup [V.int (j : Nat), c3])) _
        generalize upd G T3 (.tup [.int (j : Nat), c3]) = G5 at sT eT ⊢
        have kG5 : ∀ b u, b ≠ m.gd → H b = some u → G5 b = some u := fun b u n e => sT _ _ (kG b u n e)
        have eG5 := sT _ _ eG
        have M5 := hM.lock2 eG5 kG5
        have ef5 := sT _ _ exs
        have j8 : j < 8 := by rw [← l8, ← py2.1]; exact hj
        refine ⟨_, _, rfl, sqT eT, rfl, ?_⟩
        refine ⟨_, _, rfl, _, _, rfl, rfl, ?_⟩
        walk_at "go"
        obtain ⟨ys5, ey5, py5⟩ := M5.gl_ g gm
        have ey6 : G5 (m.gl g.1) = some (.lst ys) := kG5 _ _ (hM.ld eyH).2 eyH
        obtain rfl : ys5 = ys := by
          rw [ey5] at ey6
          injection (Option.some.inj ey6)
        have gj := List.getElem?_eq_getElem (show j < g.2.length by rw [l8]; exact j8)
        have pe : plc s g.1 j = g.2[j] := by rw [plc_mem ok gm, List.getD_eq_getElem?_getD, gj]; rfl
        obtain ⟨t, a0, a1, rfl, et, hw⟩ := (py5.2 j _ c3 gj hc3).two
        rw [← pe] at hw
        refine ⟨.inl ⟨rfl, _, SqL.of ef5⟩, ?_⟩
        walk_at "go"
        refine r_ixL (sqL et) (v := .str a0) (atI_nat (j := 0) rfl) ?_
        walk_at "go"
        refine r_ixL (sqL et) (v := a1) (atI_nat (j := 1) rfl) ?_
        walk_at "go"
        refine newLB fun la H6 n6 g6 s6 e6 => ?_
        walk_at "go"
        refine r_ixL (sqL (s6 _ _ et)) (v := .str a0) (atI_nat (j := 0) rfl) ?_
        walk_at "go"
        have wv : ∃ i : Nat, (if decide (V.str a0 = V.str (Str.ofString "in")) = true then (1 : Int) else 0) = (i : Nat) ∧ [V.str a0, a1][i]? = some (wayV (plc s g.1 j)) := by
          rcases hw with ⟨h1, h2⟩ | ⟨h1, h2⟩
          · exact ⟨1, by rw [h1]; rfl, by rw [h2]; rfl⟩
          · exact ⟨0, by rw [h1]; rfl, by rw [h2]; rfl⟩
        obtain ⟨i1, hi1, hi2⟩ := wv
        refine .inr ⟨_, rfl, ?_⟩
        rw [hi1]
        refine r_ixL (sqL e6) (v := wayV (plc s g.1 j)) (atI_nat hi2) ?_
        walk_at "go"
        have M6 := M5.same s6
        refine ⟨m, s, _, some od, g.1, j, rfl, M6, ok, fun _ h => h, hx, j8, fun p7 H7 np7 s7 ep7 => ?_⟩
        walk_at "go"
        refine newT fun t8 H8 nt8 s8 et8 => ?_
        walk_at "go"
        have s58 := (s6.trans s7).trans s8
        have ef8 := s58 _ _ ef5
        have lx : xs.length ≤ 48 + 8 := by
          rw [all.1, List.length_append, List.length_map, List.length_range]
          have : (placesOf (s.names.take i)).length ≤ 48 := by
            unfold placesOf
            rw [flat_len (m := 8) fun x _ => by rw [List.length_map, List.length_range], List.length_take]
            omega
          omega
        refine ⟨fl, xs, _, rfl, rfl, ef8, by rw [sizeLine_eq]; omega, ?_⟩
        have up : ∀ c u, c ≠ fl → H8 c = some u → upd H8 fl (.lst (xs ++ [.ref t8])) c = some u := fun c u n e => by rw [upd_ne n]; exact e
        have nfH : ∀ b u, H b = some u → b ≠ fl := fun b u e z => by rw [z, n1] at e; exact nomatch e
        refine ⟨⟨_, _, _, _, _, _, rfl⟩, up _ _ nfg.symm (s58 _ _ eG5), fun b u n e => up _ _ (nfH b u e) (s58 _ _ (kG5 b u n e)), _, upd_same, ?_⟩
        rw [List.range_succ, List.map_append, ← List.append_assoc]
        refine All2.snoc (all2_to all fun z v h => h.keep fun c u n e => up c u n (s58 _ _ (sT _ _ e))) ⟨t8, p7, rfl, ?_, ?_, up _ _ ?_ et8, up _ _ ?_ (s8 _ _ ep7)⟩
        · exact (ne_of_none (s7 _ _ (s6 _ _ ef5)) nt8).symm
        · exact (ne_of_none (s6 _ _ ef5) np7).symm
        · exact (ne_of_none (s7 _ _ (s6 _ _ ef5)) nt8).symm
        · exact (ne_of_none (s6 _ _ ef5) np7).symm
      · obtain ⟨⟨x4, x5, x6, x7, x8, x9, rfl⟩, eG, kG, xs, exs, all⟩ := hP
        refine ⟨⟨_, _, _, _, _, _, _, _, rfl⟩, eG, kG, xs, exs, ?_⟩
        rw [placesOf_succ ni]
        rw [py2.1, l8] at all
        exact all
    · obtain ⟨⟨x2, x3, x4, x5, x6, x7, x8, x9, rfl⟩, eG, kG, xs, exs, all⟩ := hP
      rw [dicF_len, List.take_length] at all
      refine ⟨eG, ?_⟩
      have nfl : fl ≠ m.gd := nfg
      have s4 : Same H (upd G m.gd (.dK (dicF s.names fun x => .ref (m.gl x)))) := fun b u eb => by
        by_cases z : b = m.gd
        · rw [z, upd_same]
          rw [z, hM.gd_] at eb
          exact eb
        · rw [upd_ne z]
          exact kG b u z eb
      have ef4 : upd G m.gd (.dK (dicF s.names fun x => .ref (m.gl x))) fl = some (.lst xs) := by rw [upd_ne nfl]; exact exs
      have all4 : All2 (fun z v H => Dq false K H v (entD s z)) (placesOf s.names) xs (upd G m.gd (.dK (dicF s.names fun x => .ref (m.gl x)))) := all2_to all fun z v q => by
        obtain ⟨t, p, rfl, _, _, q1, q2⟩ := q
        refine .tup (sqT (xs := [.str z.1, .int z.2, wayV (plc s z.1 z.2), .ref p]) ?_) (.cons (.str _) (.cons (.int _) (.cons dq_way (.cons (dq_row ?_) .nil))))
        · rw [upd_ne fun z => by rw [z, eG] at q1; exact (nomatch q1)]; exact q1
        · rw [upd_ne fun z => by rw [z, eG] at q2; exact (nomatch q2)]; exact q2
      · generalize upd G m.gd (.dK (dicF s.names fun x => .ref (m.gl x))) = G4 at s4 ef4 all4 ⊢
        have M4 := hM.same s4
        obtain ⟨rs, er, lrs, qr⟩ := M4.rl_
        walk_at "go"
        refine lcRD s.cells.length (fun D n v H => LieV s D n v H) (fun D r v H1 H2 b h => h.keep fun c u n e => b _ _ n e) (by omega) (fun QQ qq => ?_) (fun _ => rfl) (fun D n H5 acc Q' nD ln s5 eD kk => ?_) fun D H5 ys nD s5 eD ly all5 => ?_
        · refine r_cons (r_cons (r_dM M4 rfl (v := .ref m.rl) rfl (r_nil ⟨m.rl, rs, rfl, .inl (sqL er), ?_⟩)))
          rw [lrs]
          exact r_nil qq
        · walk_at "go"
          refine ⟨m, s, _, n, rfl, M4.same s5, ok, l6, by omega, fun p xs6 H6 np s6 ep all6 => ?_⟩
          exact kk _ H6 s6 (LieV.of (s6 _ _ eD) (ne_of_none eD np).symm ep all6)
        · have M5 := M4.same s5
          obtain ⟨rs5, er5, lrs5, qr5⟩ := M5.rl_
          walk_at "go"
          refine lkEL (fun i => if used s.gs i = true then some i else none) (fun z v _ => v = V.int (z : Nat)) (fun _ _ _ _ _ h => h) (sqL er5) (by omega) (fun QQ qq => by exact r_cons (r_dM M5 rfl (v := .ref m.rl) rfl (r_nil qq))) (fun i y T H6 Q' R' hy s6 eT k1 k2 => ?_) fun D2 H6 xs6 nD2 s6 eD2 all6 => ?_
          · refine ⟨_, _, rfl, sqT eT, rfl, ?_⟩
            refine ⟨_, _, rfl, _, _, rfl, rfl, ?_⟩
            refine ⟨rfl, ?_⟩
            walk_at "go"
            refine ⟨rfl, ?_⟩
            rcases qr5 i y hy with ⟨hu', rfl⟩ | ⟨hu', t, rfl, _⟩
            · rw [hu'] at k2
              exact ⟨_, rfl, iteX (by rw [decide_eq_true (rfl : V.non = V.non)]; rfl) (k2 (if_neg Bool.false_ne_true) H6 (Same.refl _))⟩
            · rw [hu'] at k1
              exact ⟨_, rfl, iteY (by rw [decide_eq_false (fun z => nomatch z : V.ref t ≠ V.non)]; rfl) (r_var rfl (k1 i _ H6 (if_pos rfl) (Same.refl _) rfl))⟩
          · have eu : (List.range rs5.length).filterMap (fun i => if used s.gs i = true then some i else none) = inUse s := by
              rw [lrs5, fm_if]
              unfold inUse
              exact List.filter_congr fun n _ => by cases used s.gs n <;> rfl
            rw [eu] at all6
            have ex6 : xs6 = nv (inUse s) := all2_map all6
            subst ex6
            walk_at "go"
            have eD6 := s6 _ _ eD
            refine lkL (fun i => if 1 < (lying s.gs i).length then some i else none) (fun _ _ _ => True) (fun _ _ _ _ _ h => h) (sqL eD6) (by omega) (fun QQ qq => r_var rfl qq) (fun i y H7 Q' R' hy s7 k1 k2 => ?_) fun D7 H7 xs7 nD7 s7 ex7 all7 => ?_
            · obtain ⟨p, zs, rfl, _, ep, allp⟩ := (all5 i y hy).keep fun c u _ e => (s6.trans s7) c u e
              refine ⟨rfl, ?_⟩
              walk_at "go"
              refine ⟨p, zs, rfl, .inl (sqL ep), ?_⟩
              rw [allp.1]
              walk_at "go"
              by_cases hm : 1 < (lying s.gs i).length
              · refine iteY (decide_eq_true (by omega)) ?_
                exact r_var rfl (k1 i _ _ (if_pos hm) (Same.refl _) trivial)
              · refine iteX (decide_eq_false (by omega)) ?_
                exact k2 (if_neg hm) _ (Same.refl _)
            · refine r_nil ⟨D7, xs7, rfl, .inl (sqL ex7), ?_⟩
              have ec : xs7.length = crowd s := by
                rw [all7.1, ly, fm_if]
                rfl
              rw [ec]
              walk_at "go"
              refine newLB fun a H8 n8 g8 s8 e8 => ?_
              have s58 := (s6.trans s7).trans s8
              refine q a H8 ((s4.trans s5).trans s58) (.lst (fun z => nomatch z) (sqL e8) (.cons ?_ (.cons ?_ (.cons ?_ (.cons (.int _) .nil)))))
              · exact .lst (fun z => nomatch z) (sqL (s58 _ _ (s5 _ _ ef4))) (dqa_of (fun z v h => h) (all4.keep fun z v h => dq_same1 (s5.trans s58) h))
              · exact .lst (fun z => nomatch z) (sqL (s58 _ _ eD)) (dqa_of (fun z v h => h) ((all2_rng (Pr := fun n v H => Dq false K H v (.list ((lying s.gs n).map askD))) ly fun r v hv => (all5 r v hv).dq).keep fun z v h => dq_same1 s58 h))
              · exact dq_row (s8 _ _ (s7 _ _ eD2))
end
end K17

namespace K17
open PySem PySem.Spec PyProof.Rows L2 Bk Rm


/-- a drawn row at t -/
def RowH (H : Hp) (t : Addr) : Prop := ∃ ws : List Nat, H t = some (.tup (nv ws)) ∧ ws.length = 8 ∧ ∀ w ∈ ws, w ≤ 4095
theorem RowH.keep {H H' : Hp} {t : Addr} (h : RowH H t) (s : TS H H') : RowH H' t := by
  obtain ⟨ws, e, r⟩ := h
  exact ⟨ws, s _ _ e, r⟩
theorem But.ts {bx : Addr} {n : Nat} {H H' : Hp} (b : But bx H H') (hB : Box bx n H) : TS H H' := fun a xs e => b _ _ (hB.ne_tup e) e
theorem rows_of {H : Hp} : ∀ {ts : List Addr}, (∀ t ∈ ts, RowH H t) → ∃ rows : List (List Nat), rows.length = ts.length ∧ (∀ (i : Nat) t ws, ts[i]? = some t → rows[i]? = some ws → H t = some (.tup (nv ws))) ∧ (∀ ws ∈ rows, ws.length = 8) ∧ ∀ ws ∈ rows, ∀ w ∈ ws, w ≤ 4095
  | [], _ => ⟨[], rfl, fun _ _ _ z => (nomatch z), fun _ z => (nomatch z), fun _ z => (nomatch z)⟩
  | t :: ts, h => by
    obtain ⟨ws, e, l8, le⟩ := h t List.mem_cons_self
    obtain ⟨rows, l, d, d8, dl⟩ := rows_of fun t ht => h t (List.mem_cons_of_mem _ ht)
    refine ⟨ws :: rows, by rw [List.length_cons, List.length_cons, l], fun i t' ws' a b => ?_, fun x hx => ?_, fun x hx => ?_⟩
    · cases i with
      | zero =>
        obtain rfl := Option.some.inj a
        obtain rfl := Option.some.inj b
        exact e
      | succ i => exact d i t' ws' a b
    · rcases List.mem_cons.mp hx with rfl | m
      · exact l8
      · exact d8 x m
    · rcases List.mem_cons.mp hx with rfl | m
      · exact le
      · exact dl x m
theorem rowH8 {H : Hp} {t : Addr} {c : Nat} (h : c ≤ 4095) (e : H t = some (.tup (nv (List.replicate 8 c)))) : RowH H t := ⟨_, e, List.length_replicate, fun w hw => by rw [List.eq_of_mem_replicate hw]; exact h⟩
theorem nums_of : ∀ {xs : List V}, (∀ v ∈ xs, ∃ w : Nat, v = .int w ∧ w ≤ 4095) → ∃ ws : List Nat, xs = nv ws ∧ ws.length = xs.length ∧ ∀ w ∈ ws, w ≤ 4095
  | [], _ => ⟨[], rfl, rfl, fun _ z => nomatch z⟩
  | x :: xs, h => by
    obtain ⟨w, rfl, lw⟩ := h x List.mem_cons_self
    obtain ⟨ws, e, l, d⟩ := nums_of fun v hv => h v (List.mem_cons_of_mem _ hv)
    refine ⟨w :: ws, by rw [e]; rfl, by rw [List.length_cons, List.length_cons, l], fun y hy => ?_⟩
    rcases List.mem_cons.mp hy with rfl | m
    · exact lw
    · exact d y m
section
variable {σ : L2.St} {H : Hp} {Q : VK} {j : Nat} {vs : List Nat} {te : TE}
theorem lcDrawB {n m : Nat} {bx : Addr} (p : V → Prop) (hb : Box bx m H) (hl : n ≤ 1000) (hw : ∀ x, wipe ((wipe σ vs).set j (some x)) vs = wipe σ vs)
    (ht : ∀ (i : Nat) (H' : Hp) (Q' : VK), i < n → Box bx (m + i) H' → But bx H H' → (∀ v H2, p v → Box bx (m + i + 1) H2 → But bx H' H2 → Q' v H2) → te ((wipe σ vs).set j (some (.int i))) H' Q')
    (q : ∀ D H' xs, H D = none → But bx H H' → Box bx (m + n) H' → H' D = some (.lst xs) → xs.length = n → (∀ v ∈ xs, p v) → Q (.ref D) H') : tLc (iRng1 (tCons (tC (.int n)) tNil)) (gName j) tYes te vs σ H Q := by
  refine ⟨_, rfl, by omega, by omega, fun D hD => ?_⟩
  have nD : D ≠ bx := hb.ne hD
  rw [Int.toNat_natCast]
  refine lc_it (g := gName j) (tt := tYes) (te := te) (vs := vs) (σ := σ) (n := n) walk_range (fun i G => But bx H G ∧ Box bx (m + i) G ∧ ∃ xs, G D = some (.lst xs) ∧ xs.length = i ∧ ∀ v ∈ xs, p v)
    ⟨.of (same_upd hD), hb.same (same_upd hD), [], upd_same, rfl, fun _ z => nomatch z⟩ (fun _ _ _ _ => trivial) (fun i x H1 H2 hi ⟨bt, hB, xs, e, l, hp⟩ y => ?_) fun G ⟨bt, hB, xs, e, l, hp⟩ => q D G xs hD bt hB e l hp
  obtain ⟨rfl, rfl⟩ := y
  refine ⟨hw _, ?_⟩
  show te ((wipe σ vs).set j (some (.int (0 + (i : Int))))) _ _
  rw [Int.zero_add]
  refine ht i H2 _ hi hB bt fun v H3 pv hB3 b3 => ⟨xs, b3 _ _ nD e, by rw [l]; exact Nat.lt_of_lt_of_le hi (Nat.le_trans hl (by decide)), ?_, ?_, xs ++ [v], upd_same, by rw [List.length_append, l]; rfl, fun u hu => ?_⟩
  · exact fun b o ne e0 => by
      have z := b3 _ _ ne (bt _ _ ne e0)
      rw [upd_ne (ne_of_none e0 hD)]
      exact z
  · obtain ⟨x1, y1, z1, eB, r⟩ := hB3
    exact ⟨x1, y1, z1, by rw [upd_ne nD.symm]; exact eB, r⟩
  · rcases List.mem_append.mp hu with z | z
    · exact hp u z
    · rw [List.mem_singleton.mp z]; exact pv
theorem r_rep8 {K : PySem.W.Frag} {c : Nat} (q : ∀ t H', Same H H' → H' t = some (.tup (nv (List.replicate 8 c))) → Q (.ref t) H') : NewT [.int (c : Nat)] H fun x H1 => tC (.int 8) σ H1 fun y H2 => rRepT K x y H2 Q :=
  newT fun p H1 n1 s1 e1 => ⟨p, 8, _, rfl, rfl, SqT.of e1, by simp, by decide, by decide, Nat.le_of_ble_eq_true rfl, fun p2 n2 => q p2 _ (s1.trans (same_upd n2)) upd_same⟩
theorem r_rep7 {K : PySem.W.Frag} {c : Nat} (q : ∀ t H', Same H H' → H' t = some (.tup (nv (List.replicate 7 c))) → Q (.ref t) H') : NewT [.int (c : Nat)] H fun x H1 => tC (.int 7) σ H1 fun y H2 => rRepT K x y H2 Q :=
  newT fun p H1 n1 s1 e1 => ⟨p, 7, _, rfl, rfl, SqT.of e1, by simp, by decide, by decide, Nat.le_of_ble_eq_true rfl, fun p2 n2 => q p2 _ (s1.trans (same_upd n2)) upd_same⟩
end
def spAlike (A : Ad) : Sp := fun vs H Q _ => ∃ (bx : Addr) (n : Nat), vs = [.ref bx] ∧ Box bx n H ∧ n < 950000 ∧ ∀ a rows H', But bx H H' → Box bx (n + 16) H' → Eight A H' a rows → RowsOk rows → Q (.ref a) H'
section
variable {P : Program} {w : World} {K : PySem.W.Frag} {mg : Str → Option Value} {base : Heap} {A : Ad}
theorem ok_alike {f : Addr} {fd : FuncData} (F : Fun K "_law_alike_rooms" "_law_alike_rooms" s_alike_rooms_L f fd) (T : Txt K mg A) (c_take_L : CalD P w K mg base CX0 1 "_law_take" spTake []) : FnOk P w K mg base CX0 2 f fd ["_law_box_here"] (spAlike A) := by
  refine F.ok sc_alike_rooms_L (fun vs H Q E h => ?_) (fun cdv A' outer s H vs Q E hr h => have hu65 := units65 hr; have hu64 := hr.units; have hu := units1 hr; ⟨_, (pss_cons (ps_set (i := 1) sc_alike_rooms_L.nd rfl (.inr rfl) (pe_lstB (pa_cons (pe_op op_catA (pe_op op_repT (pe_tup (pa_cons pe_int pa_nil)) pe_int) (pe_tup (pa_cons pe_int pa_nil))) (pa_cons (pe_op op_repT (pe_tup (pa_cons pe_int pa_nil)) pe_int) (pa_cons (pe_op op_repT (pe_tup (pa_cons pe_int pa_nil)) pe_int) (pa_cons (pe_callTy call_tuple_of (by rfl) T.m_tuple (by decide +kernel) (pa_cons (pe_lc (own := [("_law_cell_here", 3)]) rfl sc_alike_rooms_L.nd (pi_range1 (by rfl) T.m_range (pa_cons pe_int pa_nil)) (blkOk_by (N := ["_law_box_here", "_law_sorts", "_law_room", "_law_cell_here"]) (sc := defScope s_alike_rooms_L) (by decide +kernel)) (fun _ _ _ _ _ => (pg_name (i := 3) sc_alike_rooms_L.nd rfl (.inl rfl))) (fun _ _ _ _ _ => pts_nil) (fun _ _ _ _ _ => (pe_cal c_take_L hr (by decide) (by rfl) (pa_cons (pv 0) (pa_cons pe_int pa_nil))))) pa_nil)) pa_nil))))))
    (pss_one (ps_ret (pe_callTy call_tuple_of (by rfl) T.m_tuple (by decide +kernel) (pa_cons (pe_lc (own := [("_law_room", 2)]) rfl sc_alike_rooms_L.nd (pi_range1 (by rfl) T.m_range (pa_cons pe_int pa_nil)) (blkOk_by (N := ["_law_box_here", "_law_sorts", "_law_room", "_law_cell_here"]) (sc := defScope s_alike_rooms_L) (by decide +kernel)) (fun _ _ _ _ _ => (pg_name (i := 2) sc_alike_rooms_L.nd rfl (.inl rfl))) (fun _ _ _ _ _ => pts_nil) (fun _ _ _ _ _ => (pe_ix (ix_listK (K := K) rfl) (pv 1) (pe_cal c_take_L hr (by decide) (by rfl) (pa_cons (pv 0) (pa_cons pe_int pa_nil))) (fun _ _ => rfl)))) pa_nil))))), ?_⟩)
  · obtain ⟨bx, n, rfl, _⟩ := h
    rfl
  · obtain ⟨bx, n, rfl, hB, hn, q⟩ := h
    walk_at "go"
    refine r_rep7 (c := 0) fun t1 H1 s1 e1 => ?_
    walk_at "go"
    refine newT fun t2 H2 n2 s2 e2 => ?_
    have e12 : SqT K H2 t1 (nv (List.replicate 7 0)) := SqT.of (s2 _ _ e1)
    refine ⟨t1, t2, nv (List.replicate 7 0), [.int 1], rfl, rfl, e12, SqT.of e2, by rw [sizeLine_eq]; decide, fun z => (nomatch z), fun _ z => (nomatch z), fun _ _ t3 n3 => ?_⟩
    have s3 := same_upd (o := .tup (nv (List.replicate 7 0) ++ [.int 1])) n3
    have e3 : upd H2 t3 (.tup (nv (List.replicate 7 0) ++ [.int 1])) t3 = some (.tup (nv [0, 0, 0, 0, 0, 0, 0, 1])) := by rw [upd_same]; rfl
    generalize upd H2 t3 (.tup (nv (List.replicate 7 0) ++ [.int 1])) = H3 at s3 e3 ⊢
    walk_at "go"
    refine r_rep8 (c := 7) fun t4 H4 s4 e4 => ?_
    walk_at "go"
    refine r_rep8 (c := 0) fun t5 H5 s5 e5 => ?_
    walk_at "go"
    have s15 := (((s1.trans s2).trans s3).trans s4).trans s5
    have hB5 := hB.same s15
    refine lcDraw (n := 8) (m := n) (bx := bx) (fun v => ∃ w : Nat, v = .int w ∧ w ≤ 4095) hB5 (by decide) (fun _ => rfl) (fun i H6 Q' hi hB6 kk => ?_) fun D H6 xs nD b6 hB6 e6 l6 p6 => ?_
    · walk_at "go"
      refine r_take hB6 (fun d H7 h0 h1 hB7 b7 => ?_) (by omega)
      obtain ⟨d, rfl⟩ := Int.eq_ofNat_of_zero_le h0
      exact kk _ H7 ⟨d, rfl, by omega⟩ (hB7.mono (by omega)) b7
    · obtain ⟨ws, rfl, lw, dw⟩ := nums_of p6
      refine r_nil ⟨D, _, rfl, .inl ⟨sqL e6, fun t7 n7 => ?_⟩⟩
      have s7 := same_upd (o := .tup (nv ws)) n7
      have e7 : upd H6 t7 (.tup (nv ws)) t7 = some (.tup (nv ws)) := upd_same
      generalize upd H6 t7 (.tup (nv ws)) = H7 at s7 e7 ⊢
      have hB7 := hB6.same s7
      walk_at "go"
      refine newLB fun la H8 n8 g8 s8 e8 => ?_
      have hB8 := hB7.same s8
      have ts38 : TS H5 H8 := (But.ts b6 hB5).trans ((Same.ts s7).trans (Same.ts s8))
      have R1 : RowH H8 t3 := ⟨_, ts38 _ _ (s5 _ _ (s4 _ _ e3)), rfl, by decide⟩
      have R2 : RowH H8 t4 := rowH8 (by omega) (ts38 _ _ (s5 _ _ e4))
      have R3 : RowH H8 t5 := rowH8 (by omega) (ts38 _ _ e5)
      have R4 : RowH H8 t7 := ⟨ws, s8 _ _ e7, by rw [lw, l6], dw⟩
      have nlb : la ≠ bx := hB7.ne n8
      walk_at "go"
      refine lcDrawB (n := 8) (m := n + 8) (bx := bx) (fun v => ∃ t, v = .ref t ∧ RowH H8 t) hB8 (by decide) (fun _ => rfl) (fun i H9 Q' hi hB9 b9 kk => ?_) fun D9 H9 xs nD9 b9 hB9 e9 l9 p9 => ?_
      · walk_at "go"
        refine r_take hB9 (fun d H10 h0 h1 hB10 b10 => ?_) (by omega)
        have e10 := b10 _ _ nlb (b9 _ _ nlb e8)
        obtain ⟨v, hv, vl⟩ : ∃ t : Addr, atI [V.ref t3, .ref t4, .ref t5, .ref t7] d = some (.ref t) ∧ RowH H8 t := by
          obtain rfl | rfl | rfl | rfl : d = 0 ∨ d = 1 ∨ d = 2 ∨ d = 3 := by omega
          · exact ⟨t3, rfl, R1⟩
          · exact ⟨t4, rfl, R2⟩
          · exact ⟨t5, rfl, R3⟩
          · exact ⟨t7, rfl, R4⟩
        refine r_ixL (sqL e10) (v := .ref v) hv ?_
        exact kk _ H10 ⟨v, rfl, vl⟩ (hB10.mono (by omega)) b10
      · obtain ⟨ts, rfl, lts, hts⟩ : ∃ ts : List Addr, xs = ts.map V.ref ∧ ts.length = xs.length ∧ ∀ t ∈ ts, RowH H8 t := by
          clear e9 l9
          induction xs with
          | nil => exact ⟨[], rfl, rfl, fun _ z => nomatch z⟩
          | cons x xs ih =>
            obtain ⟨t, rfl, ht⟩ := p9 x List.mem_cons_self
            obtain ⟨ts, rfl, l, h⟩ := ih fun v hv => p9 v (List.mem_cons_of_mem _ hv)
            refine ⟨t :: ts, rfl, by rw [List.length_cons, List.length_cons, l], fun u hu => ?_⟩
            rcases List.mem_cons.mp hu with rfl | hu
            · exact ht
            · exact h u hu
        refine r_nil ⟨D9, _, rfl, .inl ⟨sqL e9, fun a na => ?_⟩⟩
        have s10 := same_upd (o := .tup (ts.map V.ref)) na
        obtain ⟨rows, lr, hr2, h8, hle⟩ := rows_of hts
        have ts8 : TS H8 (upd H9 a (.tup (ts.map V.ref))) := (But.ts b9 hB8).trans (Same.ts s10)
        refine q a rows _ (fun c u nb ec => s10 _ _ (b9 _ _ nb (s8 _ _ (s7 _ _ (b6 _ _ nb (s15 _ _ ec)))))) ((hB9.same s10).mono (by omega)) ⟨ts, upd_same, by rw [lr], fun i t ws a b => .inl (ts8 _ _ (hr2 i t ws a b))⟩ ⟨by rw [lr, lts, l9], h8, hle⟩
end
end K17

namespace K17
open PySem PySem.Spec PyProof.Rows L2 Bk Rm


theorem names_told {s s' : R} (h : told s'.cells s'.gs = told s.cells s.gs) : s'.names = s.names := by
  have := congrArg (fun l => l.map (·.1)) h
  unfold told at this
  simp only [List.map_map] at this
  exact this
theorem read_told {s : R} (h : s.Ok) {x : Str} {r : Nat} (hx : x ∈ s.names) (hr : r < 8) : told (R.read s x r).cells (R.read s x r).gs = told s.cells s.gs ∧ (R.read s x r).cells.length = s.cells.length := by
  obtain ⟨ps, hp⟩ := getG_some hx
  obtain ⟨t1, _, k1⟩ := R.brought_told h hp hr
  unfold R.read
  cases plc s x r with
  | blank => exact ⟨rfl, rfl⟩
  | own ws => exact ⟨t1, k1⟩
  | «at» n => exact ⟨t1, k1⟩
theorem write_len {s : R} (h : s.Ok) {x : Str} {r c w : Nat} (hx : x ∈ s.names) (hr : r < 8) : (s.write x r c w).cells.length = s.cells.length := by
  obtain ⟨b1, b2, b3, b4⟩ := plc_brought h hx hr
  obtain ⟨ps, hp⟩ := getG_some hx
  have o1 := (R.brought_ok h hp hr).1
  have w8 : ((s.brought x r).1.cells.getD (s.brought x r).2 []).length = 8 := by
    obtain ⟨p, e1, e2, e3, _⟩ := at_place h hp hr
    have ep : plc s x r = p := e2
    rw [b2, ep]
    exact e3.1
  unfold R.write
  dsimp only
  split
  · rw [List.length_set]
    have hx5 : x ∈ R.names { (s.brought x r).1 with gs := setAt (s.brought x r).1.gs x r (.own ((s.brought x r).1.cells.getD (s.brought x r).2 [])) } := by rw [names_setAt', b3]; exact hx
    have o5 : R.Ok { (s.brought x r).1 with gs := setAt (s.brought x r).1.gs x r (.own ((s.brought x r).1.cells.getD (s.brought x r).2 [])) } := o1.setAt (PlOk.own w8)
    exact (plc_brought o5 hx5 hr).2.2.2.trans b4
  · rw [List.length_set]
    exact b4
theorem Le.told {s s' : R} (h : Le s) (e : told s'.cells s'.gs = told s.cells s.gs) : Le s' := by
  unfold Le
  rw [e]
  exact h
theorem Le.write {s : R} (h : Le s) (ok : s.Ok) {x : Str} {r c w : Nat} (hx : x ∈ s.names) (r8 : r < 8) (hw : w ≤ 4095) : Le (s.write x r c w) := by
  obtain ⟨ps, hp⟩ := getG_some hx
  obtain ⟨p, e1, _⟩ := at_place ok hp r8
  intro g hg ws hws v hv
  rw [(R.write_ok ok hp r8 e1).2] at hg
  obtain ⟨g0, hg0, rfl⟩ := List.mem_map.mp hg
  by_cases z : g0.1 = x
  · rw [if_pos z] at hws
    rcases List.mem_or_eq_of_mem_set hws with y | y
    · exact h g0 hg0 ws y v hv
    · rw [y] at hv
      rcases List.mem_or_eq_of_mem_set hv with q | q
      · exact h _ (List.mem_map.mpr ⟨_, getG_mem hp, rfl⟩) _ (List.mem_map.mpr ⟨p, List.mem_of_getElem? e1, rfl⟩) v q
      · rw [q]; exact hw
  · rw [if_neg z] at hws
    exact h g0 hg0 ws hws v hv
theorem write_names {s : R} (ok : s.Ok) {x : Str} {r c w : Nat} (hx : x ∈ s.names) (r8 : r < 8) : (s.write x r c w).names = s.names := by
  obtain ⟨ps, hp⟩ := getG_some hx
  obtain ⟨p, e1, _⟩ := at_place ok hp r8
  have h := (R.write_ok (c := c) (w := w) ok hp r8 e1).2
  have := congrArg (fun l => l.map (·.1)) h
  unfold told setW at this
  simp only [List.map_map] at this
  refine Eq.trans this ?_
  unfold R.names
  refine List.map_congr_left fun g _ => ?_
  show (if g.1 = x then (g.1, (g.2.map (words s.cells)).set r _) else (g.1, g.2.map (words s.cells))).1 = g.1
  split <;> rfl
theorem Md.rex {H H' : Hp} {m : Ms} {s : R} {U : Nat → Bool} (h : Md H m s U .none) {X' : Addr → Prop} (f : ∀ b u, ¬ m.x b → H b = some u → H' b = some u) (nw : ∀ b, X' b → m.x b ∨ H b = .none) (xh : ∀ b, X' b → ∃ u, H' b = some u) : Md H' { m with x := X' } s U .none := by
  obtain ⟨xs, e, l, r⟩ := h.rl_
  have nX : ∀ {b u}, H b = some u → ¬ m.x b → ¬ X' b := fun {b u} e n w => (nw b w).elim n fun z => by rw [z] at e; exact nomatch e
  have core : ∀ {b u}, H b = some u → ¬ m.x b → H' b = some u := fun {b u} e n => f b u n e
  have fr : ∀ b u, ¬ mown m s U b → H b = some u → H' b = some u := fun b u n e => f b u (fun w => n (.inr (.inr (.inr (.inr (.inr w)))))) e
  have ow : ∀ b, mown { m with x := X' } s U b → mown m s U b ∨ H b = .none := fun b w => by
    rcases w with w | w | w | w | w | w
    · exact .inl (.inl w)
    · exact .inl (.inr (.inl w))
    · exact .inl (.inr (.inr (.inl w)))
    · exact .inl (.inr (.inr (.inr (.inl w))))
    · exact .inl (.inr (.inr (.inr (.inr (.inl w)))))
    · exact (nw b w).imp (fun z => .inr (.inr (.inr (.inr (.inr z))))) id
  have nd : ¬ m.x m.d := fun w => (h.xo _ w).1 rfl
  have nr : ¬ m.x m.rl := fun w => (h.xo _ w).2.1 rfl
  have ng : ¬ m.x m.gd := fun w => (h.xo _ w).2.2.1 rfl
  have nl : ∀ x ∈ s.names, ¬ m.x (m.gl x) := fun x hx w => (h.xo _ w).2.2.2.1 x hx rfl
  have nc : ∀ n, n < s.cells.length → U n = true → ¬ m.x (m.wl n) := fun n hn hu w => (h.xo _ w).2.2.2.2 n hn hu rfl
  refine ⟨core h.d_ nd, ⟨xs, core e nr, l, fun n v hv => ?_⟩, core h.gd_ ng, fun g hg => ?_, h.n0, h.n1, h.n2, h.n4, h.n5, h.nd, xh, fun b w => ⟨fun z => nX h.d_ nd (z ▸ w), fun z => nX e nr (z ▸ w), fun z => nX h.gd_ ng (z ▸ w), fun x hx z => ?_, fun n hn hu z => nX (h.wlx hn hu) (nc n hn hu) (z ▸ w)⟩⟩
  · have ln : n < s.cells.length := by rw [← l]; exact (List.getElem?_eq_some_iff.mp hv).1
    exact (r n v hv).keep fr ow rfl (fun _ => rfl) rfl fun hu => core (h.wlx ln hu) (nc n ln hu)
  · obtain ⟨ys, e2, q⟩ := h.gl_ g hg
    exact ⟨ys, core e2 (nl _ (List.mem_map.mpr ⟨g, hg, rfl⟩)), q.keep fr ow⟩
  · obtain ⟨g, ys, _, _, e2, _⟩ := h.glx hx
    exact nX e2 (nl x hx) (z ▸ w)
/-- rooms and a model beside one another -/
structure J2 (A : Ad) (H : Hp) (k : Sk) (m : Ms) (sa sb : R) (bx : Addr) (n : Nat) (h0 : Hp) : Prop where
  rm : At A.CR H k sa
  md : Md H m sb (used sb.gs) .none
  mx : m.x = fun b => own k sa b ∨ b = bx
  bx_ : Box bx n H
  nb : ¬ own k sa bx
  kp : ∀ b u, h0 b = some u → H b = some u
  fz : ∀ b, mown m sb (used sb.gs) b → h0 b = .none
section
variable {A : Ad} {H H' : Hp} {k k' : Sk} {m m' : Ms} {sa sb sa' sb' : R} {bx : Addr} {n n' : Nat} {h0 : Hp}
theorem J2.ox (h : J2 A H k m sa sb bx n h0) {b : Addr} (o : own k sa b) : m.x b := by rw [h.mx]; exact .inl o
theorem J2.bxx (h : J2 A H k m sa sb bx n h0) : m.x bx := by rw [h.mx]; exact .inr rfl
theorem J2.xm (h : J2 A H k m sa sb bx n h0) {b : Addr} (w : m.x b) : mown m sb (used sb.gs) b := .inr (.inr (.inr (.inr (.inr w))))
theorem J2.old (h : J2 A H k m sa sb bx n h0) {b : Addr} (z : H b = .none) : h0 b = .none := by
  cases w : h0 b with
  | none => rfl
  | some u => rw [h.kp b u w] at z; exact nomatch z
theorem J2.rooms (h : J2 A H k m sa sb bx n h0) (v : Mv A.CR H k sa H' k' sa') : J2 A H' k' { m with x := fun b => own k' sa' b ∨ b = bx } sa' sb bx n h0 := by
  have nb' : ¬ own k' sa' bx := fun o => (v.nw _ o).elim h.nb fun z => by obtain ⟨_, _, _, e, _⟩ := h.bx_; rw [z] at e; exact nomatch e
  obtain ⟨x1, y1, z1, eb, rb⟩ := h.bx_
  have eb' := v.fr _ _ h.nb eb
  have nw : ∀ b, own k' sa' b ∨ b = bx → m.x b ∨ H b = .none := fun b w => w.elim (fun o => (v.nw b o).imp h.ox id) fun z => .inl (z ▸ h.bxx)
  refine ⟨v.at_, h.md.rex (fun b u nx e => v.fr b u (fun o => nx (h.ox o)) e) nw fun b w => w.elim (fun o => (v.at_.has o).imp fun u z => z.1) fun z => ⟨_, z ▸ eb'⟩, rfl, ⟨x1, y1, z1, eb', rb⟩, nb', fun b u e => v.fr b u (fun o => by rw [h.fz b (h.xm (h.ox o))] at e; exact nomatch e) (h.kp b u e), fun b w => ?_⟩
  rcases w with w | w | w | w | w | w
  · exact h.fz b (.inl w)
  · exact h.fz b (.inr (.inl w))
  · exact h.fz b (.inr (.inr (.inl w)))
  · exact h.fz b (.inr (.inr (.inr (.inl w))))
  · exact h.fz b (.inr (.inr (.inr (.inr (.inl w)))))
  · exact (nw b w).elim (fun z => h.fz b (h.xm z)) h.old
theorem J2.model (h : J2 A H k m sa sb bx n h0) (v : Mm H m sb (used sb.gs) H' m' sb' (used sb'.gs)) : J2 A H' k m' sa sb' bx n h0 := by
  obtain ⟨x1, y1, z1, eb, rb⟩ := h.bx_
  exact ⟨h.rm.keep (fun b u o e => v.xf b u (h.ox o) e) (v.ts h.md), v.md, by rw [v.xx]; exact h.mx, ⟨x1, y1, z1, v.xf _ _ h.bxx eb, rb⟩, h.nb, fun b u e => v.fr b u (fun w => by rw [h.fz b w] at e; exact nomatch e) (h.kp b u e), fun b w => (v.nw b w).elim (h.fz b) h.old⟩
theorem J2.same (h : J2 A H k m sa sb bx n h0) (f : Same H H') : J2 A H' k m sa sb bx n h0 := h.model (Mm.same h.md f)
theorem J2.but (h : J2 A H k m sa sb bx n h0) (b : But bx H H') (hB : Box bx n' H') : J2 A H' k m sa sb bx n' h0 := by
  have st : ∀ c u, own k sa c → H c = some u → H' c = some u := fun c u o e => b c u (fun z => h.nb (z ▸ o)) e
  have mx : m = { m with x := m.x } := rfl
  refine ⟨h.rm.keep st (But.ts b h.bx_), ?_, h.mx, hB, h.nb, fun c u e => b c u (fun z => by rw [z, h.fz bx (h.xm h.bxx)] at e; exact nomatch e) (h.kp c u e), h.fz⟩
  rw [mx]
  refine h.md.rex (fun c u nx e => b c u (fun z => nx (z ▸ h.bxx)) e) (fun c w => .inl w) fun c w => ?_
  have w := w
  rw [h.mx] at w
  rcases w with w | w
  · obtain ⟨u, e, _⟩ := h.rm.has w
    exact ⟨u, st c u w e⟩
  · obtain ⟨_, _, _, e, _⟩ := hB
    exact ⟨_, w ▸ e⟩
theorem J2.hold (h : J2 A H k m sa sb bx n h0) {p : Addr} {u : HO} (e : H p = some u) (np : ¬ mown m sb (used sb.gs) p) : J2 A H k m sa sb bx n (upd h0 p u) := by
  refine ⟨h.rm, h.md, h.mx, h.bx_, h.nb, fun b v eb => ?_, fun b w => ?_⟩
  · by_cases z : b = p
    · rw [z, upd_same] at eb
      rw [z, e, ← Option.some.inj eb]
    · rw [upd_ne z] at eb
      exact h.kp b v eb
  · rw [upd_ne fun z => np (by rw [← z]; exact w)]
    exact h.fz b w
theorem J2.weak {p : Addr} {u : HO} (h : J2 A H k m sa sb bx n (upd h0 p u)) (z : h0 p = .none) : J2 A H k m sa sb bx n h0 := by
  refine ⟨h.rm, h.md, h.mx, h.bx_, h.nb, fun b v eb => h.kp b v (by rw [upd_ne (ne_of_none eb z)]; exact eb), fun b w => ?_⟩
  have := h.fz b w
  by_cases y : b = p
  · rw [y]; exact z
  · rw [upd_ne y] at this
    exact this
theorem J2.mono (h : J2 A H k m sa sb bx n h0) (l : n ≤ n') : J2 A H k m sa sb bx n' h0 := h.but But.refl (h.bx_.mono l)
end
/-- both stand alike -/
structure Jn (A : Ad) (H : Hp) (k : Sk) (m : Ms) (s : R) (bx : Addr) (n : Nat) (h0 : Hp) : Prop where
  j : J2 A H k m s s bx n h0
  sm : Sm s
  le : Le s
end K17

namespace K17
open PySem PySem.Spec PyProof.Rows L2 Bk Rm


theorem share_names {s : R} (ok : s.Ok) : s.share.1.names = s.names ∧ s.share.1.cells = s.cells ∧ s.share.2 ≤ s.cells.length := by
  rw [share_eq ok]
  exact ⟨mapAt_names, rfl, Nat.le_trans (List.length_filter_le _ _) (Nat.le_trans (List.length_filter_le _ _) (by rw [List.length_range]; exact Nat.le_refl _))⟩
theorem shq_int {K : PySem.W.Frag} {H : Hp} {n : Nat} (h : n ≤ 1000) : Shq K H (.int n) (datS (.int n)).shown := shq_sc (by
  show decide ((n : Int).natAbs < 10 ^ 38) = true
  rw [decide_eq_true_eq, Int.natAbs_natCast]
  omega)
theorem shq_all {K : PySem.W.Frag} {H : Hp} {p : Addr} {s : R} (ok : s.Ok) (sm : Sm s) (le : Le s) (h : Dq false K H (.ref p) (allD s)) : Shq K H (.ref p) (allD s).shown := by
  obtain ⟨a, b, c⟩ := allD_small ok sm le
  exact shq_of h a b c
def spDeed (K : PySem.W.Frag) (A : Ad) : Sp := fun vs H Q _ => ∃ (k : Sk) (m : Ms) (s : R) (bx : Addr) (n : Nat) (h0 : Hp), vs = [.ref bx, .ref k.o, .ref m.d] ∧ Jn A H k m s bx n h0 ∧ s.names ≠ [] ∧ n < 900000 ∧ ∀ k' m' s' H', k'.o = k.o → m'.d = m.d → s'.names = s.names → s'.cells.length = s.cells.length → Jn A H' k' m' s' bx (n + 5) h0 → Q (.bl true) H'
section
variable {P : Program} {w : World} {K : PySem.W.Frag} {mg : Str → Option Value} {base : Heap} {A : Ad}
theorem ok_deed {f : Addr} {fd : FuncData} (F : Fun K "_law_deed" "_law_deed" s_deed_L f fd) (T : Txt K mg A) (c_take_L : CalD P w K mg base CX0 1 "_law_take" spTake []) (c_words_L : CalD P w K mg base CX0 1 "_law_words" spMWords []) (c_shared_L : CalD P w K mg base CX0 2 "_law_shared" spMShared []) (c_read_L : CalD P w K mg base CX0 4 "_law_read" spMRead []) (c_write_L : CalD P w K mg base CX0 4 "_law_write" spMWrite []) (c_told_L : CalD P w K mg base CX0 2 "_law_told" (spTold K) []) (c_asked_L : CalD P w K mg base CX0 7 "_law_asked" (spAsked K A) [])
    (c_Rooms_share : CalM P w K mg base (L2.CX P w) 7 A.CR "share" (spShare A)) (c_Rooms_read_cell : CalM P w K mg base (L2.CX P w) 9 A.CR "read_cell" (spRead A)) (c_Rooms_write_cell : CalM P w K mg base (L2.CX P w) 9 A.CR "write_cell" (spWrite A)) : FnG P w K mg base CX0 10 f fd ["_law_box_here", "_law_rooms", "_law_model_here"] (spDeed K A) := by
  refine fun_okG F sc_deed_L (fun vs H Q E h => ?_) (fun cdv A' outer s H vs Q E ga hr h => have hu65 := units65 hr; have hu64 := hr.units; have hu := units1 hr; ⟨_, (pss_cons (ps_set (i := 3) sc_deed_L.nd rfl (.inl rfl) (pe_callTy (call_listD rfl) (by rfl) T.m_list (by decide +kernel) (pa_cons (pe_dget hu (pv 2) pe_str (fun _ _ => rfl)) pa_nil)))
    (pss_cons (ps_par (i := 4) (j := 5) rfl sc_deed_L.nd rfl rfl (by decide) rfl rfl (pa_cons (pe_ix ix_list (pv 3) (pe_cal c_take_L hr (by decide) (by rfl) (pa_cons (pv 0) (pa_cons (pe_callB call_len_seq (by rfl) T.m_len (by decide +kernel) (pa_cons (pv 3) pa_nil)) pa_nil))) (fun _ _ => rfl)) (pa_cons (pe_cal c_take_L hr (by decide) (by rfl) (pa_cons (pv 0) (pa_cons pe_int pa_nil))) pa_nil)) (by rfl))
    (pss_cons (ps_par (i := 6) (j := 7) rfl sc_deed_L.nd rfl rfl (by decide) rfl rfl (pa_cons (pe_cal c_take_L hr (by decide) (by rfl) (pa_cons (pv 0) (pa_cons pe_int pa_nil))) (pa_cons (pe_cal c_take_L hr (by decide) (by rfl) (pa_cons (pv 0) (pa_cons pe_int pa_nil))) pa_nil)) (by rfl))
    (pss_cons (ps_if (pt_cmpR op_eq (pv 7) pe_int (nomark _)) (pss_one (ps_ret (pe_cmpR op_eq (pe_callB (call_repr_any ga hr) (by rfl) T.m_repr (by decide +kernel) (pa_cons (pe_mth0 (pv 1) T.cl_Rooms c_Rooms_share hr (by decide) psY) pa_nil)) (pe_callB (call_repr_any ga hr) (by rfl) T.m_repr (by decide +kernel) (pa_cons (pe_cal c_shared_L hr (by decide) (by rfl) (pa_cons (pv 2) pa_nil)) pa_nil)) (nomark _)))) pss_nil)
    (pss_cons (ps_if (pt_cmpR op_eq (pv 7) pe_int (nomark _)) (pss_one (ps_ret (pe_cmpR op_eq (pe_mth (pv 1) T.cl_Rooms c_Rooms_read_cell hr (by decide) psY (pa_cons (pv 4) (pa_cons (pv 5) (pa_cons (pv 6) pa_nil)))) (pe_cal c_read_L hr (by decide) (by rfl) (pa_cons (pv 2) (pa_cons (pv 4) (pa_cons (pv 5) (pa_cons (pv 6) pa_nil))))) (nomark _)))) pss_nil)
    (pss_cons (ps_set (i := 8) sc_deed_L.nd rfl (.inl rfl) (pe_ix ix_list (pe_cal c_words_L hr (by decide) (by rfl) (pa_cons (pv 2) (pa_cons (pv 4) (pa_cons (pv 5) pa_nil)))) (pv 6) (fun _ _ => rfl)))
    (pss_cons (ps_set (i := 9) sc_deed_L.nd rfl (.inl rfl) (pe_lstB (pa_cons (pv 8) (pa_cons pe_int (pa_cons pe_int (pa_cons pe_int pa_nil))))))
    (pss_cons (ps_for PassesOwn.never rfl (pi_list (pe_op op_cat (pe_lstB (pa_cons (pe_ix ix_list (pv 9) (pe_cal c_take_L hr (by decide) (by rfl) (pa_cons (pv 0) (pa_cons pe_int pa_nil))) (fun _ _ => rfl)) pa_nil)) (pe_op op_rep (pe_lstB (pa_cons (pv 8) pa_nil)) (pe_callTy call_int1 (by rfl) T.m_int (by decide +kernel) (pa_cons (pe_cmpR op_eq (pv 7) pe_int (nomark _)) pa_nil))))) (pg_name (i := 10) sc_deed_L.nd rfl (.inl rfl))
      (pss_cons (ps_expr (pe_cal c_write_L hr (by decide) (by rfl) (pa_cons (pv 2) (pa_cons (pv 4) (pa_cons (pv 5) (pa_cons (pv 6) (pa_cons (pv 10) pa_nil)))))))
    (pss_cons (ps_expr (pe_mth (pv 1) T.cl_Rooms c_Rooms_write_cell hr (by decide) psY (pa_cons (pv 4) (pa_cons (pv 5) (pa_cons (pv 6) (pa_cons (pv 10) pa_nil))))))
    (pss_one (ps_if (pt_cmpR op_ne (pe_callB (call_repr_any ga hr) (by rfl) T.m_repr (by decide +kernel) (pa_cons (pe_cal c_asked_L hr (by decide) (by rfl) (pa_cons (pv 1) pa_nil)) pa_nil)) (pe_callB (call_repr_any ga hr) (by rfl) T.m_repr (by decide +kernel) (pa_cons (pe_cal c_told_L hr (by decide) (by rfl) (pa_cons (pv 2) pa_nil)) pa_nil)) (nomark _)) (pss_one (ps_ret pe_bl)) pss_nil)))))
    (pss_one (ps_ret pe_bl)))))))))), ?_⟩)
  · obtain ⟨k, m, s, bx, n, h0, rfl, _⟩ := h
    rfl
  · obtain ⟨k, m, s, bx, n, h0, rfl, ⟨hJ, sm, le⟩, hne, hn, q⟩ := h
    have six := sm.six
    have c64 := sm.c64
    have ok := hJ.rm.ok
    walk_at "go"
    refine r_dM hJ.md rfl (v := .ref m.gd) rfl ?_
    walk_at "go"
    refine ⟨m.gd, _, rfl, hJ.md.rd, fun p np => ?_⟩
    have s2 := same_upd (o := .lst ((dicF s.names fun x => .ref (m.gl x)).map fun kv => kV kv.1)) np
    have e2 : upd H p (.lst ((dicF s.names fun x => .ref (m.gl x)).map fun kv => kV kv.1)) p = some (.lst (s.names.map V.str)) := by rw [upd_same]; unfold dicF; rw [List.map_map]; rfl
    dsimp only
    generalize upd H p (.lst ((dicF s.names fun x => .ref (m.gl x)).map fun kv => kV kv.1)) = H2 at s2 e2 ⊢
    have J2 := hJ.same s2
    have pos : 0 < s.names.length := List.length_pos_iff.mpr hne
    walk_at "go"
    refine ⟨p, _, rfl, .inl (sqL e2), ?_⟩
    rw [List.length_map]
    walk_at "go"
    refine r_take (size := (s.names.length : Int)) J2.bx_ (fun d3 H3 h03 h13 hB3 b3 => ?_) (by omega) (by omega) (by omega)
    obtain ⟨d3, rfl⟩ := Int.eq_ofNat_of_zero_le h03
    have J3 := J2.but b3 hB3
    have npb : p ≠ bx := hJ.bx_.ne np
    have e3 := b3 _ _ npb e2
    have l3 : d3 < s.names.length := by omega
    refine r_ixL (sqL e3) (v := .str s.names[d3]) (atI_nat (by rw [List.getElem?_map, List.getElem?_eq_getElem l3]; rfl)) ?_
    have hx := List.getElem_mem l3
    generalize s.names[d3] = x at hx ⊢
    walk_at "go"
    refine r_take J3.bx_ (fun d4 H4 h04 h14 hB4 b4 => ?_) (by omega)
    obtain ⟨r, rfl⟩ := Int.eq_ofNat_of_zero_le h04
    have J4 := J3.but b4 hB4
    walk_at "go"
    refine ⟨_, _, rfl, ?_⟩
    walk_at "go"
    refine r_take J4.bx_ (fun d5 H5 h05 h15 hB5 b5 => ?_) (by omega)
    obtain ⟨c, rfl⟩ := Int.eq_ofNat_of_zero_le h05
    have J5 := J4.but b5 hB5
    walk_at "go"
    refine r_take J5.bx_ (fun d6 H6 h06 h16 hB6 b6 => ?_) (by omega)
    have J6 := J5.but b6 hB6
    walk_at "go"
    refine ⟨_, _, rfl, ?_⟩
    walk_at "go"
    refine ite2 (fun e0 => ?_) (fun e0 => ?_)
    · refine no_fld J6.rm (m := "share") (by decide +kernel) (by decide +kernel) (by decide +kernel) (by decide +kernel) fun dx fs eo nf => ?_
      walk_at "go"
      refine ⟨k.o, dx, fs, rfl, eo, nf, ?_⟩
      walk_at "go"
      refine ⟨k, s, rfl, J6.rm, sm, fun H7 mv => ?_⟩
      have J7 := J6.rooms mv
      obtain ⟨sn, sc, sl⟩ := share_names ok
      walk_at "go"
      refine ⟨.int (s.share.2 : Nat), _, rfl, .inl (shq_int (by omega)), ?_⟩
      walk_at "go"
      refine ⟨{ m with x := fun b => own k s.share.1 b ∨ b = bx }, s, rfl, J7.md, ok, six, c64, fun H8 mm => ?_⟩
      have J8 := J7.model mm
      walk_at "go"
      refine ⟨.int (s.share.2 : Nat), _, rfl, .inl (shq_int (by omega)), ?_⟩
      walk_at "go"
      rw [decide_eq_true rfl]
      exact q k { m with x := fun b => own k s.share.1 b ∨ b = bx } _ H8 rfl rfl sn (by rw [sc]) ⟨J8.mono (by omega), sm.of sn (by rw [sc]), le.told (by rw [show s.share.1.cells = s.cells from sc]; exact (R.share_ok ok).2 ▸ (by rw [sc]))⟩
    · walk_at "go"
      refine ite2 (fun e1 => ?_) (fun e1 => ?_)
      · refine no_fld J6.rm (m := "read_cell") (by decide +kernel) (by decide +kernel) (by decide +kernel) (by decide +kernel) fun dx fs eo nf => ?_
        walk_at "go"
        refine ⟨k.o, dx, fs, rfl, eo, nf, ?_⟩
        walk_at "go"
        refine ⟨k, s, x, r, c, rfl, J6.rm, sm, hx, by omega, by omega, fun k7 H7 mv => ?_⟩
        have J7 := J6.rooms mv
        walk_at "go"
        refine ⟨{ m with x := fun b => own k7 (R.read s x r) b ∨ b = bx }, s, x, r, c, rfl, J7.md, ok, six, c64, hx, by omega, by omega, fun m8 H8 mm => ?_⟩
        have J8 := J7.model mm
        obtain ⟨tr, lr⟩ := read_told (r := r) ok hx (by omega)
        walk_at "go"
        rw [decide_eq_true rfl]
        exact q k7 m8 _ H8 mv.oo mm.dd (names_told tr) lr ⟨J8.mono (by omega), sm.of (names_told tr) lr, le.told tr⟩
      · walk_at "go"
        refine ⟨m, s, used s.gs, none, x, r, rfl, J6.md, ok, fun _ h => h, hx, by omega, fun p7 H7 np7 s7 ep7 => ?_⟩
        have J7 := J6.same s7
        obtain ⟨l8, g, hg, hw⟩ := plc_told ok hx (r := r) (by omega)
        have lw : c < (words s.cells (plc s x r)).length := by rw [l8]; omega
        walk_at "go"
        refine r_ixL (sqL ep7) (v := .int ((words s.cells (plc s x r)).getD c 0 : Nat)) (atI_nat (nv_get lw)) ?_
        have wl : (words s.cells (plc s x r)).getD c 0 ≤ 4095 := by
          refine le g hg _ hw _ ?_
          rw [List.getD_eq_getElem?_getD, List.getElem?_eq_getElem lw]
          exact List.getElem_mem lw
        generalize (words s.cells (plc s x r)).getD c 0 = bf at wl ⊢
        walk_at "go"
        refine newLB fun la H8 n8 g8 s8 e8 => ?_
        have J8 := J7.same s8
        have nlb : la ≠ bx := J7.bx_.ne n8
        walk_at "go"
        refine r_take J8.bx_ (fun d9 H9 h09 h19 hB9 b9 => ?_) (by omega)
        have J9 := J8.but b9 hB9
        have e9 := b9 _ _ nlb e8
        obtain ⟨w1, hw1, wl1⟩ : ∃ w : Nat, atI [V.int (bf : Nat), .int 1, .int 7, .int 0] d9 = some (.int w) ∧ w ≤ 4095 := by
          obtain rfl | rfl | rfl | rfl : d9 = 0 ∨ d9 = 1 ∨ d9 = 2 ∨ d9 = 3 := by omega
          · exact ⟨bf, rfl, wl⟩
          · exact ⟨1, rfl, by omega⟩
          · exact ⟨7, rfl, by omega⟩
          · exact ⟨0, rfl, by omega⟩
        refine r_ixL (sqL e9) (v := .int w1) hw1 ?_
        walk_at "go"
        refine newLB fun lb H10 n10 g10 s10 e10 => ?_
        walk_at "go"
        refine newLB fun lc H11 n11 g11 s11 e11 => ?_
        walk_at "go"
        obtain ⟨j, hj, j1⟩ : ∃ j : Nat, (if decide (V.int d6 = V.int 2) = true then (1 : Int) else 0) = (j : Nat) ∧ j ≤ 1 := by
          cases decide (V.int d6 = V.int 2) with
          | true => exact ⟨1, rfl, by omega⟩
          | false => exact ⟨0, rfl, by omega⟩
        refine .inr ⟨_, rfl, ?_⟩
        rw [hj]
        refine ⟨lc, j, [.int (bf : Nat)], rfl, rfl, e11, by omega, by omega, by rw [sizeLine_eq]; simp; omega, fun p12 n12 => ?_⟩
        have s12 := same_upd (o := .lst (List.replicate (Int.toNat j) [V.int (bf : Nat)]).flatten) n12
        have e12 : upd H11 p12 (.lst (List.replicate (Int.toNat j) [V.int (bf : Nat)]).flatten) p12 = some (.lst (List.replicate j (.int (bf : Nat)))) := by rw [upd_same, Int.toNat_natCast]; exact congrArg (fun l => some (HO.lst l)) flat_rep
        generalize upd H11 p12 (.lst (List.replicate (Int.toNat j) [V.int (bf : Nat)]).flatten) = H12 at s12 e12 ⊢
        refine r_cat (s12 _ _ (s11 _ _ e10)) e12 (fun p13 H13 n13 s13 e13 => ?_) (by rw [List.length_replicate]; simp; omega)
        have J10 := J9.same s10
        have J12 := (J10.same s11).same s12
        have J13 := J12.same s13
        have hv : ∀ v ∈ [V.int (w1 : Nat)] ++ List.replicate j (V.int (bf : Nat)), ∃ w : Nat, v = .int w ∧ w ≤ 4095 := fun v hv => by
          rcases List.mem_append.mp hv with z | z
          · exact ⟨w1, List.mem_singleton.mp z, wl1⟩
          · exact ⟨bf, List.eq_of_mem_replicate z, wl⟩
        generalize [V.int (w1 : Nat)] ++ List.replicate j (V.int (bf : Nat)) = xs at e13 hv
        have z0 : h0 p13 = none := J12.old n13
        have Jh := (J13.mono (n' := n + 5) (by omega)).hold e13 (J12.md.none n13)
        refine ⟨p13, rfl, ⟨_, sqL e13⟩, for_list (K := K) (a := p13) (xs := xs) (fun i σ G => ∃ k' m' s' x10, σ = [some (.ref bx), some (.ref k.o), some (.ref m.d), some (.ref p), some (.str x), some (.int r), some (.int c), some (.int d6), some (.int bf), some (.ref la), x10] ∧ k'.o = k.o ∧ m'.d = m.d ∧ s'.names = s.names ∧ s'.cells.length = s.cells.length ∧ Jn A G k' m' s' bx (n + 5) (upd h0 p13 (.lst xs))) ⟨k, m, s, _, rfl, rfl, rfl, rfl, rfl, Jh, sm, le⟩ (fun i σ G _ h => ?_) ?_ ?_⟩
        · obtain ⟨k', m', s', x10, _, _, _, _, _, hJ', _, _⟩ := h
          exact sqL (hJ'.kp _ _ upd_same)
        · rintro i y σ G hy ⟨k', m', s', x10, rfl, ko, md, nm, cl, hJ', sm', le'⟩
          obtain ⟨wv, rfl, wvl⟩ := hv y (List.mem_of_getElem? hy)
          have ok' := hJ'.rm.ok
          have hx' : x ∈ s'.names := by rw [nm]; exact hx
          walk_at "go"
          refine ⟨m', s', x, r, c, wv, by rw [md]; rfl, hJ'.md, ok', sm'.six, sm'.c64, hx', by omega, by omega, fun m1 G1 mm => ?_⟩
          have K1 := hJ'.model mm
          refine no_fld K1.rm (m := "write_cell") (by decide +kernel) (by decide +kernel) (by decide +kernel) (by decide +kernel) fun dx fs eo nf => ?_
          walk_at "go"
          refine ⟨k.o, dx, fs, rfl, by rw [← ko]; exact eo, nf, ?_⟩
          walk_at "go"
          refine ⟨k', s', x, r, c, wv, by rw [ko], K1.rm, sm', hx', by omega, by omega, wvl, fun k2 G2 mv => ?_⟩
          have K2 := K1.rooms mv
          have nm2 := write_names (c := c) (w := wv) ok' hx' (r := r) (by omega)
          have cl2 := write_len (c := c) (w := wv) ok' hx' (r := r) (by omega)
          have sm2 := sm'.of nm2 cl2
          have le2 := le'.write (c := c) (w := wv) ok' hx' (r := r) (by omega) wvl
          have ko2 : k2.o = k.o := mv.oo.trans ko
          have md2 : m1.d = m.d := mm.dd.trans md
          generalize hs2 : s'.write x r c wv = s2 at K2 nm2 cl2 sm2 le2
          walk_at "go"
          refine ⟨k2, s2, by rw [ko2]; rfl, K2.rm, sm2, fun pa G3 s3 da => ?_⟩
          have K3 := K2.same s3
          refine r_nil ⟨.ref pa, _, rfl, .inl (shq_all K2.rm.ok sm2 le2 da), ?_⟩
          walk_at "go"
          refine ⟨{ m1 with x := fun b => own k2 s2 b ∨ b = bx }, s2, by rw [show ({ m1 with x := fun b => own k2 s2 b ∨ b = bx } : Ms).d = m.d from md2]; rfl, K3.md, K2.rm.ok, sm2.six, sm2.c64, fun pt G4 s4 dt => ?_⟩
          have K4 := K3.same s4
          refine r_nil ⟨.ref pt, _, rfl, .inl (shq_all K2.rm.ok sm2 le2 dt), ?_⟩
          walk_at "go"
          rw [decide_eq_true rfl]
          walk_at "go"
          exact ⟨k2, { m1 with x := fun b => own k2 s2 b ∨ b = bx }, s2, _, rfl, ko2, md2, nm2.trans nm, cl2.trans cl, K4, sm2, le2⟩
        · rintro σ G ⟨k', m', s', x10, rfl, ko, md, nm, cl, hJ', sm', le'⟩
          walk_at "go"
          exact q k' m' s' G ko md nm cl ⟨hJ'.weak z0, sm', le'⟩
end
end K17

namespace K17
open PySem PySem.Spec PyProof.Rows L2 Bk Rm


def spLaw (K : PySem.W.Frag) : Sp := fun vs H Q _ => ∃ (a : Addr) (ns : List Int), vs = [.ref a] ∧ SqL K H a (ns.map V.int) ∧ ns.length ≤ 63 ∧ ∀ H', Q (.bl true) H'
theorem used_come {gs : Gs} {x : Str} {rows : List (List Nat)} : used (gs ++ [(x, rows.map Rm.placeOf)]) = used gs := funext fun n => by
  unfold used
  rw [List.any_append]
  have : (rows.map Rm.placeOf).any (isAt n) = false := by
    rw [List.any_eq_false]
    intro p hp
    obtain ⟨ws, _, rfl⟩ := List.mem_map.mp hp
    unfold Rm.placeOf
    split <;> exact fun z => nomatch z
  show (_ || ((rows.map Rm.placeOf).any (isAt n) || false)) = _
  rw [this, Bool.or_false, Bool.or_false]
theorem Le.come {s : R} (h : Le s) (ok : s.Ok) {x : Str} {rows : List (List Nat)} (r : RowsOk rows) (hx : x ∉ s.names) : Le { s with gs := s.gs ++ [(x, rows.map Rm.placeOf)] } := by
  unfold Le
  show ∀ g ∈ Rm.told s.cells (s.gs ++ [(x, rows.map Rm.placeOf)]), _
  rw [(R.come_ok ok r.l8 r.e8 (getG_none.mpr hx)).2]
  intro g hg
  rcases List.mem_append.mp hg with z | z
  · exact h g z
  · rw [List.mem_singleton.mp z]
    exact r.le
section
variable {P : Program} {w : World} {K : PySem.W.Frag} {mg : Str → Option Value} {base : Heap} {A : Ad}
theorem ok_law {f : Addr} {fd : FuncData} (F : Fun K "law" "law" s_law f fd) (T : Txt K mg A) (c_cell_L : CalD P w K mg base CX0 1 "_law_cell" (Bk.spCell K) []) (c_box_L : CalD P w K mg base CX0 1 "_law_box" spBox []) (c_take_L : CalD P w K mg base CX0 1 "_law_take" spTake []) (c_names_L : CalD P w K mg base CX0 2 "_law_names" spNamesN []) (c_model_L : CalD P w K mg base CX0 1 "_law_model" spModel []) (c_comes_L : CalD P w K mg base CX0 1 "_law_comes" (spMComes A) []) (c_alike_rooms_L : CalD P w K mg base CX0 2 "_law_alike_rooms" (spAlike A) []) (c_shared_L : CalD P w K mg base CX0 2 "_law_shared" spMShared []) (c_read_L : CalD P w K mg base CX0 4 "_law_read" spMRead []) (c_told_L : CalD P w K mg base CX0 2 "_law_told" (spTold K) []) (c_asked_L : CalD P w K mg base CX0 7 "_law_asked" (spAsked K A) [])
    (c_Rooms_init : CalC P w K mg base (L2.CX P w) 5 A.CR "Rooms" (spInit A)) (c_Rooms_come : CalM P w K mg base (L2.CX P w) 5 A.CR "come" (spCome A)) (c_Rooms_share : CalM P w K mg base (L2.CX P w) 7 A.CR "share" (spShare A)) (c_Rooms_read_cell : CalM P w K mg base (L2.CX P w) 9 A.CR "read_cell" (spRead A)) (c_deed_L : CalG P w K mg base CX0 10 "_law_deed" (spDeed K A)) : FnG P w K mg base CX0 11 f fd ["_law_script"] (spLaw K) := by
  refine fun_okG F sc_law (fun vs H Q E h => ?_) (fun cdv A' outer s H vs Q E ga hr h => have hu65 := units65 hr; have hu64 := hr.units; have hu := units1 hr; ⟨_, (pss_cons (ps_for PassesOwn.never rfl (pi_range1 (by rfl) T.m_range (pa_cons (pe_callB (call_max2 rfl) (by rfl) T.m_max (by decide +kernel) (pa_cons pe_int (pa_cons (pe_callB (call_min2 rfl) (by rfl) T.m_min (by decide +kernel) (pa_cons pe_int (pa_cons (pe_callB call_len_seq (by rfl) T.m_len (by decide +kernel) (pa_cons (pv 0) pa_nil)) pa_nil))) pa_nil))) pa_nil)) (pg_name (i := 1) sc_law.nd rfl (.inl rfl))
      (pss_cons (ps_set (i := 2) sc_law.nd rfl (.inl rfl) (pe_cal c_box_L hr (by decide) (by rfl) (pa_cons (pe_cal c_cell_L hr (by decide) (by rfl) (pa_cons (pv 0) (pa_cons (pv 1) pa_nil))) pa_nil)))
    (pss_cons (ps_set (i := 3) sc_law.nd rfl (.inl rfl) (pe_op op_add pe_int (pe_cal c_take_L hr (by decide) (by rfl) (pa_cons (pv 2) (pa_cons pe_int pa_nil)))))
    (pss_cons (ps_par (i := 4) (j := 5) rfl sc_law.nd rfl rfl (by decide) rfl rfl (pa_cons (pe_mk c_Rooms_init hr (by decide) (by rfl) psY (pa_cons (pv 3) pa_nil)) (pa_cons (pe_cal c_model_L hr (by decide) (by rfl) (pa_cons (pv 3) pa_nil)) pa_nil)) (by rfl))
    (pss_cons (ps_for PassesOwn.never rfl (pi_list (pe_cal c_names_L hr (by decide) (by rfl) (pa_cons (pv 2) (pa_cons (pe_op op_add pe_int (pe_cal c_take_L hr (by decide) (by rfl) (pa_cons (pv 2) (pa_cons pe_int pa_nil)))) pa_nil)))) (pg_name (i := 6) sc_law.nd rfl (.inl rfl))
      (pss_cons (ps_set (i := 7) sc_law.nd rfl (.inl rfl) (pe_cal c_alike_rooms_L hr (by decide) (by rfl) (pa_cons (pv 2) pa_nil)))
    (pss_cons (ps_expr (pe_mth (pv 4) T.cl_Rooms c_Rooms_come hr (by decide) psY (pa_cons (pv 6) (pa_cons (pv 7) pa_nil))))
    (pss_cons (ps_expr (pe_cal c_comes_L hr (by decide) (by rfl) (pa_cons (pv 5) (pa_cons (pv 6) (pa_cons (pv 7) pa_nil)))))
    (pss_one (ps_for PassesOwn.never rfl (pi_range1 (by rfl) T.m_range (pa_cons pe_int pa_nil)) (pg_name (i := 8) sc_law.nd rfl (.inl rfl))
      (pss_cons (ps_expr (pe_mth (pv 4) T.cl_Rooms c_Rooms_read_cell hr (by decide) psY (pa_cons (pv 6) (pa_cons (pv 8) (pa_cons pe_int pa_nil)))))
    (pss_one (ps_expr (pe_cal c_read_L hr (by decide) (by rfl) (pa_cons (pv 5) (pa_cons (pv 6) (pa_cons (pv 8) (pa_cons pe_int pa_nil))))))))))))))
    (pss_cons (ps_if (PW.pt (pw_or (pt_cmpR op_ne (pe_callB (call_repr_any ga hr) (by rfl) T.m_repr (by decide +kernel) (pa_cons (pe_mth0 (pv 4) T.cl_Rooms c_Rooms_share hr (by decide) psY) pa_nil)) (pe_callB (call_repr_any ga hr) (by rfl) T.m_repr (by decide +kernel) (pa_cons (pe_cal c_shared_L hr (by decide) (by rfl) (pa_cons (pv 5) pa_nil)) pa_nil)) (nomark _)) (pw_or1 (pt_cmpR op_ne (pe_mth0 (pv 4) T.cl_Rooms c_Rooms_share hr (by decide) psY) pe_int (nomark _))))) (pss_one (ps_ret pe_bl)) pss_nil)
    (pss_one (ps_for PassesOwn.never rfl (pi_range1 (by rfl) T.m_range (pa_cons (pe_op op_add pe_int (pe_cal c_take_L hr (by decide) (by rfl) (pa_cons (pv 2) (pa_cons pe_int pa_nil)))) pa_nil)) (pg_name (i := 9) sc_law.nd rfl (.inl rfl))
      (pss_one (ps_if (PW.pt (pw_or (pt_not (pt_val (pe_calG c_deed_L ga hr (by decide) (by rfl) (pa_cons (pv 2) (pa_cons (pv 4) (pa_cons (pv 5) pa_nil)))))) (pw_or1 (pt_cmpR op_ne (pe_callB (call_repr_any ga hr) (by rfl) T.m_repr (by decide +kernel) (pa_cons (pe_cal c_asked_L hr (by decide) (by rfl) (pa_cons (pv 4) pa_nil)) pa_nil)) (pe_callB (call_repr_any ga hr) (by rfl) T.m_repr (by decide +kernel) (pa_cons (pe_cal c_told_L hr (by decide) (by rfl) (pa_cons (pv 5) pa_nil)) pa_nil)) (nomark _))))) (pss_one (ps_ret pe_bl)) pss_nil))))))))))
    (pss_one (ps_ret pe_bl))), ?_⟩)
  · obtain ⟨a, ns, rfl, _⟩ := h
    rfl
  · obtain ⟨a, ns, rfl, hS, hl, q⟩ := h
    walk_at "go"
    refine ⟨a, _, rfl, .inl hS, ?_⟩
    walk_at "go"
    refine ⟨_, _, rfl, ?_⟩
    walk_at "go"
    refine ⟨_, _, rfl, ?_⟩
    walk_at "go"
    have hlm : ((ns.map V.int).length : Int) = ns.length := by rw [List.length_map]
    rw [hlm]
    refine ⟨_, rfl, by split <;> split <;> omega, by split <;> split <;> omega, ?_⟩
    generalize hN : (if (if (ns.length : Int) < 4 then (ns.length : Int) else 4) > 2 then (if (ns.length : Int) < 4 then (ns.length : Int) else 4) else 2) = N
    have hN2 : N ≤ 8 := by rw [← hN]; split <;> split <;> omega
    refine for_range (fun i σ H' => Same H H' ∧ ∃ x1 x2 x3 x4 x5 x6 x7 x8 x9, σ = [some (.ref a), x1, x2, x3, x4, x5, x6, x7, x8, x9]) ⟨Same.refl _, none, none, none, none, none, none, none, none, none, rfl⟩ ?_ ?_
    · rintro i σ H0 hi ⟨sm0, x1, x2, x3, x4, x5, x6, x7, x8, x9, rfl⟩
      rw [Int.zero_add]
      walk_at "go"
      refine ⟨a, ns, i, rfl, sm0.seq hS, by omega, fun c => ?_⟩
      walk_at "go"
      refine ⟨c, rfl, fun bx H1 nbx s1 hB1 => ?_⟩
      walk_at "go"
      refine r_take hB1 (fun d H2 h0 h1 hB2 b2 => ?_) (by omega)
      obtain ⟨d, rfl⟩ := Int.eq_ofNat_of_zero_le h0
      walk_at "go"
      intro x dx nx ndx nex
      refine ⟨x, dx, 1 + d, rfl, by omega, by omega, upd_same, fun k H3 ko b3 fr3 hA => ⟨rfl, ?_⟩⟩
      subst ko
      have n0 : ∀ {b}, H2 b = none → H0 b = none := fun {b} z => by
        cases w : H0 b with
        | none => rfl
        | some u =>
          have e1 := s1 _ _ w
          rw [b2 _ _ (fun y => by rw [y, nbx] at w; exact nomatch w) e1] at z
          exact nomatch z
      have bxk : bx ≠ k.o := (hB2.ne nx).symm
      have bxd : bx ≠ dx := (hB2.ne ndx).symm
      have kp2 : ∀ b u, b ≠ bx → H1 b = some u → H3 b = some u := fun b u nb eb => by
        have e2 := b2 _ _ nb eb
        refine b3 _ _ (ne_of_none e2 nx) ?_
        rw [upd_ne (ne_of_none e2 nx), upd_ne (ne_of_none e2 ndx)]
        exact e2
      have hB3 : Box bx 1 H3 := by
        obtain ⟨y1, y2, y3, eb, rb⟩ := hB2
        refine ⟨y1, y2, y3, b3 _ _ bxk ?_, rb⟩
        rw [upd_ne bxk, upd_ne bxd]
        exact eb
      have of0 : ∀ b, own k (r0 (1 + d)) b → H2 b = none ∧ b ≠ bx := fun b o => by
        rcases fr3 b o with z | z
        · rw [z]
          exact ⟨nx, bxk.symm⟩
        · have ne1 : b ≠ k.o := fun y => by rw [y, upd_same] at z; exact nomatch z
          rw [upd_ne ne1] at z
          have ne2 : b ≠ dx := fun y => by rw [y, upd_same] at z; exact nomatch z
          rw [upd_ne ne2] at z
          exact ⟨z, hB2.ne z⟩
      have kp3 : ∀ b u, H0 b = some u → H3 b = some u := fun b u z => by
        have nb : b ≠ bx := fun y => by rw [y, nbx] at z; exact nomatch z
        exact kp2 _ _ nb (s1 _ _ z)
      have z3 : ∀ {b}, H3 b = none → H0 b = none := fun {b} z => by
        cases w : H0 b with
        | none => rfl
        | some u => rw [kp3 b u w] at z; exact nomatch z
      have m1d : ((1 : Int) + (d : Nat)) = ((1 + d : Nat) : Int) := by omega
      rw [m1d]
      walk_at "go"
      refine ⟨1 + d, fun b => own k (r0 (1 + d)) b ∨ b = bx, rfl, fun b w => ?_, by omega, by omega, fun m H4 s4 hM nM mx => ?_⟩
      · rcases w with w | w
        · exact (hA.has w).imp fun u z => z.1
        · obtain ⟨_, _, _, eb, _⟩ := hB3
          exact ⟨_, w ▸ eb⟩
      have J4 : J2 A H4 k m (r0 (1 + d)) (r0 (1 + d)) bx 1 H0 := by
        have kp4 : ∀ b u, H0 b = some u → H4 b = some u := fun b u z => s4 _ _ (kp3 b u z)
        refine ⟨hA.same s4, hM, mx, hB3.same s4, fun o => (of0 _ o).2 rfl, kp4, fun b w => ?_⟩
        rcases nM b w with (z | z) | z
        · exact n0 (of0 b z).1
        · rw [z]; exact nbx
        · exact z3 z
      have sm4 : Sm (r0 (1 + d)) := ⟨Nat.zero_le _, fun _ z => (nomatch z), by show (List.replicate (1 + d) zeros).length ≤ 64; rw [List.length_replicate]; omega⟩
      have le4 : Le (r0 (1 + d)) := fun _ z => nomatch z
      walk_at "go"
      refine ⟨_, _, rfl, ?_⟩
      walk_at "go"
      refine r_take J4.bx_ (fun d5 H5 h05 h15 hB5 b5 => ?_) (by omega)
      obtain ⟨d5, rfl⟩ := Int.eq_ofNat_of_zero_le h05
      have J5 := J4.but b5 hB5
      walk_at "go"
      rw [show ((1 : Int) + (d5 : Nat)) = ((1 + d5 : Nat) : Int) by omega]
      refine ⟨bx, 2, 1 + d5, rfl, by omega, J5.bx_, by omega, fun D H6 N nD b6 hB6 eD lN No Nd => ?_⟩
      have J6 := J5.but b6 hB6
      have zD : H0 D = none := J5.old nD
      have Jh := J6.hold eD (fun w => by
        rcases w with w | w | w | ⟨y, hy, w⟩ | ⟨j, hj, hu, w⟩ | w
        · exact J5.md.none nD (.inl w)
        · exact J5.md.none nD (.inr (.inl w))
        · exact J5.md.none nD (.inr (.inr (.inl w)))
        · exact nomatch hy
        · exact nomatch hu
        · exact J5.md.none nD (.inr (.inr (.inr (.inr (.inr w))))))
      refine ⟨D, rfl, ⟨_, sqL eD⟩, for_list (K := K) (a := D) (xs := N.map V.str) (fun j σ G => ∃ k' m' s' y6 y7 y8, σ = [some (.ref a), some (.int i), some (.ref bx), some (.int (1 + d : Nat)), some (.ref k.o), some (.ref m.d), y6, y7, y8, x9] ∧ k'.o = k.o ∧ m'.d = m.d ∧ s'.names = N.take j ∧ s'.cells.length = 1 + d ∧ Jn A G k' m' s' bx (12 + 16 * j) (upd H0 D (.lst (N.map V.str)))) ⟨k, m, r0 (1 + d), _, _, _, rfl, rfl, rfl, rfl, by show (List.replicate (1 + d) zeros).length = _; rw [List.length_replicate], Jh, sm4, le4⟩ (fun j σ G _ h => ?_) ?_ ?_⟩
      · obtain ⟨k', m', s', y6, y7, y8, _, _, _, _, _, hJ', _, _⟩ := h
        exact sqL (hJ'.kp _ _ upd_same)
      · rintro j y σ G hy ⟨k', m', s', y6, y7, y8, rfl, ko, md, nm, cl, hJ', sm', le'⟩
        rw [List.getElem?_map] at hy
        cases ny : N[j]? with
        | none => rw [ny] at hy; exact nomatch hy
        | some x =>
          rw [ny] at hy
          obtain rfl := Option.some.inj hy
          have lj : j < N.length := (List.getElem?_eq_some_iff.mp ny).1
          have tk : N.take (j + 1) = N.take j ++ [x] := by rw [List.take_add_one, ny]; rfl
          have xN : x ∈ N := List.mem_of_getElem? ny
          have xn : x ∉ s'.names := by
            rw [nm]
            intro z
            have nd2 : (N.take (j + 1)).Nodup := List.Pairwise.sublist (List.take_sublist _ _) Nd
            rw [tk, List.nodup_append] at nd2
            exact nd2.2.2 x z x (List.mem_singleton.mpr rfl) rfl
          have l6 : s'.names.length < 6 := by rw [nm, List.length_take]; omega
          walk_at "go"
          refine ⟨bx, 12 + 16 * j, rfl, hJ'.bx_, by omega, fun a' rows G1 b1 hB1 h8 ok8 => ?_⟩
          have K1 := hJ'.but b1 hB1
          refine no_fld K1.rm (m := "come") (by decide +kernel) (by decide +kernel) (by decide +kernel) (by decide +kernel) fun dx1 fs1 eo1 nf1 => ?_
          walk_at "go"
          refine ⟨k.o, dx1, fs1, rfl, by rw [← ko]; exact eo1, nf1, ?_⟩
          walk_at "go"
          refine ⟨k', s', x, a', rows, by rw [ko], K1.rm, No x xN, xn, l6, h8, ok8, fun k2 G2 mv => ?_⟩
          have K2 := K1.rooms mv
          walk_at "go"
          refine ⟨{ m' with x := fun b => own k2 { s' with gs := s'.gs ++ [(x, rows.map Rm.placeOf)] } b ∨ b = bx }, s', used s'.gs, x, a', rows, by rw [show ({ m' with x := fun b => own k2 { s' with gs := s'.gs ++ [(x, rows.map Rm.placeOf)] } b ∨ b = bx } : Ms).d = m.d from md]; rfl, K2.md, xn, l6, h8.keep (mv.ts K1.rm), ok8, fun m3 G3 mm => ?_⟩
          have mm : Mm G2 { m' with x := fun b => own k2 { s' with gs := s'.gs ++ [(x, rows.map Rm.placeOf)] } b ∨ b = bx } s' (used s'.gs) G3 m3 { s' with gs := s'.gs ++ [(x, rows.map Rm.placeOf)] } (used (R.gs { s' with gs := s'.gs ++ [(x, rows.map Rm.placeOf)] })) := by
            show Mm _ _ _ _ _ _ _ (used (s'.gs ++ [(x, rows.map Rm.placeOf)]))
            rw [used_come]
            exact mm
          have K3 := K2.model mm
          have nm3 : R.names { s' with gs := s'.gs ++ [(x, rows.map Rm.placeOf)] } = N.take (j + 1) := by rw [names_come, nm, tk]
          have sm3 : Sm { s' with gs := s'.gs ++ [(x, rows.map Rm.placeOf)] } := ⟨by rw [nm3, List.length_take]; omega, fun y hy => No y (List.mem_of_mem_take (nm3 ▸ hy)), sm'.c64⟩
          have le3 := le'.come K1.rm.ok ok8 xn
          have cl3 : ({ s' with gs := s'.gs ++ [(x, rows.map Rm.placeOf)] } : R).cells.length = 1 + d := cl
          have ko3 : k2.o = k.o := mv.oo.trans ko
          have md3 : m3.d = m.d := mm.dd.trans md
          generalize ({ s' with gs := s'.gs ++ [(x, rows.map Rm.placeOf)] } : R) = s3 at K3 nm3 sm3 le3 cl3
          have x3 : x ∈ N.take (j + 1) := by rw [tk]; exact List.mem_append.mpr (.inr (List.mem_singleton.mpr rfl))
          walk_at "go"
          refine ⟨8, rfl, by decide, by decide, ?_⟩
          refine for_it walk_range (fun u σ G => ∃ k' m' s' y8, σ = [some (.ref a), some (.int i), some (.ref bx), some (.int (1 + d : Nat)), some (.ref k.o), some (.ref m.d), some (.str x), some (.ref a'), y8, x9] ∧ k'.o = k.o ∧ m'.d = m.d ∧ s'.names = N.take (j + 1) ∧ s'.cells.length = 1 + d ∧ Jn A G k' m' s' bx (12 + 16 * j + 16) (upd H0 D (.lst (N.map V.str)))) ⟨k2, m3, s3, _, rfl, ko3, md3, nm3, cl3, K3, sm3, le3⟩ (fun _ _ _ _ _ => trivial) (fun u yv σ G G2 hu hP hY => ?_) (fun σ G hP => ?_)
          · obtain ⟨k', m', s', y8, rfl, ko, md, nm, cl, hJ', sm', le'⟩ := hP
            obtain ⟨rfl, rfl⟩ := hY
            have hu : u < 8 := hu
            show gName 8 (V.int (0 + (u : Int))) _ _ _
            rw [Int.zero_add]
            have hx' : x ∈ s'.names := by rw [nm]; exact x3
            refine no_fld hJ'.rm (m := "read_cell") (by decide +kernel) (by decide +kernel) (by decide +kernel) (by decide +kernel) fun dx1 fs1 eo1 nf1 => ?_
            walk_at "go"
            refine ⟨k.o, dx1, fs1, rfl, by rw [← ko]; exact eo1, nf1, ?_⟩
            walk_at "go"
            refine ⟨k', s', x, u, 0, by rw [ko]; rfl, hJ'.rm, sm', hx', hu, by decide, fun k4 G4 mv => ?_⟩
            have K4 := hJ'.rooms mv
            obtain ⟨tr, lr⟩ := read_told (r := u) hJ'.rm.ok hx' hu
            walk_at "go"
            refine ⟨{ m' with x := fun b => own k4 (R.read s' x u) b ∨ b = bx }, s', x, u, 0, by rw [show ({ m' with x := fun b => own k4 (R.read s' x u) b ∨ b = bx } : Ms).d = m.d from md]; rfl, K4.md, hJ'.rm.ok, sm'.six, sm'.c64, hx', hu, by decide, fun m5 G5 mm => ?_⟩
            have K5 := K4.model mm
            walk_at "go"
            exact ⟨k4, m5, _, _, rfl, mv.oo.trans ko, mm.dd.trans md, (names_told tr).trans nm, lr.trans cl, K5, sm'.of (names_told tr) lr, le'.told tr⟩
          · obtain ⟨k', m', s', y8, rfl, ko, md, nm, cl, hJ', sm', le'⟩ := hP
            exact ⟨k', m', s', _, _, _, rfl, ko, md, nm, cl, by rw [show 12 + 16 * (j + 1) = 12 + 16 * j + 16 by omega]; exact hJ', sm', le'⟩
      · rintro σ G ⟨k', m', s', y6, y7, y8, rfl, ko, md, nm, cl, hJ', sm', le'⟩
        rw [List.length_map, List.take_length] at nm
        have hJ := hJ'.weak zD
        have ok' := hJ.rm.ok
        rw [List.length_map] at hJ
        have n76 : 12 + 16 * N.length ≤ 76 := by omega
        have hJ := hJ.mono n76
        have hne : s'.names ≠ [] := by
          rw [nm]
          intro z
          rw [z] at lN
          exact absurd lN (by simp; omega)
        refine no_fld hJ.rm (m := "share") (by decide +kernel) (by decide +kernel) (by decide +kernel) (by decide +kernel) fun dx1 fs1 eo1 nf1 => ?_
        walk_at "go"
        refine ⟨k.o, dx1, fs1, rfl, by rw [← ko]; exact eo1, nf1, ?_⟩
        walk_at "go"
        refine ⟨k', s', by rw [ko], hJ.rm, sm', fun G1 mv => ?_⟩
        have K1 := hJ.rooms mv
        obtain ⟨sn, sc, sl⟩ := share_names ok'
        have c64 := sm'.c64
        refine r_nil ⟨.int (s'.share.2 : Nat), _, rfl, .inl (shq_int (by omega)), ?_⟩
        walk_at "go"
        refine ⟨{ m' with x := fun b => own k' s'.share.1 b ∨ b = bx }, s', by rw [show ({ m' with x := fun b => own k' s'.share.1 b ∨ b = bx } : Ms).d = m.d from md]; rfl, K1.md, ok', sm'.six, c64, fun G2 mm => ?_⟩
        have K2 := K1.model mm
        refine r_nil ⟨.int (s'.share.2 : Nat), _, rfl, .inl (shq_int (by omega)), ?_⟩
        walk_at "go"
        rw [decide_eq_true rfl]
        walk_at "go"
        have tw := share_twice ok'
        have smS : Sm s'.share.1 := sm'.of sn (by rw [sc])
        have leS : Le s'.share.1 := le'.told (by rw [show s'.share.1.cells = s'.cells from sc]; exact (R.share_ok ok').2 ▸ (by rw [sc]))
        have okS := K2.rm.ok
        have neS : s'.share.1.names ≠ [] := by rw [sn]; exact hne
        have hk2 : mm.dd = mm.dd := rfl
        have md2 : ({ m' with x := fun b => own k' s'.share.1 b ∨ b = bx } : Ms).d = m.d := md
        generalize ({ m' with x := fun b => own k' s'.share.1 b ∨ b = bx } : Ms) = m2 at K2 md2
        generalize s'.share.1 = s2 at K2 tw smS leS okS neS
        refine no_fld K2.rm (m := "share") (by decide +kernel) (by decide +kernel) (by decide +kernel) (by decide +kernel) fun dx2 fs2 eo2 nf2 => ?_
        refine ⟨k.o, dx2, fs2, rfl, by rw [← ko]; exact eo2, nf2, ?_⟩
        walk_at "go"
        refine ⟨k', s2, by rw [ko], K2.rm, smS, fun G3 mv2 => ?_⟩
        rw [tw] at mv2
        rw [tw]
        have K3 := K2.rooms mv2
        walk_at "go"
        rw [show decide (V.int (((s2, 0) : R × Nat).2 : Nat) = V.int 0) = true from decide_eq_true rfl]
        walk_at "go"
        refine r_take K3.bx_ (fun d6 G4 h06 h16 hB4 b4 => ?_) (by omega)
        obtain ⟨d6, rfl⟩ := Int.eq_ofNat_of_zero_le h06
        have K4 := K3.but b4 hB4
        walk_at "go"
        refine ⟨8 + (d6 : Int), rfl, by omega, by omega, ?_⟩
        rw [show (8 + (d6 : Int)).toNat = 8 + d6 by omega]
        refine for_it walk_range (fun u σ G => ∃ k' m' s' y6 y7 y8 y9, σ = [some (.ref a), some (.int i), some (.ref bx), some (.int (1 + d : Nat)), some (.ref k.o), some (.ref m.d), y6, y7, y8, y9] ∧ k'.o = k.o ∧ m'.d = m.d ∧ s'.names ≠ [] ∧ Jn A G k' m' s' bx (77 + 5 * u) H0) ⟨k', { m2 with x := fun b => own k' s2 b ∨ b = bx }, s2, _, _, _, _, rfl, ko, md2, neS, K4, smS, leS⟩ (fun _ _ _ _ _ => trivial) (fun u yv σ G G5 hu hP hY => ?_) (fun σ G hP => ?_)
        · obtain ⟨k', m', s', y6, y7, y8, y9, rfl, ko, md, ne, hJ'⟩ := hP
          obtain ⟨rfl, rfl⟩ := hY
          show gName 9 (V.int (0 + (u : Int))) _ _ _
          rw [Int.zero_add]
          walk_at "go"
          refine ⟨k', m', s', bx, 77 + 5 * u, H0, by rw [ko, md]; rfl, hJ', ne, by omega, fun k2 m2 s2 G6 ko2 md2 nm2 cl2 hJ2 => ?_⟩
          have ko2 := ko2.trans ko
          have md2 := md2.trans md
          have J := hJ2.j
          walk_at "go"
          refine ⟨k2, s2, by rw [ko2]; rfl, J.rm, hJ2.sm, fun pa G7 s7 da => ?_⟩
          have J7 := J.same s7
          refine r_nil ⟨.ref pa, _, rfl, .inl (shq_all J.rm.ok hJ2.sm hJ2.le da), ?_⟩
          walk_at "go"
          refine ⟨m2, s2, by rw [md2]; rfl, J7.md, J.rm.ok, hJ2.sm.six, hJ2.sm.c64, fun pt G8 s8 dt => ?_⟩
          have J8 := J7.same s8
          refine r_nil ⟨.ref pt, _, rfl, .inl (shq_all J.rm.ok hJ2.sm hJ2.le dt), ?_⟩
          walk_at "go"
          rw [decide_eq_true rfl]
          walk_at "go"
          exact ⟨k2, m2, s2, _, _, _, _, rfl, ko2, md2, by rw [nm2]; exact ne, J8, hJ2.sm, hJ2.le⟩
        · obtain ⟨k', m', s', y6, y7, y8, y9, rfl, ko, md, ne, hJ'⟩ := hP
          refine ⟨fun b u eb => ?_, _, _, _, _, _, _, _, _, _, rfl⟩
          exact hJ'.j.kp b u (sm0 _ _ eb)
    · rintro σ H0 ⟨sm0, x1, x2, x3, x4, x5, x6, x7, x8, x9, rfl⟩
      walk_at "go"
      exact q _
end
end K17

namespace K17
open PySem PySem.Spec PyProof.Rows L2 Bk Rm
theorem all_mk {l : PySem.W.OpenLaw} {w : World} {K : PySem.W.Frag} {h : Heap} {mg : Str → Option Value} {fa C_GuestError C_Missing C_Barred C_NoNumber C_NoName C_NoWord C_NoImage C_Doubled C_NoGuest C_Full C_Rooms f_GuestError_init f_Missing_init f_Barred_init f_NoNumber_init f_NoName_init f_NoWord_init f_NoImage_init f_Doubled_init f_NoGuest_init f_Full_init f_is_whole f_is_word f_is_name f_all_within f_check_number f_check_word f_is_eight f_is_row f_Rooms_init f_Rooms_come f_Rooms_read_cell f_Rooms_write_cell f_Rooms_share f_Rooms_how_many f_Rooms_shared f_Rooms_names f_Rooms_in_use f_Rooms_way f_Rooms_words f_Rooms_lying f_Rooms_check_guest f_Rooms_words_at f_Rooms_brought f_Rooms_free_room f_Rooms_put f_places f_cell_L f_box_L f_take_L f_names_L f_model_L f_comes_L f_lying_L f_given_L f_words_L f_brought_L f_read_L f_write_L f_shared_L f_told_L f_asked_L f_alike_rooms_L f_deed_L f_law : Addr} (X : K.In h) (G : h.Ns mainGlobals mg) (hfa : mg "law" = some (.ref fa))
    {od_GuestError_init an_GuestError_init : Option Addr} {sl_GuestError_init : Array (Option Value)} {oc_GuestError_init kV_GuestError_init dc_GuestError_init pm_GuestError_init cd_GuestError_init ct_GuestError_init : Value}
    {od_Missing_init an_Missing_init : Option Addr} {sl_Missing_init : Array (Option Value)} {oc_Missing_init kV_Missing_init dc_Missing_init pm_Missing_init cd_Missing_init ct_Missing_init : Value}
    {od_Barred_init an_Barred_init : Option Addr} {sl_Barred_init : Array (Option Value)} {oc_Barred_init kV_Barred_init dc_Barred_init pm_Barred_init cd_Barred_init ct_Barred_init : Value}
    {od_NoNumber_init an_NoNumber_init : Option Addr} {sl_NoNumber_init : Array (Option Value)} {oc_NoNumber_init kV_NoNumber_init dc_NoNumber_init pm_NoNumber_init cd_NoNumber_init ct_NoNumber_init : Value}
    {od_NoName_init an_NoName_init : Option Addr} {sl_NoName_init : Array (Option Value)} {oc_NoName_init kV_NoName_init dc_NoName_init pm_NoName_init cd_NoName_init ct_NoName_init : Value}
    {od_NoWord_init an_NoWord_init : Option Addr} {sl_NoWord_init : Array (Option Value)} {oc_NoWord_init kV_NoWord_init dc_NoWord_init pm_NoWord_init cd_NoWord_init ct_NoWord_init : Value}
    {od_NoImage_init an_NoImage_init : Option Addr} {sl_NoImage_init : Array (Option Value)} {oc_NoImage_init kV_NoImage_init dc_NoImage_init pm_NoImage_init cd_NoImage_init ct_NoImage_init : Value}
    {od_Doubled_init an_Doubled_init : Option Addr} {sl_Doubled_init : Array (Option Value)} {oc_Doubled_init kV_Doubled_init dc_Doubled_init pm_Doubled_init cd_Doubled_init ct_Doubled_init : Value}
    {od_NoGuest_init an_NoGuest_init : Option Addr} {sl_NoGuest_init : Array (Option Value)} {oc_NoGuest_init kV_NoGuest_init dc_NoGuest_init pm_NoGuest_init cd_NoGuest_init ct_NoGuest_init : Value}
    {od_Full_init an_Full_init : Option Addr} {sl_Full_init : Array (Option Value)} {oc_Full_init kV_Full_init dc_Full_init pm_Full_init cd_Full_init ct_Full_init : Value}
    {od_is_whole an_is_whole : Option Addr} {sl_is_whole : Array (Option Value)} {oc_is_whole kV_is_whole dc_is_whole pm_is_whole cd_is_whole ct_is_whole : Value}
    {od_is_word an_is_word : Option Addr} {sl_is_word : Array (Option Value)} {oc_is_word kV_is_word dc_is_word pm_is_word cd_is_word ct_is_word : Value}
    {od_is_name an_is_name : Option Addr} {sl_is_name : Array (Option Value)} {oc_is_name kV_is_name dc_is_name pm_is_name cd_is_name ct_is_name : Value}
    {od_all_within an_all_within : Option Addr} {sl_all_within : Array (Option Value)} {oc_all_within kV_all_within dc_all_within pm_all_within cd_all_within ct_all_within : Value}
    {od_check_number an_check_number : Option Addr} {sl_check_number : Array (Option Value)} {oc_check_number kV_check_number dc_check_number pm_check_number cd_check_number ct_check_number : Value}
    {od_check_word an_check_word : Option Addr} {sl_check_word : Array (Option Value)} {oc_check_word kV_check_word dc_check_word pm_check_word cd_check_word ct_check_word : Value}
    {od_is_eight an_is_eight : Option Addr} {sl_is_eight : Array (Option Value)} {oc_is_eight kV_is_eight dc_is_eight pm_is_eight cd_is_eight ct_is_eight : Value}
    {od_is_row an_is_row : Option Addr} {sl_is_row : Array (Option Value)} {oc_is_row kV_is_row dc_is_row pm_is_row cd_is_row ct_is_row : Value}
    {od_Rooms_init an_Rooms_init : Option Addr} {sl_Rooms_init : Array (Option Value)} {oc_Rooms_init kV_Rooms_init dc_Rooms_init pm_Rooms_init cd_Rooms_init ct_Rooms_init : Value}
    {od_Rooms_come an_Rooms_come : Option Addr} {sl_Rooms_come : Array (Option Value)} {oc_Rooms_come kV_Rooms_come dc_Rooms_come pm_Rooms_come cd_Rooms_come ct_Rooms_come : Value}
    {od_Rooms_read_cell an_Rooms_read_cell : Option Addr} {sl_Rooms_read_cell : Array (Option Value)} {oc_Rooms_read_cell kV_Rooms_read_cell dc_Rooms_read_cell pm_Rooms_read_cell cd_Rooms_read_cell ct_Rooms_read_cell : Value}
    {od_Rooms_write_cell an_Rooms_write_cell : Option Addr} {sl_Rooms_write_cell : Array (Option Value)} {oc_Rooms_write_cell kV_Rooms_write_cell dc_Rooms_write_cell pm_Rooms_write_cell cd_Rooms_write_cell ct_Rooms_write_cell : Value}
    {od_Rooms_share an_Rooms_share : Option Addr} {sl_Rooms_share : Array (Option Value)} {oc_Rooms_share kV_Rooms_share dc_Rooms_share pm_Rooms_share cd_Rooms_share ct_Rooms_share : Value}
    {od_Rooms_how_many an_Rooms_how_many : Option Addr} {sl_Rooms_how_many : Array (Option Value)} {oc_Rooms_how_many kV_Rooms_how_many dc_Rooms_how_many pm_Rooms_how_many cd_Rooms_how_many ct_Rooms_how_many : Value}
    {od_Rooms_shared an_Rooms_shared : Option Addr} {sl_Rooms_shared : Array (Option Value)} {oc_Rooms_shared kV_Rooms_shared dc_Rooms_shared pm_Rooms_shared cd_Rooms_shared ct_Rooms_shared : Value}
    {od_Rooms_names an_Rooms_names : Option Addr} {sl_Rooms_names : Array (Option Value)} {oc_Rooms_names kV_Rooms_names dc_Rooms_names pm_Rooms_names cd_Rooms_names ct_Rooms_names : Value}
    {od_Rooms_in_use an_Rooms_in_use : Option Addr} {sl_Rooms_in_use : Array (Option Value)} {oc_Rooms_in_use kV_Rooms_in_use dc_Rooms_in_use pm_Rooms_in_use cd_Rooms_in_use ct_Rooms_in_use : Value}
    {od_Rooms_way an_Rooms_way : Option Addr} {sl_Rooms_way : Array (Option Value)} {oc_Rooms_way kV_Rooms_way dc_Rooms_way pm_Rooms_way cd_Rooms_way ct_Rooms_way : Value}
    {od_Rooms_words an_Rooms_words : Option Addr} {sl_Rooms_words : Array (Option Value)} {oc_Rooms_words kV_Rooms_words dc_Rooms_words pm_Rooms_words cd_Rooms_words ct_Rooms_words : Value}
    {od_Rooms_lying an_Rooms_lying : Option Addr} {sl_Rooms_lying : Array (Option Value)} {oc_Rooms_lying kV_Rooms_lying dc_Rooms_lying pm_Rooms_lying cd_Rooms_lying ct_Rooms_lying : Value}
    {od_Rooms_check_guest an_Rooms_check_guest : Option Addr} {sl_Rooms_check_guest : Array (Option Value)} {oc_Rooms_check_guest kV_Rooms_check_guest dc_Rooms_check_guest pm_Rooms_check_guest cd_Rooms_check_guest ct_Rooms_check_guest : Value}
    {od_Rooms_words_at an_Rooms_words_at : Option Addr} {sl_Rooms_words_at : Array (Option Value)} {oc_Rooms_words_at kV_Rooms_words_at dc_Rooms_words_at pm_Rooms_words_at cd_Rooms_words_at ct_Rooms_words_at : Value}
    {od_Rooms_brought an_Rooms_brought : Option Addr} {sl_Rooms_brought : Array (Option Value)} {oc_Rooms_brought kV_Rooms_brought dc_Rooms_brought pm_Rooms_brought cd_Rooms_brought ct_Rooms_brought : Value}
    {od_Rooms_free_room an_Rooms_free_room : Option Addr} {sl_Rooms_free_room : Array (Option Value)} {oc_Rooms_free_room kV_Rooms_free_room dc_Rooms_free_room pm_Rooms_free_room cd_Rooms_free_room ct_Rooms_free_room : Value}
    {od_Rooms_put an_Rooms_put : Option Addr} {sl_Rooms_put : Array (Option Value)} {oc_Rooms_put kV_Rooms_put dc_Rooms_put pm_Rooms_put cd_Rooms_put ct_Rooms_put : Value}
    {od_places an_places : Option Addr} {sl_places : Array (Option Value)} {oc_places kV_places dc_places pm_places cd_places ct_places : Value}
    {od_cell_L an_cell_L : Option Addr} {sl_cell_L : Array (Option Value)} {oc_cell_L kV_cell_L dc_cell_L pm_cell_L cd_cell_L ct_cell_L : Value}
    {od_box_L an_box_L : Option Addr} {sl_box_L : Array (Option Value)} {oc_box_L kV_box_L dc_box_L pm_box_L cd_box_L ct_box_L : Value}
    {od_take_L an_take_L : Option Addr} {sl_take_L : Array (Option Value)} {oc_take_L kV_take_L dc_take_L pm_take_L cd_take_L ct_take_L : Value}
    {od_names_L an_names_L : Option Addr} {sl_names_L : Array (Option Value)} {oc_names_L kV_names_L dc_names_L pm_names_L cd_names_L ct_names_L : Value}
    {od_model_L an_model_L : Option Addr} {sl_model_L : Array (Option Value)} {oc_model_L kV_model_L dc_model_L pm_model_L cd_model_L ct_model_L : Value}
    {od_comes_L an_comes_L : Option Addr} {sl_comes_L : Array (Option Value)} {oc_comes_L kV_comes_L dc_comes_L pm_comes_L cd_comes_L ct_comes_L : Value}
    {od_lying_L an_lying_L : Option Addr} {sl_lying_L : Array (Option Value)} {oc_lying_L kV_lying_L dc_lying_L pm_lying_L cd_lying_L ct_lying_L : Value}
    {od_given_L an_given_L : Option Addr} {sl_given_L : Array (Option Value)} {oc_given_L kV_given_L dc_given_L pm_given_L cd_given_L ct_given_L : Value}
    {od_words_L an_words_L : Option Addr} {sl_words_L : Array (Option Value)} {oc_words_L kV_words_L dc_words_L pm_words_L cd_words_L ct_words_L : Value}
    {od_brought_L an_brought_L : Option Addr} {sl_brought_L : Array (Option Value)} {oc_brought_L kV_brought_L dc_brought_L pm_brought_L cd_brought_L ct_brought_L : Value}
    {od_read_L an_read_L : Option Addr} {sl_read_L : Array (Option Value)} {oc_read_L kV_read_L dc_read_L pm_read_L cd_read_L ct_read_L : Value}
    {od_write_L an_write_L : Option Addr} {sl_write_L : Array (Option Value)} {oc_write_L kV_write_L dc_write_L pm_write_L cd_write_L ct_write_L : Value}
    {od_shared_L an_shared_L : Option Addr} {sl_shared_L : Array (Option Value)} {oc_shared_L kV_shared_L dc_shared_L pm_shared_L cd_shared_L ct_shared_L : Value}
    {od_told_L an_told_L : Option Addr} {sl_told_L : Array (Option Value)} {oc_told_L kV_told_L dc_told_L pm_told_L cd_told_L ct_told_L : Value}
    {od_asked_L an_asked_L : Option Addr} {sl_asked_L : Array (Option Value)} {oc_asked_L kV_asked_L dc_asked_L pm_asked_L cd_asked_L ct_asked_L : Value}
    {od_alike_rooms_L an_alike_rooms_L : Option Addr} {sl_alike_rooms_L : Array (Option Value)} {oc_alike_rooms_L kV_alike_rooms_L dc_alike_rooms_L pm_alike_rooms_L cd_alike_rooms_L ct_alike_rooms_L : Value}
    {od_deed_L an_deed_L : Option Addr} {sl_deed_L : Array (Option Value)} {oc_deed_L kV_deed_L dc_deed_L pm_deed_L cd_deed_L ct_deed_L : Value}
    {od_law an_law : Option Addr} {sl_law : Array (Option Value)} {oc_law kV_law dc_law pm_law cd_law ct_law : Value}
    {t_mo t_ei t_mr t_mg tN0 tN1 tN2 tN3 tN4 tN5 tN6 tN7 : Tok} {aNO : Addr} {nNO : Nat} {slNO : Array (Option Value)}
    {nmM qM : Str} {NM : Addr} {bsM : List Value} {snM : List Str} {subM : List Value} {abM : Bool} {colM : Option Bool} {ddM : Option Addr} {wM0 wM1 wM2 wM3 wM5 : Option Value}
    {nmN qN : Str} {NN : Addr} {bsN : List Value} {snN : List Str} {subN : List Value} {abN : Bool} {colN : Option Bool} {ddN : Option Addr} {wN0 wN1 wN2 wN3 wN5 : Option Value}
    {nmW qW : Str} {NW : Addr} {bsW : List Value} {snW : List Str} {subW : List Value} {abW : Bool} {colW : Option Bool} {ddW : Option Addr} {wW0 wW1 wW2 wW3 wW5 : Option Value}
    {nmI qI : Str} {NI : Addr} {bsI : List Value} {snI : List Str} {subI : List Value} {abI : Bool} {colI : Option Bool} {ddI : Option Addr} {wI0 wI1 wI2 wI3 wI5 : Option Value}
    {nmD qD : Str} {ND : Addr} {bsD : List Value} {snD : List Str} {subD : List Value} {abD : Bool} {colD : Option Bool} {ddD : Option Addr} {wD0 wD1 wD2 wD3 wD5 : Option Value}
    {nmA qA : Str} {NA : Addr} {bsA : List Value} {snA : List Str} {subA : List Value} {abA : Bool} {colA : Option Bool} {ddA : Option Addr} {wA0 wA1 wA2 wA3 wA5 : Option Value}
    {nmF qF : Str} {NF : Addr} {bsF : List Value} {snF : List Str} {subF : List Value} {abF : Bool} {colF : Option Bool} {ddF : Option Addr} {wF0 wF1 wF2 wF3 wF5 : Option Value}
    (aC_GuestError : PySem.W.nsIn K mainGlobals "GuestError" = some (some (.ref C_GuestError)))
    (aC_Missing : PySem.W.nsIn K mainGlobals "Missing" = some (some (.ref C_Missing)))
    (aC_Barred : PySem.W.nsIn K mainGlobals "Barred" = some (some (.ref C_Barred)))
    (aC_NoNumber : PySem.W.nsIn K mainGlobals "NoNumber" = some (some (.ref C_NoNumber)))
    (aC_NoName : PySem.W.nsIn K mainGlobals "NoName" = some (some (.ref C_NoName)))
    (aC_NoWord : PySem.W.nsIn K mainGlobals "NoWord" = some (some (.ref C_NoWord)))
    (aC_NoImage : PySem.W.nsIn K mainGlobals "NoImage" = some (some (.ref C_NoImage)))
    (aC_Doubled : PySem.W.nsIn K mainGlobals "Doubled" = some (some (.ref C_Doubled)))
    (aC_NoGuest : PySem.W.nsIn K mainGlobals "NoGuest" = some (some (.ref C_NoGuest)))
    (aC_Full : PySem.W.nsIn K mainGlobals "Full" = some (some (.ref C_Full)))
    (aC_Rooms : PySem.W.nsIn K mainGlobals "Rooms" = some (some (.ref C_Rooms)))
    (a_GuestError_init : PySem.W.findIn K (.ref C_GuestError) "__init__" = some (some (.ref f_GuestError_init)))
    (l_GuestError_init : K.lookup f_GuestError_init = some ⟨oc_GuestError_init, od_GuestError_init, .func (PySem.W.fnOf "__init__" "GuestError.__init__" (defArgs s_GuestError_init) (defBody s_GuestError_init) (defScope s_GuestError_init) .none kV_GuestError_init dc_GuestError_init pm_GuestError_init an_GuestError_init cd_GuestError_init ct_GuestError_init), sl_GuestError_init⟩)
    (c_GuestError_init : PySem.W.codeIn K cd_GuestError_init "GuestError.__init__" = true)
    (k_GuestError_init : PySem.W.keepIn K (.ref f_GuestError_init) = true)
    (a_Missing_init : PySem.W.findIn K (.ref C_Missing) "__init__" = some (some (.ref f_Missing_init)))
    (l_Missing_init : K.lookup f_Missing_init = some ⟨oc_Missing_init, od_Missing_init, .func (PySem.W.fnOf "__init__" "Missing.__init__" (defArgs s_Missing_init) (defBody s_Missing_init) (defScope s_Missing_init) .none kV_Missing_init dc_Missing_init pm_Missing_init an_Missing_init cd_Missing_init ct_Missing_init), sl_Missing_init⟩)
    (c_Missing_init : PySem.W.codeIn K cd_Missing_init "Missing.__init__" = true)
    (k_Missing_init : PySem.W.keepIn K (.ref f_Missing_init) = true)
    (a_Barred_init : PySem.W.findIn K (.ref C_Barred) "__init__" = some (some (.ref f_Barred_init)))
    (l_Barred_init : K.lookup f_Barred_init = some ⟨oc_Barred_init, od_Barred_init, .func (PySem.W.fnOf "__init__" "Barred.__init__" (defArgs s_Barred_init) (defBody s_Barred_init) (defScope s_Barred_init) .none kV_Barred_init dc_Barred_init pm_Barred_init an_Barred_init cd_Barred_init ct_Barred_init), sl_Barred_init⟩)
    (c_Barred_init : PySem.W.codeIn K cd_Barred_init "Barred.__init__" = true)
    (k_Barred_init : PySem.W.keepIn K (.ref f_Barred_init) = true)
    (a_NoNumber_init : PySem.W.findIn K (.ref C_NoNumber) "__init__" = some (some (.ref f_NoNumber_init)))
    (l_NoNumber_init : K.lookup f_NoNumber_init = some ⟨oc_NoNumber_init, od_NoNumber_init, .func (PySem.W.fnOf "__init__" "NoNumber.__init__" (defArgs s_NoNumber_init) (defBody s_NoNumber_init) (defScope s_NoNumber_init) .none kV_NoNumber_init dc_NoNumber_init pm_NoNumber_init an_NoNumber_init cd_NoNumber_init ct_NoNumber_init), sl_NoNumber_init⟩)
    (c_NoNumber_init : PySem.W.codeIn K cd_NoNumber_init "NoNumber.__init__" = true)
    (k_NoNumber_init : PySem.W.keepIn K (.ref f_NoNumber_init) = true)
    (a_NoName_init : PySem.W.findIn K (.ref C_NoName) "__init__" = some (some (.ref f_NoName_init)))
    (l_NoName_init : K.lookup f_NoName_init = some ⟨oc_NoName_init, od_NoName_init, .func (PySem.W.fnOf "__init__" "NoName.__init__" (defArgs s_NoName_init) (defBody s_NoName_init) (defScope s_NoName_init) .none kV_NoName_init dc_NoName_init pm_NoName_init an_NoName_init cd_NoName_init ct_NoName_init), sl_NoName_init⟩)
    (c_NoName_init : PySem.W.codeIn K cd_NoName_init "NoName.__init__" = true)
    (k_NoName_init : PySem.W.keepIn K (.ref f_NoName_init) = true)
    (a_NoWord_init : PySem.W.findIn K (.ref C_NoWord) "__init__" = some (some (.ref f_NoWord_init)))
    (l_NoWord_init : K.lookup f_NoWord_init = some ⟨oc_NoWord_init, od_NoWord_init, .func (PySem.W.fnOf "__init__" "NoWord.__init__" (defArgs s_NoWord_init) (defBody s_NoWord_init) (defScope s_NoWord_init) .none kV_NoWord_init dc_NoWord_init pm_NoWord_init an_NoWord_init cd_NoWord_init ct_NoWord_init), sl_NoWord_init⟩)
    (c_NoWord_init : PySem.W.codeIn K cd_NoWord_init "NoWord.__init__" = true)
    (k_NoWord_init : PySem.W.keepIn K (.ref f_NoWord_init) = true)
    (a_NoImage_init : PySem.W.findIn K (.ref C_NoImage) "__init__" = some (some (.ref f_NoImage_init)))
    (l_NoImage_init : K.lookup f_NoImage_init = some ⟨oc_NoImage_init, od_NoImage_init, .func (PySem.W.fnOf "__init__" "NoImage.__init__" (defArgs s_NoImage_init) (defBody s_NoImage_init) (defScope s_NoImage_init) .none kV_NoImage_init dc_NoImage_init pm_NoImage_init an_NoImage_init cd_NoImage_init ct_NoImage_init), sl_NoImage_init⟩)
    (c_NoImage_init : PySem.W.codeIn K cd_NoImage_init "NoImage.__init__" = true)
    (k_NoImage_init : PySem.W.keepIn K (.ref f_NoImage_init) = true)
    (a_Doubled_init : PySem.W.findIn K (.ref C_Doubled) "__init__" = some (some (.ref f_Doubled_init)))
    (l_Doubled_init : K.lookup f_Doubled_init = some ⟨oc_Doubled_init, od_Doubled_init, .func (PySem.W.fnOf "__init__" "Doubled.__init__" (defArgs s_Doubled_init) (defBody s_Doubled_init) (defScope s_Doubled_init) .none kV_Doubled_init dc_Doubled_init pm_Doubled_init an_Doubled_init cd_Doubled_init ct_Doubled_init), sl_Doubled_init⟩)
    (c_Doubled_init : PySem.W.codeIn K cd_Doubled_init "Doubled.__init__" = true)
    (k_Doubled_init : PySem.W.keepIn K (.ref f_Doubled_init) = true)
    (a_NoGuest_init : PySem.W.findIn K (.ref C_NoGuest) "__init__" = some (some (.ref f_NoGuest_init)))
    (l_NoGuest_init : K.lookup f_NoGuest_init = some ⟨oc_NoGuest_init, od_NoGuest_init, .func (PySem.W.fnOf "__init__" "NoGuest.__init__" (defArgs s_NoGuest_init) (defBody s_NoGuest_init) (defScope s_NoGuest_init) .none kV_NoGuest_init dc_NoGuest_init pm_NoGuest_init an_NoGuest_init cd_NoGuest_init ct_NoGuest_init), sl_NoGuest_init⟩)
    (c_NoGuest_init : PySem.W.codeIn K cd_NoGuest_init "NoGuest.__init__" = true)
    (k_NoGuest_init : PySem.W.keepIn K (.ref f_NoGuest_init) = true)
    (a_Full_init : PySem.W.findIn K (.ref C_Full) "__init__" = some (some (.ref f_Full_init)))
    (l_Full_init : K.lookup f_Full_init = some ⟨oc_Full_init, od_Full_init, .func (PySem.W.fnOf "__init__" "Full.__init__" (defArgs s_Full_init) (defBody s_Full_init) (defScope s_Full_init) .none kV_Full_init dc_Full_init pm_Full_init an_Full_init cd_Full_init ct_Full_init), sl_Full_init⟩)
    (c_Full_init : PySem.W.codeIn K cd_Full_init "Full.__init__" = true)
    (k_Full_init : PySem.W.keepIn K (.ref f_Full_init) = true)
    (a_is_whole : PySem.W.nsIn K mainGlobals "is_whole" = some (some (.ref f_is_whole)))
    (l_is_whole : K.lookup f_is_whole = some ⟨oc_is_whole, od_is_whole, .func (PySem.W.fnOf "is_whole" "is_whole" (defArgs s_is_whole) (defBody s_is_whole) (defScope s_is_whole) .none kV_is_whole dc_is_whole pm_is_whole an_is_whole cd_is_whole ct_is_whole), sl_is_whole⟩)
    (c_is_whole : PySem.W.codeIn K cd_is_whole "is_whole" = true)
    (k_is_whole : PySem.W.keepIn K (.ref f_is_whole) = true)
    (a_is_word : PySem.W.nsIn K mainGlobals "is_word" = some (some (.ref f_is_word)))
    (l_is_word : K.lookup f_is_word = some ⟨oc_is_word, od_is_word, .func (PySem.W.fnOf "is_word" "is_word" (defArgs s_is_word) (defBody s_is_word) (defScope s_is_word) .none kV_is_word dc_is_word pm_is_word an_is_word cd_is_word ct_is_word), sl_is_word⟩)
    (c_is_word : PySem.W.codeIn K cd_is_word "is_word" = true)
    (k_is_word : PySem.W.keepIn K (.ref f_is_word) = true)
    (a_is_name : PySem.W.nsIn K mainGlobals "is_name" = some (some (.ref f_is_name)))
    (l_is_name : K.lookup f_is_name = some ⟨oc_is_name, od_is_name, .func (PySem.W.fnOf "is_name" "is_name" (defArgs s_is_name) (defBody s_is_name) (defScope s_is_name) .none kV_is_name dc_is_name pm_is_name an_is_name cd_is_name ct_is_name), sl_is_name⟩)
    (c_is_name : PySem.W.codeIn K cd_is_name "is_name" = true)
    (k_is_name : PySem.W.keepIn K (.ref f_is_name) = true)
    (a_all_within : PySem.W.nsIn K mainGlobals "_all_within" = some (some (.ref f_all_within)))
    (l_all_within : K.lookup f_all_within = some ⟨oc_all_within, od_all_within, .func (PySem.W.fnOf "_all_within" "_all_within" (defArgs s_all_within) (defBody s_all_within) (defScope s_all_within) .none kV_all_within dc_all_within pm_all_within an_all_within cd_all_within ct_all_within), sl_all_within⟩)
    (c_all_within : PySem.W.codeIn K cd_all_within "_all_within" = true)
    (k_all_within : PySem.W.keepIn K (.ref f_all_within) = true)
    (a_check_number : PySem.W.nsIn K mainGlobals "check_number" = some (some (.ref f_check_number)))
    (l_check_number : K.lookup f_check_number = some ⟨oc_check_number, od_check_number, .func (PySem.W.fnOf "check_number" "check_number" (defArgs s_check_number) (defBody s_check_number) (defScope s_check_number) .none kV_check_number dc_check_number pm_check_number an_check_number cd_check_number ct_check_number), sl_check_number⟩)
    (c_check_number : PySem.W.codeIn K cd_check_number "check_number" = true)
    (k_check_number : PySem.W.keepIn K (.ref f_check_number) = true)
    (a_check_word : PySem.W.nsIn K mainGlobals "check_word" = some (some (.ref f_check_word)))
    (l_check_word : K.lookup f_check_word = some ⟨oc_check_word, od_check_word, .func (PySem.W.fnOf "check_word" "check_word" (defArgs s_check_word) (defBody s_check_word) (defScope s_check_word) .none kV_check_word dc_check_word pm_check_word an_check_word cd_check_word ct_check_word), sl_check_word⟩)
    (c_check_word : PySem.W.codeIn K cd_check_word "check_word" = true)
    (k_check_word : PySem.W.keepIn K (.ref f_check_word) = true)
    (a_is_eight : PySem.W.nsIn K mainGlobals "is_eight" = some (some (.ref f_is_eight)))
    (l_is_eight : K.lookup f_is_eight = some ⟨oc_is_eight, od_is_eight, .func (PySem.W.fnOf "is_eight" "is_eight" (defArgs s_is_eight) (defBody s_is_eight) (defScope s_is_eight) .none kV_is_eight dc_is_eight pm_is_eight an_is_eight cd_is_eight ct_is_eight), sl_is_eight⟩)
    (c_is_eight : PySem.W.codeIn K cd_is_eight "is_eight" = true)
    (k_is_eight : PySem.W.keepIn K (.ref f_is_eight) = true)
    (a_is_row : PySem.W.nsIn K mainGlobals "_is_row" = some (some (.ref f_is_row)))
    (l_is_row : K.lookup f_is_row = some ⟨oc_is_row, od_is_row, .func (PySem.W.fnOf "_is_row" "_is_row" (defArgs s_is_row) (defBody s_is_row) (defScope s_is_row) .none kV_is_row dc_is_row pm_is_row an_is_row cd_is_row ct_is_row), sl_is_row⟩)
    (c_is_row : PySem.W.codeIn K cd_is_row "_is_row" = true)
    (k_is_row : PySem.W.keepIn K (.ref f_is_row) = true)
    (a_Rooms_init : PySem.W.findIn K (.ref C_Rooms) "__init__" = some (some (.ref f_Rooms_init)))
    (l_Rooms_init : K.lookup f_Rooms_init = some ⟨oc_Rooms_init, od_Rooms_init, .func (PySem.W.fnOf "__init__" "Rooms.__init__" (defArgs s_Rooms_init) (defBody s_Rooms_init) (defScope s_Rooms_init) .none kV_Rooms_init dc_Rooms_init pm_Rooms_init an_Rooms_init cd_Rooms_init ct_Rooms_init), sl_Rooms_init⟩)
    (c_Rooms_init : PySem.W.codeIn K cd_Rooms_init "Rooms.__init__" = true)
    (k_Rooms_init : PySem.W.keepIn K (.ref f_Rooms_init) = true)
    (a_Rooms_come : PySem.W.findIn K (.ref C_Rooms) "come" = some (some (.ref f_Rooms_come)))
    (l_Rooms_come : K.lookup f_Rooms_come = some ⟨oc_Rooms_come, od_Rooms_come, .func (PySem.W.fnOf "come" "Rooms.come" (defArgs s_Rooms_come) (defBody s_Rooms_come) (defScope s_Rooms_come) .none kV_Rooms_come dc_Rooms_come pm_Rooms_come an_Rooms_come cd_Rooms_come ct_Rooms_come), sl_Rooms_come⟩)
    (c_Rooms_come : PySem.W.codeIn K cd_Rooms_come "Rooms.come" = true)
    (k_Rooms_come : PySem.W.keepIn K (.ref f_Rooms_come) = true)
    (a_Rooms_read_cell : PySem.W.findIn K (.ref C_Rooms) "read_cell" = some (some (.ref f_Rooms_read_cell)))
    (l_Rooms_read_cell : K.lookup f_Rooms_read_cell = some ⟨oc_Rooms_read_cell, od_Rooms_read_cell, .func (PySem.W.fnOf "read_cell" "Rooms.read_cell" (defArgs s_Rooms_read_cell) (defBody s_Rooms_read_cell) (defScope s_Rooms_read_cell) .none kV_Rooms_read_cell dc_Rooms_read_cell pm_Rooms_read_cell an_Rooms_read_cell cd_Rooms_read_cell ct_Rooms_read_cell), sl_Rooms_read_cell⟩)
    (c_Rooms_read_cell : PySem.W.codeIn K cd_Rooms_read_cell "Rooms.read_cell" = true)
    (k_Rooms_read_cell : PySem.W.keepIn K (.ref f_Rooms_read_cell) = true)
    (a_Rooms_write_cell : PySem.W.findIn K (.ref C_Rooms) "write_cell" = some (some (.ref f_Rooms_write_cell)))
    (l_Rooms_write_cell : K.lookup f_Rooms_write_cell = some ⟨oc_Rooms_write_cell, od_Rooms_write_cell, .func (PySem.W.fnOf "write_cell" "Rooms.write_cell" (defArgs s_Rooms_write_cell) (defBody s_Rooms_write_cell) (defScope s_Rooms_write_cell) .none kV_Rooms_write_cell dc_Rooms_write_cell pm_Rooms_write_cell an_Rooms_write_cell cd_Rooms_write_cell ct_Rooms_write_cell), sl_Rooms_write_cell⟩)
    (c_Rooms_write_cell : PySem.W.codeIn K cd_Rooms_write_cell "Rooms.write_cell" = true)
    (k_Rooms_write_cell : PySem.W.keepIn K (.ref f_Rooms_write_cell) = true)
    (a_Rooms_share : PySem.W.findIn K (.ref C_Rooms) "share" = some (some (.ref f_Rooms_share)))
    (l_Rooms_share : K.lookup f_Rooms_share = some ⟨oc_Rooms_share, od_Rooms_share, .func (PySem.W.fnOf "share" "Rooms.share" (defArgs s_Rooms_share) (defBody s_Rooms_share) (defScope s_Rooms_share) .none kV_Rooms_share dc_Rooms_share pm_Rooms_share an_Rooms_share cd_Rooms_share ct_Rooms_share), sl_Rooms_share⟩)
    (c_Rooms_share : PySem.W.codeIn K cd_Rooms_share "Rooms.share" = true)
    (k_Rooms_share : PySem.W.keepIn K (.ref f_Rooms_share) = true)
    (a_Rooms_how_many : PySem.W.findIn K (.ref C_Rooms) "how_many" = some (some (.ref f_Rooms_how_many)))
    (l_Rooms_how_many : K.lookup f_Rooms_how_many = some ⟨oc_Rooms_how_many, od_Rooms_how_many, .func (PySem.W.fnOf "how_many" "Rooms.how_many" (defArgs s_Rooms_how_many) (defBody s_Rooms_how_many) (defScope s_Rooms_how_many) .none kV_Rooms_how_many dc_Rooms_how_many pm_Rooms_how_many an_Rooms_how_many cd_Rooms_how_many ct_Rooms_how_many), sl_Rooms_how_many⟩)
    (c_Rooms_how_many : PySem.W.codeIn K cd_Rooms_how_many "Rooms.how_many" = true)
    (k_Rooms_how_many : PySem.W.keepIn K (.ref f_Rooms_how_many) = true)
    (a_Rooms_shared : PySem.W.findIn K (.ref C_Rooms) "shared" = some (some (.ref f_Rooms_shared)))
    (l_Rooms_shared : K.lookup f_Rooms_shared = some ⟨oc_Rooms_shared, od_Rooms_shared, .func (PySem.W.fnOf "shared" "Rooms.shared" (defArgs s_Rooms_shared) (defBody s_Rooms_shared) (defScope s_Rooms_shared) .none kV_Rooms_shared dc_Rooms_shared pm_Rooms_shared an_Rooms_shared cd_Rooms_shared ct_Rooms_shared), sl_Rooms_shared⟩)
    (c_Rooms_shared : PySem.W.codeIn K cd_Rooms_shared "Rooms.shared" = true)
    (k_Rooms_shared : PySem.W.keepIn K (.ref f_Rooms_shared) = true)
    (a_Rooms_names : PySem.W.findIn K (.ref C_Rooms) "names" = some (some (.ref f_Rooms_names)))
    (l_Rooms_names : K.lookup f_Rooms_names = some ⟨oc_Rooms_names, od_Rooms_names, .func (PySem.W.fnOf "names" "Rooms.names" (defArgs s_Rooms_names) (defBody s_Rooms_names) (defScope s_Rooms_names) .none kV_Rooms_names dc_Rooms_names pm_Rooms_names an_Rooms_names cd_Rooms_names ct_Rooms_names), sl_Rooms_names⟩)
    (c_Rooms_names : PySem.W.codeIn K cd_Rooms_names "Rooms.names" = true)
    (k_Rooms_names : PySem.W.keepIn K (.ref f_Rooms_names) = true)
    (a_Rooms_in_use : PySem.W.findIn K (.ref C_Rooms) "in_use" = some (some (.ref f_Rooms_in_use)))
    (l_Rooms_in_use : K.lookup f_Rooms_in_use = some ⟨oc_Rooms_in_use, od_Rooms_in_use, .func (PySem.W.fnOf "in_use" "Rooms.in_use" (defArgs s_Rooms_in_use) (defBody s_Rooms_in_use) (defScope s_Rooms_in_use) .none kV_Rooms_in_use dc_Rooms_in_use pm_Rooms_in_use an_Rooms_in_use cd_Rooms_in_use ct_Rooms_in_use), sl_Rooms_in_use⟩)
    (c_Rooms_in_use : PySem.W.codeIn K cd_Rooms_in_use "Rooms.in_use" = true)
    (k_Rooms_in_use : PySem.W.keepIn K (.ref f_Rooms_in_use) = true)
    (a_Rooms_way : PySem.W.findIn K (.ref C_Rooms) "way" = some (some (.ref f_Rooms_way)))
    (l_Rooms_way : K.lookup f_Rooms_way = some ⟨oc_Rooms_way, od_Rooms_way, .func (PySem.W.fnOf "way" "Rooms.way" (defArgs s_Rooms_way) (defBody s_Rooms_way) (defScope s_Rooms_way) .none kV_Rooms_way dc_Rooms_way pm_Rooms_way an_Rooms_way cd_Rooms_way ct_Rooms_way), sl_Rooms_way⟩)
    (c_Rooms_way : PySem.W.codeIn K cd_Rooms_way "Rooms.way" = true)
    (k_Rooms_way : PySem.W.keepIn K (.ref f_Rooms_way) = true)
    (a_Rooms_words : PySem.W.findIn K (.ref C_Rooms) "words" = some (some (.ref f_Rooms_words)))
    (l_Rooms_words : K.lookup f_Rooms_words = some ⟨oc_Rooms_words, od_Rooms_words, .func (PySem.W.fnOf "words" "Rooms.words" (defArgs s_Rooms_words) (defBody s_Rooms_words) (defScope s_Rooms_words) .none kV_Rooms_words dc_Rooms_words pm_Rooms_words an_Rooms_words cd_Rooms_words ct_Rooms_words), sl_Rooms_words⟩)
    (c_Rooms_words : PySem.W.codeIn K cd_Rooms_words "Rooms.words" = true)
    (k_Rooms_words : PySem.W.keepIn K (.ref f_Rooms_words) = true)
    (a_Rooms_lying : PySem.W.findIn K (.ref C_Rooms) "lying" = some (some (.ref f_Rooms_lying)))
    (l_Rooms_lying : K.lookup f_Rooms_lying = some ⟨oc_Rooms_lying, od_Rooms_lying, .func (PySem.W.fnOf "lying" "Rooms.lying" (defArgs s_Rooms_lying) (defBody s_Rooms_lying) (defScope s_Rooms_lying) .none kV_Rooms_lying dc_Rooms_lying pm_Rooms_lying an_Rooms_lying cd_Rooms_lying ct_Rooms_lying), sl_Rooms_lying⟩)
    (c_Rooms_lying : PySem.W.codeIn K cd_Rooms_lying "Rooms.lying" = true)
    (k_Rooms_lying : PySem.W.keepIn K (.ref f_Rooms_lying) = true)
    (a_Rooms_check_guest : PySem.W.findIn K (.ref C_Rooms) "_check_guest" = some (some (.ref f_Rooms_check_guest)))
    (l_Rooms_check_guest : K.lookup f_Rooms_check_guest = some ⟨oc_Rooms_check_guest, od_Rooms_check_guest, .func (PySem.W.fnOf "_check_guest" "Rooms._check_guest" (defArgs s_Rooms_check_guest) (defBody s_Rooms_check_guest) (defScope s_Rooms_check_guest) .none kV_Rooms_check_guest dc_Rooms_check_guest pm_Rooms_check_guest an_Rooms_check_guest cd_Rooms_check_guest ct_Rooms_check_guest), sl_Rooms_check_guest⟩)
    (c_Rooms_check_guest : PySem.W.codeIn K cd_Rooms_check_guest "Rooms._check_guest" = true)
    (k_Rooms_check_guest : PySem.W.keepIn K (.ref f_Rooms_check_guest) = true)
    (a_Rooms_words_at : PySem.W.findIn K (.ref C_Rooms) "_words_at" = some (some (.ref f_Rooms_words_at)))
    (l_Rooms_words_at : K.lookup f_Rooms_words_at = some ⟨oc_Rooms_words_at, od_Rooms_words_at, .func (PySem.W.fnOf "_words_at" "Rooms._words_at" (defArgs s_Rooms_words_at) (defBody s_Rooms_words_at) (defScope s_Rooms_words_at) .none kV_Rooms_words_at dc_Rooms_words_at pm_Rooms_words_at an_Rooms_words_at cd_Rooms_words_at ct_Rooms_words_at), sl_Rooms_words_at⟩)
    (c_Rooms_words_at : PySem.W.codeIn K cd_Rooms_words_at "Rooms._words_at" = true)
    (k_Rooms_words_at : PySem.W.keepIn K (.ref f_Rooms_words_at) = true)
    (a_Rooms_brought : PySem.W.findIn K (.ref C_Rooms) "_brought" = some (some (.ref f_Rooms_brought)))
    (l_Rooms_brought : K.lookup f_Rooms_brought = some ⟨oc_Rooms_brought, od_Rooms_brought, .func (PySem.W.fnOf "_brought" "Rooms._brought" (defArgs s_Rooms_brought) (defBody s_Rooms_brought) (defScope s_Rooms_brought) .none kV_Rooms_brought dc_Rooms_brought pm_Rooms_brought an_Rooms_brought cd_Rooms_brought ct_Rooms_brought), sl_Rooms_brought⟩)
    (c_Rooms_brought : PySem.W.codeIn K cd_Rooms_brought "Rooms._brought" = true)
    (k_Rooms_brought : PySem.W.keepIn K (.ref f_Rooms_brought) = true)
    (a_Rooms_free_room : PySem.W.findIn K (.ref C_Rooms) "_free_room" = some (some (.ref f_Rooms_free_room)))
    (l_Rooms_free_room : K.lookup f_Rooms_free_room = some ⟨oc_Rooms_free_room, od_Rooms_free_room, .func (PySem.W.fnOf "_free_room" "Rooms._free_room" (defArgs s_Rooms_free_room) (defBody s_Rooms_free_room) (defScope s_Rooms_free_room) .none kV_Rooms_free_room dc_Rooms_free_room pm_Rooms_free_room an_Rooms_free_room cd_Rooms_free_room ct_Rooms_free_room), sl_Rooms_free_room⟩)
    (c_Rooms_free_room : PySem.W.codeIn K cd_Rooms_free_room "Rooms._free_room" = true)
    (k_Rooms_free_room : PySem.W.keepIn K (.ref f_Rooms_free_room) = true)
    (a_Rooms_put : PySem.W.findIn K (.ref C_Rooms) "_put" = some (some (.ref f_Rooms_put)))
    (l_Rooms_put : K.lookup f_Rooms_put = some ⟨oc_Rooms_put, od_Rooms_put, .func (PySem.W.fnOf "_put" "Rooms._put" (defArgs s_Rooms_put) (defBody s_Rooms_put) (defScope s_Rooms_put) .none kV_Rooms_put dc_Rooms_put pm_Rooms_put an_Rooms_put cd_Rooms_put ct_Rooms_put), sl_Rooms_put⟩)
    (c_Rooms_put : PySem.W.codeIn K cd_Rooms_put "Rooms._put" = true)
    (k_Rooms_put : PySem.W.keepIn K (.ref f_Rooms_put) = true)
    (a_places : PySem.W.nsIn K mainGlobals "_places" = some (some (.ref f_places)))
    (l_places : K.lookup f_places = some ⟨oc_places, od_places, .func (PySem.W.fnOf "_places" "_places" (defArgs s_places) (defBody s_places) (defScope s_places) .none kV_places dc_places pm_places an_places cd_places ct_places), sl_places⟩)
    (c_places : PySem.W.codeIn K cd_places "_places" = true)
    (k_places : PySem.W.keepIn K (.ref f_places) = true)
    (a_cell_L : PySem.W.nsIn K mainGlobals "_law_cell" = some (some (.ref f_cell_L)))
    (l_cell_L : K.lookup f_cell_L = some ⟨oc_cell_L, od_cell_L, .func (PySem.W.fnOf "_law_cell" "_law_cell" (defArgs s_cell_L) (defBody s_cell_L) (defScope s_cell_L) .none kV_cell_L dc_cell_L pm_cell_L an_cell_L cd_cell_L ct_cell_L), sl_cell_L⟩)
    (c_cell_L : PySem.W.codeIn K cd_cell_L "_law_cell" = true)
    (k_cell_L : PySem.W.keepIn K (.ref f_cell_L) = true)
    (a_box_L : PySem.W.nsIn K mainGlobals "_law_box" = some (some (.ref f_box_L)))
    (l_box_L : K.lookup f_box_L = some ⟨oc_box_L, od_box_L, .func (PySem.W.fnOf "_law_box" "_law_box" (defArgs s_box_L) (defBody s_box_L) (defScope s_box_L) .none kV_box_L dc_box_L pm_box_L an_box_L cd_box_L ct_box_L), sl_box_L⟩)
    (c_box_L : PySem.W.codeIn K cd_box_L "_law_box" = true)
    (k_box_L : PySem.W.keepIn K (.ref f_box_L) = true)
    (a_take_L : PySem.W.nsIn K mainGlobals "_law_take" = some (some (.ref f_take_L)))
    (l_take_L : K.lookup f_take_L = some ⟨oc_take_L, od_take_L, .func (PySem.W.fnOf "_law_take" "_law_take" (defArgs s_take_L) (defBody s_take_L) (defScope s_take_L) .none kV_take_L dc_take_L pm_take_L an_take_L cd_take_L ct_take_L), sl_take_L⟩)
    (c_take_L : PySem.W.codeIn K cd_take_L "_law_take" = true)
    (k_take_L : PySem.W.keepIn K (.ref f_take_L) = true)
    (a_names_L : PySem.W.nsIn K mainGlobals "_law_names" = some (some (.ref f_names_L)))
    (l_names_L : K.lookup f_names_L = some ⟨oc_names_L, od_names_L, .func (PySem.W.fnOf "_law_names" "_law_names" (defArgs s_names_L) (defBody s_names_L) (defScope s_names_L) .none kV_names_L dc_names_L pm_names_L an_names_L cd_names_L ct_names_L), sl_names_L⟩)
    (c_names_L : PySem.W.codeIn K cd_names_L "_law_names" = true)
    (k_names_L : PySem.W.keepIn K (.ref f_names_L) = true)
    (a_model_L : PySem.W.nsIn K mainGlobals "_law_model" = some (some (.ref f_model_L)))
    (l_model_L : K.lookup f_model_L = some ⟨oc_model_L, od_model_L, .func (PySem.W.fnOf "_law_model" "_law_model" (defArgs s_model_L) (defBody s_model_L) (defScope s_model_L) .none kV_model_L dc_model_L pm_model_L an_model_L cd_model_L ct_model_L), sl_model_L⟩)
    (c_model_L : PySem.W.codeIn K cd_model_L "_law_model" = true)
    (k_model_L : PySem.W.keepIn K (.ref f_model_L) = true)
    (a_comes_L : PySem.W.nsIn K mainGlobals "_law_comes" = some (some (.ref f_comes_L)))
    (l_comes_L : K.lookup f_comes_L = some ⟨oc_comes_L, od_comes_L, .func (PySem.W.fnOf "_law_comes" "_law_comes" (defArgs s_comes_L) (defBody s_comes_L) (defScope s_comes_L) .none kV_comes_L dc_comes_L pm_comes_L an_comes_L cd_comes_L ct_comes_L), sl_comes_L⟩)
    (c_comes_L : PySem.W.codeIn K cd_comes_L "_law_comes" = true)
    (k_comes_L : PySem.W.keepIn K (.ref f_comes_L) = true)
    (a_lying_L : PySem.W.nsIn K mainGlobals "_law_lying" = some (some (.ref f_lying_L)))
    (l_lying_L : K.lookup f_lying_L = some ⟨oc_lying_L, od_lying_L, .func (PySem.W.fnOf "_law_lying" "_law_lying" (defArgs s_lying_L) (defBody s_lying_L) (defScope s_lying_L) .none kV_lying_L dc_lying_L pm_lying_L an_lying_L cd_lying_L ct_lying_L), sl_lying_L⟩)
    (c_lying_L : PySem.W.codeIn K cd_lying_L "_law_lying" = true)
    (k_lying_L : PySem.W.keepIn K (.ref f_lying_L) = true)
    (a_given_L : PySem.W.nsIn K mainGlobals "_law_given" = some (some (.ref f_given_L)))
    (l_given_L : K.lookup f_given_L = some ⟨oc_given_L, od_given_L, .func (PySem.W.fnOf "_law_given" "_law_given" (defArgs s_given_L) (defBody s_given_L) (defScope s_given_L) .none kV_given_L dc_given_L pm_given_L an_given_L cd_given_L ct_given_L), sl_given_L⟩)
    (c_given_L : PySem.W.codeIn K cd_given_L "_law_given" = true)
    (k_given_L : PySem.W.keepIn K (.ref f_given_L) = true)
    (a_words_L : PySem.W.nsIn K mainGlobals "_law_words" = some (some (.ref f_words_L)))
    (l_words_L : K.lookup f_words_L = some ⟨oc_words_L, od_words_L, .func (PySem.W.fnOf "_law_words" "_law_words" (defArgs s_words_L) (defBody s_words_L) (defScope s_words_L) .none kV_words_L dc_words_L pm_words_L an_words_L cd_words_L ct_words_L), sl_words_L⟩)
    (c_words_L : PySem.W.codeIn K cd_words_L "_law_words" = true)
    (k_words_L : PySem.W.keepIn K (.ref f_words_L) = true)
    (a_brought_L : PySem.W.nsIn K mainGlobals "_law_brought" = some (some (.ref f_brought_L)))
    (l_brought_L : K.lookup f_brought_L = some ⟨oc_brought_L, od_brought_L, .func (PySem.W.fnOf "_law_brought" "_law_brought" (defArgs s_brought_L) (defBody s_brought_L) (defScope s_brought_L) .none kV_brought_L dc_brought_L pm_brought_L an_brought_L cd_brought_L ct_brought_L), sl_brought_L⟩)
    (c_brought_L : PySem.W.codeIn K cd_brought_L "_law_brought" = true)
    (k_brought_L : PySem.W.keepIn K (.ref f_brought_L) = true)
    (a_read_L : PySem.W.nsIn K mainGlobals "_law_read" = some (some (.ref f_read_L)))
    (l_read_L : K.lookup f_read_L = some ⟨oc_read_L, od_read_L, .func (PySem.W.fnOf "_law_read" "_law_read" (defArgs s_read_L) (defBody s_read_L) (defScope s_read_L) .none kV_read_L dc_read_L pm_read_L an_read_L cd_read_L ct_read_L), sl_read_L⟩)
    (c_read_L : PySem.W.codeIn K cd_read_L "_law_read" = true)
    (k_read_L : PySem.W.keepIn K (.ref f_read_L) = true)
    (a_write_L : PySem.W.nsIn K mainGlobals "_law_write" = some (some (.ref f_write_L)))
    (l_write_L : K.lookup f_write_L = some ⟨oc_write_L, od_write_L, .func (PySem.W.fnOf "_law_write" "_law_write" (defArgs s_write_L) (defBody s_write_L) (defScope s_write_L) .none kV_write_L dc_write_L pm_write_L an_write_L cd_write_L ct_write_L), sl_write_L⟩)
    (c_write_L : PySem.W.codeIn K cd_write_L "_law_write" = true)
    (k_write_L : PySem.W.keepIn K (.ref f_write_L) = true)
    (a_shared_L : PySem.W.nsIn K mainGlobals "_law_shared" = some (some (.ref f_shared_L)))
    (l_shared_L : K.lookup f_shared_L = some ⟨oc_shared_L, od_shared_L, .func (PySem.W.fnOf "_law_shared" "_law_shared" (defArgs s_shared_L) (defBody s_shared_L) (defScope s_shared_L) .none kV_shared_L dc_shared_L pm_shared_L an_shared_L cd_shared_L ct_shared_L), sl_shared_L⟩)
    (c_shared_L : PySem.W.codeIn K cd_shared_L "_law_shared" = true)
    (k_shared_L : PySem.W.keepIn K (.ref f_shared_L) = true)
    (a_told_L : PySem.W.nsIn K mainGlobals "_law_told" = some (some (.ref f_told_L)))
    (l_told_L : K.lookup f_told_L = some ⟨oc_told_L, od_told_L, .func (PySem.W.fnOf "_law_told" "_law_told" (defArgs s_told_L) (defBody s_told_L) (defScope s_told_L) .none kV_told_L dc_told_L pm_told_L an_told_L cd_told_L ct_told_L), sl_told_L⟩)
    (c_told_L : PySem.W.codeIn K cd_told_L "_law_told" = true)
    (k_told_L : PySem.W.keepIn K (.ref f_told_L) = true)
    (a_asked_L : PySem.W.nsIn K mainGlobals "_law_asked" = some (some (.ref f_asked_L)))
    (l_asked_L : K.lookup f_asked_L = some ⟨oc_asked_L, od_asked_L, .func (PySem.W.fnOf "_law_asked" "_law_asked" (defArgs s_asked_L) (defBody s_asked_L) (defScope s_asked_L) .none kV_asked_L dc_asked_L pm_asked_L an_asked_L cd_asked_L ct_asked_L), sl_asked_L⟩)
    (c_asked_L : PySem.W.codeIn K cd_asked_L "_law_asked" = true)
    (k_asked_L : PySem.W.keepIn K (.ref f_asked_L) = true)
    (a_alike_rooms_L : PySem.W.nsIn K mainGlobals "_law_alike_rooms" = some (some (.ref f_alike_rooms_L)))
    (l_alike_rooms_L : K.lookup f_alike_rooms_L = some ⟨oc_alike_rooms_L, od_alike_rooms_L, .func (PySem.W.fnOf "_law_alike_rooms" "_law_alike_rooms" (defArgs s_alike_rooms_L) (defBody s_alike_rooms_L) (defScope s_alike_rooms_L) .none kV_alike_rooms_L dc_alike_rooms_L pm_alike_rooms_L an_alike_rooms_L cd_alike_rooms_L ct_alike_rooms_L), sl_alike_rooms_L⟩)
    (c_alike_rooms_L : PySem.W.codeIn K cd_alike_rooms_L "_law_alike_rooms" = true)
    (k_alike_rooms_L : PySem.W.keepIn K (.ref f_alike_rooms_L) = true)
    (a_deed_L : PySem.W.nsIn K mainGlobals "_law_deed" = some (some (.ref f_deed_L)))
    (l_deed_L : K.lookup f_deed_L = some ⟨oc_deed_L, od_deed_L, .func (PySem.W.fnOf "_law_deed" "_law_deed" (defArgs s_deed_L) (defBody s_deed_L) (defScope s_deed_L) .none kV_deed_L dc_deed_L pm_deed_L an_deed_L cd_deed_L ct_deed_L), sl_deed_L⟩)
    (c_deed_L : PySem.W.codeIn K cd_deed_L "_law_deed" = true)
    (k_deed_L : PySem.W.keepIn K (.ref f_deed_L) = true)
    (a_law : PySem.W.nsIn K mainGlobals "law" = some (some (.ref f_law)))
    (l_law : K.lookup f_law = some ⟨oc_law, od_law, .func (PySem.W.fnOf "law" "law" (defArgs s_law) (defBody s_law) (defScope s_law) .none kV_law dc_law pm_law an_law cd_law ct_law), sl_law⟩)
    (c_law : PySem.W.codeIn K cd_law "law" = true)
    (k_law : PySem.W.keepIn K (.ref f_law) = true)
    (cMO : PySem.W.nsIn K mainGlobals "MOST" = some (some (.int 4095 t_mo)))
    (cEI : PySem.W.nsIn K mainGlobals "EIGHT" = some (some (.int 8 t_ei)))
    (cMR : PySem.W.nsIn K mainGlobals "MOST_ROOMS" = some (some (.int 64 t_mr)))
    (cMG : PySem.W.nsIn K mainGlobals "MOST_GUESTS" = some (some (.int 6 t_mg)))
    (cNO : PySem.W.nsIn K mainGlobals "NOUGHTS" = some (some (.ref aNO)))
    (lNO : K.lookup aNO = some ⟨.type "tuple", none, .seq #[.int 0 tN0, .int 0 tN1, .int 0 tN2, .int 0 tN3, .int 0 tN4, .int 0 tN5, .int 0 tN6, .int 0 tN7] nNO, slNO⟩)
    (rd_GuestError : PySem.W.readsIn K C_GuestError (.type "type") = true)
    (ga_GuestError : PySem.W.specialIn K (.ref C_GuestError) "__getattribute__" = some (some (.builtin "type.__getattribute__")))
    (at_GuestError : PySem.W.findCls K (.ref C_GuestError) (.type "type") "__init__" = some (.val (.ref f_GuestError_init)))
    (v_ValueError : PySem.W.findCls K (.type "ValueError") (.type "type") "__init__" = some (.val (.builtin "ValueError.__init__")))
    (rd_Missing : PySem.W.readsIn K C_Missing (.type "type") = true)
    (ga_Missing : PySem.W.specialIn K (.ref C_Missing) "__getattribute__" = some (some (.builtin "type.__getattribute__")))
    (at_Missing : PySem.W.findCls K (.ref C_Missing) (.type "type") "__init__" = some (.val (.ref f_Missing_init)))
    (v_KeyError : PySem.W.findCls K (.type "KeyError") (.type "type") "__init__" = some (.val (.builtin "KeyError.__init__")))
    (rd_Barred : PySem.W.readsIn K C_Barred (.type "type") = true)
    (ga_Barred : PySem.W.specialIn K (.ref C_Barred) "__getattribute__" = some (some (.builtin "type.__getattribute__")))
    (at_Barred : PySem.W.findCls K (.ref C_Barred) (.type "type") "__init__" = some (.val (.ref f_Barred_init)))
    (v_LookupError : PySem.W.findCls K (.type "LookupError") (.type "type") "__init__" = some (.val (.builtin "LookupError.__init__")))
    (xL_M : K.lookup C_NoNumber = some (excClassObj nmM qM C_NoNumber NM bsM [.ref C_GuestError, .type "ValueError", .type "Exception", .type "BaseException", .type "object"] true snM subM abM colM ddM wM0 wM1 wM2 wM3 wM5 "ValueError.__new__"))
    (sa_M : PySem.W.findIn K (.ref C_NoNumber) "__setattr__" = some (some (.builtin "object.__setattr__")))
    (ex_M : PySem.W.subIn K (.ref C_NoNumber) (.type "BaseException") = some true)
    (ty_M : PySem.W.typeIn K (.ref C_NoNumber) = some (.type "type"))
    (kp_M : PySem.W.keepIn K (.ref C_NoNumber) = true)
    (tf_M : PySem.W.typeIn K (.ref f_NoNumber_init) = some (.type "function"))
    (nf_M : PySem.W.findIn K (.ref C_NoNumber) "found" = some none)
    (hg_M : PySem.W.findIn K (.ref C_NoNumber) "__getattribute__" = some (some (.builtin "BaseException.__getattribute__")))
    (hk_M : PySem.W.findIn K (.ref C_NoNumber) "__getattr__" = some none)
    (hd_M : PySem.W.hasDictIn K C_NoNumber = true)
    (ha_M : PySem.W.findIn K (.ref C_NoNumber) "__class__" = some (some (.builtin "object.__class__")))
    (hm_M : PySem.W.mroIn K C_NoNumber (.type "object") = some true)
    (xL_N : K.lookup C_NoName = some (excClassObj nmN qN C_NoName NN bsN [.ref C_GuestError, .type "ValueError", .type "Exception", .type "BaseException", .type "object"] true snN subN abN colN ddN wN0 wN1 wN2 wN3 wN5 "ValueError.__new__"))
    (sa_N : PySem.W.findIn K (.ref C_NoName) "__setattr__" = some (some (.builtin "object.__setattr__")))
    (ex_N : PySem.W.subIn K (.ref C_NoName) (.type "BaseException") = some true)
    (ty_N : PySem.W.typeIn K (.ref C_NoName) = some (.type "type"))
    (kp_N : PySem.W.keepIn K (.ref C_NoName) = true)
    (tf_N : PySem.W.typeIn K (.ref f_NoName_init) = some (.type "function"))
    (nf_N : PySem.W.findIn K (.ref C_NoName) "found" = some none)
    (hg_N : PySem.W.findIn K (.ref C_NoName) "__getattribute__" = some (some (.builtin "BaseException.__getattribute__")))
    (hk_N : PySem.W.findIn K (.ref C_NoName) "__getattr__" = some none)
    (hd_N : PySem.W.hasDictIn K C_NoName = true)
    (ha_N : PySem.W.findIn K (.ref C_NoName) "__class__" = some (some (.builtin "object.__class__")))
    (hm_N : PySem.W.mroIn K C_NoName (.type "object") = some true)
    (xL_W : K.lookup C_NoWord = some (excClassObj nmW qW C_NoWord NW bsW [.ref C_GuestError, .type "ValueError", .type "Exception", .type "BaseException", .type "object"] true snW subW abW colW ddW wW0 wW1 wW2 wW3 wW5 "ValueError.__new__"))
    (sa_W : PySem.W.findIn K (.ref C_NoWord) "__setattr__" = some (some (.builtin "object.__setattr__")))
    (ex_W : PySem.W.subIn K (.ref C_NoWord) (.type "BaseException") = some true)
    (ty_W : PySem.W.typeIn K (.ref C_NoWord) = some (.type "type"))
    (kp_W : PySem.W.keepIn K (.ref C_NoWord) = true)
    (tf_W : PySem.W.typeIn K (.ref f_NoWord_init) = some (.type "function"))
    (nf_W : PySem.W.findIn K (.ref C_NoWord) "found" = some none)
    (hg_W : PySem.W.findIn K (.ref C_NoWord) "__getattribute__" = some (some (.builtin "BaseException.__getattribute__")))
    (hk_W : PySem.W.findIn K (.ref C_NoWord) "__getattr__" = some none)
    (hd_W : PySem.W.hasDictIn K C_NoWord = true)
    (ha_W : PySem.W.findIn K (.ref C_NoWord) "__class__" = some (some (.builtin "object.__class__")))
    (hm_W : PySem.W.mroIn K C_NoWord (.type "object") = some true)
    (xL_I : K.lookup C_NoImage = some (excClassObj nmI qI C_NoImage NI bsI [.ref C_GuestError, .type "ValueError", .type "Exception", .type "BaseException", .type "object"] true snI subI abI colI ddI wI0 wI1 wI2 wI3 wI5 "ValueError.__new__"))
    (sa_I : PySem.W.findIn K (.ref C_NoImage) "__setattr__" = some (some (.builtin "object.__setattr__")))
    (ex_I : PySem.W.subIn K (.ref C_NoImage) (.type "BaseException") = some true)
    (ty_I : PySem.W.typeIn K (.ref C_NoImage) = some (.type "type"))
    (kp_I : PySem.W.keepIn K (.ref C_NoImage) = true)
    (tf_I : PySem.W.typeIn K (.ref f_NoImage_init) = some (.type "function"))
    (nf_I : PySem.W.findIn K (.ref C_NoImage) "found" = some none)
    (hg_I : PySem.W.findIn K (.ref C_NoImage) "__getattribute__" = some (some (.builtin "BaseException.__getattribute__")))
    (hk_I : PySem.W.findIn K (.ref C_NoImage) "__getattr__" = some none)
    (hd_I : PySem.W.hasDictIn K C_NoImage = true)
    (ha_I : PySem.W.findIn K (.ref C_NoImage) "__class__" = some (some (.builtin "object.__class__")))
    (hm_I : PySem.W.mroIn K C_NoImage (.type "object") = some true)
    (xL_D : K.lookup C_Doubled = some (excClassObj nmD qD C_Doubled ND bsD [.ref C_GuestError, .type "ValueError", .type "Exception", .type "BaseException", .type "object"] true snD subD abD colD ddD wD0 wD1 wD2 wD3 wD5 "ValueError.__new__"))
    (sa_D : PySem.W.findIn K (.ref C_Doubled) "__setattr__" = some (some (.builtin "object.__setattr__")))
    (ex_D : PySem.W.subIn K (.ref C_Doubled) (.type "BaseException") = some true)
    (ty_D : PySem.W.typeIn K (.ref C_Doubled) = some (.type "type"))
    (kp_D : PySem.W.keepIn K (.ref C_Doubled) = true)
    (tf_D : PySem.W.typeIn K (.ref f_Doubled_init) = some (.type "function"))
    (nf_D : PySem.W.findIn K (.ref C_Doubled) "found" = some none)
    (hg_D : PySem.W.findIn K (.ref C_Doubled) "__getattribute__" = some (some (.builtin "BaseException.__getattribute__")))
    (hk_D : PySem.W.findIn K (.ref C_Doubled) "__getattr__" = some none)
    (hd_D : PySem.W.hasDictIn K C_Doubled = true)
    (ha_D : PySem.W.findIn K (.ref C_Doubled) "__class__" = some (some (.builtin "object.__class__")))
    (hm_D : PySem.W.mroIn K C_Doubled (.type "object") = some true)
    (xL_A : K.lookup C_NoGuest = some (excClassObj nmA qA C_NoGuest NA bsA [.ref C_Missing, .type "KeyError", .type "LookupError", .type "Exception", .type "BaseException", .type "object"] true snA subA abA colA ddA wA0 wA1 wA2 wA3 wA5 "LookupError.__new__"))
    (sa_A : PySem.W.findIn K (.ref C_NoGuest) "__setattr__" = some (some (.builtin "object.__setattr__")))
    (ex_A : PySem.W.subIn K (.ref C_NoGuest) (.type "BaseException") = some true)
    (ty_A : PySem.W.typeIn K (.ref C_NoGuest) = some (.type "type"))
    (kp_A : PySem.W.keepIn K (.ref C_NoGuest) = true)
    (tf_A : PySem.W.typeIn K (.ref f_NoGuest_init) = some (.type "function"))
    (nf_A : PySem.W.findIn K (.ref C_NoGuest) "found" = some none)
    (hg_A : PySem.W.findIn K (.ref C_NoGuest) "__getattribute__" = some (some (.builtin "BaseException.__getattribute__")))
    (hk_A : PySem.W.findIn K (.ref C_NoGuest) "__getattr__" = some none)
    (hd_A : PySem.W.hasDictIn K C_NoGuest = true)
    (ha_A : PySem.W.findIn K (.ref C_NoGuest) "__class__" = some (some (.builtin "object.__class__")))
    (hm_A : PySem.W.mroIn K C_NoGuest (.type "object") = some true)
    (xL_F : K.lookup C_Full = some (excClassObj nmF qF C_Full NF bsF [.ref C_Barred, .type "LookupError", .type "Exception", .type "BaseException", .type "object"] true snF subF abF colF ddF wF0 wF1 wF2 wF3 wF5 "LookupError.__new__"))
    (sa_F : PySem.W.findIn K (.ref C_Full) "__setattr__" = some (some (.builtin "object.__setattr__")))
    (ex_F : PySem.W.subIn K (.ref C_Full) (.type "BaseException") = some true)
    (ty_F : PySem.W.typeIn K (.ref C_Full) = some (.type "type"))
    (kp_F : PySem.W.keepIn K (.ref C_Full) = true)
    (tf_F : PySem.W.typeIn K (.ref f_Full_init) = some (.type "function"))
    (nf_F : PySem.W.findIn K (.ref C_Full) "many" = some none)
    (hg_F : PySem.W.findIn K (.ref C_Full) "__getattribute__" = some (some (.builtin "BaseException.__getattribute__")))
    (hk_F : PySem.W.findIn K (.ref C_Full) "__getattr__" = some none)
    (hd_F : PySem.W.hasDictIn K C_Full = true)
    (ha_F : PySem.W.findIn K (.ref C_Full) "__class__" = some (some (.builtin "object.__class__")))
    (hm_F : PySem.W.mroIn K C_Full (.type "object") = some true)
    (s_M_M : PySem.W.subIn K (.ref C_NoNumber) (.ref C_NoNumber) = some true)
    (s_N_M : PySem.W.subIn K (.ref C_NoName) (.ref C_NoNumber) = some false)
    (s_N_N : PySem.W.subIn K (.ref C_NoName) (.ref C_NoName) = some true)
    (s_W_M : PySem.W.subIn K (.ref C_NoWord) (.ref C_NoNumber) = some false)
    (s_W_N : PySem.W.subIn K (.ref C_NoWord) (.ref C_NoName) = some false)
    (s_W_W : PySem.W.subIn K (.ref C_NoWord) (.ref C_NoWord) = some true)
    (s_I_M : PySem.W.subIn K (.ref C_NoImage) (.ref C_NoNumber) = some false)
    (s_I_N : PySem.W.subIn K (.ref C_NoImage) (.ref C_NoName) = some false)
    (s_I_W : PySem.W.subIn K (.ref C_NoImage) (.ref C_NoWord) = some false)
    (s_I_I : PySem.W.subIn K (.ref C_NoImage) (.ref C_NoImage) = some true)
    (s_D_M : PySem.W.subIn K (.ref C_Doubled) (.ref C_NoNumber) = some false)
    (s_D_N : PySem.W.subIn K (.ref C_Doubled) (.ref C_NoName) = some false)
    (s_D_W : PySem.W.subIn K (.ref C_Doubled) (.ref C_NoWord) = some false)
    (s_D_I : PySem.W.subIn K (.ref C_Doubled) (.ref C_NoImage) = some false)
    (s_D_D : PySem.W.subIn K (.ref C_Doubled) (.ref C_Doubled) = some true)
    (s_A_M : PySem.W.subIn K (.ref C_NoGuest) (.ref C_NoNumber) = some false)
    (s_A_N : PySem.W.subIn K (.ref C_NoGuest) (.ref C_NoName) = some false)
    (s_A_W : PySem.W.subIn K (.ref C_NoGuest) (.ref C_NoWord) = some false)
    (s_A_I : PySem.W.subIn K (.ref C_NoGuest) (.ref C_NoImage) = some false)
    (s_A_D : PySem.W.subIn K (.ref C_NoGuest) (.ref C_Doubled) = some false)
    (s_A_A : PySem.W.subIn K (.ref C_NoGuest) (.ref C_NoGuest) = some true)
    (s_F_M : PySem.W.subIn K (.ref C_Full) (.ref C_NoNumber) = some false)
    (s_F_N : PySem.W.subIn K (.ref C_Full) (.ref C_NoName) = some false)
    (s_F_W : PySem.W.subIn K (.ref C_Full) (.ref C_NoWord) = some false)
    (s_F_I : PySem.W.subIn K (.ref C_Full) (.ref C_NoImage) = some false)
    (s_F_D : PySem.W.subIn K (.ref C_Full) (.ref C_Doubled) = some false)
    (s_F_A : PySem.W.subIn K (.ref C_Full) (.ref C_NoGuest) = some false)
    (s_F_F : PySem.W.subIn K (.ref C_Full) (.ref C_Full) = some true)
    (hn : PySem.W.specialIn K (.builtin "object.__class__") "__get__" = some (some (.builtin "getset_descriptor.__get__")))
    (htk : PySem.W.takesIn K (.builtin "object.__class__") = some true)
    (pg_Rooms : PySem.W.plainGet K C_Rooms Str.empty = true)
    (hdd_Rooms : PySem.W.hasDictIn K C_Rooms = true)
    (po_Rooms : PySem.W.plainOver K C_Rooms = true)
    (saa_Rooms : PySem.W.findIn K (.ref C_Rooms) "__setattr__" = some (some (.builtin "object.__setattr__")))
    (mk_Rooms : PySem.W.makesIn K C_Rooms = true)
    (kc_Rooms : PySem.W.keepIn K (.ref C_Rooms) = true)
    (na_Rooms_cells : PySem.W.findIn K (.ref C_Rooms) "_cells" = some none)
    (na_Rooms_given : PySem.W.findIn K (.ref C_Rooms) "_given" = some none)
    (na_Rooms_givings : PySem.W.findIn K (.ref C_Rooms) "_givings" = some none)
    (na_Rooms_guests : PySem.W.findIn K (.ref C_Rooms) "_guests" = some none)
    (fn_Rooms_init : PySem.W.isFn K (.ref f_Rooms_init) = true)
    (fn_Rooms_come : PySem.W.isFn K (.ref f_Rooms_come) = true)
    (fn_Rooms_read_cell : PySem.W.isFn K (.ref f_Rooms_read_cell) = true)
    (fn_Rooms_write_cell : PySem.W.isFn K (.ref f_Rooms_write_cell) = true)
    (fn_Rooms_share : PySem.W.isFn K (.ref f_Rooms_share) = true)
    (fn_Rooms_how_many : PySem.W.isFn K (.ref f_Rooms_how_many) = true)
    (fn_Rooms_shared : PySem.W.isFn K (.ref f_Rooms_shared) = true)
    (fn_Rooms_names : PySem.W.isFn K (.ref f_Rooms_names) = true)
    (fn_Rooms_in_use : PySem.W.isFn K (.ref f_Rooms_in_use) = true)
    (fn_Rooms_way : PySem.W.isFn K (.ref f_Rooms_way) = true)
    (fn_Rooms_words : PySem.W.isFn K (.ref f_Rooms_words) = true)
    (fn_Rooms_lying : PySem.W.isFn K (.ref f_Rooms_lying) = true)
    (fn_Rooms_check_guest : PySem.W.isFn K (.ref f_Rooms_check_guest) = true)
    (fn_Rooms_words_at : PySem.W.isFn K (.ref f_Rooms_words_at) = true)
    (fn_Rooms_brought : PySem.W.isFn K (.ref f_Rooms_brought) = true)
    (fn_Rooms_free_room : PySem.W.isFn K (.ref f_Rooms_free_room) = true)
    (fn_Rooms_put : PySem.W.isFn K (.ref f_Rooms_put) = true)
    (z_isinstance : PySem.W.nsIn K mainGlobals "isinstance" = some none)
    (z_int : PySem.W.nsIn K mainGlobals "int" = some none)
    (z_bool : PySem.W.nsIn K mainGlobals "bool" = some none)
    (z_str : PySem.W.nsIn K mainGlobals "str" = some none)
    (z_list : PySem.W.nsIn K mainGlobals "list" = some none)
    (z_tuple : PySem.W.nsIn K mainGlobals "tuple" = some none)
    (z_len : PySem.W.nsIn K mainGlobals "len" = some none)
    (z_max : PySem.W.nsIn K mainGlobals "max" = some none)
    (z_min : PySem.W.nsIn K mainGlobals "min" = some none)
    (z_range : PySem.W.nsIn K mainGlobals "range" = some none)
    (z_all : PySem.W.nsIn K mainGlobals "all" = some none)
    (z_sorted : PySem.W.nsIn K mainGlobals "sorted" = some none)
    (z_enumerate : PySem.W.nsIn K mainGlobals "enumerate" = some none)
    (z_repr : PySem.W.nsIn K mainGlobals "repr" = some none)
    (z_ValueError : PySem.W.nsIn K mainGlobals "ValueError" = some none)
    (z_LookupError : PySem.W.nsIn K mainGlobals "LookupError" = some none)
    (z_KeyError : PySem.W.nsIn K mainGlobals "KeyError" = some none) :
    ∃ fd : FuncData, (∀ (s : Shared) (v : Value), BindsTo s fd ⟨[v], []⟩ [("_law_script", v)]) ∧ ∀ base : Heap, K.In base → base.Ns mainGlobals mg → FnG l.prog w K mg base CX0 11 fa fd ["_law_script"] (spLaw K) := by
  have e := hfa.symm.trans (PySem.W.mg_of X G a_law)
  cases e
  have mo : ∀ {x : Str} {u : Value}, PySem.W.nsIn K mainGlobals x = some (some u) → mg x = some u := fun q => PySem.W.mg_of X G q
  have mz : ∀ {x : Str}, PySem.W.nsIn K mainGlobals x = some none → mg x = none := fun q => PySem.W.mg_none_of X G q
  have F_GuestError_init := fun_mk (st := s_GuestError_init) l_GuestError_init c_GuestError_init k_GuestError_init
  have b_GuestError_init := F_GuestError_init.binds (ps := ["self", "text"]) fun _ _ _ _ _ _ us hl => match us, hl with | [_, _], _ => rfl
  have F_Missing_init := fun_mk (st := s_Missing_init) l_Missing_init c_Missing_init k_Missing_init
  have b_Missing_init := F_Missing_init.binds (ps := ["self", "text"]) fun _ _ _ _ _ _ us hl => match us, hl with | [_, _], _ => rfl
  have F_Barred_init := fun_mk (st := s_Barred_init) l_Barred_init c_Barred_init k_Barred_init
  have b_Barred_init := F_Barred_init.binds (ps := ["self", "text"]) fun _ _ _ _ _ _ us hl => match us, hl with | [_, _], _ => rfl
  have F_NoNumber_init := fun_mk (st := s_NoNumber_init) l_NoNumber_init c_NoNumber_init k_NoNumber_init
  have b_NoNumber_init := F_NoNumber_init.binds (ps := ["self", "found"]) fun _ _ _ _ _ _ us hl => match us, hl with | [_, _], _ => rfl
  have F_NoName_init := fun_mk (st := s_NoName_init) l_NoName_init c_NoName_init k_NoName_init
  have b_NoName_init := F_NoName_init.binds (ps := ["self", "found"]) fun _ _ _ _ _ _ us hl => match us, hl with | [_, _], _ => rfl
  have F_NoWord_init := fun_mk (st := s_NoWord_init) l_NoWord_init c_NoWord_init k_NoWord_init
  have b_NoWord_init := F_NoWord_init.binds (ps := ["self", "found"]) fun _ _ _ _ _ _ us hl => match us, hl with | [_, _], _ => rfl
  have F_NoImage_init := fun_mk (st := s_NoImage_init) l_NoImage_init c_NoImage_init k_NoImage_init
  have b_NoImage_init := F_NoImage_init.binds (ps := ["self", "found"]) fun _ _ _ _ _ _ us hl => match us, hl with | [_, _], _ => rfl
  have F_Doubled_init := fun_mk (st := s_Doubled_init) l_Doubled_init c_Doubled_init k_Doubled_init
  have b_Doubled_init := F_Doubled_init.binds (ps := ["self", "found"]) fun _ _ _ _ _ _ us hl => match us, hl with | [_, _], _ => rfl
  have F_NoGuest_init := fun_mk (st := s_NoGuest_init) l_NoGuest_init c_NoGuest_init k_NoGuest_init
  have b_NoGuest_init := F_NoGuest_init.binds (ps := ["self", "found"]) fun _ _ _ _ _ _ us hl => match us, hl with | [_, _], _ => rfl
  have F_Full_init := fun_mk (st := s_Full_init) l_Full_init c_Full_init k_Full_init
  have b_Full_init := F_Full_init.binds (ps := ["self", "many"]) fun _ _ _ _ _ _ us hl => match us, hl with | [_, _], _ => rfl
  have F_is_whole := fun_mk (st := s_is_whole) l_is_whole c_is_whole k_is_whole
  have b_is_whole := F_is_whole.binds (ps := ["thing", "low", "high"]) fun _ _ _ _ _ _ us hl => match us, hl with | [_, _, _], _ => rfl
  have F_is_word := fun_mk (st := s_is_word) l_is_word c_is_word k_is_word
  have b_is_word := F_is_word.binds (ps := ["thing"]) fun _ _ _ _ _ _ us hl => match us, hl with | [_], _ => rfl
  have F_is_name := fun_mk (st := s_is_name) l_is_name c_is_name k_is_name
  have b_is_name := F_is_name.binds (ps := ["thing"]) fun _ _ _ _ _ _ us hl => match us, hl with | [_], _ => rfl
  have F_all_within := fun_mk (st := s_all_within) l_all_within c_all_within k_all_within
  have b_all_within := F_all_within.binds (ps := ["text", "first", "last"]) fun _ _ _ _ _ _ us hl => match us, hl with | [_, _, _], _ => rfl
  have F_check_number := fun_mk (st := s_check_number) l_check_number c_check_number k_check_number
  have b_check_number := F_check_number.binds (ps := ["thing", "low", "high"]) fun _ _ _ _ _ _ us hl => match us, hl with | [_, _, _], _ => rfl
  have F_check_word := fun_mk (st := s_check_word) l_check_word c_check_word k_check_word
  have b_check_word := F_check_word.binds (ps := ["thing"]) fun _ _ _ _ _ _ us hl => match us, hl with | [_], _ => rfl
  have F_is_eight := fun_mk (st := s_is_eight) l_is_eight c_is_eight k_is_eight
  have b_is_eight := F_is_eight.binds (ps := ["thing"]) fun _ _ _ _ _ _ us hl => match us, hl with | [_], _ => rfl
  have F_is_row := fun_mk (st := s_is_row) l_is_row c_is_row k_is_row
  have b_is_row := F_is_row.binds (ps := ["thing"]) fun _ _ _ _ _ _ us hl => match us, hl with | [_], _ => rfl
  have F_Rooms_init := fun_mk (st := s_Rooms_init) l_Rooms_init c_Rooms_init k_Rooms_init
  have b_Rooms_init := F_Rooms_init.binds (ps := ["self", "many"]) fun _ _ _ _ _ _ us hl => match us, hl with | [_, _], _ => rfl
  have F_Rooms_come := fun_mk (st := s_Rooms_come) l_Rooms_come c_Rooms_come k_Rooms_come
  have b_Rooms_come := F_Rooms_come.binds (ps := ["self", "name", "rooms"]) fun _ _ _ _ _ _ us hl => match us, hl with | [_, _, _], _ => rfl
  have F_Rooms_read_cell := fun_mk (st := s_Rooms_read_cell) l_Rooms_read_cell c_Rooms_read_cell k_Rooms_read_cell
  have b_Rooms_read_cell := F_Rooms_read_cell.binds (ps := ["self", "name", "room", "cell"]) fun _ _ _ _ _ _ us hl => match us, hl with | [_, _, _, _], _ => rfl
  have F_Rooms_write_cell := fun_mk (st := s_Rooms_write_cell) l_Rooms_write_cell c_Rooms_write_cell k_Rooms_write_cell
  have b_Rooms_write_cell := F_Rooms_write_cell.binds (ps := ["self", "name", "room", "cell", "word"]) fun _ _ _ _ _ _ us hl => match us, hl with | [_, _, _, _, _], _ => rfl
  have F_Rooms_share := fun_mk (st := s_Rooms_share) l_Rooms_share c_Rooms_share k_Rooms_share
  have b_Rooms_share := F_Rooms_share.binds (ps := ["self"]) fun _ _ _ _ _ _ us hl => match us, hl with | [_], _ => rfl
  have F_Rooms_how_many := fun_mk (st := s_Rooms_how_many) l_Rooms_how_many c_Rooms_how_many k_Rooms_how_many
  have b_Rooms_how_many := F_Rooms_how_many.binds (ps := ["self"]) fun _ _ _ _ _ _ us hl => match us, hl with | [_], _ => rfl
  have F_Rooms_shared := fun_mk (st := s_Rooms_shared) l_Rooms_shared c_Rooms_shared k_Rooms_shared
  have b_Rooms_shared := F_Rooms_shared.binds (ps := ["self"]) fun _ _ _ _ _ _ us hl => match us, hl with | [_], _ => rfl
  have F_Rooms_names := fun_mk (st := s_Rooms_names) l_Rooms_names c_Rooms_names k_Rooms_names
  have b_Rooms_names := F_Rooms_names.binds (ps := ["self"]) fun _ _ _ _ _ _ us hl => match us, hl with | [_], _ => rfl
  have F_Rooms_in_use := fun_mk (st := s_Rooms_in_use) l_Rooms_in_use c_Rooms_in_use k_Rooms_in_use
  have b_Rooms_in_use := F_Rooms_in_use.binds (ps := ["self"]) fun _ _ _ _ _ _ us hl => match us, hl with | [_], _ => rfl
  have F_Rooms_way := fun_mk (st := s_Rooms_way) l_Rooms_way c_Rooms_way k_Rooms_way
  have b_Rooms_way := F_Rooms_way.binds (ps := ["self", "name", "room"]) fun _ _ _ _ _ _ us hl => match us, hl with | [_, _, _], _ => rfl
  have F_Rooms_words := fun_mk (st := s_Rooms_words) l_Rooms_words c_Rooms_words k_Rooms_words
  have b_Rooms_words := F_Rooms_words.binds (ps := ["self", "name", "room"]) fun _ _ _ _ _ _ us hl => match us, hl with | [_, _, _], _ => rfl
  have F_Rooms_lying := fun_mk (st := s_Rooms_lying) l_Rooms_lying c_Rooms_lying k_Rooms_lying
  have b_Rooms_lying := F_Rooms_lying.binds (ps := ["self", "number"]) fun _ _ _ _ _ _ us hl => match us, hl with | [_, _], _ => rfl
  have F_Rooms_check_guest := fun_mk (st := s_Rooms_check_guest) l_Rooms_check_guest c_Rooms_check_guest k_Rooms_check_guest
  have b_Rooms_check_guest := F_Rooms_check_guest.binds (ps := ["self", "name"]) fun _ _ _ _ _ _ us hl => match us, hl with | [_, _], _ => rfl
  have F_Rooms_words_at := fun_mk (st := s_Rooms_words_at) l_Rooms_words_at c_Rooms_words_at k_Rooms_words_at
  have b_Rooms_words_at := F_Rooms_words_at.binds (ps := ["self", "place"]) fun _ _ _ _ _ _ us hl => match us, hl with | [_, _], _ => rfl
  have F_Rooms_brought := fun_mk (st := s_Rooms_brought) l_Rooms_brought c_Rooms_brought k_Rooms_brought
  have b_Rooms_brought := F_Rooms_brought.binds (ps := ["self", "name", "room"]) fun _ _ _ _ _ _ us hl => match us, hl with | [_, _, _], _ => rfl
  have F_Rooms_free_room := fun_mk (st := s_Rooms_free_room) l_Rooms_free_room c_Rooms_free_room k_Rooms_free_room
  have b_Rooms_free_room := F_Rooms_free_room.binds (ps := ["self"]) fun _ _ _ _ _ _ us hl => match us, hl with | [_], _ => rfl
  have F_Rooms_put := fun_mk (st := s_Rooms_put) l_Rooms_put c_Rooms_put k_Rooms_put
  have b_Rooms_put := F_Rooms_put.binds (ps := ["self", "number", "place"]) fun _ _ _ _ _ _ us hl => match us, hl with | [_, _, _], _ => rfl
  have F_places := fun_mk (st := s_places) l_places c_places k_places
  have b_places := F_places.binds (ps := ["rooms"]) fun _ _ _ _ _ _ us hl => match us, hl with | [_], _ => rfl
  have F_cell_L := fun_mk (st := s_cell_L) l_cell_L c_cell_L k_cell_L
  have b_cell_L := F_cell_L.binds (ps := ["_law_script", "_law_k"]) fun _ _ _ _ _ _ us hl => match us, hl with | [_, _], _ => rfl
  have F_box_L := fun_mk (st := s_box_L) l_box_L c_box_L k_box_L
  have b_box_L := F_box_L.binds (ps := ["_law_cell_here"]) fun _ _ _ _ _ _ us hl => match us, hl with | [_], _ => rfl
  have F_take_L := fun_mk (st := s_take_L) l_take_L c_take_L k_take_L
  have b_take_L := F_take_L.binds (ps := ["_law_box_here", "_law_many"]) fun _ _ _ _ _ _ us hl => match us, hl with | [_, _], _ => rfl
  have F_names_L := fun_mk (st := s_names_L) l_names_L c_names_L k_names_L
  have b_names_L := F_names_L.binds (ps := ["_law_box_here", "_law_many"]) fun _ _ _ _ _ _ us hl => match us, hl with | [_, _], _ => rfl
  have F_model_L := fun_mk (st := s_model_L) l_model_L c_model_L k_model_L
  have b_model_L := F_model_L.binds (ps := ["_law_many"]) fun _ _ _ _ _ _ us hl => match us, hl with | [_], _ => rfl
  have F_comes_L := fun_mk (st := s_comes_L) l_comes_L c_comes_L k_comes_L
  have b_comes_L := F_comes_L.binds (ps := ["_law_model_here", "_law_name", "_law_rooms"]) fun _ _ _ _ _ _ us hl => match us, hl with | [_, _, _], _ => rfl
  have F_lying_L := fun_mk (st := s_lying_L) l_lying_L c_lying_L k_lying_L
  have b_lying_L := F_lying_L.binds (ps := ["_law_model_here", "_law_at"]) fun _ _ _ _ _ _ us hl => match us, hl with | [_, _], _ => rfl
  have F_given_L := fun_mk (st := s_given_L) l_given_L c_given_L k_given_L
  have b_given_L := F_given_L.binds (ps := ["_law_model_here", "_law_words_here"]) fun _ _ _ _ _ _ us hl => match us, hl with | [_, _], _ => rfl
  have F_words_L := fun_mk (st := s_words_L) l_words_L c_words_L k_words_L
  have b_words_L := F_words_L.binds (ps := ["_law_model_here", "_law_name", "_law_room"]) fun _ _ _ _ _ _ us hl => match us, hl with | [_, _, _], _ => rfl
  have F_brought_L := fun_mk (st := s_brought_L) l_brought_L c_brought_L k_brought_L
  have b_brought_L := F_brought_L.binds (ps := ["_law_model_here", "_law_name", "_law_room"]) fun _ _ _ _ _ _ us hl => match us, hl with | [_, _, _], _ => rfl
  have F_read_L := fun_mk (st := s_read_L) l_read_L c_read_L k_read_L
  have b_read_L := F_read_L.binds (ps := ["_law_model_here", "_law_name", "_law_room", "_law_cell_here"]) fun _ _ _ _ _ _ us hl => match us, hl with | [_, _, _, _], _ => rfl
  have F_write_L := fun_mk (st := s_write_L) l_write_L c_write_L k_write_L
  have b_write_L := F_write_L.binds (ps := ["_law_model_here", "_law_name", "_law_room", "_law_cell_here", "_law_word"]) fun _ _ _ _ _ _ us hl => match us, hl with | [_, _, _, _, _], _ => rfl
  have F_shared_L := fun_mk (st := s_shared_L) l_shared_L c_shared_L k_shared_L
  have b_shared_L := F_shared_L.binds (ps := ["_law_model_here"]) fun _ _ _ _ _ _ us hl => match us, hl with | [_], _ => rfl
  have F_told_L := fun_mk (st := s_told_L) l_told_L c_told_L k_told_L
  have b_told_L := F_told_L.binds (ps := ["_law_model_here"]) fun _ _ _ _ _ _ us hl => match us, hl with | [_], _ => rfl
  have F_asked_L := fun_mk (st := s_asked_L) l_asked_L c_asked_L k_asked_L
  have b_asked_L := F_asked_L.binds (ps := ["_law_rooms"]) fun _ _ _ _ _ _ us hl => match us, hl with | [_], _ => rfl
  have F_alike_rooms_L := fun_mk (st := s_alike_rooms_L) l_alike_rooms_L c_alike_rooms_L k_alike_rooms_L
  have b_alike_rooms_L := F_alike_rooms_L.binds (ps := ["_law_box_here"]) fun _ _ _ _ _ _ us hl => match us, hl with | [_], _ => rfl
  have F_deed_L := fun_mk (st := s_deed_L) l_deed_L c_deed_L k_deed_L
  have b_deed_L := F_deed_L.binds (ps := ["_law_box_here", "_law_rooms", "_law_model_here"]) fun _ _ _ _ _ _ us hl => match us, hl with | [_, _, _], _ => rfl
  have F_law := fun_mk (st := s_law) l_law c_law k_law
  have oex : ∀ {b : Bs} {C : Addr} {nm q : Str} {N : Addr} {bs bm : List Value} {sn : List Str} {sub : List Value} {ab : Bool} {col : Option Bool} {dd : Option Addr} {k0 k1 k2 k3 k5 : Option Value}, K.lookup C = some (excClassObj nm q C N bs bm true sn sub ab col dd k0 k1 k2 k3 k5 b.new) → Tail b bm →
      PySem.W.findIn K (.ref C) "__setattr__" = some (some (.builtin "object.__setattr__")) → PySem.W.subIn K (.ref C) (.type "BaseException") = some true → PySem.W.typeIn K (.ref C) = some (.type "type") → PySem.W.keepIn K (.ref C) = true → OexT K b C :=
    fun l t a b c d => ⟨⟨_, _, _, _, _, _, _, _, _, _, _, _, _, _, _, l, t⟩, a, b, c, d⟩
  have T : Txt K mg { CG := C_GuestError, fG := f_GuestError_init, CK := C_Missing, fK := f_Missing_init, CB := C_Barred, fB := f_Barred_init, CM := C_NoNumber, fM := f_NoNumber_init, CN := C_NoName, fN := f_NoName_init, CW := C_NoWord, fW := f_NoWord_init, CI := C_NoImage, fI := f_NoImage_init, CD := C_Doubled, fD := f_Doubled_init, CA := C_NoGuest, fA := f_NoGuest_init, CF := C_Full, fF := f_Full_init, CR := C_Rooms, CS := 0, aN := aNO } :=
    { m_isinstance := mz z_isinstance, m_int := mz z_int, m_bool := mz z_bool, m_str := mz z_str, m_list := mz z_list, m_tuple := mz z_tuple, m_len := mz z_len, m_max := mz z_max, m_min := mz z_min, m_range := mz z_range, m_all := mz z_all, m_sorted := mz z_sorted, m_enumerate := mz z_enumerate, m_ValueError := mz z_ValueError, m_LookupError := mz z_LookupError, m_KeyError := mz z_KeyError, m_repr := mz z_repr,
      c_MOST := ⟨_, mo cMO, ⟨_, rfl⟩⟩, c_EIGHT := ⟨_, mo cEI, ⟨_, rfl⟩⟩, c_MOST_ROOMS := ⟨_, mo cMR, ⟨_, rfl⟩⟩, c_MOST_GUESTS := ⟨_, mo cMG, ⟨_, rfl⟩⟩, c_NOUGHTS := ⟨_, mo cNO, rfl⟩,
      no := fun H => .inr ⟨_, _, _, lNO, rfl, rfl, (by show (8 : Nat) ≤ sizeLine; decide), .cons ⟨_, rfl⟩ (.cons ⟨_, rfl⟩ (.cons ⟨_, rfl⟩ (.cons ⟨_, rfl⟩ (.cons ⟨_, rfl⟩ (.cons ⟨_, rfl⟩ (.cons ⟨_, rfl⟩ (.cons ⟨_, rfl⟩ (.nil))))))))⟩, noT := fun H => .inl ⟨.type "tuple", .kTuple lNO rfl, kit_ty (by decide +kernel)⟩,
      g_GuestError := mo aC_GuestError, rd_GuestError := rd_GuestError, ga_GuestError := ga_GuestError, at_GuestError := at_GuestError, g_Missing := mo aC_Missing, rd_Missing := rd_Missing, ga_Missing := ga_Missing, at_Missing := at_Missing, g_Barred := mo aC_Barred, rd_Barred := rd_Barred, ga_Barred := ga_Barred, at_Barred := at_Barred, vV := v_ValueError, vL := v_LookupError, vK := v_KeyError,
      g_NoNumber := mo aC_NoNumber, g_NoName := mo aC_NoName, g_NoWord := mo aC_NoWord, g_NoImage := mo aC_NoImage, g_Doubled := mo aC_Doubled, g_NoGuest := mo aC_NoGuest, g_Full := mo aC_Full,
      xM := ⟨oex (b := .ve) xL_M (.own _ .here) sa_M ex_M ty_M kp_M, a_NoNumber_init, tf_M, nf_M, ⟨hg_M, hk_M, ex_M, hd_M⟩, ⟨hg_M, hk_M, ex_M, hd_M, ha_M, hn, htk, hm_M⟩⟩,
      xN := ⟨oex (b := .ve) xL_N (.own _ .here) sa_N ex_N ty_N kp_N, a_NoName_init, tf_N, nf_N, ⟨hg_N, hk_N, ex_N, hd_N⟩, ⟨hg_N, hk_N, ex_N, hd_N, ha_N, hn, htk, hm_N⟩⟩,
      xW := ⟨oex (b := .ve) xL_W (.own _ .here) sa_W ex_W ty_W kp_W, a_NoWord_init, tf_W, nf_W, ⟨hg_W, hk_W, ex_W, hd_W⟩, ⟨hg_W, hk_W, ex_W, hd_W, ha_W, hn, htk, hm_W⟩⟩,
      xI := ⟨oex (b := .ve) xL_I (.own _ .here) sa_I ex_I ty_I kp_I, a_NoImage_init, tf_I, nf_I, ⟨hg_I, hk_I, ex_I, hd_I⟩, ⟨hg_I, hk_I, ex_I, hd_I, ha_I, hn, htk, hm_I⟩⟩,
      xD := ⟨oex (b := .ve) xL_D (.own _ .here) sa_D ex_D ty_D kp_D, a_Doubled_init, tf_D, nf_D, ⟨hg_D, hk_D, ex_D, hd_D⟩, ⟨hg_D, hk_D, ex_D, hd_D, ha_D, hn, htk, hm_D⟩⟩,
      xA := ⟨oex (b := .ke) xL_A (.own _ .here) sa_A ex_A ty_A kp_A, a_NoGuest_init, tf_A, nf_A, ⟨hg_A, hk_A, ex_A, hd_A⟩, ⟨hg_A, hk_A, ex_A, hd_A, ha_A, hn, htk, hm_A⟩⟩,
      xF := ⟨oex (b := .le) xL_F (.own _ .here) sa_F ex_F ty_F kp_F, a_Full_init, tf_F, nf_F, ⟨hg_F, hk_F, ex_F, hd_F⟩, ⟨hg_F, hk_F, ex_F, hd_F, ha_F, hn, htk, hm_F⟩⟩,
      eMM := PySem.W.exm_ref ex_M hd_M ty_M s_M_M, eAA := PySem.W.exm_ref ex_A hd_A ty_A s_A_A, eWW := PySem.W.exm_ref ex_W hd_W ty_W s_W_W, eWM := PySem.W.exm_ref ex_M hd_M ty_M s_W_M,
      g_Rooms := mo aC_Rooms, cl_Rooms := ⟨pg_Rooms, hdd_Rooms, po_Rooms, saa_Rooms⟩, na_cells := na_Rooms_cells, na_given := na_Rooms_given, na_givings := na_Rooms_givings, na_guests := na_Rooms_guests }
  refine ⟨PySem.W.fnOf "law" "law" (defArgs s_law) (defBody s_law) (defScope s_law) .none kV_law dc_law pm_law an_law cd_law ct_law, fun s v => .of_eq rfl, fun base _ _ => ?_⟩
  have c_cell_L := CalD.mk' (P := l.prog) (w := w) (base := base) (mo a_cell_L) k_cell_L (ok_cell F_cell_L T) b_cell_L
  have c_box_L := CalD.mk' (P := l.prog) (w := w) (base := base) (mo a_box_L) k_box_L (ok_box F_box_L T) b_box_L
  have c_take_L := CalD.mk' (P := l.prog) (w := w) (base := base) (mo a_take_L) k_take_L (ok_take F_take_L T) b_take_L
  have c_GuestError_init : Own l.prog w K mg base CX0 1 f_GuestError_init _ ["self", "text"] (spGT K .ve) := ⟨ok_GE F_GuestError_init T, b_GuestError_init, k_GuestError_init⟩
  have c_Missing_init : Own l.prog w K mg base CX0 1 f_Missing_init _ ["self", "text"] (spGT K .ke) := ⟨ok_KE F_Missing_init T, b_Missing_init, k_Missing_init⟩
  have c_Barred_init : Own l.prog w K mg base CX0 1 f_Barred_init _ ["self", "text"] (spGT K .le) := ⟨ok_BB F_Barred_init T, b_Barred_init, k_Barred_init⟩
  have c_NoNumber_init : Own l.prog w K mg base CX0 2 f_NoNumber_init _ ["self", "found"] (spInitN "found" C_NoNumber) := ⟨ok_iM F_NoNumber_init T c_GuestError_init, b_NoNumber_init, k_NoNumber_init⟩
  have c_NoName_init : Own l.prog w K mg base CX0 2 f_NoName_init _ ["self", "found"] (spInitN "found" C_NoName) := ⟨ok_iN F_NoName_init T c_GuestError_init, b_NoName_init, k_NoName_init⟩
  have c_NoWord_init : Own l.prog w K mg base CX0 2 f_NoWord_init _ ["self", "found"] (spInitN "found" C_NoWord) := ⟨ok_iW F_NoWord_init T c_GuestError_init, b_NoWord_init, k_NoWord_init⟩
  have c_NoImage_init : Own l.prog w K mg base CX0 2 f_NoImage_init _ ["self", "found"] (spInitN "found" C_NoImage) := ⟨ok_iI F_NoImage_init T c_GuestError_init, b_NoImage_init, k_NoImage_init⟩
  have c_Doubled_init : Own l.prog w K mg base CX0 2 f_Doubled_init _ ["self", "found"] (spInitN "found" C_Doubled) := ⟨ok_iD F_Doubled_init T c_GuestError_init, b_Doubled_init, k_Doubled_init⟩
  have c_NoGuest_init : Own l.prog w K mg base CX0 2 f_NoGuest_init _ ["self", "found"] (spInitN "found" C_NoGuest) := ⟨ok_iA F_NoGuest_init T c_Missing_init, b_NoGuest_init, k_NoGuest_init⟩
  have c_Full_init : Own l.prog w K mg base CX0 2 f_Full_init _ ["self", "many"] (spInitN "many" C_Full) := ⟨ok_iF F_Full_init T c_Barred_init, b_Full_init, k_Full_init⟩
  have c_all_within := CalD.mk' (P := l.prog) (w := w) (base := base) (mo a_all_within) k_all_within (ok_allW F_all_within T) b_all_within
  have c_is_name := CalD.mk' (P := l.prog) (w := w) (base := base) (mo a_is_name) k_is_name (ok_name F_is_name T c_all_within) b_is_name
  have c_is_whole := CalD.mk' (P := l.prog) (w := w) (base := base) (mo a_is_whole) k_is_whole (ok_whole F_is_whole T) b_is_whole
  have c_check_number := CalX.mk' (P := l.prog) (w := w) (base := base) (mo a_check_number) k_check_number (ok_cknum F_check_number T c_is_whole c_NoNumber_init) b_check_number
  have c_is_word := CalD.mk' (P := l.prog) (w := w) (base := base) (mo a_is_word) k_is_word (ok_word F_is_word T c_is_whole) b_is_word
  have c_check_word := CalX.mk' (P := l.prog) (w := w) (base := base) (mo a_check_word) k_check_word (ok_ckw F_check_word T c_is_word c_NoWord_init) b_check_word
  have c_is_row := CalD.mk' (P := l.prog) (w := w) (base := base) (mo a_is_row) k_is_row (ok_rowI F_is_row T c_is_word) b_is_row
  have c_is_eight := CalD.mk' (P := l.prog) (w := w) (base := base) (mo a_is_eight) k_is_eight (ok_eight F_is_eight T c_is_row) b_is_eight
  have c_places := CalD.mk' (P := l.prog) (w := w) (base := base) (mo a_places) k_places (ok_places F_places T) b_places
  have c_Rooms_how_many : CalM l.prog w K mg base CX0 1 C_Rooms "how_many" (spMany _) := ⟨_, _, _, ⟨a_Rooms_how_many, fn_Rooms_how_many, k_Rooms_how_many⟩, ok_many F_Rooms_how_many T, b_Rooms_how_many⟩
  have c_Rooms_names : CalM l.prog w K mg base CX0 1 C_Rooms "names" (spNames _) := ⟨_, _, _, ⟨a_Rooms_names, fn_Rooms_names, k_Rooms_names⟩, ok_names F_Rooms_names T, b_Rooms_names⟩
  have c_Rooms_in_use : CalM l.prog w K mg base CX0 1 C_Rooms "in_use" (spInUse _) := ⟨_, _, _, ⟨a_Rooms_in_use, fn_Rooms_in_use, k_Rooms_in_use⟩, ok_inuse F_Rooms_in_use T, b_Rooms_in_use⟩
  have c_Rooms_check_guest : CalM l.prog w K mg base (L2.CX l.prog w) 4 C_Rooms "_check_guest" (spCkG _) := ⟨_, _, _, ⟨a_Rooms_check_guest, fn_Rooms_check_guest, k_Rooms_check_guest⟩, ok_ckg F_Rooms_check_guest T c_is_name c_NoGuest_init, b_Rooms_check_guest⟩
  have c_Rooms_words_at : CalM l.prog w K mg base CX0 1 C_Rooms "_words_at" (spWordsAt _) := ⟨_, _, _, ⟨a_Rooms_words_at, fn_Rooms_words_at, k_Rooms_words_at⟩, ok_words F_Rooms_words_at T, b_Rooms_words_at⟩
  have c_Rooms_way : CalM l.prog w K mg base (L2.CX l.prog w) 5 C_Rooms "way" (spWay _) := ⟨_, _, _, ⟨a_Rooms_way, fn_Rooms_way, k_Rooms_way⟩, ok_way F_Rooms_way T c_check_number c_Rooms_check_guest, b_Rooms_way⟩
  have c_Rooms_lying : CalM l.prog w K mg base (L2.CX l.prog w) 5 C_Rooms "lying" (spLying _) := ⟨_, _, _, ⟨a_Rooms_lying, fn_Rooms_lying, k_Rooms_lying⟩, ok_lying F_Rooms_lying T c_check_number, b_Rooms_lying⟩
  have c_Rooms_put : CalM l.prog w K mg base (L2.CX l.prog w) 6 C_Rooms "_put" (spPut _) := ⟨_, _, _, ⟨a_Rooms_put, fn_Rooms_put, k_Rooms_put⟩, ok_put F_Rooms_put T c_Rooms_lying, b_Rooms_put⟩
  have c_Rooms_free_room : CalM l.prog w K mg base (L2.CX l.prog w) 7 C_Rooms "_free_room" (spFree _) := ⟨_, _, _, ⟨a_Rooms_free_room, fn_Rooms_free_room, k_Rooms_free_room⟩, ok_free F_Rooms_free_room T c_Rooms_in_use c_Rooms_put, b_Rooms_free_room⟩
  have c_Rooms_brought : CalM l.prog w K mg base (L2.CX l.prog w) 8 C_Rooms "_brought" (spBrought _) := ⟨_, _, _, ⟨a_Rooms_brought, fn_Rooms_brought, k_Rooms_brought⟩, ok_brought F_Rooms_brought T c_Rooms_free_room c_Rooms_words_at, b_Rooms_brought⟩
  have c_Rooms_read_cell : CalM l.prog w K mg base (L2.CX l.prog w) 9 C_Rooms "read_cell" (spRead _) := ⟨_, _, _, ⟨a_Rooms_read_cell, fn_Rooms_read_cell, k_Rooms_read_cell⟩, ok_read F_Rooms_read_cell T c_check_number c_Rooms_check_guest c_Rooms_brought, b_Rooms_read_cell⟩
  have c_Rooms_write_cell : CalM l.prog w K mg base (L2.CX l.prog w) 9 C_Rooms "write_cell" (spWrite _) := ⟨_, _, _, ⟨a_Rooms_write_cell, fn_Rooms_write_cell, k_Rooms_write_cell⟩, ok_write F_Rooms_write_cell T c_check_number c_check_word c_Rooms_check_guest c_Rooms_brought c_Rooms_lying, b_Rooms_write_cell⟩
  have c_Rooms_come : CalM l.prog w K mg base (L2.CX l.prog w) 5 C_Rooms "come" (spCome _) := ⟨_, _, _, ⟨a_Rooms_come, fn_Rooms_come, k_Rooms_come⟩, ok_come F_Rooms_come T c_is_name c_is_eight c_places c_NoImage_init c_NoName_init c_Doubled_init c_Full_init, b_Rooms_come⟩
  have c_Rooms_share : CalM l.prog w K mg base (L2.CX l.prog w) 7 C_Rooms "share" (spShare _) := ⟨_, _, _, ⟨a_Rooms_share, fn_Rooms_share, k_Rooms_share⟩, ok_share F_Rooms_share T c_Rooms_in_use c_Rooms_put, b_Rooms_share⟩
  have c_names_L := CalD.mk' (P := l.prog) (w := w) (base := base) (mo a_names_L) k_names_L (ok_names_L F_names_L T c_take_L) b_names_L
  have c_Rooms_init : CalC l.prog w K mg base (L2.CX l.prog w) 5 C_Rooms "Rooms" (spInit _) := ⟨_, _, _, ⟨mk_Rooms, a_Rooms_init, fn_Rooms_init, kc_Rooms⟩, ok_init F_Rooms_init T c_check_number, b_Rooms_init, mo aC_Rooms⟩
  have c_words_L := CalD.mk' (P := l.prog) (w := w) (base := base) (mo a_words_L) k_words_L (ok_mwords F_words_L T) b_words_L
  have c_model_L := CalD.mk' (P := l.prog) (w := w) (base := base) (mo a_model_L) k_model_L (ok_model F_model_L T) b_model_L
  have c_comes_L := CalD.mk' (P := l.prog) (w := w) (base := base) (mo a_comes_L) k_comes_L (ok_comes F_comes_L T) b_comes_L
  have c_lying_L := CalD.mk' (P := l.prog) (w := w) (base := base) (mo a_lying_L) k_lying_L (ok_mlying F_lying_L T) b_lying_L
  have c_given_L := CalD.mk' (P := l.prog) (w := w) (base := base) (mo a_given_L) k_given_L (ok_given F_given_L T c_lying_L) b_given_L
  have c_brought_L := CalD.mk' (P := l.prog) (w := w) (base := base) (mo a_brought_L) k_brought_L (ok_mbrought F_brought_L T c_words_L c_given_L) b_brought_L
  have c_read_L := CalD.mk' (P := l.prog) (w := w) (base := base) (mo a_read_L) k_read_L (ok_mread F_read_L T c_words_L c_brought_L) b_read_L
  have c_write_L := CalD.mk' (P := l.prog) (w := w) (base := base) (mo a_write_L) k_write_L (ok_mwrite F_write_L T c_words_L c_lying_L c_brought_L) b_write_L
  have c_shared_L := CalD.mk' (P := l.prog) (w := w) (base := base) (mo a_shared_L) k_shared_L (ok_mshared F_shared_L T c_lying_L) b_shared_L
  have c_Rooms_words : CalM l.prog w K mg base (L2.CX l.prog w) 5 C_Rooms "words" (spWordsM _) := ⟨_, _, _, ⟨a_Rooms_words, fn_Rooms_words, k_Rooms_words⟩, ok_wordsM F_Rooms_words T c_check_number c_Rooms_check_guest c_Rooms_words_at, b_Rooms_words⟩
  have c_Rooms_shared : CalM l.prog w K mg base (L2.CX l.prog w) 6 C_Rooms "shared" (spSharedN _) := ⟨_, _, _, ⟨a_Rooms_shared, fn_Rooms_shared, k_Rooms_shared⟩, ok_sharedN F_Rooms_shared T c_Rooms_in_use c_Rooms_lying, b_Rooms_shared⟩
  have c_asked_L := CalD.mk' (P := l.prog) (w := w) (base := base) (mo a_asked_L) k_asked_L (ok_asked F_asked_L T c_Rooms_how_many c_Rooms_lying c_Rooms_in_use c_Rooms_names c_Rooms_way c_Rooms_words c_Rooms_shared) b_asked_L
  have c_told_L := CalD.mk' (P := l.prog) (w := w) (base := base) (mo a_told_L) k_told_L (ok_told F_told_L T c_lying_L c_words_L) b_told_L
  have c_alike_rooms_L := CalD.mk' (P := l.prog) (w := w) (base := base) (mo a_alike_rooms_L) k_alike_rooms_L (ok_alike F_alike_rooms_L T c_take_L) b_alike_rooms_L
  have c_deed_L := CalG.mk' (P := l.prog) (w := w) (base := base) (mo a_deed_L) k_deed_L (ok_deed F_deed_L T c_take_L c_words_L c_shared_L c_read_L c_write_L c_told_L c_asked_L c_Rooms_share c_Rooms_read_cell c_Rooms_write_cell) b_deed_L
  exact ok_law F_law T c_cell_L c_box_L c_take_L c_names_L c_model_L c_comes_L c_alike_rooms_L c_shared_L c_read_L c_told_L c_asked_L c_Rooms_init c_Rooms_come c_Rooms_share c_Rooms_read_cell c_deed_L
end K17
open PySem PySem.W PyProof.Rows
set_option maxHeartbeats 0 in
theorem PySem.Challenge.cw_guestsalone_k17_rooms_shared_and_written_holds : PySem.Challenge.rw_guestsalone_k17_rooms_shared_and_written.Holds := by
  w_on; o_law; k_head; (case hw => w_witness2)
  k_fill
  refine Bk.walk_ofG (l := PySem.Challenge.rw_guestsalone_k17_rooms_shared_and_written) (n := 63) (k := 11) (x := "_law_script") (sp := fun w => K17.spLaw _) rfl (by decide) rfl ⟨rfl, by decide, by decide⟩ (fun w h Y => PySem.W.kIn_of Y) ?F (fun _ _ a ns hl _ hS => ⟨a, ns, rfl, hS, hl, fun _ => rfl⟩)
  case F =>
    intro w mg fa h KX G hmg
    refine' K17.all_mk KX G hmg ?aC_GuestError ?aC_Missing ?aC_Barred ?aC_NoNumber ?aC_NoName ?aC_NoWord ?aC_NoImage ?aC_Doubled ?aC_NoGuest ?aC_Full ?aC_Rooms ?a_GuestError_init ?l_GuestError_init ?c_GuestError_init ?k_GuestError_init ?a_Missing_init ?l_Missing_init ?c_Missing_init ?k_Missing_init ?a_Barred_init ?l_Barred_init ?c_Barred_init ?k_Barred_init ?a_NoNumber_init ?l_NoNumber_init ?c_NoNumber_init ?k_NoNumber_init ?a_NoName_init ?l_NoName_init ?c_NoName_init ?k_NoName_init ?a_NoWord_init ?l_NoWord_init ?c_NoWord_init ?k_NoWord_init ?a_NoImage_init ?l_NoImage_init ?c_NoImage_init ?k_NoImage_init ?a_Doubled_init ?l_Doubled_init ?c_Doubled_init ?k_Doubled_init ?a_NoGuest_init ?l_NoGuest_init ?c_NoGuest_init ?k_NoGuest_init ?a_Full_init ?l_Full_init ?c_Full_init ?k_Full_init ?a_is_whole ?l_is_whole ?c_is_whole ?k_is_whole ?a_is_word ?l_is_word ?c_is_word ?k_is_word ?a_is_name ?l_is_name ?c_is_name ?k_is_name ?a_all_within ?l_all_within ?c_all_within ?k_all_within ?a_check_number ?l_check_number ?c_check_number ?k_check_number ?a_check_word ?l_check_word ?c_check_word ?k_check_word ?a_is_eight ?l_is_eight ?c_is_eight ?k_is_eight ?a_is_row ?l_is_row ?c_is_row ?k_is_row ?a_Rooms_init ?l_Rooms_init ?c_Rooms_init ?k_Rooms_init ?a_Rooms_come ?l_Rooms_come ?c_Rooms_come ?k_Rooms_come ?a_Rooms_read_cell ?l_Rooms_read_cell ?c_Rooms_read_cell ?k_Rooms_read_cell ?a_Rooms_write_cell ?l_Rooms_write_cell ?c_Rooms_write_cell ?k_Rooms_write_cell ?a_Rooms_share ?l_Rooms_share ?c_Rooms_share ?k_Rooms_share ?a_Rooms_how_many ?l_Rooms_how_many ?c_Rooms_how_many ?k_Rooms_how_many ?a_Rooms_shared ?l_Rooms_shared ?c_Rooms_shared ?k_Rooms_shared ?a_Rooms_names ?l_Rooms_names ?c_Rooms_names ?k_Rooms_names ?a_Rooms_in_use ?l_Rooms_in_use ?c_Rooms_in_use ?k_Rooms_in_use ?a_Rooms_way ?l_Rooms_way ?c_Rooms_way ?k_Rooms_way ?a_Rooms_words ?l_Rooms_words ?c_Rooms_words ?k_Rooms_words ?a_Rooms_lying ?l_Rooms_lying ?c_Rooms_lying ?k_Rooms_lying ?a_Rooms_check_guest ?l_Rooms_check_guest ?c_Rooms_check_guest ?k_Rooms_check_guest ?a_Rooms_words_at ?l_Rooms_words_at ?c_Rooms_words_at ?k_Rooms_words_at ?a_Rooms_brought ?l_Rooms_brought ?c_Rooms_brought ?k_Rooms_brought ?a_Rooms_free_room ?l_Rooms_free_room ?c_Rooms_free_room ?k_Rooms_free_room ?a_Rooms_put ?l_Rooms_put ?c_Rooms_put ?k_Rooms_put ?a_places ?l_places ?c_places ?k_places ?a_cell_L ?l_cell_L ?c_cell_L ?k_cell_L ?a_box_L ?l_box_L ?c_box_L ?k_box_L ?a_take_L ?l_take_L ?c_take_L ?k_take_L ?a_names_L ?l_names_L ?c_names_L ?k_names_L ?a_model_L ?l_model_L ?c_model_L ?k_model_L ?a_comes_L ?l_comes_L ?c_comes_L ?k_comes_L ?a_lying_L ?l_lying_L ?c_lying_L ?k_lying_L ?a_given_L ?l_given_L ?c_given_L ?k_given_L ?a_words_L ?l_words_L ?c_words_L ?k_words_L ?a_brought_L ?l_brought_L ?c_brought_L ?k_brought_L ?a_read_L ?l_read_L ?c_read_L ?k_read_L ?a_write_L ?l_write_L ?c_write_L ?k_write_L ?a_shared_L ?l_shared_L ?c_shared_L ?k_shared_L ?a_told_L ?l_told_L ?c_told_L ?k_told_L ?a_asked_L ?l_asked_L ?c_asked_L ?k_asked_L ?a_alike_rooms_L ?l_alike_rooms_L ?c_alike_rooms_L ?k_alike_rooms_L ?a_deed_L ?l_deed_L ?c_deed_L ?k_deed_L ?a_law ?l_law ?c_law ?k_law ?cMO ?cEI ?cMR ?cMG ?cNO ?lNO ?rd_GuestError ?ga_GuestError ?at_GuestError ?v_ValueError ?rd_Missing ?ga_Missing ?at_Missing ?v_KeyError ?rd_Barred ?ga_Barred ?at_Barred ?v_LookupError ?xL_M ?sa_M ?ex_M ?ty_M ?kp_M ?tf_M ?nf_M ?hg_M ?hk_M ?hd_M ?ha_M ?hm_M ?xL_N ?sa_N ?ex_N ?ty_N ?kp_N ?tf_N ?nf_N ?hg_N ?hk_N ?hd_N ?ha_N ?hm_N ?xL_W ?sa_W ?ex_W ?ty_W ?kp_W ?tf_W ?nf_W ?hg_W ?hk_W ?hd_W ?ha_W ?hm_W ?xL_I ?sa_I ?ex_I ?ty_I ?kp_I ?tf_I ?nf_I ?hg_I ?hk_I ?hd_I ?ha_I ?hm_I ?xL_D ?sa_D ?ex_D ?ty_D ?kp_D ?tf_D ?nf_D ?hg_D ?hk_D ?hd_D ?ha_D ?hm_D ?xL_A ?sa_A ?ex_A ?ty_A ?kp_A ?tf_A ?nf_A ?hg_A ?hk_A ?hd_A ?ha_A ?hm_A ?xL_F ?sa_F ?ex_F ?ty_F ?kp_F ?tf_F ?nf_F ?hg_F ?hk_F ?hd_F ?ha_F ?hm_F ?s_M_M ?s_N_M ?s_N_N ?s_W_M ?s_W_N ?s_W_W ?s_I_M ?s_I_N ?s_I_W ?s_I_I ?s_D_M ?s_D_N ?s_D_W ?s_D_I ?s_D_D ?s_A_M ?s_A_N ?s_A_W ?s_A_I ?s_A_D ?s_A_A ?s_F_M ?s_F_N ?s_F_W ?s_F_I ?s_F_D ?s_F_A ?s_F_F ?hn ?htk ?pg_Rooms ?hdd_Rooms ?po_Rooms ?saa_Rooms ?mk_Rooms ?kc_Rooms ?na_Rooms_cells ?na_Rooms_given ?na_Rooms_givings ?na_Rooms_guests ?fn_Rooms_init ?fn_Rooms_come ?fn_Rooms_read_cell ?fn_Rooms_write_cell ?fn_Rooms_share ?fn_Rooms_how_many ?fn_Rooms_shared ?fn_Rooms_names ?fn_Rooms_in_use ?fn_Rooms_way ?fn_Rooms_words ?fn_Rooms_lying ?fn_Rooms_check_guest ?fn_Rooms_words_at ?fn_Rooms_brought ?fn_Rooms_free_room ?fn_Rooms_put ?z_isinstance ?z_int ?z_bool ?z_str ?z_list ?z_tuple ?z_len ?z_max ?z_min ?z_range ?z_all ?z_sorted ?z_enumerate ?z_repr ?z_ValueError ?z_LookupError ?z_KeyError
    (case aC_GuestError => k_is)
    (case aC_Missing => k_is)
    (case aC_Barred => k_is)
    (case aC_NoNumber => k_is)
    (case aC_NoName => k_is)
    (case aC_NoWord => k_is)
    (case aC_NoImage => k_is)
    (case aC_Doubled => k_is)
    (case aC_NoGuest => k_is)
    (case aC_Full => k_is)
    (case aC_Rooms => k_is)
    (case a_GuestError_init => k_is)
    (case l_GuestError_init => k_is)
    (case c_GuestError_init => k_is)
    (case k_GuestError_init => k_is)
    (case a_Missing_init => k_is)
    (case l_Missing_init => k_is)
    (case c_Missing_init => k_is)
    (case k_Missing_init => k_is)
    (case a_Barred_init => k_is)
    (case l_Barred_init => k_is)
    (case c_Barred_init => k_is)
    (case k_Barred_init => k_is)
    (case a_NoNumber_init => k_is)
    (case l_NoNumber_init => k_is)
    (case c_NoNumber_init => k_is)
    (case k_NoNumber_init => k_is)
    (case a_NoName_init => k_is)
    (case l_NoName_init => k_is)
    (case c_NoName_init => k_is)
    (case k_NoName_init => k_is)
    (case a_NoWord_init => k_is)
    (case l_NoWord_init => k_is)
    (case c_NoWord_init => k_is)
    (case k_NoWord_init => k_is)
    (case a_NoImage_init => k_is)
    (case l_NoImage_init => k_is)
    (case c_NoImage_init => k_is)
    (case k_NoImage_init => k_is)
    (case a_Doubled_init => k_is)
    (case l_Doubled_init => k_is)
    (case c_Doubled_init => k_is)
    (case k_Doubled_init => k_is)
    (case a_NoGuest_init => k_is)
    (case l_NoGuest_init => k_is)
    (case c_NoGuest_init => k_is)
    (case k_NoGuest_init => k_is)
    (case a_Full_init => k_is)
    (case l_Full_init => k_is)
    (case c_Full_init => k_is)
    (case k_Full_init => k_is)
    (case a_is_whole => k_is)
    (case l_is_whole => k_is)
    (case c_is_whole => k_is)
    (case k_is_whole => k_is)
    (case a_is_word => k_is)
    (case l_is_word => k_is)
    (case c_is_word => k_is)
    (case k_is_word => k_is)
    (case a_is_name => k_is)
    (case l_is_name => k_is)
    (case c_is_name => k_is)
    (case k_is_name => k_is)
    (case a_all_within => k_is)
    (case l_all_within => k_is)
    (case c_all_within => k_is)
    (case k_all_within => k_is)
    (case a_check_number => k_is)
    (case l_check_number => k_is)
    (case c_check_number => k_is)
    (case k_check_number => k_is)
    (case a_check_word => k_is)
    (case l_check_word => k_is)
    (case c_check_word => k_is)
    (case k_check_word => k_is)
    (case a_is_eight => k_is)
    (case l_is_eight => k_is)
    (case c_is_eight => k_is)
    (case k_is_eight => k_is)
    (case a_is_row => k_is)
    (case l_is_row => k_is)
    (case c_is_row => k_is)
    (case k_is_row => k_is)
    (case a_Rooms_init => k_is)
    (case l_Rooms_init => k_is)
    (case c_Rooms_init => k_is)
    (case k_Rooms_init => k_is)
    (case a_Rooms_come => k_is)
    (case l_Rooms_come => k_is)
    (case c_Rooms_come => k_is)
    (case k_Rooms_come => k_is)
    (case a_Rooms_read_cell => k_is)
    (case l_Rooms_read_cell => k_is)
    (case c_Rooms_read_cell => k_is)
    (case k_Rooms_read_cell => k_is)
    (case a_Rooms_write_cell => k_is)
    (case l_Rooms_write_cell => k_is)
    (case c_Rooms_write_cell => k_is)
    (case k_Rooms_write_cell => k_is)
    (case a_Rooms_share => k_is)
    (case l_Rooms_share => k_is)
    (case c_Rooms_share => k_is)
    (case k_Rooms_share => k_is)
    (case a_Rooms_how_many => k_is)
    (case l_Rooms_how_many => k_is)
    (case c_Rooms_how_many => k_is)
    (case k_Rooms_how_many => k_is)
    (case a_Rooms_shared => k_is)
    (case l_Rooms_shared => k_is)
    (case c_Rooms_shared => k_is)
    (case k_Rooms_shared => k_is)
    (case a_Rooms_names => k_is)
    (case l_Rooms_names => k_is)
    (case c_Rooms_names => k_is)
    (case k_Rooms_names => k_is)
    (case a_Rooms_in_use => k_is)
    (case l_Rooms_in_use => k_is)
    (case c_Rooms_in_use => k_is)
    (case k_Rooms_in_use => k_is)
    (case a_Rooms_way => k_is)
    (case l_Rooms_way => k_is)
    (case c_Rooms_way => k_is)
    (case k_Rooms_way => k_is)
    (case a_Rooms_words => k_is)
    (case l_Rooms_words => k_is)
    (case c_Rooms_words => k_is)
    (case k_Rooms_words => k_is)
    (case a_Rooms_lying => k_is)
    (case l_Rooms_lying => k_is)
    (case c_Rooms_lying => k_is)
    (case k_Rooms_lying => k_is)
    (case a_Rooms_check_guest => k_is)
    (case l_Rooms_check_guest => k_is)
    (case c_Rooms_check_guest => k_is)
    (case k_Rooms_check_guest => k_is)
    (case a_Rooms_words_at => k_is)
    (case l_Rooms_words_at => k_is)
    (case c_Rooms_words_at => k_is)
    (case k_Rooms_words_at => k_is)
    (case a_Rooms_brought => k_is)
    (case l_Rooms_brought => k_is)
    (case c_Rooms_brought => k_is)
    (case k_Rooms_brought => k_is)
    (case a_Rooms_free_room => k_is)
    (case l_Rooms_free_room => k_is)
    (case c_Rooms_free_room => k_is)
    (case k_Rooms_free_room => k_is)
    (case a_Rooms_put => k_is)
    (case l_Rooms_put => k_is)
    (case c_Rooms_put => k_is)
    (case k_Rooms_put => k_is)
    (case a_places => k_is)
    (case l_places => k_is)
    (case c_places => k_is)
    (case k_places => k_is)
    (case a_cell_L => k_is)
    (case l_cell_L => k_is)
    (case c_cell_L => k_is)
    (case k_cell_L => k_is)
    (case a_box_L => k_is)
    (case l_box_L => k_is)
    (case c_box_L => k_is)
    (case k_box_L => k_is)
    (case a_take_L => k_is)
    (case l_take_L => k_is)
    (case c_take_L => k_is)
    (case k_take_L => k_is)
    (case a_names_L => k_is)
    (case l_names_L => k_is)
    (case c_names_L => k_is)
    (case k_names_L => k_is)
    (case a_model_L => k_is)
    (case l_model_L => k_is)
    (case c_model_L => k_is)
    (case k_model_L => k_is)
    (case a_comes_L => k_is)
    (case l_comes_L => k_is)
    (case c_comes_L => k_is)
    (case k_comes_L => k_is)
    (case a_lying_L => k_is)
    (case l_lying_L => k_is)
    (case c_lying_L => k_is)
    (case k_lying_L => k_is)
    (case a_given_L => k_is)
    (case l_given_L => k_is)
    (case c_given_L => k_is)
    (case k_given_L => k_is)
    (case a_words_L => k_is)
    (case l_words_L => k_is)
    (case c_words_L => k_is)
    (case k_words_L => k_is)
    (case a_brought_L => k_is)
    (case l_brought_L => k_is)
    (case c_brought_L => k_is)
    (case k_brought_L => k_is)
    (case a_read_L => k_is)
    (case l_read_L => k_is)
    (case c_read_L => k_is)
    (case k_read_L => k_is)
    (case a_write_L => k_is)
    (case l_write_L => k_is)
    (case c_write_L => k_is)
    (case k_write_L => k_is)
    (case a_shared_L => k_is)
    (case l_shared_L => k_is)
    (case c_shared_L => k_is)
    (case k_shared_L => k_is)
    (case a_told_L => k_is)
    (case l_told_L => k_is)
    (case c_told_L => k_is)
    (case k_told_L => k_is)
    (case a_asked_L => k_is)
    (case l_asked_L => k_is)
    (case c_asked_L => k_is)
    (case k_asked_L => k_is)
    (case a_alike_rooms_L => k_is)
    (case l_alike_rooms_L => k_is)
    (case c_alike_rooms_L => k_is)
    (case k_alike_rooms_L => k_is)
    (case a_deed_L => k_is)
    (case l_deed_L => k_is)
    (case c_deed_L => k_is)
    (case k_deed_L => k_is)
    (case a_law => k_is)
    (case l_law => k_is)
    (case c_law => k_is)
    (case k_law => k_is)
    (case cMO => k_is)
    (case cEI => k_is)
    (case cMR => k_is)
    (case cMG => k_is)
    (case cNO => k_is)
    (case lNO => k_is)
    (case rd_GuestError => k_is)
    (case ga_GuestError => k_is)
    (case at_GuestError => k_is)
    (case v_ValueError => k_is)
    (case rd_Missing => k_is)
    (case ga_Missing => k_is)
    (case at_Missing => k_is)
    (case v_KeyError => k_is)
    (case rd_Barred => k_is)
    (case ga_Barred => k_is)
    (case at_Barred => k_is)
    (case v_LookupError => k_is)
    (case xL_M => k_is)
    (case sa_M => k_is)
    (case ex_M => k_is)
    (case ty_M => k_is)
    (case kp_M => k_is)
    (case tf_M => k_is)
    (case nf_M => k_is)
    (case hg_M => k_is)
    (case hk_M => k_is)
    (case hd_M => k_is)
    (case ha_M => k_is)
    (case hm_M => k_is)
    (case xL_N => k_is)
    (case sa_N => k_is)
    (case ex_N => k_is)
    (case ty_N => k_is)
    (case kp_N => k_is)
    (case tf_N => k_is)
    (case nf_N => k_is)
    (case hg_N => k_is)
    (case hk_N => k_is)
    (case hd_N => k_is)
    (case ha_N => k_is)
    (case hm_N => k_is)
    (case xL_W => k_is)
    (case sa_W => k_is)
    (case ex_W => k_is)
    (case ty_W => k_is)
    (case kp_W => k_is)
    (case tf_W => k_is)
    (case nf_W => k_is)
    (case hg_W => k_is)
    (case hk_W => k_is)
    (case hd_W => k_is)
    (case ha_W => k_is)
    (case hm_W => k_is)
    (case xL_I => k_is)
    (case sa_I => k_is)
    (case ex_I => k_is)
    (case ty_I => k_is)
    (case kp_I => k_is)
    (case tf_I => k_is)
    (case nf_I => k_is)
    (case hg_I => k_is)
    (case hk_I => k_is)
    (case hd_I => k_is)
    (case ha_I => k_is)
    (case hm_I => k_is)
    (case xL_D => k_is)
    (case sa_D => k_is)
    (case ex_D => k_is)
    (case ty_D => k_is)
    (case kp_D => k_is)
    (case tf_D => k_is)
    (case nf_D => k_is)
    (case hg_D => k_is)
    (case hk_D => k_is)
    (case hd_D => k_is)
    (case ha_D => k_is)
    (case hm_D => k_is)
    (case xL_A => k_is)
    (case sa_A => k_is)
    (case ex_A => k_is)
    (case ty_A => k_is)
    (case kp_A => k_is)
    (case tf_A => k_is)
    (case nf_A => k_is)
    (case hg_A => k_is)
    (case hk_A => k_is)
    (case hd_A => k_is)
    (case ha_A => k_is)
    (case hm_A => k_is)
    (case xL_F => k_is)
    (case sa_F => k_is)
    (case ex_F => k_is)
    (case ty_F => k_is)
    (case kp_F => k_is)
    (case tf_F => k_is)
    (case nf_F => k_is)
    (case hg_F => k_is)
    (case hk_F => k_is)
    (case hd_F => k_is)
    (case ha_F => k_is)
    (case hm_F => k_is)
    (case s_M_M => k_is)
    (case s_N_M => k_is)
    (case s_N_N => k_is)
    (case s_W_M => k_is)
    (case s_W_N => k_is)
    (case s_W_W => k_is)
    (case s_I_M => k_is)
    (case s_I_N => k_is)
    (case s_I_W => k_is)
    (case s_I_I => k_is)
    (case s_D_M => k_is)
    (case s_D_N => k_is)
    (case s_D_W => k_is)
    (case s_D_I => k_is)
    (case s_D_D => k_is)
    (case s_A_M => k_is)
    (case s_A_N => k_is)
    (case s_A_W => k_is)
    (case s_A_I => k_is)
    (case s_A_D => k_is)
    (case s_A_A => k_is)
    (case s_F_M => k_is)
    (case s_F_N => k_is)
    (case s_F_W => k_is)
    (case s_F_I => k_is)
    (case s_F_D => k_is)
    (case s_F_A => k_is)
    (case s_F_F => k_is)
    (case hn => k_is)
    (case htk => k_is)
    (case pg_Rooms => k_is)
    (case hdd_Rooms => k_is)
    (case po_Rooms => k_is)
    (case saa_Rooms => k_is)
    (case mk_Rooms => k_is)
    (case kc_Rooms => k_is)
    (case na_Rooms_cells => k_is)
    (case na_Rooms_given => k_is)
    (case na_Rooms_givings => k_is)
    (case na_Rooms_guests => k_is)
    (case fn_Rooms_init => k_is)
    (case fn_Rooms_come => k_is)
    (case fn_Rooms_read_cell => k_is)
    (case fn_Rooms_write_cell => k_is)
    (case fn_Rooms_share => k_is)
    (case fn_Rooms_how_many => k_is)
    (case fn_Rooms_shared => k_is)
    (case fn_Rooms_names => k_is)
    (case fn_Rooms_in_use => k_is)
    (case fn_Rooms_way => k_is)
    (case fn_Rooms_words => k_is)
    (case fn_Rooms_lying => k_is)
    (case fn_Rooms_check_guest => k_is)
    (case fn_Rooms_words_at => k_is)
    (case fn_Rooms_brought => k_is)
    (case fn_Rooms_free_room => k_is)
    (case fn_Rooms_put => k_is)
    (case z_isinstance => k_is)
    (case z_int => k_is)
    (case z_bool => k_is)
    (case z_str => k_is)
    (case z_list => k_is)
    (case z_tuple => k_is)
    (case z_len => k_is)
    (case z_max => k_is)
    (case z_min => k_is)
    (case z_range => k_is)
    (case z_all => k_is)
    (case z_sorted => k_is)
    (case z_enumerate => k_is)
    (case z_repr => k_is)
    (case z_ValueError => k_is)
    (case z_LookupError => k_is)
    (case z_KeyError => k_is)
