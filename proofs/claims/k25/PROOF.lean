import PyProof.Rows.All
import Wide.All
import OpenK.AllK
import Wide.FinOn
import HandS.Base
import HandS.Call
import HandS.List
import HandS.Comp
import HandS.Ends
import HandS.Dict
import HandS.Iter
import HandS.Text
import HandS.Words
import HandS.Wide
import HandS.Flow
import HandS.Style
import HandS.IsInst
import HandS.ExcInit
import HandS.ExcIs
import HandS.Defaults
import HandS.Walk
import HandS.Codes
import KE.IntTextLaws
import PyProof.ReprRoads
import HandS.WordsExc
import HandS.TryMany
import HandS.ExcOwn
import HandS.ExcField
import KE.GoesEnum
import PyProof.ReprBulk
import HandS.WideBits
import PyProof.EqKinds
import PyProof.FactsAll.dict_1
import PyProof.FactsAll.subtypes_3
import PyProof.FactsAll.subtypes_4
import KE.KExcInit
import PyProof.ExcBaseAll.LookupError
import HandS.CallSlots
import HandS.Conv
import HandS.Deep
import KE.DataFind
import HandS.SetKeys
import HandS.Small
import HandS.SetFor
import HandS.WordsDict
import HandS.DictComp
import PySem.Challenge.RW_guestsalone_k25_whole_turns_dealt
set_option Elab.async false
set_option linter.all false
set_option maxRecDepth 100000
set_option maxHeartbeats 8000000
namespace Bk
open PySem PySem.Spec PyProof.Rows L2
/-! ## 1. rules of our own -/
section
variable {X : Cx} {CX : CXT} {k n : Nat} {f : Addr} {fd : FuncData} {ps ks : List Str} {sp : Sp} {E : XK} {x m : Str} {p p1 p2 pos : Pos} {e : Expr} {es : List Expr} {kws : List Keyword} {t tk ta : TA} {g : List Value → List Value → List Value} {gV : List V → List V → List V}
/-- f(k = v, ..): keywords alone -/
theorem pe_callN0 (F : FnOk X.prog X.w X.K X.mg X.base CX k f fd ps sp) (hr : Room k X.A) (hg : Gl X x) (hm : X.mg x = some (.ref f)) (hk : PySem.W.keepIn X.K (.ref f) = true) (hb : KBn X.K fd ps 0 ks g gV) (hx : Passes CX X E)
    (hkw : PK X kws tk) (hall : (backToKw pos (keywordEach kws X.env)).all (·.1.isSome) = true := by rfl) (hks : (backToKw pos (keywordEach kws X.env)).filterMap (·.1) = ks := by rfl)
    (hdb : (x == ("__debug__" : Str)) = false := by decide)
    (hpl : ((backTo pos (starEach [] X.env)).any (·.1) || (backToKw pos (keywordEach kws X.env)).any (·.1.isNone)) = false := by rfl) :
    PE X (.Call (.Name x p) [] kws pos) (tCallN 0 ks.length sp gV E tNil tk) := by
  refine ⟨fun pins s σ H Q I h => ?_⟩
  refine wpAny_Call_Name_kw (ld_glob I hg hm ?_ hdb)
  refine PySem.W.callWith_KW0 (h₀ := X.base) I.ok.mod.kin hk hall ?_ hpl
  refine thn (hkw.run pos pins s σ H _ I h) fun ws s2 ⟨zs, H2, I2, rz, l1, l2, q2⟩ => ⟨I2.kIn, ?_⟩
  rw [hks]
  exact run_fnN (us := []) (vs := []) F hr hb hx I2 .nil rz rfl l2 q2
/-- C.m(e, ..): m a plain def of the class at B (or above it), read off the class -/
theorem pe_cdef {B : Addr} {mc : Value} {ds : List Value} {dvs : List V} {pl : Sem Bool} (F : FnOk X.prog X.w X.K X.mg X.base CX k f fd ps sp) (hr : Room k X.A) (hg : Gl X x) (hm : X.mg x = some (.ref B))
    (rd : PySem.W.readsIn X.K B mc = true) (ga : PySem.W.specialIn X.K (.ref B) "__getattribute__" = some (some (.builtin "type.__getattribute__"))) (at_ : PySem.W.findCls X.K (.ref B) mc m = some (.val (.ref f)))
    (hk : PySem.W.keepIn X.K (.ref f) = true) (hb : Binds X.K fd ps ds) (hd : Vals dvs ds) (hx : Passes CX X E) (ha : PA X (e :: es) t)
    (ht : eval (.Call (.Attribute (.Name x p1) m p2) (e :: es) [] pos) X.env = (do
      let ov ← eval (.Name x p1) X.env
      standAt p2.atName
      let (f, first) ← holding [ov] (getMethod ov m pl)
      callWith pos f first (backTo pos (starEach (e :: es) X.env)) (backToKw pos (keywordEach [] X.env))) := by rfl)
    (hdb : (x == ("__debug__" : Str)) = false := by decide) (he : starEach (e :: es) X.env = (false, eval e X.env) :: starEach es X.env := by rfl) (hpl : (backTo pos (starEach es X.env)).any (·.1) = false := by rfl) :
    PE X (.Call (.Attribute (.Name x p1) m p2) (e :: es) [] pos) (tCall sp dvs E t) := by
  refine ⟨fun pins s σ H Q I h => ?_⟩
  refine PySem.W.methodCall_KW (pl := pl) (ld_glob I hg hm ?_ hdb) ht
  refine PySem.W.method_cls I.kIn ga (PySem.W.cls_value I.kIn rd at_ rfl ?_)
  have I1 := I.tok (s.toks + 1)
  refine PySem.W.callWith_K (h₀ := X.base) I.ok.mod.kin hk (thn (ha.run pos pins _ σ H _ I1 h) fun us s1 ⟨vs, H1, I2, r, q⟩ => ⟨I2.kIn, ?_⟩) he hpl
  exact run_fn F hr hb hd hx I2 r q
/-- C(e, ..) as a value, C an own exception class under ValueError whose own __init__ keeps sp -/
def tMkV (C : Addr) (sp : Sp) (dvs : List V) (ta : TA) : TE := fun σ H Q => ta σ H fun vs H1 => vs.length ≤ 1000 ∧ ∀ a, H1 a = none → sp (.ref a :: (vs ++ dvs)) (upd H1 a (exo a C none)) (fun v H2 => v = .non ∧ Q (.ref a) H2) (fun _ _ _ => False)
theorem pe_oex {C fI : Addr} {ds : List Value} {dvs : List V} (T : OexC X.K C) (iC : PySem.W.findIn X.K (.ref C) "__init__" = some (some (.ref fI))) (tI : PySem.W.typeIn X.K (.ref fI) = some (.type "function"))
    (F1 : FnOk X.prog X.w X.K X.mg X.base CX k fI fd ps sp) (hr : Room (k + 1) X.A) (hb : Binds X.K fd ps ds) (hd : Vals dvs ds) (hx : Passes CX X (fun _ _ _ => False)) (hg : Gl X x) (hm : X.mg x = some (.ref C)) (ha : PA X (e :: es) ta)
    (hdb : (x == ("__debug__" : Str)) = false := by decide) (he : starEach (e :: es) X.env = (false, eval e X.env) :: starEach es X.env := by rfl) (hpl : (backTo pos (starEach es X.env)).any (·.1) = false := by rfl) :
    PE X (.Call (.Name x p) (e :: es) [] pos) (tMkV C sp dvs ta) := by
  refine ⟨fun pins s σ H Q I h => ?_⟩
  obtain ⟨nm, q, N, bs, bm, sn, sub, ab, col, dd, k0, k1, k2, k3, k5, hC, hbm⟩ := T.cls
  refine wpAny_Call_Name_kw (ld_glob I hg hm ?_ hdb)
  refine PySem.W.callWith_K (h₀ := X.base) I.ok.mod.kin T.kC (thn (ha.run pos pins s σ H _ I h) fun us s1 ⟨vs, H1, I1, r1, hz, q1⟩ => ⟨I1.kIn, ?_⟩) he hpl
  show wpAny _ _ (call (.ref C) us) _ _ _
  obtain ⟨hp, g, dr, tk, os⟩ := s1
  have hsz : hp.objs.size ≤ hp.objs.size + 1 := Nat.le_succ _
  have hn : H1 (hp.objs.size + 1) = none := I1.hok.fresh hsz
  have hq := q1 (hp.objs.size + 1) hn
  have kk : ∀ b o, hp.get? b = some o → ((hp.push (PySem.W.kdv_tup us)).push (PySem.HandSPX.excO C hp.objs.size)).get? b = some o := fun b o e => Heap.get?_push_of_some _ (Heap.get?_push_of_some _ e)
  have hget : ((hp.push (PySem.W.kdv_tup us)).push (PySem.HandSPX.excO C hp.objs.size)).get? (hp.objs.size + 1) = some (PySem.HandSPX.excO C hp.objs.size) := by heap_get
  have I2 : Inv X pins σ (upd H1 (hp.objs.size + 1) (exo (hp.objs.size + 1) C none)) ⟨(hp.push (PySem.W.kdv_tup us)).push (PySem.HandSPX.excO C hp.objs.size), g, dr, tk, os⟩ :=
    I1.laid (t' := tk) (a := hp.objs.size + 1) (o := exo (hp.objs.size + 1) C none) (h' := (hp.push (PySem.W.kdv_tup us)).push (PySem.HandSPX.excO C hp.objs.size)) kk hsz (exo_ok hget)
  have r2 : Vals (V.ref (hp.objs.size + 1) :: (vs ++ dvs)) (Value.ref (hp.objs.size + 1) :: (us ++ ds)) := .cons rfl (r1.append hd)
  have hl : (Value.ref (hp.objs.size + 1) :: us ++ ds).length = ps.length := by
    have e := r2.length
    rw [F1.len _ _ _ _ hq] at e
    exact e.symm
  have hus : us.length ≤ sizeLine := by
    rw [← Paired.length r1, sizeLine_eq]
    omega
  refine wpAny_call (PySem.HandSPX.call_own F.excBase_ValueError (fun Y => PySem.HandSPX.refsVE_contains Y bm hbm) (I1.kIn _ _ hC) (PySem.W.looks_findIn I1.kIn iC) (fun self => PySem.W.bind_fn I1.kIn self tI) hus
    (codeAny_mono (F1.run _ X.stack _ _ ⟨Value.ref (hp.objs.size + 1) :: us, []⟩ (Value.ref (hp.objs.size + 1) :: (us ++ ds)) _ _ (fun _ _ _ => False) (hr.make C us []) (I2.env0.make C us []) (hb _ (Value.ref (hp.objs.size + 1) :: us) I2.kIn hl) r2 hq) fun r s' hq' => ?_))
  cases r with
  | error er => exact hx pins σ _ _ er s' I2 hq'
  | ok fl =>
    cases fl with
    | ret u =>
      obtain ⟨v, H2, I3, rv, ev, q2⟩ := I2.after hq'
      subst ev
      exact ⟨rv, .ref (hp.objs.size + 1), H2, I3, rfl, q2⟩
    | next => exact False.elim hq'
    | brk => exact False.elim hq'
    | cont => exact False.elim hq'
/-- repr of a truth -/
def reprB (b : Bool) : Str := if b then "True" else "False"
theorem reprB_inj {a b : Bool} : decide (V.str (reprB a) = V.str (reprB b)) = decide (a = b) := by
  cases a <;> cases b <;> decide +kernel
theorem call_repr_bl : CallR X (.builtin "repr") (fun xs H Q => ∃ b, xs = [.bl b] ∧ Q (.str (reprB b)) H) := by
  intro pins s σ H xs us Q I r h
  obtain ⟨b, rfl, q⟩ := h
  obtain ⟨u, rfl, rfl⟩ := vals1 r
  exact PySem.P.repr_of_bool ⟨.str _, H, I.tok _, ⟨_, rfl⟩, q⟩
end
/-! ### an exception as a value: isinstance, its field -/
end Bk
namespace PySem.W
open PySem PySem.Spec PySem.Calls PyProof.Rows
section
variable {prog : Program} {w : World} {A : Around} {E : Value → Shared → Prop} {s : Shared} {K : Frag} {x D : Addr} {ox : Obj} {od : Option Obj}
theorem bk_findObj {C : Addr} {name : Str} {a g : Value} (hc : (clsIn K C).isSome = true) (ha : findIn K (.ref C) name = some (some a)) (hg : specialIn K a "__get__" = some (some g)) (ht : takesIn K a = some true) : findObj K C od name = some (.bind g a) := by
  obtain ⟨cd, hc⟩ := Option.isSome_iff_exists.mp hc
  unfold findObj
  rw [hc, Option.bind_some, ha, Option.bind_some]
  simp [hg, ht]
theorem bk_class {Q : Option Value → Shared → Prop} (hga : findIn K (.ref D) "__getattribute__" = some (some (.builtin "BaseException.__getattribute__"))) (hgt : findIn K (.ref D) "__getattr__" = some none) (hsub : subIn K (.ref D) (.type "BaseException") = some true)
    (hdct : hasDictIn K D = true) (ha : findIn K (.ref D) "__class__" = some (some (.builtin "object.__class__")))
    (hn : specialIn K (.builtin "object.__class__") "__get__" = some (some (.builtin "getset_descriptor.__get__"))) (htk : takesIn K (.builtin "object.__class__") = some true) (hm : mroIn K D (.type "object") = some true)
    (X : K.In s.heap) (I : InstAt s.heap x ox D od) (h : Q (some (.ref D)) { s with toks := s.toks + 1 }) : wpAny (model prog w) A (getAttr? (.ref x) "__class__") Q E s := by
  have hf : findObj K D od "__class__" = some (.bind (.builtin "getset_descriptor.__get__") (.builtin "object.__class__")) := bk_findObj (by obtain ⟨cd, hc, _⟩ := any_some hdct; rw [hc]; rfl) ha hn htk
  obtain ⟨hp, g, d, t, os⟩ := s
  have L0 := I.type (M := model prog w)
  have L1 := looks_findIn (M := model prog w) X hga
  have L2 := looks_findIn (M := model prog w) X hgt
  have L3 := looks_find (M := model prog w) X I hf
  have sub : Looks (model prog w) hp (isInstance (.ref x) (.type "BaseException")) true := L0.andThen (looks_subIn X hsub)
  have hx0 : (false && onTheHeap (Value.builtin "BaseException.__getattribute__")) = false := rfl
  have hx2 : (Value.builtin "BaseException.__getattribute__" == Value.builtin "object.__getattribute__") = false := by decide +kernel
  have hx1 : (onTheHeap (Value.ref D) && Value.builtin "BaseException.__getattribute__" == Value.builtin "object.__getattribute__") = false := by rw [hx2]; rfl
  unfold getAttr? getAttrBy? getAttrBy
  refine wpAny_bind (wpAny_mkText (wpAny_bind (wpAny_attempt (wpAny_holding (wpAny_bind (L0.at (wpAny_bind (L1.at ?_))))))))
  show wpAny _ _ (if (onTheHeap (Value.ref D) && Value.builtin "BaseException.__getattribute__" == Value.builtin "object.__getattribute__") = true then _ else _) _ _ _
  rw [hx1, if_neg Bool.false_ne_true]
  unfold getAttrByItsOwn hookBefore
  refine wpAny_bind ?_
  rw [if_pos (show onTheHeap (Value.ref D) = true from rfl)]
  refine L2.at ?_
  refine wpAny_bind (wpAny_attempt (wpAny_holding ?_))
  unfold callGetattribute
  rw [hx0, if_neg Bool.false_ne_true]
  unfold boundAndCalled
  rw [PySem.F.excAttr_ValueError.ga.bind (.ref x)]
  refine wpAny_bind (wpAny_pure ?_)
  show wpAny _ _ (call (.builtin "BaseException.__getattribute__") [.ref x, .str "__class__" t]) _ _ _
  refine wpAny_call (codeAny_call_builtin PySem.F.excAttr_ValueError.ga.plain PySem.F.entry_bexc_ga ?_)
  refine @check_slot (model prog w) _ _ ⟨hp, g, d, t + 1, os⟩ "BaseException.__getattribute__" "BaseException" "__getattribute__" (.ref x) [.str "__class__" t] [] _ (by decide +kernel) (by decide +kernel) sub (PySem.F.args_bexc_ga (.ref x) (.str "__class__" t)) ?_
  unfold Builtin.«object.__getattribute__»
  refine wpAny_bind (wpAny_of_eq (a := ((Value.ref x : Value), [Value.str "__class__" t])) (by first | rfl | (simp only [slotArgs]; rfl)) ?_)
  refine wpAny_bind (wpAny_pure (wpAny_bind (L0.at (wpAny_bind (L3.at ?_)))))
  show wpAny _ _ (holding [Value.builtin "object.__class__"] (call (.builtin "getset_descriptor.__get__") [.builtin "object.__class__", .ref x, .ref D]) >>= ret) _ _ _
  refine wpAny_bind (wpAny_holding (wpAny_call (class_get (s := ⟨hp, g, d, t + 1, os⟩) (ox := ox) (od := od) X I hm ?_)))
  refine wpAny_pure ?_
  show wpAny _ _ (handedOut (.ref D)) _ _ _
  rw [handedOut_of (v := .ref D) rfl]
  first
    | exact wpAny_pure (wpAny_pure h)
    | exact wpAny_pure h
    | exact wpAny_pure (wpAny_bind (wpAny_pure (wpAny_pure h)))
theorem bk_kitx (hga : findIn K (.ref D) "__getattribute__" = some (some (.builtin "BaseException.__getattribute__"))) (hgt : findIn K (.ref D) "__getattr__" = some none) (hsub : subIn K (.ref D) (.type "BaseException") = some true) (hdct : hasDictIn K D = true) (ha : findIn K (.ref D) "__class__" = some (some (.builtin "object.__class__")))
    (hn : specialIn K (.builtin "object.__class__") "__get__" = some (some (.builtin "getset_descriptor.__get__"))) (htk : takesIn K (.builtin "object.__class__") = some true) (hm : mroIn K D (.type "object") = some true) :
    KitX K (.ref x) (.ref D) (fun h => InstAt h x ox D od) where
  ty := fun _ _ _ I => I.type
  it := fun _ _ X _ => by
    obtain ⟨cdD, hcD, _⟩ := any_some hdct
    unfold clsIn at hcD
    split at hcD
    · rename_i c' d' cd' sl' ho
      intro A' Q' E' s' k q
      unfold isType loadHead
      exact wpAny_bind (wpAny_loadPart (k _ _ (X _ _ ho)) (wpAny_pure q))
    · cases hcD
  ne := fun h tp dd its n sl X htp => by
    obtain ⟨cdD, hcD, _⟩ := any_some hdct
    refine Bool.eq_false_iff.mpr fun q => ?_
    have e : D = tp := Value.ref.inj (beq_iff_eq.mp q)
    subst e
    unfold clsIn at hcD
    split at hcD
    · rename_i c' d' cd' sl' ho
      have z := (X _ _ ho).symm.trans htp
      cases z
    · cases hcD
  ca := fun X I k => bk_class hga hgt hsub hdct ha hn htk hm X I k
end
end PySem.W
namespace Bk
open PySem PySem.Spec PyProof.Rows L2
/-- at a: an exception of the class at D, its own dict (at dx) holds fs -/
def XV (H : Hp) (a D dx : Addr) (fs : List (Str × V)) : Prop := H a = some (exo a D (some dx)) ∧ H dx = some (exd dx fs)
theorem xv_inst {X : Cx} {pins : List (Addr × Obj)} {σ : L2.St} {H : Hp} {s : Shared} {a D dx : Addr} {fs : List (Str × V)} (I : Inv X pins σ H s) (h : XV H a D dx fs) :
    ∃ (ox od : Obj) (mA : Str → Option Value), PySem.W.InstAt s.heap a ox D (some od) ∧ (∀ f, PySem.W.lookIn f od = some (mA f)) ∧ ∀ f, RelO (fs.lookup f) (mA f) := by
  obtain ⟨t1, ho⟩ := exo_at I.hok h.1
  obtain ⟨mA, hns, rel⟩ := exd_at I.hok h.2
  obtain ⟨od, hod, hl⟩ := lookIn_ns hns
  exact ⟨_, od, mA, ⟨ho, rfl, rfl, hod⟩, hl, rel⟩
/-- isinstance(e, c), e such an exception -/
def rIsX (K : PySem.W.Frag) : List V → Hp → VK → Prop := fun xs H Q => ∃ (a D dx : Addr) (fs : List (Str × V)) (c : V) (u : Value) (b : Bool), xs = [.ref a, c] ∧ XV H a D dx fs ∧ ExcC K D ∧ ClsV c u ∧ PySem.W.kitOne K (.ref D) u = some b ∧ Q (.bl b) H
theorem call_isX {X : Cx} : CallR X (.builtin "isinstance") (rIsX X.K) := by
  intro pins s σ H xs us Q I r h
  obtain ⟨a, D, dx, fs, c, u, b, rfl, xv, C, k, e, q⟩ := h
  obtain ⟨u1, u2, rfl, r1, r2⟩ := vals2 r
  have e2 := k.eq r2
  subst e2
  obtain rfl : u1 = Value.ref a := r1
  obtain ⟨ox, od, mA, J, _, _⟩ := xv_inst I xv
  exact PySem.W.kia_one (PySem.W.bk_kitx (ox := ox) (od := some od) C.hg C.hk C.hs C.hd C.ha C.hn C.ht C.hm) I.kIn J e (fun z => nomatch z) fun tk => ⟨.bl b, H, I.tok tk, rfl, q⟩
/-- isinstance of a value of any form met here -/
def rIs (K : PySem.W.Frag) : List V → Hp → VK → Prop := fun xs H Q => rIsi K xs H Q ∨ rIsX K xs H Q
theorem call_is {X : Cx} : CallR X (.builtin "isinstance") (rIs X.K) := CallR.or call_isi call_isX
end Bk

namespace Bk
open PySem PySem.Spec PyProof.Rows L2
/-! ## 2. a def that may be called by its name -/
structure Cal (P : Program) (w : World) (K : PySem.W.Frag) (mg : Str → Option Value) (base : Heap) (CX : CXT) (k : Nat) (x : Str) (sp : Sp) : Prop where
  ex : ∃ (f : Addr) (fd : FuncData) (ps : List Str) (ds : List Value) (dvs : List V), mg x = some (.ref f) ∧ PySem.W.keepIn K (.ref f) = true ∧ FnOk P w K mg base CX k f fd ps (fun vs H Q E => sp vs H Q E ∧ vs.length = ps.length) ∧ Binds K fd ps [] ∧ ds = [] ∧ dvs = []
/-- the same with keywords: n values by places, then those of the keywords ks; gV orders them -/
structure CalN (P : Program) (w : World) (K : PySem.W.Frag) (mg : Str → Option Value) (base : Heap) (CX : CXT) (k n : Nat) (ks : List Str) (x : Str) (sp : Sp) (gV : List V → List V → List V) : Prop where
  ex : ∃ (f : Addr) (fd : FuncData) (ps : List Str) (g : List Value → List Value → List Value), mg x = some (.ref f) ∧ PySem.W.keepIn K (.ref f) = true ∧ FnOk P w K mg base CX k f fd ps sp ∧ KBn K fd ps n ks g gV
/-- defaults fill up -/
structure CalD (P : Program) (w : World) (K : PySem.W.Frag) (mg : Str → Option Value) (base : Heap) (CX : CXT) (k : Nat) (x : Str) (sp : Sp) (dvs : List V) : Prop where
  ex : ∃ (f : Addr) (fd : FuncData) (ps : List Str) (ds : List Value), mg x = some (.ref f) ∧ PySem.W.keepIn K (.ref f) = true ∧ FnOk P w K mg base CX k f fd ps sp ∧ Binds K fd ps ds ∧ Vals dvs ds
/-- a method's def, by itself -/
structure Own (P : Program) (w : World) (K : PySem.W.Frag) (mg : Str → Option Value) (base : Heap) (CX : CXT) (k : Nat) (f : Addr) (fd : FuncData) (ps : List Str) (sp : Sp) : Prop where
  ok : FnOk P w K mg base CX k f fd ps sp
  bd : Binds K fd ps []
  kp : PySem.W.keepIn K (.ref f) = true
section
variable {X : Cx} {CX : CXT} {k j n : Nat} {ks : List Str} {sp : Sp} {E : XK} {x : Str} {p pos : Pos} {e : Expr} {es : List Expr} {kws : List Keyword} {t tk : TA} {gV : List V → List V → List V} {dvs : List V}
theorem pe_cal (c : CalD X.prog X.w X.K X.mg X.base CX0 k x sp []) (hr : Room j X.A) (hk : k ≤ j) (hg : Gl X x) (ha : PA X (e :: es) t)
    (hdb : (x == ("__debug__" : Str)) = false := by decide) (he : starEach (e :: es) X.env = (false, eval e X.env) :: starEach es X.env := by rfl) (hpl : (backTo pos (starEach es X.env)).any (·.1) = false := by rfl) :
    PE X (.Call (.Name x p) (e :: es) [] pos) (tCall sp [] E0 t) := by
  obtain ⟨f, fd, ps, ds, h1, h2, h3, h4, h5⟩ := c.ex
  exact pe_call h3 (hr.mono hk) hg h1 h2 h4 h5 pass0 ha hdb he hpl
theorem pe_calD (c : CalD X.prog X.w X.K X.mg X.base CX0 k x sp dvs) (hr : Room j X.A) (hk : k ≤ j) (hg : Gl X x) (ha : PA X (e :: es) t)
    (hdb : (x == ("__debug__" : Str)) = false := by decide) (he : starEach (e :: es) X.env = (false, eval e X.env) :: starEach es X.env := by rfl) (hpl : (backTo pos (starEach es X.env)).any (·.1) = false := by rfl) :
    PE X (.Call (.Name x p) (e :: es) [] pos) (tCall sp dvs E0 t) := by
  obtain ⟨f, fd, ps, ds, h1, h2, h3, h4, h5⟩ := c.ex
  exact pe_call h3 (hr.mono hk) hg h1 h2 h4 h5 pass0 ha hdb he hpl
theorem pe_cal0 (c : CalD X.prog X.w X.K X.mg X.base CX0 k x sp []) (hr : Room j X.A) (hk : k ≤ j) (hg : Gl X x) (hdb : (x == ("__debug__" : Str)) = false := by decide) :
    PE X (.Call (.Name x p) [] [] pos) (tCall sp [] E0 tNil) := by
  obtain ⟨f, fd, ps, ds, h1, h2, h3, h4, h5⟩ := c.ex
  exact pe_call0 h3 (hr.mono hk) hg h1 h2 h4 h5 pass0 hdb
theorem pe_calN (c : CalN X.prog X.w X.K X.mg X.base CX0 k n ks x sp gV) (hr : Room k X.A) (hg : Gl X x) (ha : PA X (e :: es) t) (hkw : PK X kws tk)
    (hall : (backToKw pos (keywordEach kws X.env)).all (·.1.isSome) = true := by rfl) (hks : (backToKw pos (keywordEach kws X.env)).filterMap (·.1) = ks := by rfl)
    (hdb : (x == ("__debug__" : Str)) = false := by decide) (he : starEach (e :: es) X.env = (false, eval e X.env) :: starEach es X.env := by rfl)
    (hpl : ((backTo pos (starEach (e :: es) X.env)).any (·.1) || (backToKw pos (keywordEach kws X.env)).any (·.1.isNone)) = false := by rfl) :
    PE X (.Call (.Name x p) (e :: es) kws pos) (tCallN n ks.length sp gV E0 t tk) := by
  obtain ⟨f, fd, ps, g, h1, h2, h3, h4⟩ := c.ex
  exact pe_callN h3 hr hg h1 h2 h4 pass0 ha hkw hall hks hdb he hpl
theorem pe_calN0 (c : CalN X.prog X.w X.K X.mg X.base CX0 k 0 ks x sp gV) (hr : Room k X.A) (hg : Gl X x) (hkw : PK X kws tk)
    (hall : (backToKw pos (keywordEach kws X.env)).all (·.1.isSome) = true := by rfl) (hks : (backToKw pos (keywordEach kws X.env)).filterMap (·.1) = ks := by rfl)
    (hdb : (x == ("__debug__" : Str)) = false := by decide)
    (hpl : ((backTo pos (starEach [] X.env)).any (·.1) || (backToKw pos (keywordEach kws X.env)).any (·.1.isNone)) = false := by rfl) :
    PE X (.Call (.Name x p) [] kws pos) (tCallN 0 ks.length sp gV E0 tNil tk) := by
  obtain ⟨f, fd, ps, g, h1, h2, h3, h4⟩ := c.ex
  exact pe_callN0 h3 hr hg h1 h2 h4 pass0 hkw hall hks hdb hpl
end
theorem CalD.mk' {P : Program} {w : World} {K : PySem.W.Frag} {mg : Str → Option Value} {base : Heap} {CX : CXT} {k : Nat} {x : Str} {sp : Sp} {f : Addr} {fd : FuncData} {ps : List Str} (g : mg x = some (.ref f)) (kp : PySem.W.keepIn K (.ref f) = true) (F : FnOk P w K mg base CX k f fd ps sp) (b : Binds K fd ps []) :
    CalD P w K mg base CX k x sp [] := ⟨f, fd, ps, [], g, kp, F, b, .nil⟩
/-! ## 3. going through a reading -/
section
variable {K : PySem.W.Frag} {σ : L2.St} {H : Hp} {ta tb tc te : TE} {t u : TT} {x y v : V} {Q : VK} {QB : Bool → Hp → Prop} {QL : List V → Hp → Prop} {r r' : R2} {D : Ends} {a b : TS} {tr : TA}
theorem r_var {i : Nat} (h : σ[i]? = some (some v)) (q : Q v H) : tVar i σ H Q := ⟨v, h, q⟩
theorem r_c (q : Q v H) : tC v σ H Q := q
theorem r_op (q : ta σ H fun x H1 => tb σ H1 fun y H2 => r x y H2 Q) : tOp r ta tb σ H Q := q
theorem r_un {r : V → Hp → VK → Prop} (q : ta σ H fun x H1 => r x H1 Q) : tUn r ta σ H Q := q
theorem r_I0 {g : Int → Int → V} {i j : Int} (q : Q (g i j) H) : rI0 g (.int i) (.int j) H Q := ⟨i, j, rfl, rfl, q⟩
theorem r_I {C : Int → Int → Prop} {g : Int → Int → V} {i j : Int} (c : C i j) (q : Q (g i j) H) : rI C g (.int i) (.int j) H Q := ⟨i, j, rfl, rfl, c, q⟩
theorem r_U {g : Int → V} {i : Int} (q : Q (g i) H) : rU g (.int i) H Q := ⟨i, rfl, q⟩
theorem r_eq (s : scal x y = true) (q : Q (.bl (decide (x = y))) H) : rEq x y H Q := ⟨s, q⟩
theorem r_ne (s : scal x y = true) (q : Q (.bl (!decide (x = y))) H) : rNe x y H Q := ⟨s, q⟩
theorem r_nil (q : QL [] H) : tNil σ H QL := q
theorem r_cons (q : ta σ H fun x H1 => tr σ H1 fun xs H2 => QL (x :: xs) H2) : tCons ta tr σ H QL := q
theorem r_call {sp : Sp} {dvs : List V} {E : XK} (q : tr σ H fun vs H1 => sp (vs ++ dvs) H1 Q E) : tCall sp dvs E tr σ H Q := q
theorem r_callN {n m : Nat} {sp : Sp} {gV : List V → List V → List V} {E : XK} {tk : TA} (q : tr σ H fun vs H1 => tk σ H1 fun zs H2 => vs.length = n ∧ zs.length = m ∧ sp (gV vs zs) H2 Q E) : tCallN n m sp gV E tr tk σ H Q := q
theorem r_cb {rc : List V → Hp → VK → Prop} (q : tr σ H fun vs H1 => rc vs H1 Q) : tCB rc tr σ H Q := q
theorem r_ret (q : te σ H D.rt) : tRet te D σ H := q
theorem r_seq (q : a { D with nx := b D } σ H) : tSeq a b D σ H := q
theorem r_asg {g : TG} (q : te σ H fun x H1 => g x σ H1 D.nx) : tAsg te g D σ H := q
theorem r_name {i : Nat} {Qs : L2.St → Hp → Prop} (q : Qs (σ.set i (some v)) H) : gName i v σ H Qs := q
theorem r_if (q : t σ H fun b' H1 => if b' = true then a D σ H1 else b D σ H1) : tIfS t a b D σ H := q
theorem r_next (q : D.nx σ H) : tNext D σ H := q
theorem r_drop (q : te σ H fun _ H1 => D.nx σ H1) : tDrop te D σ H := q
theorem r_test (q : te σ H fun x H' => ∃ k, x = .bl k ∧ QB k H') : tTest te σ H QB := q
theorem r_tB (q : te σ H fun x H' => ∃ k, x = .bl k ∧ QB k H') : tB te σ H QB := q
theorem r_isb {k : Bool} (q : QB k H) : ∃ k', V.bl k = .bl k' ∧ QB k' H := ⟨k, rfl, q⟩
theorem r_isv {k : Bool} {A : Bool → Prop} (q : A k) : ∃ k', V.bl k = .bl k' ∧ A k' := ⟨k, rfl, q⟩
theorem r_not (q : t σ H fun c H1 => QB (!c) H1) : tNot t σ H QB := q
theorem r_and (q : t σ H fun c H1 => if c = true then u σ H1 QB else QB false H1) : tAnd t u σ H QB := q
theorem r_or (q : t σ H fun c H1 => if c = true then QB true H1 else u σ H1 QB) : tOr t u σ H QB := q
theorem r_andV (q : ta σ H fun x H1 => ∃ c, x = .bl c ∧ if c = true then tb σ H1 Q else Q (.bl false) H1) : tAndV ta tb σ H Q := q
theorem r_orV (q : ta σ H fun x H1 => ∃ c, x = .bl c ∧ if c = true then Q (.bl true) H1 else tb σ H1 Q) : tOrV ta tb σ H Q := q
theorem r_notV (q : ta σ H fun x H1 => ∃ c, x = .bl c ∧ Q (.bl (!c)) H1) : tNotV ta σ H Q := q
theorem r_chain (q : ta σ H fun x H1 => tb σ H1 fun y H2 => r x y H2 fun z H3 => ∃ k, z = .bl k ∧ (if k = true then tc σ H3 fun w' H4 => r' y w' H4 Q else Q (.bl false) H3)) : tChain r r' ta tb tc σ H Q := q
theorem r_ifE (q : t σ H fun c H1 => if c = true then ta σ H1 Q else tb σ H1 Q) : tIf t ta tb σ H Q := q
theorem r_isN (q : Q (.bl (decide (x = .non))) H) : (fun x y H Q => y = V.non ∧ Q (.bl (decide (x = .non))) H : R2) x .non H Q := ⟨rfl, q⟩
def NewL (xs : List V) (H : Hp) (Q : VK) : Prop := xs.length ≤ sizeLine ∧ ∀ p, H p = none → Q (.ref p) (upd H p (.lst xs))
def NewT (xs : List V) (H : Hp) (Q : VK) : Prop := xs.length ≤ sizeLine ∧ ∀ p, H p = none → Q (.ref p) (upd H p (.tup xs))
theorem r_lst (q : tr σ H fun xs H1 => NewL xs H1 Q) : tLst tr σ H Q := q
theorem r_tup (q : tr σ H fun xs H1 => NewT xs H1 Q) : tTup tr σ H Q := q
theorem same_upd {p : Addr} {o : HO} (h : H p = none) : Same H (upd H p o) := fun b x e => by
  rw [upd_ne (ne_of_none e h)]
  exact e
/-- a new object: the heap behind it by what stands in it -/
theorem newL {xs : List V} (q : ∀ p H', H p = none → Same H H' → H' p = some (.lst xs) → Q (.ref p) H') (hl : xs.length ≤ 10000 := by exact Nat.le_of_ble_eq_true rfl) : NewL xs H Q :=
  ⟨Nat.le_trans hl (by decide), fun p hp => q p _ hp (same_upd hp) upd_same⟩
theorem newT {xs : List V} (q : ∀ p H', H p = none → Same H H' → H' p = some (.tup xs) → Q (.ref p) H') (hl : xs.length ≤ 10000 := by exact Nat.le_of_ble_eq_true rfl) : NewT xs H Q :=
  ⟨Nat.le_trans hl (by decide), fun p hp => q p _ hp (same_upd hp) upd_same⟩
def NewDK (kvs : List (Key × V)) (H : Hp) (Q : VK) : Prop := ∀ p, H p = none → Q (.ref p) (upd H p (.dK kvs))
theorem r_dnewK (q : NewDK [] H Q) : tDNewK σ H Q := q
theorem newDK {kvs : List (Key × V)} (q : ∀ p H', H p = none → Same H H' → H' p = some (.dK kvs) → Q (.ref p) H') : NewDK kvs H Q := fun p hp => q p _ hp (same_upd hp) upd_same
def MkV (C : Addr) (sp : Sp) (dvs vs : List V) (H : Hp) (Q : VK) : Prop := vs.length ≤ 1000 ∧ ∀ a, H a = none → sp (.ref a :: (vs ++ dvs)) (upd H a (exo a C none)) (fun v H2 => v = .non ∧ Q (.ref a) H2) (fun _ _ _ => False)
theorem r_mkV {C : Addr} {sp : Sp} {dvs : List V} (q : tr σ H fun vs H1 => MkV C sp dvs vs H1 Q) : tMkV C sp dvs tr σ H Q := q
def ForL (J : It) (g : TG) (tb : TS) (D : Ends) (σ : L2.St) (H : Hp) : Prop := ∃ W : Nat → Nat → L2.St → Hp → Prop, (∃ m, W 0 m σ H) ∧ ∀ i m σ H, W i m σ H →
  (J.stop i H ∧ D.nx σ H) ∨ (J.go i H ∧ ∃ N : L2.St → Hp → Prop, (∀ σ' H', N σ' H' → ∃ m', m' < m ∧ W (i + 1) m' σ' H') ∧ ∀ x H', J.yld i H x H' → g x σ H' fun σ2 H2 => tb { D with nx := N, ct := N, bk := D.nx } σ2 H2)
theorem r_for {wi : TI} {g : TG} (q : wi σ H fun J H1 => ForL J g a D σ H1) : tFor wi g a D σ H := q
theorem r_iList {tl : TE} {R : It → Hp → Prop} (q : tl σ H fun x H1 => ∃ p, x = .ref p ∧ (∃ xs, SqL K H1 p xs) ∧ R (Itl K p) H1) : iList K tl σ H R := q
theorem r_iTup {tl : TE} {R : It → Hp → Prop} (q : tl σ H fun x H1 => ∃ p, x = .ref p ∧ (∃ xs, SqT K H1 p xs) ∧ R (Itt K p) H1) : iTup K tl σ H R := q
theorem r_iRng1 {R : It → Hp → Prop} (q : tr σ H fun vs H1 => ∃ j : Int, vs = [.int j] ∧ -(2 ^ 62) ≤ j ∧ j < 2 ^ 62 ∧ R (Itr 0 j.toNat) H1) : iRng1 tr σ H R := q
theorem r_iRng2 {R : It → Hp → Prop} (q : tr σ H fun vs H1 => ∃ i j : Int, vs = [.int i, .int j] ∧ (-(2 ^ 62) ≤ i ∧ i < 2 ^ 62 ∧ -(2 ^ 62) ≤ j ∧ j < 2 ^ 62) ∧ R (Itr i (j - i).toNat) H1) : iRng2 tr σ H R := q
theorem r_ixL {p : Addr} {xs : List V} {i : Int} (h : SqL K H p xs) (ha : atI xs i = some v) (q : Q v H) : rIxL K (.ref p) (.int i) H Q := ⟨p, xs, i, v, rfl, rfl, h, ha, q⟩
theorem r_ixT {p : Addr} {xs : List V} {i : Int} (h : SqT K H p xs) (ha : atI xs i = some v) (q : Q v H) : rIxT K (.ref p) (.int i) H Q := ⟨p, xs, i, v, rfl, rfl, h, ha, q⟩
theorem r_gSub {to ti : TE} {ts : TSet} {Qs : L2.St → Hp → Prop} (q : to σ H fun o H1 => ti σ H1 fun i H2 => ts o i v H2 fun H3 => Qs σ H3) : gSub to ti ts v σ H Qs := q
theorem r_bm {T : String} {rm : V → List V → Hp → VK → Prop} {to : TE} (q : to σ H fun x H1 => tyV K T x H1 ∧ tr σ H1 fun xs H2 => rm x xs H2 Q) : tBM K T rm to tr σ H Q := q
theorem iteNF {A B : Prop} (h : B) : if (!true) = true then A else B := iteF h
theorem iteNT {A B : Prop} (h : A) : if (!false) = true then A else B := iteT h
theorem iteD {c A B : Prop} [Decidable c] (hc : c) (h : A) : if decide c = true then A else B := by rw [decide_eq_true hc]; exact iteT h
theorem iteDn {c A B : Prop} [Decidable c] (hc : ¬ c) (h : B) : if decide c = true then A else B := by rw [decide_eq_false hc]; exact iteF h
theorem iteND {c A B : Prop} [Decidable c] (hc : c) (h : B) : if (!decide c) = true then A else B := by rw [decide_eq_true hc]; exact iteF h
theorem iteNDn {c A B : Prop} [Decidable c] (hc : ¬ c) (h : A) : if (!decide c) = true then A else B := by rw [decide_eq_false hc]; exact iteT h
/-- a test that is open: both ways, by what it says -/
theorem iteC {c A B : Prop} [Decidable c] (h1 : c → A) (h2 : ¬ c → B) : if decide c = true then A else B := by
  by_cases h : c
  · exact iteD h (h1 h)
  · exact iteDn h (h2 h)
theorem iteNC {c A B : Prop} [Decidable c] (h1 : ¬ c → A) (h2 : c → B) : if (!decide c) = true then A else B := by
  by_cases h : c
  · exact iteND h (h2 h)
  · exact iteNDn h (h1 h)
theorem iteB {b : Bool} {A B : Prop} (h1 : b = true → A) (h2 : b = false → B) : if b = true then A else B := by
  cases b
  · exact iteF (h2 rfl)
  · exact iteT (h1 rfl)
theorem iteNB {b : Bool} {A B : Prop} (h1 : b = false → A) (h2 : b = true → B) : if (!b) = true then A else B := by
  cases b
  · exact iteT (h1 rfl)
  · exact iteF (h2 rfl)
theorem r_m1 {rm : V → List V → Hp → VK → Prop} {to te : TE} (q : to σ H fun x H1 => (∃ a, x = .str a) ∧ te σ H1 fun y H2 => rm x [y] H2 Q) : tM1 rm to te σ H Q := q
theorem r_len {z : Str} (h : z.length ≤ 100000) (q : Q (.int z.length) H) : ∃ z', [V.str z] = [V.str z'] ∧ z'.length ≤ sizeLine ∧ Q (.int z'.length) H := ⟨z, rfl, Nat.le_trans h (by decide), q⟩
theorem sqL {p : Addr} {xs : List V} (h : H p = some (.lst xs)) : SqL K H p xs := .inl (.inl h)
theorem sqT {p : Addr} {xs : List V} (h : H p = some (.tup xs)) : SqT K H p xs := .inl (.inl h)
end
end Bk

namespace Bk
open PySem PySem.Spec PyProof.Rows L2
/-! ## 4. what isinstance answers -/
def IsA (K : PySem.W.Frag) (H : Hp) (x : V) (T : String) (b : Bool) : Prop :=
  (∃ t, TyX K H x t ∧ PySem.W.kitOne K t (.type T) = some b) ∨ (∃ (a D dx : Addr) (fs : List (Str × V)), x = .ref a ∧ XV H a D dx fs ∧ ExcC K D ∧ PySem.W.kitOne K (.ref D) (.type T) = some b)
section
variable {K : PySem.W.Frag} {H H' : Hp} {x : V} {T : String} {b : Bool} {Q : VK}
theorem r_is (h : IsA K H x T b) (q : Q (.bl b) H) : rIs K [x, .ty T] H Q := by
  rcases h with ⟨t, h1, h2⟩ | ⟨a, D, dx, fs, rfl, h1, h2, h3⟩
  · exact .inl ⟨x, .ty T, t, .type T, b, rfl, .ty T, h1, h2, q⟩
  · exact .inr ⟨a, D, dx, fs, .ty T, .type T, b, rfl, h1, h2, .ty T, h3, q⟩
theorem isa_int {i : Int} (h : kitB "int" T = some b := by decide +kernel) : IsA K H (.int i) T b := .inl ⟨.type "int", .base (.int i), kit_ty h⟩
theorem isa_bl {c : Bool} (h : kitB "bool" T = some b := by decide +kernel) : IsA K H (.bl c) T b := .inl ⟨.type "bool", .base (.bl c), kit_ty h⟩
theorem isa_str {z : Str} (h : kitB "str" T = some b := by decide +kernel) : IsA K H (.str z) T b := .inl ⟨.type "str", .base (.str z), kit_ty h⟩
theorem isa_non (h : kitB "NoneType" T = some b := by decide +kernel) : IsA K H .non T b := .inl ⟨.type "NoneType", .base .non, kit_ty h⟩
theorem isa_lst {a : Addr} {xs : List V} (e : H a = some (.lst xs)) (h : kitB "list" T = some b := by decide +kernel) : IsA K H (.ref a) T b := .inl ⟨.type "list", .base (.lst e), kit_ty h⟩
theorem isa_tup {a : Addr} {xs : List V} (e : H a = some (.tup xs)) (h : kitB "tuple" T = some b := by decide +kernel) : IsA K H (.ref a) T b := .inl ⟨.type "tuple", .base (.tup e), kit_ty h⟩
theorem isa_dK {a : Addr} {kvs : List (Key × V)} (e : H a = some (.dK kvs)) (h : kitB "dict" T = some b := by decide +kernel) : IsA K H (.ref a) T b := .inl ⟨.type "dict", .base (.dK e), kit_ty h⟩
theorem isa_exc {a D dx : Addr} {fs : List (Str × V)} (e : XV H a D dx fs) (C : ExcC K D) (h : PySem.W.kitOne K (.ref D) (.type T) = some b) : IsA K H (.ref a) T b := .inr ⟨a, D, dx, fs, rfl, e, C, h⟩
end
/-! ## 5. the box of draws -/
def Box (a : Addr) (n : Nat) (H : Hp) : Prop := ∃ x y z : Int, H a = some (.lst [.int x, .int y, .int z]) ∧ 0 ≤ x ∧ 0 ≤ y ∧ y < 2147483629 ∧ 0 ≤ z ∧ z ≤ (n : Int)
/-- all but what stands at a is as it was -/
def But (a : Addr) (H H' : Hp) : Prop := ∀ b o, b ≠ a → H b = some o → H' b = some o
theorem But.refl {a : Addr} {H : Hp} : But a H H := fun _ _ _ h => h
theorem But.trans {a : Addr} {H H1 H2 : Hp} (x : But a H H1) (y : But a H1 H2) : But a H H2 := fun b o n e => y b o n (x b o n e)
theorem But.same {a : Addr} {H H1 H2 : Hp} (x : But a H H1) (y : Same H1 H2) : But a H H2 := fun b o n e => y b o (x b o n e)
theorem But.of {a : Addr} {H H1 : Hp} (y : Same H H1) : But a H H1 := fun b o _ e => y b o e
theorem But.upd {a : Addr} {H : Hp} {o : HO} : But a H (upd H a o) := fun b u n e => by rw [upd_ne n]; exact e
theorem Box.same {a : Addr} {n : Nat} {H H' : Hp} (h : Box a n H) (s : Same H H') : Box a n H' := by
  obtain ⟨x, y, z, e, r⟩ := h
  exact ⟨x, y, z, s _ _ e, r⟩
theorem Box.mono {a : Addr} {n m : Nat} {H : Hp} (h : Box a n H) (l : n ≤ m) : Box a m H := by
  obtain ⟨x, y, z, e, r1, r2, r3, r4, r5⟩ := h
  exact ⟨x, y, z, e, r1, r2, r3, r4, by omega⟩
theorem Box.ne {a p : Addr} {n : Nat} {H : Hp} (h : Box a n H) (hp : H p = none) : p ≠ a := by
  obtain ⟨x, y, z, e, _⟩ := h
  exact (ne_of_none e hp).symm
theorem Box.ne_tup {a p : Addr} {n : Nat} {H : Hp} {xs : List V} (h : Box a n H) (hp : H p = some (.tup xs)) : p ≠ a := by
  obtain ⟨x, y, z, e, _⟩ := h
  exact fun q => by rw [q, e] at hp; cases hp
def spCell (K : PySem.W.Frag) : Sp := fun vs H Q _ => ∃ (a : Addr) (ns : List Int) (k : Nat), vs = [.ref a, .int k] ∧ SqL K H a (ns.map V.int) ∧ k ≤ 100000 ∧ ∀ c, Q (.int c) H
def spBox : Sp := fun vs H Q _ => ∃ c : Int, vs = [.int c] ∧ ∀ p H', H p = none → Same H H' → Box p 0 H' → Q (.ref p) H'
def spTake : Sp := fun vs H Q _ => ∃ (a : Addr) (n : Nat) (size : Int), vs = [.ref a, .int size] ∧ Box a n H ∧ n < 1000000 ∧ 0 < size ∧ size < 2 ^ 128 ∧
  ∀ d H', 0 ≤ d → d < size → Box a (n + 1) H' → But a H H' → Q (.int d) H'
theorem cdiv {i j : Int} (h : 0 < j) (h2 : j < 2 ^ 128) : CDivW i j := wide_div (b := 128) h (by omega) (by decide) (by decide)
theorem cmul {i j : Int} (h1 : -(2 ^ 128) < i) (h2 : i < 2 ^ 128) (h3 : -(2 ^ 128) < j) (h4 : j < 2 ^ 128) : CMulW i j := wide_mul (a := 128) (b := 128) (by omega) (by omega) (by decide) (by decide) (by decide)
theorem at_map {ns : List Int} {k : Nat} (h : k < ns.length) : atI (ns.map V.int) ((k : Nat) : Int) = some (.int ns[k]) := atI_nat (by rw [List.getElem?_map, List.getElem?_eq_getElem h]; rfl)
end Bk

namespace Bk
open PySem PySem.Spec PyProof.Rows L2
theorem sameBut {H H' : Hp} {D : Addr} {o : HO} (h : Same H H') (n : H D = none) : Same H (upd H' D o) := fun b u e => by
  rw [upd_ne (ne_of_none e n)]
  exact h b u e
/-! ## 6. a comprehension over a text's signs, all of it -/
section
variable {K : PySem.W.Frag} {σ : L2.St} {H : Hp} {Q : VK} {te : TE}
/-- the list of p of each sign -/
theorem r_lcStr {i0 j : Nat} {vs : List Nat} {z : Str} (p : Nat → V) (hv : σ[i0]? = some (some (.str z))) (hz : z.length ≤ 100000)
    (hw : ∀ x, wipe ((wipe σ vs).set j (some x)) vs = wipe σ vs)
    (ht : ∀ (c : Nat) (H' : Hp) (Q' : VK), c ∈ z.cps.toList → Same H H' → (∀ H2, Same H' H2 → Q' (p c) H2) → te ((wipe σ vs).set j (some (.str ⟨#[c]⟩))) H' Q')
    (q : ∀ D H', H D = none → Same H H' → H' D = some (.lst (z.cps.toList.map p)) → Q (.ref D) H') :
    tLc (iStr (tVar i0)) (gName j) tYes te vs σ H Q := by
  refine ⟨_, hv, z, rfl, fun D hD => ?_⟩
  refine lc_it (n := z.cps.size) walk_str (fun i H' => Same H H' ∧ H' D = some (.lst ((z.cps.toList.take i).map p))) ⟨same_upd hD, by rw [upd_same]; rfl⟩ (fun _ _ _ _ => trivial) ?_ ?_
  · rintro i x H1 H2 hi ⟨sm, e⟩ ⟨rfl, c, hc, rfl⟩
    have hc' : z.cps.toList[i]? = some c := by rw [Array.getElem?_toList]; exact hc
    refine ⟨hw _, ?_⟩
    show te _ _ _
    refine ht c _ _ (List.mem_of_getElem? hc') sm fun H3 s3 => ⟨_, s3 _ _ e, ?_, sameBut (sm.trans s3) hD, ?_⟩
    · have l : ((z.cps.toList.take i).map p).length ≤ z.cps.size := by
        rw [List.length_map, List.length_take, Array.length_toList]
        omega
      have hz' : z.cps.size ≤ 100000 := hz
      exact Nat.lt_of_le_of_lt (Nat.le_trans l hz') (by decide)
    · rw [upd_same, List.take_add_one, hc', List.map_append]
      rfl
  · rintro H1 ⟨sm, e⟩
    refine q D H1 hD sm ?_
    rw [e]
    have l : z.cps.size = z.cps.toList.length := (Array.length_toList).symm
    rw [l, List.take_length]
/-- all([p(sign) for sign in text]) -/
theorem r_allStr {i0 j : Nat} {vs : List Nat} {z : Str} (p : Nat → Bool) (hv : σ[i0]? = some (some (.str z))) (hz : z.length ≤ 100000)
    (hw : ∀ x, wipe ((wipe σ vs).set j (some x)) vs = wipe σ vs)
    (ht : ∀ (c : Nat) (H' : Hp) (Q' : VK), c ∈ z.cps.toList → Same H H' → (∀ H2, Same H' H2 → Q' (.bl (p c)) H2) → te ((wipe σ vs).set j (some (.str ⟨#[c]⟩))) H' Q')
    (q : ∀ H', Same H H' → Q (.bl (z.cps.toList.all p)) H') :
    tCB (rAll K) (tCons (tLc (iStr (tVar i0)) (gName j) tYes te vs) tNil) σ H Q := by
  refine r_cb (r_cons ?_)
  refine r_lcStr (fun c => .bl (p c)) hv hz hw ht fun D H' nD sm e => ?_
  refine r_nil ⟨D, z.cps.toList.map p, rfl, sqL ?_, ?_⟩
  · rw [e, List.map_map]
    rfl
  · rw [List.all_map]
    exact q H' sm
end
/-! ## 7. draws, items, slices -/
section
variable {K : PySem.W.Frag} {σ : L2.St} {H : Hp} {Q : VK} {E : XK} {te : TE} {tl th : TO} {QO : Option Int → Hp → Prop}
theorem r_take {a : Addr} {n : Nat} {size : Int} (hB : Box a n H) (q : ∀ d H', 0 ≤ d → d < size → Box a (n + 1) H' → But a H H' → Q (.int d) H') (hn : n < 1000000 := by omega) (h0 : 0 < size := by decide) (h1 : size < 2 ^ 128 := by decide) : spTake [.ref a, .int size] H Q E :=
  ⟨a, n, size, rfl, hB, hn, h0, h1, q⟩
theorem r_ixS {z : Str} {d : Int} (h0 : 0 ≤ d) (h1 : d < (z.cps.toList.length : Int)) (hz : z.length ≤ 100000) (q : ∀ c, z.cps.toList[d.toNat]? = some c → Q (.str ⟨#[c]⟩) H) : rIxS (.str z) (.int d) H Q := by
  have l : d.toNat < z.cps.toList.length := by omega
  obtain ⟨c, hc⟩ : ∃ c, z.cps.toList[d.toNat]? = some c := ⟨_, List.getElem?_eq_getElem l⟩
  refine ⟨z, d, c, rfl, rfl, Nat.le_trans hz (by decide), ?_, q c hc⟩
  have e : d = ((d.toNat : Nat) : Int) := by omega
  rw [e]
  exact atI_nat hc
theorem r_ixLo {p : Addr} {xs : List V} {d : Int} (h : SqL K H p xs) (h0 : 0 ≤ d) (h1 : d < (xs.length : Int)) (q : ∀ v, v ∈ xs → xs[d.toNat]? = some v → Q v H) : rIxL K (.ref p) (.int d) H Q := by
  have l : d.toNat < xs.length := by omega
  obtain ⟨v, hv⟩ : ∃ v, xs[d.toNat]? = some v := ⟨_, List.getElem?_eq_getElem l⟩
  refine r_ixL h (v := v) ?_ (q v (List.mem_of_getElem? hv) hv)
  have e : d = ((d.toNat : Nat) : Int) := by omega
  rw [e]
  exact atI_nat hv
theorem r_sl {r : V → Option Int → Option Int → Hp → VK → Prop} (q : te σ H fun x H1 => tl σ H1 fun l H2 => th σ H2 fun u H3 => r x l u H3 Q) : tSl r te tl th σ H Q := q
theorem r_noPart (q : QO none H) : tNoPart σ H QO := q
theorem r_part (q : te σ H fun x H1 => ∃ i, x = .int i ∧ QO (some i) H1) : tPart te σ H QO := q
theorem r_isi {i : Int} {A : Int → Prop} (q : A i) : ∃ i', V.int i = .int i' ∧ A i' := ⟨i, rfl, q⟩
theorem r_slS {z : Str} {lo hi : Option Int} (hz : z.length ≤ 100000) (q : ∀ y : Str, y.length ≤ z.length → Q (.str y) H) : rSlS (.str z) lo hi H Q := ⟨z, rfl, Nat.le_trans hz (by decide), q _ (cutS_length z lo hi)⟩
end
theorem r_cut {a b : TS} {D : Ends} {σ : L2.St} {H : Hp} (Mid : L2.St → Hp → Prop) (h1 : a { D with nx := Mid } σ H) (h2 : ∀ σ' H', Mid σ' H' → b D σ' H') : C8.tCut a b D σ H := ⟨Mid, h1, h2⟩
theorem str_len_add (x y : Str) : (x ++ y).length = x.length + y.length := by
  have h : ∀ z : Str, z.length = z.cps.toList.length := fun z => (Array.length_toList).symm
  rw [h, h, h]; show (TL.tl (x ++ y)).length = _; rw [TL.tl_append]
  exact List.length_append
theorem lt1 {c d : Nat} : decide ([c] < [d]) = decide (c < d) := by
  by_cases h : c < d
  · rw [decide_eq_true h]
    exact decide_eq_true (List.Lex.rel h)
  · rw [decide_eq_false h]
    refine decide_eq_false fun z => ?_
    cases z with
    | rel q => exact h q
    | cons q => cases q
theorem sign_tl {c : Nat} : (⟨#[c]⟩ : Str).cps.toList = [c] := rfl
/-- a text begins with this sign -/
theorem starts1 (z : Str) (c : Nat) : Txt.startswith z ⟨#[c]⟩ = decide (z.cps.toList[0]? = some c) := by
  have h := PySem.StrLaws.subAt_one z c 0
  unfold Txt.startswith
  by_cases e : z.cps.toList[0]? = some c
  · obtain ⟨h1, h2⟩ := h.mpr e
    rw [decide_eq_true e, h2, decide_eq_true h1]
    rfl
  · rw [decide_eq_false e]
    by_cases h1 : 0 + (⟨#[c]⟩ : Str).length ≤ z.length
    · rw [decide_eq_true h1, Bool.true_and]
      exact Bool.eq_false_iff.mpr fun h2 => e (h.mp ⟨h1, h2⟩)
    · rw [decide_eq_false h1]
      rfl
end Bk

namespace Bk
open PySem PySem.Spec PyProof.Rows L2
/-! ## 9. defs that are run where no text is being told of a thing -/
structure FnG (P : Program) (w : World) (K : PySem.W.Frag) (mg : Str → Option Value) (base : Heap) (CX : CXT) (k : Nat) (f : Addr) (fd : FuncData) (ps : List Str) (sp : Sp) : Prop where
  len : ∀ vs H Q E, sp vs H Q E → vs.length = ps.length
  go : ∀ (A : Around) (ou : List Env) (s : Shared) (H : Hp) (ar : Args) (us : List Value) (vs : List V) (Q : VK) (E : XK), A.guards = some [] → Room k A → Env0 P w K mg base A ou s H → BindsTo s fd ar (ps.zip us) → Vals vs us → sp vs H Q E →
    codeAny (model P w) A (.call (.ref f) ar) (CR CX ou P w H s Q E) s
section
variable {P : Program} {w : World} {K : PySem.W.Frag} {mg : Str → Option Value} {base : Heap} {CX : CXT} {j k : Nat} {f : Addr} {fd : FuncData} {N ps : List Str} {sp : Sp} {x qual : Str} {st : Stmt}
theorem FnG.of (F : FnOk P w K mg base CX k f fd ps sp) : FnG P w K mg base CX k f fd ps sp := ⟨F.len, fun A ou s H ar us vs Q E _ => F.run A ou s H ar us vs Q E⟩
theorem FnG.up (F : FnG P w K mg base CX j f fd ps sp) (h : j ≤ k) : FnG P w K mg base CX k f fd ps sp := ⟨F.len, fun A ou s H ar us vs Q E g hr => F.go A ou s H ar us vs Q E g (hr.mono h)⟩
/-- by its body -/
theorem fun_okG (F : Fun K x qual st f fd) (S : FnScope N ps (defScope st)) (len : ∀ vs H Q E, sp vs H Q E → vs.length = ps.length)
    (hbody : ∀ (cdv : Value) (A : Around) (ou : List Env) (s : Shared) (H : Hp) (vs : List V) (Q : VK) (E : XK), (A.deeper (envOfC qual (defScope st) s.heap.objs.size f cdv)).guards = some [] → Room k (A.deeper (envOfC qual (defScope st) s.heap.objs.size f cdv)) → sp vs H Q E →
      ∃ t, PSs (cxOf CX0 P w K mg base N qual (defScope st) f cdv A ou s H E).nox (defBody st) t ∧ t { nx := fun _ H' => Q .non H', rt := Q } (start N vs) H) : FnG P w K mg base CX0 (k + 1) f fd ps sp := by
  obtain ⟨oc, od, kV, doc, pm, an, cdv, ct, osl, rfl, lk, hcd⟩ := F.ex
  refine ⟨len, fun A ou s H ar us vs Q E hg hr e0 hb rv hsp => ?_⟩
  have KX : K.In s.heap := e0.mod.kin.keeps fun b o z => (e0.bs b o z).1
  refine Att.call_fn KX (e0.mod.nolimit.keeps fun b o z => (e0.bs b o z).1) lk hcd hr.depth hb ?_ (fun s1 x1 => ?_) S.co S.gen S.kind
  · rw [List.all_eq_true]
    rintro ⟨n, v⟩ hy
    rcases S.par n (List.of_mem_zip hy).1 with q | q <;> simp [q]
  · obtain ⟨t, ht, hq⟩ := hbody cdv A ou s H vs Q E hg (hr.deeper _) hsp
    have I := inv_start (CX := CX0) (E := E) S hr.hd e0 (len _ _ _ _ hsp) rv x1
    refine wpAny_mono (ht.nox.run [] s1 (start N vs) H _ I hq) (fun fl s2 z => ?_) fun _ _ z => z
    cases fl with
    | ret u => exact let ⟨v, _, H2, J, r2, q2⟩ := z; ⟨v, H2, J.os, J.bare, J.base, J.hok, r2, q2⟩
    | next => exact let ⟨_, H2, J, q2⟩ := z; ⟨.non, H2, J.os, J.bare, J.base, J.hok, rfl, q2⟩
    | brk => exact (let ⟨_, _, _, q2⟩ := z; q2 : False).elim
    | cont => exact (let ⟨_, _, _, q2⟩ := z; q2 : False).elim
end
structure CalG (P : Program) (w : World) (K : PySem.W.Frag) (mg : Str → Option Value) (base : Heap) (CX : CXT) (k : Nat) (x : Str) (sp : Sp) : Prop where
  ex : ∃ (f : Addr) (fd : FuncData) (ps : List Str), mg x = some (.ref f) ∧ PySem.W.keepIn K (.ref f) = true ∧ FnG P w K mg base CX k f fd ps sp ∧ Binds K fd ps []
theorem CalG.mk' {P : Program} {w : World} {K : PySem.W.Frag} {mg : Str → Option Value} {base : Heap} {CX : CXT} {k : Nat} {x : Str} {sp : Sp} {f : Addr} {fd : FuncData} {ps : List Str} (g : mg x = some (.ref f)) (kp : PySem.W.keepIn K (.ref f) = true) (F : FnG P w K mg base CX k f fd ps sp) (b : Binds K fd ps []) :
    CalG P w K mg base CX k x sp := ⟨f, fd, ps, g, kp, F, b⟩
section
variable {X : Cx} {k j : Nat} {sp : Sp} {x : Str} {p pos : Pos} {e : Expr} {es : List Expr} {t : TA}
theorem pe_calG (c : CalG X.prog X.w X.K X.mg X.base CX0 k x sp) (ga : X.A.guards = some []) (hr : Room j X.A) (hk : k ≤ j) (hg : Gl X x) (ha : PA X (e :: es) t)
    (hdb : (x == ("__debug__" : Str)) = false := by decide) (he : starEach (e :: es) X.env = (false, eval e X.env) :: starEach es X.env := by rfl) (hpl : (backTo pos (starEach es X.env)).any (·.1) = false := by rfl) :
    PE X (.Call (.Name x p) (e :: es) [] pos) (tCall sp [] E0 t) := by
  obtain ⟨f, fd, ps, h1, h2, h3, h4⟩ := c.ex
  refine ⟨fun pins s σ H Q I h => wpAny_Call_Name_kw (ld_glob I hg h1 (PySem.W.callWith_K (h₀ := X.base) I.ok.mod.kin h2 (thn (ha.run pos pins s σ H _ I h) fun us s1 ⟨vs, H1, I1, r, q⟩ => ⟨I1.kIn, ?_⟩) he hpl) hdb)⟩
  have q' : sp vs H1 Q E0 := by have z : sp (vs ++ []) H1 Q E0 := q; rw [List.append_nil] at z; exact z
  have b := h4 s1 us I1.kIn (by rw [List.append_nil, ← r.length]; exact h3.len _ _ _ _ q')
  rw [List.append_nil] at b
  refine wpAny_call (codeAny_mono (h3.go X.A X.stack s1 H1 ⟨us, []⟩ us vs Q E0 ga (hr.mono hk) I1.env0 b r q') fun rr s2 z => ?_)
  match rr, z with
  | .ok (.ret _), z => exact I1.after z
end
/-! ### the head -/
section
variable {P : Program} {w : World} {K : PySem.W.Frag} {mg mb : Str → Option Value} {s : Shared} {a : Addr} {vs : List Value} {ns : List Int} {H : Hp}
theorem lawG_core {k : Nat} {fa : Addr} {fd : FuncData} {x : Str} {sp : Sp} (KX : K.In s.heap) (hns : s.heap.Ns mainGlobals mg) (hb : s.heap.Ns builtinsNs mb) (hbb : ∀ x : Str, x ≠ "__name__" → mb x = bootBuiltins x) (hlim : s.heap.NoLimit) (hg : s.gens = #[])
    (ha : s.heap.get? a = some { cls := .type "list", data := .seq vs.toArray }) (hr : Room k callerA)
    (F : ∀ base : Heap, K.In base → base.Ns mainGlobals mg → FnG P w K mg base CX0 k fa fd [x] sp) (hbind : ∀ (s : Shared) (u : Value), BindsTo s fd ⟨[u], []⟩ [(x, u)])
    (hO : Only H) (hq : sp [.ref a] H (fun v _ => v = .bl true) fun _ _ _ => False) (ok : HOk P w H s.heap) (hA : ∀ b, H b ≠ none → b = a ∧ K.lookup a = none) :
    codeAny (model P w) callerA (.call (.ref fa) ⟨[.ref a], []⟩) (fun r s' => r = .ok (.ret (.bool true)) ∧ OldK s.heap s'.heap ∧ s'.os = s.os ∧ AllBare s'.gens) s := by
  have un : ∀ {b : Addr} {o : Obj}, s.heap.get? b = some o → (b = a → K.lookup a ≠ none ∨ ∃ es ep, o.data = .dict es ep) → (hidT s.heap H).get? b = some o := fun {b o} e n => hidT_get e (by
    apply Classical.byContradiction
    intro z
    obtain ⟨rfl, kn⟩ := hA b z
    rcases n rfl with q | ⟨es, ep, q⟩
    · exact q kn
    · rw [ha] at e
      cases e
      exact nomatch q)
  have nsK : ∀ {b : Addr} {m : Str → Option Value}, s.heap.Ns b m → (hidT s.heap H).Ns b m := fun ⟨o, es, ep, e, d, r⟩ => ⟨o, es, ep, un e fun _ => .inr ⟨es, ep, d⟩, d, r⟩
  have hKb : K.In (hidT s.heap H) := fun b o e => un (KX b o e) fun z => .inl (by rw [← z, e]; exact Option.some_ne_none o)
  have e0 : Env0 P w K mg (hidT s.heap H) callerA [] s H := ⟨rfl, ⟨hKb, nsK hns, ⟨mb, nsK hb, hbb⟩, hlim.elim fun mc z => ⟨mc, nsK z.1, z.2⟩⟩, fun b o z => of_hidT z, Nat.le_of_eq (hidT_size _ _), trivial, fun _ z => absurd z List.not_mem_nil, ok, .of_eq hg⟩
  refine codeAny_mono ((F _ hKb (nsK hns)).go callerA [] s H ⟨[.ref a], []⟩ [.ref a] [.ref a] _ _ rfl hr e0 (hbind s (.ref a)) (.cons rfl .nil) hq) fun r s' h => ?_
  match r, h with
  | .ok (.ret u), h =>
    obtain ⟨v, H2, os, bare, un2, ok2, rv, q2⟩ := h
    obtain rfl : v = .bl true := q2
    obtain rfl : u = Value.bool true := rv
    refine ⟨rfl, OldK.of_keep fun b o e => ?_, os, bare⟩
    rcases hO b with z | ⟨ob, xs, z⟩
    · exact un2.keep b o e z List.not_mem_nil List.not_mem_nil
    · have o1 := (ok b _ z).1
      have o2 := (ok2 b _ (un2.frzs b ob _ z)).1
      rw [e] at o1
      rw [o1]
      exact o2
theorem lawG {k : Nat} {fa : Addr} {fd : FuncData} {x : Str} {sp : Sp} (KX : K.In s.heap) (hns : s.heap.Ns mainGlobals mg) (hb : s.heap.Ns builtinsNs mb) (hbb : ∀ x : Str, x ≠ "__name__" → mb x = bootBuiltins x) (hlim : s.heap.NoLimit) (hg : s.gens = #[])
    (ha : s.heap.get? a = some { cls := .type "list", data := .seq vs.toArray }) (hi : IntsAre vs ns) (hl : ns.length ≤ sizeLine) (hr : Room k callerA)
    (F : ∀ base : Heap, K.In base → base.Ns mainGlobals mg → FnG P w K mg base CX0 k fa fd [x] sp) (hbind : ∀ (s : Shared) (u : Value), BindsTo s fd ⟨[u], []⟩ [(x, u)])
    (hsp : ∀ H : Hp, Only H → SqL K H a (ns.map V.int) → sp [.ref a] H (fun v _ => v = .bl true) fun _ _ _ => False) :
    codeAny (model P w) callerA (.call (.ref fa) ⟨[.ref a], []⟩) (fun r s' => r = .ok (.ret (.bool true)) ∧ OldK s.heap s'.heap ∧ s'.os = s.os ∧ AllBare s'.gens) s := by
  have rv := vals_ints hi
  cases hk : K.lookup a with
  | some o =>
    have e := KX a o hk
    rw [ha] at e
    cases e
    exact lawG_core KX hns hb hbb hlim hg ha hr F hbind (fun _ => .inl rfl) (hsp (fun _ => none) (fun _ => .inl rfl) (.inr ⟨_, vs.toArray, _, hk, rfl, rfl, rfl, by rw [List.size_toArray, hi.length]; exact hl, rv⟩)) (fun b u z => nomatch z) fun b z => absurd rfl z
  | none =>
    have ke : (fun b => if b = a then some (HO.frz { cls := .type "list", data := .seq vs.toArray } (.lst (ns.map V.int))) else none) a = some (HO.frz { cls := .type "list", data := .seq vs.toArray } (.lst (ns.map V.int))) := if_pos rfl
    have only : ∀ b, (fun b => if b = a then some (HO.frz { cls := .type "list", data := .seq vs.toArray } (.lst (ns.map V.int))) else none) b ≠ none → b = a := fun b z => Classical.byContradiction fun n => z (if_neg n)
    have hO : Only (fun b => if b = a then some (HO.frz { cls := .type "list", data := .seq vs.toArray } (.lst (ns.map V.int))) else none) := fun b => by
      by_cases q : b = a
      · exact .inr ⟨_, _, if_pos q⟩
      · exact .inl (if_neg q)
    refine lawG_core KX hns hb hbb hlim hg ha hr F hbind hO (hsp _ hO (.inl (.inr ⟨_, ke⟩))) (fun b u z => ?_) fun b z => ⟨only b z, hk⟩
    obtain rfl := only b fun y => nomatch z.symm.trans y
    have z2 := ke.symm.trans z
    cases z2
    exact ⟨ha, by rw [List.length_map]; exact hl, vs, _, rv, ha⟩
end
theorem walk_ofG {l : PySem.W.OpenLaw} {n k : Nat} {q : Program} {loose : List Str} {XP : (Str → Option Value) → Heap → Prop} {YP : World → Heap → Prop} {d : DefRec} {K : Params → PySem.W.Frag} {sp : World → Sp} {x : Str}
    (hn : l.most = some n) (hn2 : n ≤ sizeLine) (hdf : d.params.defaults = []) (hr : Room k callerA) (hY : ∀ (w : World) (h : Heap), YP w h → (K w.params).In h)
    (F : ∀ (w : World) (mg : Str → Option Value) (fa : Addr) (h : Heap), (K w.params).In h → h.Ns mainGlobals mg → mg d.name = some (.ref fa) →
      ∃ fd : FuncData, (∀ (s : Shared) (u : Value), BindsTo s fd ⟨[u], []⟩ [(x, u)]) ∧ ∀ base : Heap, (K w.params).In base → base.Ns mainGlobals mg → FnG l.prog w (K w.params) mg base CX0 k fa fd [x] (sp w))
    (hsp : ∀ (w : World) (H : Hp) (a : Addr) (ns : List Int), ns.length ≤ n → Only H → SqL (K w.params) H a (ns.map V.int) → sp w [.ref a] H (fun v _ => v = .bl true) fun _ _ _ => False) :
    PySem.W.WalkO q loose XP YP l.row.toRowW d [] (fun f vs => PySem.call f vs) :=
  Att.attach_call hn hdf fun w s₀ s₁ mg mb fa o pm cd doc a vs ns G Y ho hd hcd hmg hobj hints hlen hg => by
    obtain ⟨fd, hb, hF⟩ := F w mg fa _ (hY w _ Y) G.T.g hmg
    exact lawG (hY w _ Y) G.T.g G.T.b G.T.builtins G.T.nolimit hg hobj hints (Nat.le_trans hlen hn2) hr hF hb fun H hO hS => hsp w H a ns hlen hO hS
/-! ## 10. a thing's text -/
mutual
theorem dp_flat {K : PySem.W.Frag} {H : Hp} : ∀ (d : PyData) (v : V), Dp K H v d → d.hasDict = false
  | .none, _, _ => by simp only [PyData.hasDict]
  | .bool _, _, _ => by simp only [PyData.hasDict]
  | .int _, _, _ => by simp only [PyData.hasDict]
  | .str _, _, _ => by simp only [PyData.hasDict]
  | .list ds, _, h => by
    cases h with
    | lst _ ha => simpa only [PyData.hasDict] using dp_flatAll ds _ ha
  | .tuple ds, _, h => by
    cases h with
    | tup _ ha => simpa only [PyData.hasDict] using dp_flatAll ds _ ha
  | .dict _, _, h => by cases h
theorem dp_flatAll {K : PySem.W.Frag} {H : Hp} : ∀ (ds : List PyData) (vs : List V), DpAll K H vs ds → PyData.hasDictAll ds = false
  | [], _, _ => by simp only [PyData.hasDictAll]
  | d :: ds, _, h => by
    cases h with
    | cons h1 h2 => simp only [PyData.hasDictAll, dp_flat d _ h1, dp_flatAll ds _ h2, Bool.or_false]
end
/-- z is how repr tells v -/
def Shw (K : PySem.W.Frag) (H : Hp) (v : V) (z : Str) : Prop := (∃ d, Dp K H v d ∧ d.showable = true ∧ d.shown.length ≤ sizeLine ∧ d.depth ≤ 60 ∧ z = d.shown) ∨ ∃ a, v = .ref a ∧ H a = some (.dK []) ∧ z = "{}"
section
variable {X : Cx} {j : Nat}
theorem call_repr_shw (ga : X.A.guards = some []) (hr : Room j X.A) : CallR X (.builtin "repr") (fun xs H Q => ∃ v z, xs = [v] ∧ Shw X.K H v z ∧ Q (.str z) H) := by
  intro pins s σ H xs us Q I r h
  obtain ⟨v, z, rfl, hs, q⟩ := h
  obtain ⟨u, rfl, rv⟩ := vals1 r
  have hu := hr.units
  rcases hs with ⟨d, hd, h1, h2, h3, rfl⟩ | ⟨a, rfl, ha, rfl⟩
  · have fin : ∀ {x : Str} {t : Nat}, x = d.shown → EP X pins σ Q (.str x s.toks) { s with toks := t } := fun {x t} e => ⟨.str _, H, I.tok _, ⟨_, rfl⟩, by rw [e]; exact q⟩
    have ref : ∀ {a : Addr}, v = .ref a → wpAny (model X.prog X.w) X.A (call (.builtin "repr") [u]) (EP X pins σ Q) X.xe s := fun {a} e => by
      subst e
      obtain rfl : u = Value.ref a := rv
      obtain ⟨as, rd⟩ := Dp.reads I d (.ref a) _ hd rfl
      exact repr_of_reads' rd h1 (PyData.noDict_hsm (dp_flat d _ hd)) ga (by omega) (fun _ _ e => e) (fun h' u tk hk => ⟨.str _, H, I.kept hk, ⟨_, rfl⟩, q⟩) h2
    cases hd with
    | non =>
      cases rv
      exact PySem.P.repr_of_none (fin (by simp only [PyData.shown]))
    | bl b =>
      cases rv
      exact PySem.P.repr_of_bool (fin (by simp only [PyData.shown]))
    | int i =>
      obtain ⟨t, rfl⟩ := rv
      exact PySem.P.repr_of_int (by simpa only [PyData.showable, decide_eq_true_eq] using h1) (fin (by simp only [PyData.shown]))
    | str x =>
      obtain ⟨t, rfl⟩ := rv
      exact PySem.P.repr_of_str (fin (by simp only [PyData.shown])) (by simpa only [PyData.shown] using h2)
    | lst _ _ => exact ref rfl
    | tup _ _ => exact ref rfl
  · obtain rfl : u = Value.ref a := rv
    obtain ⟨_, hm, vs, kv, o, es, ep, ho, hx, hde, _, pr, _⟩ := I.hok a _ ha
    cases kv
    have e0 : es.toList = [] := by
      have z := pr
      generalize es.toList = l at z
      cases z
      rfl
    have hc : o.cls = .type "dict" := hx.1
    have rd : Reads s.heap (.ref a) (.dict []) [a] := by
      have z : Reads s.heap (.ref a) (.dict []) (a :: [] ++ []) := .dict ho hc hde (by rw [e0]; exact .nil) (by rw [e0]; exact .nil)
      exact z
    have nm : sysModules ∉ [a] := fun z => by
      rw [List.mem_singleton.mp z] at hm
      exact absurd hm (by simp)
    have dp : (PyData.dict []).depth = 1 := by simp [PyData.depth, PyData.depthKv]
    have tx : (PyData.dict []).shown = ("{}" : Str) := by simp [PyData.shown, PyData.shownKv]; rfl
    refine repr_of_reads' rd (by simp only [PyData.showable, PyData.showableKv]) (fun _ => nm) ga (by rw [dp]; omega) (fun _ _ e => e) (fun h' u tk hk => ⟨.str _, H, I.kept hk, ⟨_, rfl⟩, ?_⟩) ?_
    · rw [tx]
      exact q
    · rw [tx]
      decide
end
end Bk

namespace Bk
open PySem PySem.Spec PyProof.Rows L2
/-! ## 11. try: .. except A as e: .. except B as e: .. , what none of them takes does not come -/
abbrev ClA := Value × Nat × (Addr → Value → Option Addr → TS)
def offI (i : Nat) (D : Ends) : Ends := { nx := fun τ G => D.nx (τ.set i none) G, rt := D.rt, bk := fun τ G => D.bk (τ.set i none) G, ct := fun τ G => D.ct (τ.set i none) G }
def wAM (K : PySem.W.Frag) (D : Ends) : List ClA → WX
  | [] => fun _ _ _ _ => False
  | q :: l => fun cls d τ G => ∃ b, PySem.W.exmOne K cls q.1 = some b ∧ (b = true → ∀ a, G a = none → q.2.2 a cls d (offI q.2.1 D) (τ.set q.2.1 (some (.ref a))) G) ∧ (b = false → wAM K D l cls d τ G)
inductive HdA (X : Cx) : List ExceptHandler → List ClA → Prop
  | stop {hds : List ExceptHandler} : HdA X hds []
  | more {x n : Str} {c : Value} {i : Nat} {ts : Addr → Value → Option Addr → TS} {b : Stmt} {bs : List Stmt} {p1 p2 : Pos} {hds : List ExceptHandler} {l : List ClA} (nm : Names X x c) (hi : X.N[i]? = some n) (hn : X.env.kindOf n = some .local)
      (su : ∀ (a : Addr) (oe : Obj) (cls : Value) (d : Option Addr) (pn : List (Addr × Obj)), Zc cls d oe → (∃ vs, oe.data = .fields vs) → PSs (X.suite a ((a, oe) :: pn)) (b :: bs) (ts a cls d)) (r : HdA X hds l) :
      HdA X (.ExceptHandler (some (.Name x p1)) (some n) (b :: bs) p2 :: hds) ((c, i, ts) :: l)
section
variable {X : Cx} {body : List Stmt} {h₀ : ExceptHandler} {hds : List ExceptHandler} {l : List ClA} {pos : Pos} {tb : WX → TS}
theorem ps_try_asM (st : X.stack = X.env :: X.outer) (fr : X.env.frame = some X.env.locals) (nd : X.N.Nodup)
    (hb : ∀ (W : WX) (pn : List (Addr × Obj)) (xe : Value → Shared → Prop), Takes (X.tr pn xe) W → PassesOwn (model X.prog X.w) X.A X.env xe → PSs (X.tr pn xe) body (tb W))
    (hh : HdA X (h₀ :: hds) l) : PS X (.Try body (h₀ :: hds) [] [] pos) (fun D τ G => tb (wAM X.K D l) D τ G) := by
  refine ⟨fun pins s τ G D I hq => wpAny_Try_except ?_⟩
  have ok := I.ok
  refine wpAny_mono ((hb (wAM X.K D l) (X.pn ++ pins) _ (fun u s2 z => ?_) PassesOwn.looking).run [] s τ G D (I.toTry _) hq) (fun fl s2 z => ?_) (fun _ _ z => z)
  · -- what came out of the body
    obtain ⟨a, B, sI, pins2, τ2, G2, cls, d, rfl, J2, nb, up, sky, na, os, ag, w⟩ := z
    have J : Inv X pins τ2 G2 sI := J2.ofTry ok
    refine Sky.land Zc.steady (show X.A.frames = some (X.env :: X.outer) by rw [ok.frames, st]) fr (by rw [← st]; exact sky) fun h3 fl3 up3 => ?_
    obtain ⟨o3, v3, g3, z3, d3⟩ := fl3.there
    have J3 : Inv X pins τ2 G2 { s2 with heap := h3 } := J.landed nb fl3.1 (up.trans up3) os ag
    have out : a ∉ frs (X.env :: X.outer) := fun m => by
      obtain ⟨_, o4, g4, n4⟩ := fl3.2.2.1.mem m
      rw [g3] at g4
      cases g4
      exact n4 _ d3
    have aL : a ≠ X.env.locals := fun e => out (List.mem_filterMap.mpr ⟨X.env, List.mem_cons_self, by rw [fr, e]⟩)
    have aF : a ∉ X.fs := fun m => by
      obtain ⟨e, me, q⟩ := List.mem_filterMap.mp m
      exact out (List.mem_filterMap.mpr ⟨e, List.mem_cons_of_mem _ me, q⟩)
    have S3 := J3.suite g3 d3 na aL aF
    have all : ∀ {hs : List ExceptHandler} {k : List ClA}, HdA X hs k → wAM X.K D k cls d τ2 G2 → wpAny (model X.prog X.w) X.A (handleBy (.ref a) X.env hs) (SP X pins D) X.xe { s2 with heap := h3 } := by
      intro hs k hk
      induction hk with
      | stop => exact fun z => z.elim
      | @more x n c i ts b bs p1 p2 hs2 k2 nm hi hn su r ih =>
        rintro ⟨yes, e1, w1, w2⟩
        refine wpAny_handleBy_cons (codeAny_handlers_test ?_) (fun q => nomatch q)
        have T1 : PySem.W.Looks (model X.prog X.w) h3 (typeOf (.ref a)) cls := fun A Q E s k q => wpAny_typeOf_ref (k _ _ g3) (by rw [z3.1]; exact q)
        have T2 := PySem.W.exm_one (M := model X.prog X.w) J3.kIn T1 e1
        have ask : ∀ {Q : Value → Shared → Prop} {E : Value → Shared → Prop}, Q c { s2 with heap := h3 } → wpAny (model X.prog X.w) (X.A.mark (some (.ref a))) (eval (.Name x p1) X.env) Q E { s2 with heap := h3 } := fun {Q E} q => by
          obtain ⟨g1, g2, m1 | ⟨m1, m2, m3⟩⟩ := nm
          · exact ld_glob (X := X.suite a ((a, o3) :: (X.pn ++ pins))) S3 g1 m1 q g2
          · exact ld_blt (X := X.suite a ((a, o3) :: (X.pn ++ pins))) S3 g1 m1 m2 q m3 g2
        refine ask (T2.here ?_)
        match yes, w1, w2 with
        | false, w1, w2 => exact ih (w2 rfl)
        | true, w1, w2 =>
          refine codeAny_handlers_suite_as (HandSPX.lands_againZ fl3 fun h4 fl4 up4 => ?_)
          obtain ⟨o4, v4, g4, z4, d4⟩ := fl4.there
          have S4 := (J.landed nb fl4.1 ((up.trans up3).trans up4) os ag : Inv X pins τ2 G2 { s2 with heap := h4 }).suite g4 d4 na aL aF
          refine store_ok (X := X.suite a ((a, o4) :: (X.pn ++ pins))) (v := .ref a) S4 nd hi (.inl hn) rfl (fun s5 S5 => ?_) (.inr hn)
          refine wpAny_mono ((su a o4 cls d (X.pn ++ pins) z4 ⟨_, d4⟩).run [] s5 _ G2 _ S5 (w1 rfl a na)) (fun fl s6 z6 => ?_) fun _ _ z6 => z6.elim
          have back : ∀ {τ6 : L2.St} {G6 : Hp} {R : Shared → Prop}, Inv (X.suite a ((a, o4) :: (X.pn ++ pins))) [] τ6 G6 s6 → (∀ s7, Inv X pins (τ6.set i none) G6 s7 → R s7) →
              wpAny (model X.prog X.w) X.A (do bindName X.env n .none; unbindBehindTheSuite X.env n p2) (fun _ s7 => R s7) X.xe s6 := fun {τ6 G6 R} S6 f => gone_ok (S6.unsuite ok) nd hi hn f
          match fl, z6 with
          | .next, ⟨_, _, S6, q6⟩ => exact back S6 fun s7 J7 => ⟨_, _, J7, q6⟩
          | .brk, ⟨_, _, S6, q6⟩ => exact back S6 fun s7 J7 => ⟨_, _, J7, q6⟩
          | .cont, ⟨_, _, S6, q6⟩ => exact back S6 fun s7 J7 => ⟨_, _, J7, q6⟩
          | .ret u, ⟨_, _, _, S6, r6, q6⟩ => exact back S6 fun s7 J7 => ⟨_, _, _, J7, r6, q6⟩
    exact all hh w
  · match fl, z with
    | .next, ⟨_, _, J, q⟩ => exact wpAny_execs_nil ⟨_, _, J.ofTry ok, q⟩
    | .brk, ⟨_, _, J, q⟩ => exact ⟨_, _, J.ofTry ok, q⟩
    | .cont, ⟨_, _, J, q⟩ => exact ⟨_, _, J.ofTry ok, q⟩
    | .ret u, ⟨_, _, _, J, r, q⟩ => exact ⟨_, _, _, J.ofTry ok, r, q⟩
end
end Bk

namespace Bk
open PySem PySem.Spec PyProof.Rows L2
/-! ## 12. enumerate of a tuple -/
theorem meets_enum1 {v : Value} {o : Obj} {S : Heap → Prop} (B : Begins v o S) :
    Meets (Builtin.«enumerate.__new__» ⟨[.type "enumerate", v], []⟩) (fun _ R s => S s.heap ∧
      R (.ok (.ret (.ref (s.heap.push o).objs.size))) { s with heap := (s.heap.push o).push { cls := .type "enumerate", data := .fields #[.none, .bool false, .ref s.heap.objs.size, rawInt 0, .none, .none] } }) :=
  .of_wp fun prog w A R s z => by
    obtain ⟨hp, g, d, tk, os⟩ := s
    obtain ⟨z1, z2⟩ := z
    have sub := sub_enumerate
    have it : ∀ {A' : Around} {E : Value → Shared → Prop} {Q : Value → Shared → Prop}, Q (.ref hp.objs.size) ⟨hp.push o, g, d, tk, os⟩ → wpAny (model prog w) A' (pyIter v) Q E ⟨hp, g, d, tk, os⟩ := fun q => B.iter prog w _ _ _ _ z1 q
    wp_walk using it
    refine wpAny_stack_any fun st => wpAny_pure ?_
    split
    · rename_i c _ _ _ _ _
      cases (c == Value.type "enumerate") <;> (wp_walk using it; exact ⟨_, rfl, z2⟩)
    · wp_walk using it
      exact ⟨_, rfl, z2⟩
theorem enum1 {prog : Program} {w : World} {A : Around} {E : Value → Shared → Prop} {s : Shared} {v : Value} {o : Obj} {S : Heap → Prop} {Q : Value → Shared → Prop} (B : Begins v o S) (z : S s.heap)
    (q : ∀ h', IsEnum h' (s.heap.objs.size + 1) s.heap.objs.size 0 .none → h'.get? s.heap.objs.size = some o → h'.objs.size = s.heap.objs.size + 2 → (∀ b u, s.heap.get? b = some u → h'.get? b = some u) → Q (.ref (s.heap.objs.size + 1)) { s with heap := h' }) :
    wpAny (model prog w) A (call (.type "enumerate") [v]) Q E s := by
  refine callType_new F.called_enumerate (by decide) (F.typeCall_enumerate_1 _) (F.newCall_enumerate_1 _) (fun u => F.args_object_init_2 u _) F.entry_enumerate_new (meets_enum1 B) ⟨z, ?_⟩
  have sz : (s.heap.push o).objs.size = s.heap.objs.size + 1 := Heap.size_push ..
  have top := Heap.get?_push_size (s.heap.push o) (o := { cls := .type "enumerate", data := .fields #[.none, .bool false, .ref s.heap.objs.size, rawInt 0, .none, .none] }) rfl
  show _ ∧ _
  rw [sz] at top ⊢
  exact ⟨⟨_, top, rfl⟩, q _ top (Heap.get?_push_of_some _ (Heap.get?_push_size _ B.free)) (by rw [Heap.size_push, sz]) fun b u e => Heap.get?_push_of_some _ (Heap.get?_push_of_some _ e)⟩
/-- the tuple's items in new pairs -/
def Itu (K : PySem.W.Frag) (a : Addr) : It :=
  ⟨fun i H => ∃ (xs : List V) (x : V), SqT K H a xs ∧ xs[i]? = some x, fun i H v H' => ∃ T x, v = .ref T ∧ H T = none ∧ H' = upd H T (.tup [.int (i : Nat), x]) ∧ ∀ xs, SqT K H a xs → xs[i]? = some x, fun i H => ∃ xs : List V, SqT K H a xs ∧ xs.length ≤ i⟩
theorem turn_enumT {P : Program} {w : World} {K : PySem.W.Frag} {elts : List Expr} {kk : Nat} {tpos : Pos} (a e it : Addr) (ai : a ≠ it) (ae : a ≠ e) :
    Turn P w K (.Tuple elts kk tpos) (Itu K a) [e, it] e (fun i h => (∃ old, IsEnum h e it ((i : Nat) : Int) old) ∧ h.IsTupleIter it a i ∧ e ≠ it) where
  mem := List.mem_cons_self
  obj := fun i h st b hb => by
    obtain ⟨⟨old, he⟩, ⟨o, ho, _, hd⟩, _⟩ := st
    rcases List.mem_cons.mp hb with z | z
    · subst z
      exact ⟨_, he, fun v q => nomatch q⟩
    · exact ⟨o, by rw [List.mem_singleton.mp z]; exact ho, fun v q => by rw [hd] at q; exact nomatch q⟩
  keep := fun i h h' st k => ⟨st.1.elim fun old z => ⟨old, k e List.mem_cons_self _ z⟩, st.2.1.at fun o q => k it (List.mem_cons_of_mem _ List.mem_cons_self) o q, st.2.2⟩
  item := by
    intro X hP hw hK hc i pins s σ H E I hf st hg
    subst hP hw hK
    obtain ⟨⟨old, he⟩, hit, ne⟩ := st
    obtain ⟨xs, x, hq, hx⟩ := hg
    obtain ⟨its, rv, p, _⟩ := I.tuple hq
    obtain ⟨u, hu, ru⟩ := rv.get hx
    have e1 := Heap.lt_size he
    have i1 : it < s.heap.objs.size := let ⟨_, q, _⟩ := hit; Heap.lt_size q
    have li : i < its.toArray.size := by
      rw [List.size_toArray]
      exact (List.getElem?_eq_some_iff.mp hu).1
    refine wpAny_pyNext_enum_itemD (Draws.tuple (show X.A.in1.handled = none from I.ok.hd hc) it a ai its.toArray) he ⟨hit, p⟩ li ne (fun z => ?_) fun v h' tk hv ho hs hT _ hk => ?_
    · rcases List.mem_cons.mp z with z | z
      · exact ne z
      · exact ae (List.mem_singleton.mp z).symm
    obtain rfl : v = u := by
      have hv' : its.toArray[i]? = some v := hv
      rw [List.getElem?_toArray, hu] at hv'
      exact (Option.some.inj hv').symm
    refine ⟨_, rfl, wpAny_letOwnedTupleGo_enum (s := { s with heap := h', toks := tk + 1 }) ho fun h2 he2 sb => ?_⟩
    have T2 : h2.get? s.heap.objs.size = some { cls := .type "tuple", data := .seq #[.int i tk, v] } := (sb.2 _ (Nat.ne_of_gt e1)).trans hT
    have fresh := I.hok.fresh (Nat.le_refl s.heap.objs.size)
    have J : Inv X pins σ (upd H s.heap.objs.size (.tup [.int (i : Nat), x])) { s with heap := h2, toks := tk + 1 } :=
      I.turnedNew (ch := [e, it]) (fun b ob hb q => (sb.2 b (fun z => hb (by simp [z]))).trans (hk b ob (fun z => hb (by simp [z])) (fun z => hb (by simp [z])) q)) hf (Nat.le_refl _)
        (show ObjOk X.prog X.w _ h2 _ (.tup [.int (i : Nat), x]) from ⟨Nat.le_of_ble_eq_true rfl, [.int i tk, v], .cons ⟨_, rfl⟩ (.cons ru .nil), ⟨_, T2, rfl, _, rfl⟩⟩)
    refine ⟨.ref s.heap.objs.size, _, J, rfl, ⟨_, x, rfl, fresh, rfl, fun ys hy => by rw [I.tuple_inj hy hq]; exact hx⟩, ⟨⟨v, ?_⟩, hs.1.at fun o q => (sb.2 it (Ne.symm ne)).trans q, ne⟩, fun b hb => ?_⟩
    · rw [show ((i + 1 : Nat) : Int) = (i : Int) + 1 by omega]
      exact he2
    · have lb : b < s.heap.objs.size := by
        rcases List.mem_cons.mp hb with z | z
        · rw [z]; exact e1
        · rw [List.mem_singleton.mp z]; exact i1
      rw [upd_ne (Nat.ne_of_lt lb)]
      exact (hf b hb).1
  done := by
    intro X hP hw hK hc i pins s σ H E I hf st hg
    subst hP hw hK
    obtain ⟨⟨old, he⟩, hit, ne⟩ := st
    obtain ⟨xs, hq, hx⟩ := hg
    obtain ⟨its, rv, p, _⟩ := I.tuple hq
    obtain ⟨f0, f1, f2, f3, f4, f5⟩ := hf it (List.mem_cons_of_mem _ List.mem_cons_self)
    have ln := rv.length
    have hn : its.toArray[i]? = none := by
      rw [List.getElem?_toArray]
      exact List.getElem?_eq_none (by omega)
    have hT : s.TypeIs (.ref e) "enumerate" := ⟨_, he, rfl⟩
    unfold pyNext
    refine wpAny_bind (wpAny_attempt (wpAny_callSpecial?_slot (name := Str.ofString "__next__") hT F.slot_enumerate_next
      (wpAny_call_entry F.slot_enumerate_next hT F.entry_enumerate_next ?_ (F.args_enumerate_next_1 _))))
    show wpAny (model X.prog X.w) _ (field (.ref e) 2 >>= _) _ _ _
    refine wpAny_bind (wpAny_field he rfl (x := .ref it) rfl ?_)
    refine wpAny_bind (wpAny_nextOf_tuple_end (I.ok.hd hc) hit p hn fun h' x he' hx' => ?_)
    obtain ⟨o, ho, hcl⟩ := hx'
    exact wpAny_bind (wpAny_isInstance (T := "StopIteration") (b := true) ⟨o, ho, hcl⟩ isSubtype_stop (wpAny_pure ⟨rfl, I.turned (t' := s.toks) (fun b o hb q => he' b o hb q) f0 f1 f3 f4 f5⟩))
  self := fun A i s Q E st h => let ⟨⟨_, he⟩, _⟩ := st; wpAny_pyIter_enum he h
def iEnumA (K : PySem.W.Frag) (ta : TA) : TI := fun σ H R => ta σ H fun vs H1 => ∃ a xs, vs = [.ref a] ∧ ((SqL K H1 a xs ∧ R (Ite K a) H1) ∨ (SqT K H1 a xs ∧ R (Itu K a) H1))
def iSeqA (K : PySem.W.Frag) (te : TE) : TI := fun σ H R => te σ H fun x H1 => ∃ a xs, x = .ref a ∧ ((SqL K H1 a xs ∧ R (Itl K a) H1) ∨ (SqT K H1 a xs ∧ R (Itt K a) H1))
section
variable {X : Cx} {e tg : Expr} {ta : TA} {te : TE} {p pos tpos : Pos} {elts : List Expr} {kk : Nat}
theorem pi_enumA (hg : Gl X "enumerate") (hm : X.mg "enumerate" = none) (ha : PA X [e] ta) (hs : starEach [e] X.env = [(false, eval e X.env)] := by rfl) : PI X (.Tuple elts kk tpos) (.Call (.Name "enumerate" p) [e] [] pos) (iEnumA X.K ta) := by
  refine ⟨fun pins s σ H R I h => Call_ (ld_blt I hg hm boot_enumerate (PyProof.Rows.callWith_type1 (thn (ha.run pos pins s σ H _ I h) fun us s1 ⟨vs, H1, I1, r1, q1⟩ => ?_) hs rfl))⟩
  obtain ⟨a, xs, rfl, q⟩ := q1
  obtain ⟨u, rfl, rv⟩ := vals1 r1
  obtain rfl : u = Value.ref a := rv
  have near : ∀ {b : Addr}, b ∈ [s1.heap.objs.size + 1, s1.heap.objs.size] → FpOk X pins H1 b := fun {b} hb => by
    have le : s1.heap.objs.size ≤ b := by
      rcases List.mem_cons.mp hb with z | z
      · rw [z]; exact Nat.le_succ _
      · rw [List.mem_singleton.mp z]; exact Nat.le_refl _
    exact I1.fpOk le (I1.hok.fresh le)
  rcases q with ⟨hq, q⟩ | ⟨hq, q⟩
  · obtain ⟨its, rv, p', hz⟩ := I1.list hq
    refine call_enumerate_list p'.isList fun h' he hit _ hk => wpAny_pyIter_enum he ?_
    exact ⟨s1.heap.objs.size + 1, [s1.heap.objs.size + 1, s1.heap.objs.size], _, _, H1, rfl, I1.kept (t' := s1.toks) hk, turn_enum a (s1.heap.objs.size + 1) s1.heap.objs.size, ⟨⟨.none, he⟩, hit, Nat.succ_ne_self _⟩, fun b hb => near hb, q⟩
  · obtain ⟨its, rv, p', hz⟩ := I1.tuple hq
    have la : a < s1.heap.objs.size := let ⟨_, z, _⟩ := p'; Heap.lt_size z
    refine enum1 (begins_tuple a its.toArray) p' fun h' he hit _ hk => wpAny_pyIter_enum he ?_
    exact ⟨s1.heap.objs.size + 1, [s1.heap.objs.size + 1, s1.heap.objs.size], _, _, H1, rfl, I1.kept (t' := s1.toks) hk, turn_enumT a (s1.heap.objs.size + 1) s1.heap.objs.size (Nat.ne_of_lt la) (Nat.ne_of_lt (Nat.lt_succ_of_lt la)), ⟨⟨.none, he⟩, ⟨_, hit, rfl, rfl⟩, Nat.succ_ne_self _⟩, fun b hb => near hb, q⟩
theorem pi_seqA (he : PE X e te) : PI X tg e (iSeqA X.K te) := by
  refine ⟨fun pins s σ H R I h => thn (he.run pins s σ H _ I h) fun v s1 ⟨x, H1, I1, r1, q1⟩ => ?_⟩
  obtain ⟨a, xs, rfl, q⟩ := q1
  obtain rfl : v = Value.ref a := r1
  have near : ∀ {b : Addr}, b ∈ [s1.heap.objs.size] → FpOk X pins H1 b := fun {b} hb => by
    rw [List.mem_singleton.mp hb]
    exact I1.fpOk (Nat.le_refl _) (I1.hok.fresh (Nat.le_refl _))
  have J : ∀ {o : Obj}, Inv X pins σ H1 { s1 with heap := s1.heap.push o } := fun {o} => I1.kept (t' := s1.toks) fun b u z => Heap.get?_push_of_some _ z
  rcases q with ⟨hq, q⟩ | ⟨hq, q⟩
  · obtain ⟨its, rv, p', hz⟩ := I1.list hq
    exact wpAny_pyIter_list p'.isList ⟨s1.heap.objs.size, [s1.heap.objs.size], _, _, H1, rfl, J, turn_list a _, ⟨_, Heap.get?_push_size _ rfl, rfl, rfl⟩, fun b hb => near hb, q⟩
  · obtain ⟨its, rv, p', hz⟩ := I1.tuple hq
    exact wpAny_pyIter_tuple (show s1.heap.IsTuple a its.toArray from p') ⟨s1.heap.objs.size, [s1.heap.objs.size], _, _, H1, rfl, J, turn_tuple a _, ⟨_, Heap.get?_push_size _ rfl, rfl, rfl⟩, fun b hb => near hb, q⟩
end
section
variable {K : PySem.W.Frag} {a : Addr} {xs : List V}
theorem walk_enumT : Walk (Itu K a) xs.length (fun H => SqT K H a xs) (YPair (fun i => some (.int (i : Nat))) (fun i => xs[i]?)) :=
  ⟨fun i _ hi q => ⟨xs, xs[i], q, List.getElem?_eq_getElem hi⟩, fun _ q => ⟨xs, q, Nat.le_refl _⟩, fun i H v H' _ q ⟨T, x, h1, h2, h3, h4⟩ => ⟨T, .int (i : Nat), x, h1, h2, h3, rfl, h4 xs q⟩⟩
end
end Bk

namespace Bk
open PySem PySem.Spec PyProof.Rows L2
/-! ## 13. defs that refuse -/
/-- what a refusal is: a new own exception of the class at C, v its only field -/
def Refuse (C : Addr) (v : V) (H : Hp) (E : XK) : Prop := ∀ d H', H d = none → Same H H' → H' d = some (.xd [("found", v)]) → E (.ref C) (some d) H'
theorem Refuse.same {C : Addr} {v : V} {H H' : Hp} {E : XK} (r : Refuse C v H E) (s : Same H H') (n : ∀ d, H' d = none → H d = none) : Refuse C v H' E := fun d H2 hd s2 e => r d H2 (n d hd) (s.trans s2) e
def noE : XK := fun _ _ _ => False
structure CalX (P : Program) (w : World) (K : PySem.W.Frag) (mg : Str → Option Value) (base : Heap) (k : Nat) (x : Str) (sp : Sp) : Prop where
  ex : ∃ (f : Addr) (fd : FuncData) (ps : List Str), mg x = some (.ref f) ∧ PySem.W.keepIn K (.ref f) = true ∧ FnOk P w K mg base (L2.CX P w) k f fd ps sp ∧ Binds K fd ps []
theorem CalX.mk' {P : Program} {w : World} {K : PySem.W.Frag} {mg : Str → Option Value} {base : Heap} {k : Nat} {x : Str} {sp : Sp} {f : Addr} {fd : FuncData} {ps : List Str} (g : mg x = some (.ref f)) (kp : PySem.W.keepIn K (.ref f) = true) (F : FnOk P w K mg base (L2.CX P w) k f fd ps sp) (b : Binds K fd ps []) :
    CalX P w K mg base k x sp := ⟨f, fd, ps, g, kp, F, b⟩
/-- with keywords alone -/
structure CalNX (P : Program) (w : World) (K : PySem.W.Frag) (mg : Str → Option Value) (base : Heap) (k : Nat) (ks : List Str) (x : Str) (sp : Sp) (gV : List V → List V → List V) : Prop where
  ex : ∃ (f : Addr) (fd : FuncData) (ps : List Str) (g : List Value → List Value → List Value), mg x = some (.ref f) ∧ PySem.W.keepIn K (.ref f) = true ∧ FnOk P w K mg base (L2.CX P w) k f fd ps sp ∧ KBn K fd ps 0 ks g gV
theorem CalNX.mk' {P : Program} {w : World} {K : PySem.W.Frag} {mg : Str → Option Value} {base : Heap} {k : Nat} {ks : List Str} {x : Str} {sp : Sp} {gV : List V → List V → List V} {f : Addr} {fd : FuncData} {ps : List Str} {g : List Value → List Value → List Value} (a : mg x = some (.ref f)) (kp : PySem.W.keepIn K (.ref f) = true)
    (F : FnOk P w K mg base (L2.CX P w) k f fd ps sp) (b : KBn K fd ps 0 ks g gV) : CalNX P w K mg base k ks x sp gV := ⟨f, fd, ps, g, a, kp, F, b⟩
section
variable {X : Cx} {k j : Nat} {ks : List Str} {sp : Sp} {x : Str} {p pos : Pos} {e : Expr} {es : List Expr} {kws : List Keyword} {t tk : TA} {W : WX} {gV : List V → List V → List V}
/-- in a def that may let it out itself -/
theorem pe_calX {E : XK} (c : CalX X.prog X.w X.K X.mg X.base k x sp) (hr : Room j X.A) (hk : k ≤ j) (hg : Gl X x) (tk : Takes X (fun cls d _ H => E cls d H)) (ha : PA X (e :: es) t)
    (hdb : (x == ("__debug__" : Str)) = false := by decide) (he : starEach (e :: es) X.env = (false, eval e X.env) :: starEach es X.env := by rfl) (hpl : (backTo pos (starEach es X.env)).any (·.1) = false := by rfl) :
    PE X (.Call (.Name x p) (e :: es) [] pos) (tCall sp [] E t) := by
  obtain ⟨f, fd, ps, h1, h2, h3, h4⟩ := c.ex
  exact pe_call h3 (hr.mono hk) hg h1 h2 h4 .nil (passes_call tk fun _ _ _ _ h => h) ha hdb he hpl
theorem pass_no : Passes (L2.CX X.prog X.w) X noE := fun _ _ _ _ _ _ _ z => by
  obtain ⟨_, _, _, _, _, _, _, _, _, _, _, _, q⟩ := z
  exact q.elim
/-- where it is not refused -/
theorem pe_calY (c : CalX X.prog X.w X.K X.mg X.base k x sp) (hr : Room j X.A) (hk : k ≤ j) (hg : Gl X x) (ha : PA X (e :: es) t)
    (hdb : (x == ("__debug__" : Str)) = false := by decide) (he : starEach (e :: es) X.env = (false, eval e X.env) :: starEach es X.env := by rfl) (hpl : (backTo pos (starEach es X.env)).any (·.1) = false := by rfl) :
    PE X (.Call (.Name x p) (e :: es) [] pos) (tCall sp [] noE t) := by
  obtain ⟨f, fd, ps, h1, h2, h3, h4⟩ := c.ex
  exact pe_call h3 (hr.mono hk) hg h1 h2 h4 .nil pass_no ha hdb he hpl
theorem pe_calNY (c : CalNX X.prog X.w X.K X.mg X.base k ks x sp gV) (hr : Room j X.A) (hk : k ≤ j) (hg : Gl X x) (hkw : PK X kws tk)
    (hall : (backToKw pos (keywordEach kws X.env)).all (·.1.isSome) = true := by rfl) (hks : (backToKw pos (keywordEach kws X.env)).filterMap (·.1) = ks := by rfl)
    (hdb : (x == ("__debug__" : Str)) = false := by decide)
    (hpl : ((backTo pos (starEach [] X.env)).any (·.1) || (backToKw pos (keywordEach kws X.env)).any (·.1.isNone)) = false := by rfl) :
    PE X (.Call (.Name x p) [] kws pos) (tCallN 0 ks.length sp gV noE tNil tk) := by
  obtain ⟨f, fd, ps, g, h1, h2, h3, h4⟩ := c.ex
  exact pe_callN0 h3 (hr.mono hk) hg h1 h2 h4 pass_no hkw hall hks hdb hpl
/-- in a try -/
theorem pe_calT (c : CalX X.prog X.w X.K X.mg X.base k x sp) (hr : Room j X.A) (hk : k ≤ j) (hg : Gl X x) (tk : Takes X W) (ha : PA X (e :: es) t)
    (hdb : (x == ("__debug__" : Str)) = false := by decide) (he : starEach (e :: es) X.env = (false, eval e X.env) :: starEach es X.env := by rfl) (hpl : (backTo pos (starEach es X.env)).any (·.1) = false := by rfl) :
    PE X (.Call (.Name x p) (e :: es) [] pos) (tCallS sp (WE W) t) := by
  obtain ⟨f, fd, ps, h1, h2, h3, h4⟩ := c.ex
  exact pe_callS h3 (hr.mono hk) hg h1 h2 h4 (passAt tk) ha hdb he hpl
end
section
variable {K : PySem.W.Frag} {σ : L2.St} {H : Hp} {Q : VK} {D : Ends} {l : List ClA} {q : ClA} {cls : Value} {d : Option Addr}
theorem r_callS {sp : Sp} {E : L2.St → XK} {t : TA} (z : t σ H fun vs H1 => sp vs H1 Q (E σ)) : tCallS sp E t σ H Q := z
theorem r_try {tb : WX → TS} (z : tb (wAM K D l) D σ H) : (fun D τ G => tb (wAM K D l) D τ G) D σ H := z
theorem w_hit (h : PySem.W.exmOne K cls q.1 = some true) (z : ∀ a, H a = none → q.2.2 a cls d (offI q.2.1 D) (σ.set q.2.1 (some (.ref a))) H) : wAM K D (q :: l) cls d σ H := ⟨true, h, fun _ => z, fun y => absurd y.symm Bool.false_ne_true⟩
theorem w_miss (h : PySem.W.exmOne K cls q.1 = some false) (z : wAM K D l cls d σ H) : wAM K D (q :: l) cls d σ H := ⟨false, h, fun y => absurd y Bool.false_ne_true, fun _ => z⟩
theorem r_raise {t : L2.St → Hp → XK → Prop} {W : WX} (z : t σ H fun cls d H' => W cls d σ H') : (fun (_ : Ends) (τ : L2.St) (G : Hp) => t τ G fun cls d G' => W cls d τ G') D σ H := z
/-- raise C(v), C's own __init__ being this -/
def spInit (C : Addr) : Sp := fun vs H Q _ => ∃ (a : Addr) (x : V), vs = [.ref a, x] ∧ H a = some (exo a C none) ∧ ∀ dx, H dx = none → dx ≠ a → Q .non (upd (upd H dx (exd dx [("found", x)])) a (exo a C (some dx)))
theorem r_mkO {C : Addr} {v : V} {E : XK} (z : Refuse C v H E) : [v].length ≤ 1000 ∧ ∀ a, H a = none → spInit C (.ref a :: ([v] ++ [])) (upd H a (exo a C none))
    (fun u H2 => u = .non ∧ ∃ (d : Addr) (fs : List (Str × V)), H2 a = some (exo a C (some d)) ∧ H2 d = some (exd d fs) ∧ H d = none ∧ E (.ref C) (some d) (upd (del H2 a) d (.xd fs))) (fun _ _ _ => False) := by
  refine ⟨Nat.le_of_ble_eq_true rfl, fun a ha => ⟨a, v, rfl, upd_same, fun dx hd ne => ⟨rfl, dx, [("found", v)], upd_same, ?_, ?_, ?_⟩⟩⟩
  · rw [upd_ne ne, upd_same]
  · rw [upd_ne ne] at hd
    exact hd
  · rw [upd_ne ne] at hd
    refine z dx _ hd (fun b o e => ?_) upd_same
    have h1 : b ≠ a := ne_of_none e ha
    have h2 : b ≠ dx := ne_of_none e hd
    rw [upd_ne h2]
    show del _ a b = some o
    unfold del
    rw [if_neg h1, upd_ne h1, upd_ne h2, upd_ne h1]
    exact e
end
/-! ## 14. isinstance of several classes -/
def rIs2 (K : PySem.W.Frag) : List V → Hp → VK → Prop := fun xs H Q => rIsi K xs H Q ∨ rIsiT K xs H Q
theorem call_is2 {X : Cx} : CallR X (.builtin "isinstance") (rIs2 X.K) := CallR.or call_isi call_isiT
def IsB (K : PySem.W.Frag) (H : Hp) (x : V) (T U : String) (b : Bool) : Prop := ∃ t, TyX K H x t ∧ PySem.W.kitAny K t [.type T, .type U] = some b
theorem kit2 {K : PySem.W.Frag} {t : Value} {T U : String} {a b : Bool} (h : PySem.W.kitOne K t (.type T) = some a) (h2 : PySem.W.kitOne K t (.type U) = some b) : PySem.W.kitAny K t [.type T, .type U] = some (a || b) := by
  cases a with
  | true => exact kitAny_cons h (fun z => nomatch z) (fun _ => rfl)
  | false => exact kitAny_cons h (fun _ => by cases b with
      | true => exact kitAny_cons h2 (fun z => nomatch z) (fun _ => rfl)
      | false => exact kitAny_cons h2 (fun _ => kitAny_nil) (fun z => nomatch z)) (fun z => nomatch z)
section
variable {K : PySem.W.Frag} {H H' : Hp} {x : V} {T U : String} {b c : Bool} {Q : VK} {tp : Addr}
theorem r_is2 (h : IsB K H x T U b) (e : H tp = some (.tup [.ty T, .ty U])) (q : Q (.bl b) H) : rIs2 K [x, .ref tp] H Q := by
  obtain ⟨t, h1, h2⟩ := h
  exact .inr ⟨x, tp, [.ty T, .ty U], t, [.type T, .type U], b, rfl, e, .cons (.ty T) (.cons (.ty U) .nil), h1, h2, q⟩
theorem r_is1 (h : ∃ t, TyX K H x t ∧ PySem.W.kitOne K t (.type T) = some b) (q : Q (.bl b) H) : rIs2 K [x, .ty T] H Q := by
  obtain ⟨t, h1, h2⟩ := h
  exact .inl ⟨x, .ty T, t, .type T, b, rfl, .ty T, h1, h2, q⟩
end
/-! ## 15. a comprehension, by what each turn gives -/
section
variable {J : It} {n : Nat} {G : Hp → Prop} {Y : Nat → Hp → V → Hp → Prop} {g : TG} {tt : TT} {te : TE} {vs : List Nat} {σ : L2.St} {H : Hp} {D : Addr} {Q : VK}
theorem lc_by (w : Walk J n G Y) (p : Nat → Option V) (hD : H D = none) (hn : n ≤ 10000) (hG : ∀ H', Same H H' → G H')
    (hs : ∀ i x H1 H2 (Q' : VK) (R' : Hp → Prop), i < n → Same H H1 → Y i H1 x H2 → (∀ v, p i = some v → ∀ H3, Same H1 H3 → Q' v H3) → (p i = none → ∀ H3, Same H1 H3 → R' H3) →
      g x (wipe σ vs) H2 fun τ H3 => wipe τ vs = wipe σ vs ∧ tt τ H3 fun b H4 => if b = true then te τ H4 Q' else R' H4)
    (q : ∀ H', Same H H' → H' D = some (.lst ((List.range n).filterMap p)) → Q (.ref D) H') :
    ∃ W : Nat → Nat → Hp → Prop, (∃ m, W 0 m (upd H D (.lst []))) ∧ ∀ i m H, W i m H →
      (J.stop i H ∧ Q (.ref D) H) ∨ (J.go i H ∧ ∃ Nx : Hp → Prop, (∀ H', Nx H' → ∃ m', m' < m ∧ W (i + 1) m' H') ∧ ∀ x H', J.yld i H x H' → g x (wipe σ vs) H' fun σ2 H2 => wipe σ2 vs = wipe σ vs ∧ tt σ2 H2 fun b H3 =>
        if b = true then te σ2 H3 fun y H4 => ∃ acc, H4 D = some (.lst acc) ∧ acc.length < sizeLine ∧ Nx (upd H4 D (.lst (acc ++ [y]))) else Nx H3) := by
  refine lc_it w (fun i G => Same H G ∧ G D = some (.lst ((List.range i).filterMap p))) ⟨same_upd hD, by rw [upd_same]; rfl⟩ (fun i G _ z => hG G z.1) (fun i x H1 H2 hi ⟨sm, e⟩ y => ?_) fun G z => q G z.1 z.2
  refine hs i x H1 H2 _ _ hi sm y (fun v hv H3 s3 => ⟨_, s3 _ _ e, ?_, sameBut (sm.trans s3) hD, ?_⟩) fun hv H3 s3 => ⟨sm.trans s3, ?_⟩
  · have l := List.length_filterMap_le p (List.range i)
    rw [List.length_range] at l
    exact Nat.lt_of_le_of_lt (Nat.le_trans l (Nat.le_trans (Nat.le_of_lt hi) hn)) (by decide)
  · rw [upd_same, List.range_succ, List.filterMap_append]
    simp only [List.filterMap_cons, List.filterMap_nil, hv]
  · rw [s3 _ _ e, List.range_succ, List.filterMap_append]
    simp only [List.filterMap_cons, List.filterMap_nil, hv, List.append_nil]
end
end Bk

namespace Bk
open PySem PySem.Spec PyProof.Rows L2
/-! ## 8. binding with keywords -/
theorem vals_rev : ∀ {zs : List V} {ws : List Value}, Vals zs ws → Vals zs.reverse ws.reverse
  | _, _, .nil => .nil
  | _, _, .cons r t => by
    rw [List.reverse_cons, List.reverse_cons]
    exact (vals_rev t).append (.cons r .nil)
section
variable {K : PySem.W.Frag} {x qual : Str} {params : Arguments} {body : List Stmt} {scope : Scope} {kws : List (Str × V)} {f : Addr} {fd : FuncData} {ps : List Str}
theorem kbinds0 (F : FunD K x qual params body scope [] kws f fd) (n : Nat) (ks : List Str) (ms : List (Str × V)) (g : {α : Type} → List α → List α → List α → List α) (hk : kws ≠ []) (hms : ∀ q ∈ ms, q ∈ kws)
    (hrel : ∀ {vs mz zs : List V} {us mv ws : List Value}, Vals vs us → Vals mz mv → Vals zs ws → Vals (g vs mz zs) (g us mv ws))
    (h : ∀ (D : Addr) (doc pm : Value) (an : Option Addr) (cdv ct : Value) (us mv ws : List Value), us.length = n → mv.length = ms.length → ws.length = ks.length →
      KwChain D ((ms.map (·.1)).zip mv) (bindArgs (PySem.W.fnOf x qual params body scope .none (.ref D) doc pm an cdv ct) ⟨us, ks.zip ws⟩) (ps.zip (g us mv ws))) :
    ∃ mv : List Value, KBn K fd ps n ks (fun us ws => g us mv ws) (fun vs zs => g vs (ms.map (·.2)) zs) := by
  obtain ⟨oc, od, dV, kV, doc, pm, an, cdv, ct, osl, rfl, lk, hcd, hD, hK⟩ := F.ex
  rcases hD with ⟨_, rfl⟩ | ⟨e, _⟩
  · rcases hK with e | ⟨D, rfl, hq⟩
    · exact absurd e hk
    · obtain ⟨mv, hl, rk, hks⟩ := kwd_vals (ms := ms) fun q hm => hq q (hms q hm)
      refine ⟨mv, ⟨fun s us ws X l1 l2 => ?_, fun r1 r2 => hrel r1 rk r2⟩⟩
      exact BindsTo.of_looks fun M => KwChain.looks X hks (h D doc pm an cdv ct us mv ws l1 hl l2)
  · exact absurd rfl e
/-- keywords alone or beside values, no defaults -/
theorem kbPlain {st : Stmt} {f : Addr} {fd : FuncData} (F : Fun K x qual st f fd) (n : Nat) (ks : List Str) (g : {α : Type} → List α → List α → List α)
    (hrel : ∀ {vs zs : List V} {us ws : List Value}, Vals vs us → Vals zs ws → Vals (g vs zs) (g us ws))
    (h : ∀ (kV doc pm : Value) (an : Option Addr) (cdv ct : Value) (us ws : List Value), us.length = n → ws.length = ks.length → bindArgs (PySem.W.fnOf x qual (defArgs st) (defBody st) (defScope st) .none kV doc pm an cdv ct) ⟨us, ks.zip ws⟩ = pure (ps.zip (g us ws))) :
    KBn K fd ps n ks (fun us ws => g us ws) (fun vs zs => g vs zs) := by
  obtain ⟨oc, od, kV, doc, pm, an, cdv, ct, osl, rfl, lk, hcd⟩ := F.ex
  exact ⟨fun s us ws X l1 l2 => .of_eq (h kV doc pm an cdv ct us ws l1 l2), fun r1 r2 => hrel r1 r2⟩
end
theorem kit_sub {K : PySem.W.Frag} {C : Addr} {T : String} {b : Bool} (hm : PySem.W.kitMeta T = true) (h : PySem.W.subIn K (.ref C) (.type T) = some b) : PySem.W.kitOne K (.ref C) (.type T) = some b := by
  unfold PySem.W.kitOne PySem.W.kitCls
  rw [if_neg (fun z => by cases (beq_iff_eq.mp z))]
  show (if PySem.W.kitMeta T = true then PySem.W.subIn K (.ref C) (.type T) else none) = some b
  rw [if_pos hm]
  exact h
theorem CalN.mk' {P : Program} {w : World} {K : PySem.W.Frag} {mg : Str → Option Value} {base : Heap} {CX : CXT} {k n : Nat} {ks : List Str} {x : Str} {sp : Sp} {gV : List V → List V → List V} {f : Addr} {fd : FuncData} {ps : List Str} {g : List Value → List Value → List Value} (a : mg x = some (.ref f)) (kp : PySem.W.keepIn K (.ref f) = true) (F : FnOk P w K mg base CX k f fd ps sp) (b : KBn K fd ps n ks g gV) :
    CalN P w K mg base CX k n ks x sp gV := ⟨f, fd, ps, g, a, kp, F, b⟩
/-! ### within a comprehension: K by name -/
theorem call_isK {X : Cx} {K : PySem.W.Frag} (h : X.K = K) : CallR X (.builtin "isinstance") (rIs K) := by
  subst h
  exact call_is
theorem pg_tupK {X : Cx} {K : PySem.W.Frag} {es : List Expr} {k : Nat} {t : TGs} {n : Nat} {pos : Pos} (e : X.K = K) (hc : X.calm = true) (h : PGs X es t) (hn : (assignEach es X.env).length = n := by rfl) (hst : (assignEach es X.env).findIdx? (·.1) = none := by rfl) :
    PG X (.Tuple es k pos) (gTup K n t) := by
  subst e
  exact pg_tup hc h hn hst
theorem butSame {p : Addr} {H H1 H2 : Hp} (s : Same H H1) (n : H p = none) (b : But p H1 H2) : Same H H2 := fun c o e => b c o (ne_of_none e n) (s c o e)
end Bk

namespace Bk
open PySem PySem.Spec PyProof.Rows L2
/-! ## 16. things whose text is short -/
mutual
def smallD : PyData → Bool
  | .none | .bool _ => true
  | .int i => decide (i.natAbs < 10 ^ 38)
  | .str x => x.cps.toList.all fun c => decide (c < 16 ^ 8)
  | .list xs | .tuple xs => smallL xs
  | .dict _ => false
def smallL : List PyData → Bool
  | [] => true
  | x :: xs => smallD x && smallL xs
end
mutual
theorem small_ok : ∀ d : PyData, smallD d = true → d.showable = true ∧ d.leavesShort 40 = true
  | .none, _ => ⟨rfl, rfl⟩
  | .bool _, _ => ⟨rfl, rfl⟩
  | .int i, h => by
    have h' : i.natAbs < 10 ^ 38 := by simpa only [smallD, decide_eq_true_eq] using h
    have l1 := int_text_length_le10 (k := 38) (by decide) h'
    refine ⟨?_, ?_⟩
    · simp only [PyData.showable, decide_eq_true_eq]
      by_cases z : i.natAbs = 0
      · rw [z]; decide
      · have z2 := (Nat.log2_lt z (k := 128)).mpr (Nat.lt_of_lt_of_le h' (by decide))
        omega
    · simp only [PyData.leavesShort]
      refine decide_eq_true ?_
      have e : (PyData.shown (.int i)).length = (toString i).length := by
        simp only [PyData.shown]
        exact PySem.ofString_length _
      omega
  | .str x, h => ⟨by simp only [PyData.showable], by simpa only [smallD, PyData.leavesShort] using h⟩
  | .list xs, h => by simpa only [PyData.showable, PyData.leavesShort] using small_okL xs (by simpa only [smallD] using h)
  | .tuple xs, h => by simpa only [PyData.showable, PyData.leavesShort] using small_okL xs (by simpa only [smallD] using h)
  | .dict _, h => by simp only [smallD] at h; exact nomatch h
theorem small_okL : ∀ xs : List PyData, smallL xs = true → PyData.showableAll xs = true ∧ PyData.leavesShortAll 40 xs = true
  | [], _ => ⟨rfl, rfl⟩
  | x :: xs, h => by
    have h' : smallD x = true ∧ smallL xs = true := by simpa only [smallL, Bool.and_eq_true] using h
    obtain ⟨a, b⟩ := small_ok x h'.1
    obtain ⟨c, d⟩ := small_okL xs h'.2
    exact ⟨by simp only [PyData.showableAll, a, c, Bool.and_true], by simp only [PyData.leavesShortAll, b, d, Bool.and_true]⟩
end
section
variable {K : PySem.W.Frag} {H H' : Hp} {v : V} {a : Addr} {xs : List V}
theorem shw_of {d : PyData} (h : Dp K H v d) (s : smallD d = true) (b : d.bulk ≤ 20000) (e : d.depth ≤ 60) : Shw K H v d.shown := by
  obtain ⟨h1, h2⟩ := small_ok d s
  have h3 := PyData.shown_le_bulk 40 (by decide) d h2
  exact .inl ⟨d, h, h1, by rw [sizeLine_eq]; omega, e, rfl⟩
theorem shw_dK (e : H a = some (.dK [])) : Shw K H (.ref a) "{}" := .inr ⟨a, rfl, e, rfl⟩
/-- a thing within a list -/
def Itm (K : PySem.W.Frag) (H : Hp) (v : V) : Prop := ∃ d, Dp K H v d ∧ smallD d = true ∧ d.bulk ≤ 100 ∧ d.depth ≤ 20
theorem itm_shw (h : Itm K H v) : ∃ z, Shw K H v z := let ⟨_, h1, h2, h3, h4⟩ := h; ⟨_, shw_of h1 h2 (by omega) (by omega)⟩
theorem itms : ∀ {xs : List V}, (∀ y ∈ xs, Itm K H y) → ∃ ds, DpAll K H xs ds ∧ smallL ds = true ∧ PyData.bulkAll ds ≤ 101 * xs.length ∧ PyData.depthAll ds ≤ 20
  | [], _ => ⟨[], .nil, rfl, Nat.le_refl _, Nat.zero_le _⟩
  | y :: ys, h => by
    obtain ⟨d, h1, h2, h3, h4⟩ := h y List.mem_cons_self
    obtain ⟨ds, g1, g2, g3, g4⟩ := itms fun z hz => h z (List.mem_cons_of_mem _ hz)
    refine ⟨d :: ds, .cons h1 g1, by simp only [smallL, h2, g2, Bool.and_true], ?_, ?_⟩
    · simp only [PyData.bulkAll, List.length_cons]
      omega
    · simp only [PyData.depthAll]
      omega
theorem shw_lst (h : SqL K H a xs) (i : ∀ y ∈ xs, Itm K H y) (l : xs.length ≤ 150) : ∃ z, Shw K H (.ref a) z := by
  obtain ⟨ds, g1, g2, g3, g4⟩ := itms i
  exact ⟨_, shw_of (.lst h g1) (by simpa only [smallD] using g2) (by simp only [PyData.bulk]; omega) (by simp only [PyData.depth]; omega)⟩
theorem shw_tup (h : SqT K H a xs) (i : ∀ y ∈ xs, Itm K H y) (l : xs.length ≤ 150) : ∃ z, Shw K H (.ref a) z := by
  obtain ⟨ds, g1, g2, g3, g4⟩ := itms i
  exact ⟨_, shw_of (.tup h g1) (by simpa only [smallD] using g2) (by simp only [PyData.bulk]; omega) (by simp only [PyData.depth]; omega)⟩
/-! scalars -/
def datS : V → PyData
  | .bl b => .bool b
  | .int i => .int i
  | .str z => .str z
  | _ => .none
def smS : V → Bool
  | .non | .bl _ => true
  | .int i => decide (i.natAbs < 10 ^ 38)
  | .str z => decide (z.length ≤ 90) && z.cps.toList.all fun c => decide (c < 16 ^ 8)
  | _ => false
theorem datS_ok (h : smS v = true) : Dp K H v (datS v) ∧ smallD (datS v) = true ∧ (datS v).bulk ≤ 100 ∧ (datS v).depth = 0 := by
  cases v with
  | non => exact ⟨.non, by simp only [datS, smallD], by simp [datS, PyData.bulk], by simp only [datS, PyData.depth]⟩
  | bl b => exact ⟨.bl b, by simp only [datS, smallD], by simp [datS, PyData.bulk], by simp only [datS, PyData.depth]⟩
  | int i => exact ⟨.int i, by simpa only [datS, smallD, smS] using h, by simp [datS, PyData.bulk], by simp only [datS, PyData.depth]⟩
  | str z =>
    have h' : z.length ≤ 90 ∧ (z.cps.toList.all fun c => decide (c < 16 ^ 8)) = true := by
      have z2 := Bool.and_eq_true_iff.mp (show (decide (z.length ≤ 90) && z.cps.toList.all fun c => decide (c < 16 ^ 8)) = true from h)
      exact ⟨of_decide_eq_true z2.1, z2.2⟩
    have hz : z.cps.size ≤ 90 := h'.1
    exact ⟨.str z, by simpa only [datS, smallD] using h'.2, by simp only [datS, PyData.bulk]; omega, by simp only [datS, PyData.depth]⟩
  | _ => exact nomatch h
theorem itm_sc (h : smS v = true) : Itm K H v := let ⟨h1, h2, h3, h4⟩ := datS_ok h; ⟨_, h1, h2, h3, by omega⟩
theorem shw_sc (h : smS v = true) : Shw K H v (datS v).shown := let ⟨h1, h2, h3, h4⟩ := datS_ok h; shw_of h1 h2 (by omega) (by omega)
theorem datSs : ∀ {xs : List V}, xs.all smS = true → DpAll K H xs (xs.map datS) ∧ smallL (xs.map datS) = true ∧ PyData.bulkAll (xs.map datS) ≤ 101 * xs.length ∧ PyData.depthAll (xs.map datS) = 0
  | [], _ => ⟨.nil, rfl, Nat.le_refl _, rfl⟩
  | y :: ys, h => by
    rw [List.all_cons, Bool.and_eq_true] at h
    obtain ⟨h1, h2, h3, h4⟩ := datS_ok (K := K) (H := H) h.1
    obtain ⟨g1, g2, g3, g4⟩ := datSs h.2
    rw [List.map_cons]
    refine ⟨.cons h1 g1, by simp only [smallL, h2, g2, Bool.and_true], ?_, ?_⟩
    · simp only [PyData.bulkAll, List.length_cons]
      omega
    · simp only [PyData.depthAll, h4, g4]
      rfl
theorem shw_lsc (h : SqL K H a xs) (i : xs.all smS = true) (l : xs.length ≤ 150) : Shw K H (.ref a) (PyData.list (xs.map datS)).shown := by
  obtain ⟨g1, g2, g3, g4⟩ := datSs (K := K) (H := H) i
  exact shw_of (.lst h g1) (by simpa only [smallD] using g2) (by simp only [PyData.bulk]; omega) (by simp only [PyData.depth]; omega)
theorem shw_tsc (h : SqT K H a xs) (i : xs.all smS = true) (l : xs.length ≤ 150) : Shw K H (.ref a) (PyData.tuple (xs.map datS)).shown := by
  obtain ⟨g1, g2, g3, g4⟩ := datSs (K := K) (H := H) i
  exact shw_of (.tup h g1) (by simpa only [smallD] using g2) (by simp only [PyData.bulk]; omega) (by simp only [PyData.depth]; omega)
end
theorem smS_int {i : Int} (h : i.natAbs < 10 ^ 38) : smS (.int i) = true := decide_eq_true h
theorem smS_bls {bs : List Bool} : (bs.map V.bl).all smS = true := by
  rw [List.all_map]
  exact List.all_eq_true.mpr fun _ _ => rfl
end Bk

namespace Bk
open PySem PySem.Spec PyProof.Rows L2
/-! ## 18. what k03 left for all -/
theorem seqT {K : PySem.W.Frag} {H H' : Hp} {a : Addr} {xs : List V} (s : Same H H') (h : SqT K H a xs) : SqT K H' a xs := by
  rcases h with (h | ⟨o, h⟩) | h
  · exact .inl (.inl (s _ _ h))
  · exact .inl (.inr ⟨o, s _ _ h⟩)
  · exact .inr h
theorem Refuse.on {C : Addr} {v : V} {H H' : Hp} {E : XK} (r : Refuse C v H E) (s : Same H H') : Refuse C v H' E := fun d H2 hd s2 e => r d H2 (s.free hd) (s.trans s2) e
section
variable {K : PySem.W.Frag} {H : Hp} {a : Addr} {T U : String} {b c : Bool}
theorem isb_lst {xs : List V} (e : H a = some (.lst xs)) (h : kitB "list" T = some b := by decide +kernel) (h2 : kitB "list" U = some c := by decide +kernel) : IsB K H (.ref a) T U (b || c) := ⟨.type "list", .base (.lst e), kit2 (kit_ty h) (kit_ty h2)⟩
theorem isb_tup {xs : List V} (e : H a = some (.tup xs)) (h : kitB "tuple" T = some b := by decide +kernel) (h2 : kitB "tuple" U = some c := by decide +kernel) : IsB K H (.ref a) T U (b || c) := ⟨.type "tuple", .base (.tup e), kit2 (kit_ty h) (kit_ty h2)⟩
theorem isb_dK {kvs : List (Key × V)} (e : H a = some (.dK kvs)) (h : kitB "dict" T = some b := by decide +kernel) (h2 : kitB "dict" U = some c := by decide +kernel) : IsB K H (.ref a) T U (b || c) := ⟨.type "dict", .base (.dK e), kit2 (kit_ty h) (kit_ty h2)⟩
theorem isb_int {i : Int} (h : kitB "int" T = some b := by decide +kernel) (h2 : kitB "int" U = some c := by decide +kernel) : IsB K H (.int i) T U (b || c) := ⟨.type "int", .base (.int i), kit2 (kit_ty h) (kit_ty h2)⟩
theorem isb_bl {k : Bool} (h : kitB "bool" T = some b := by decide +kernel) (h2 : kitB "bool" U = some c := by decide +kernel) : IsB K H (.bl k) T U (b || c) := ⟨.type "bool", .base (.bl k), kit2 (kit_ty h) (kit_ty h2)⟩
theorem isb_str {z : Str} (h : kitB "str" T = some b := by decide +kernel) (h2 : kitB "str" U = some c := by decide +kernel) : IsB K H (.str z) T U (b || c) := ⟨.type "str", .base (.str z), kit2 (kit_ty h) (kit_ty h2)⟩
theorem isb_non (h : kitB "NoneType" T = some b := by decide +kernel) (h2 : kitB "NoneType" U = some c := by decide +kernel) : IsB K H .non T U (b || c) := ⟨.type "NoneType", .base .non, kit2 (kit_ty h) (kit_ty h2)⟩
end
theorem r_yes {σ : L2.St} {H : Hp} {te : TE} {Q : VK} {R : Hp → Prop} (q : te σ H Q) : tYes σ H (fun b H4 => if b = true then te σ H4 Q else R H4) := by
  show if true = true then te σ H Q else R H
  exact iteT q
section
variable {K : PySem.W.Frag} {σ : L2.St} {H : Hp} {Q : VK} {i0 j j1 j2 : Nat} {vs : List Nat} {a : Addr} {xs : List V} {te : TE} {tt : TT}
/-- over a list or a tuple -/
theorem lcA (p : Nat → V) (hv : σ[i0]? = some (some (.ref a))) (hs : SqL K H a xs ∨ SqT K H a xs) (hl : xs.length ≤ 10000) (hw : ∀ x, wipe ((wipe σ vs).set j (some x)) vs = wipe σ vs)
    (ht : ∀ (i : Nat) (y : V) (H' : Hp) (Q' : VK), xs[i]? = some y → Same H H' → (∀ H2, Same H' H2 → Q' (p i) H2) → te ((wipe σ vs).set j (some y)) H' Q')
    (q : ∀ D H', H D = none → Same H H' → H' D = some (.lst ((List.range xs.length).map p)) → Q (.ref D) H') : tLc (iSeqA K (tVar i0)) (gName j) tYes te vs σ H Q := by
  have go : ∀ {J : It} {G : Hp → Prop}, Walk J xs.length G (YAt xs) → (∀ H', Same H H' → G H') → ∀ D, H D = none → _ := fun {J G} wk hG D hD =>
    lc_by (g := gName j) (tt := tYes) (te := te) (vs := vs) (σ := σ) (Q := Q) wk (fun i => some (p i)) hD hl hG (fun i y H1 H2 Q' R' hi sm ⟨e, hy⟩ h1 _ => ⟨hw _, by
      subst e
      exact r_yes (ht i y H2 Q' hy sm (h1 _ rfl))⟩) fun H' sm e => q D H' hD sm (by
      rw [e]
      show some (HO.lst (List.filterMap (some ∘ p) _)) = _
      rw [List.filterMap_eq_map])
  refine ⟨_, hv, a, xs, rfl, ?_⟩
  rcases hs with hs | hs
  · exact .inl ⟨hs, go walk_list fun H' sm => sm.seq hs⟩
  · exact .inr ⟨hs, go walk_tup fun H' sm => seqT sm hs⟩
/-- enumerate of a list or a tuple, some left out -/
theorem lcE (p : Nat → V → Option V) (hv : σ[i0]? = some (some (.ref a))) (hs : SqL K H a xs ∨ SqT K H a xs) (hl : xs.length ≤ 10000) (hw : ∀ x y, wipe (((wipe σ vs).set j1 (some x)).set j2 (some y)) vs = wipe σ vs)
    (ht : ∀ (i : Nat) (y : V) (H' : Hp) (Q' : VK) (R' : Hp → Prop), xs[i]? = some y → Same H H' → (∀ v, p i y = some v → ∀ H2, Same H' H2 → Q' v H2) → (p i y = none → ∀ H2, Same H' H2 → R' H2) →
      tt (((wipe σ vs).set j1 (some (.int i))).set j2 (some y)) H' fun b H4 => if b = true then te (((wipe σ vs).set j1 (some (.int i))).set j2 (some y)) H4 Q' else R' H4)
    (q : ∀ D H', H D = none → Same H H' → H' D = some (.lst ((List.range xs.length).filterMap fun i => xs[i]?.bind (p i))) → Q (.ref D) H') :
    tLc (iEnumA K (tCons (tVar i0) tNil)) (gTup K 2 (gCons (gName j1) (gCons (gName j2) gNil))) tt te vs σ H Q := by
  have go : ∀ {J : It} {G : Hp → Prop}, Walk J xs.length G (YPair (fun i => some (.int (i : Nat))) (fun i => xs[i]?)) → (∀ H', Same H H' → G H') → ∀ D, H D = none → _ := fun {J G} wk hG D hD =>
    lc_by (g := gTup K 2 (gCons (gName j1) (gCons (gName j2) gNil))) (tt := tt) (te := te) (vs := vs) (σ := σ) (Q := Q) wk (fun i => xs[i]?.bind (p i)) hD hl hG (fun i v H1 H2 Q' R' hi sm ⟨Tn, x, y, e1, nT, e2, hx, hy⟩ h1 h2 => by
      subst e1 e2
      injection hx with hx
      subst hx
      have sT := same_upd (o := .tup [.int (i : Nat), y]) nT
      have ey : xs[i]?.bind (p i) = p i y := by
        rw [show xs[i]? = some y from hy]
        rfl
      refine ⟨Tn, _, rfl, sqT upd_same, rfl, .int i, _, rfl, y, _, rfl, rfl, hw _ _, ?_⟩
      exact ht i y _ Q' R' hy (sm.trans sT) (fun v hv H3 s3 => h1 v (by rw [ey]; exact hv) H3 (sT.trans s3)) fun hn H3 s3 => h2 (by rw [ey]; exact hn) H3 (sT.trans s3)) fun H' sm e => q D H' hD sm e
  refine ⟨_, hv, a, xs, rfl, ?_⟩
  rcases hs with hs | hs
  · exact .inl ⟨hs, go walk_enum fun H' sm => sm.seq hs⟩
  · exact .inr ⟨hs, go walk_enumT fun H' sm => seqT sm hs⟩
end
theorem map_getD {α : Type} (f : V → α) (d : V) (xs : List V) : (List.range xs.length).map (fun i => f (xs.getD i d)) = xs.map f := by
  refine List.ext_getElem (by simp) fun i h1 h2 => ?_
  simp only [List.getElem_map, List.getElem_range]
  have h : i < xs.length := by simpa using h1
  rw [List.getD_eq_getElem?_getD, List.getElem?_eq_getElem h]
  rfl
/-! ## 17. comprehensions over a list, a tuple, a range -/
section
variable {K : PySem.W.Frag} {σ : L2.St} {H : Hp} {Q : VK} {i0 j : Nat} {vs : List Nat} {a : Addr} {xs : List V} {te : TE}
theorem lc_map {J : It} {n : Nat} {G : Hp → Prop} {Y : Nat → Hp → V → Hp → Prop} {D : Addr} (wk : Walk J n G Y) (hY : ∀ i H1 x H2, i < n → Y i H1 x H2 → H2 = H1) (p : Nat → V) (hl : n ≤ 10000) (hG : ∀ H', Same H H' → G H') (hw : ∀ x, wipe ((wipe σ vs).set j (some x)) vs = wipe σ vs)
    (ht : ∀ (i : Nat) (y : V) (H1 H' : Hp) (Q' : VK), i < n → Y i H1 y H' → Same H H' → (∀ H2, Same H' H2 → Q' (p i) H2) → te ((wipe σ vs).set j (some y)) H' Q')
    (q : ∀ D H', H D = none → Same H H' → H' D = some (.lst ((List.range n).map p)) → Q (.ref D) H') (hD : H D = none) : ∃ W : Nat → Nat → Hp → Prop, (∃ m, W 0 m (upd H D (.lst []))) ∧ ∀ i m H, W i m H →
      (J.stop i H ∧ Q (.ref D) H) ∨ (J.go i H ∧ ∃ Nx : Hp → Prop, (∀ H', Nx H' → ∃ m', m' < m ∧ W (i + 1) m' H') ∧ ∀ x H', J.yld i H x H' → gName j x (wipe σ vs) H' fun σ2 H2 => wipe σ2 vs = wipe σ vs ∧ tYes σ2 H2 fun b H3 =>
        if b = true then te σ2 H3 fun y H4 => ∃ acc, H4 D = some (.lst acc) ∧ acc.length < sizeLine ∧ Nx (upd H4 D (.lst (acc ++ [y]))) else Nx H3) :=
  lc_by (g := gName j) (tt := tYes) (te := te) (vs := vs) (σ := σ) (Q := Q) wk (fun i => some (p i)) hD hl hG (fun i y H1 H2 Q' R' hi sm e h1 _ => ⟨hw _, by
    obtain rfl := hY i _ _ _ hi e
    exact r_yes (ht i y H2 H2 Q' hi e sm (h1 _ rfl))⟩) fun H' sm e => q D H' hD sm (by
      rw [e]
      show some (HO.lst (List.filterMap (some ∘ p) _)) = _
      rw [List.filterMap_eq_map])
theorem lcT (p : Nat → V) (hv : σ[i0]? = some (some (.ref a))) (hs : SqT K H a xs) (hl : xs.length ≤ 10000) (hw : ∀ x, wipe ((wipe σ vs).set j (some x)) vs = wipe σ vs)
    (ht : ∀ (i : Nat) (y : V) (H' : Hp) (Q' : VK), xs[i]? = some y → Same H H' → (∀ H2, Same H' H2 → Q' (p i) H2) → te ((wipe σ vs).set j (some y)) H' Q')
    (q : ∀ D H', H D = none → Same H H' → H' D = some (.lst ((List.range xs.length).map p)) → Q (.ref D) H') : tLc (iTup K (tVar i0)) (gName j) tYes te vs σ H Q :=
  ⟨_, hv, a, rfl, ⟨xs, hs⟩, fun D hD => lc_map (j := j) walk_tup (fun _ _ _ _ _ z => z.1) p hl (fun H' sm => seqT sm hs) hw (fun i y H1 H' Q' _ e sm k => ht i y H' Q' e.2 sm k) q hD⟩
theorem lcL (p : Nat → V) (hv : σ[i0]? = some (some (.ref a))) (hs : SqL K H a xs) (hl : xs.length ≤ 10000) (hw : ∀ x, wipe ((wipe σ vs).set j (some x)) vs = wipe σ vs)
    (ht : ∀ (i : Nat) (y : V) (H' : Hp) (Q' : VK), xs[i]? = some y → Same H H' → (∀ H2, Same H' H2 → Q' (p i) H2) → te ((wipe σ vs).set j (some y)) H' Q')
    (q : ∀ D H', H D = none → Same H H' → H' D = some (.lst ((List.range xs.length).map p)) → Q (.ref D) H') : tLc (iList K (tVar i0)) (gName j) tYes te vs σ H Q :=
  ⟨_, hv, a, rfl, ⟨xs, hs⟩, fun D hD => lc_map (j := j) walk_list (fun _ _ _ _ _ z => z.1) p hl (fun H' sm => sm.seq hs) hw (fun i y H1 H' Q' _ e sm k => ht i y H' Q' e.2 sm k) q hD⟩
/-- what is drawn at each turn: the box changes -/
theorem lcDraw {n m : Nat} {bx : Addr} (p : V → Prop) (hb : Box bx m H) (hl : n ≤ 1000) (hw : ∀ x, wipe ((wipe σ vs).set j (some x)) vs = wipe σ vs)
    (ht : ∀ (i : Nat) (H' : Hp) (Q' : VK), i < n → Box bx (m + i) H' → (∀ v H2, p v → Box bx (m + i + 1) H2 → But bx H' H2 → Q' v H2) → te ((wipe σ vs).set j (some (.int i))) H' Q')
    (q : ∀ D H' xs, H D = none → But bx H H' → Box bx (m + n) H' → H' D = some (.lst xs) → xs.length = n → (∀ v ∈ xs, p v) → Q (.ref D) H') : tLc (iRng1 (tCons (tC (.int n)) tNil)) (gName j) tYes te vs σ H Q := by
  refine ⟨_, rfl, by omega, by omega, fun D hD => ?_⟩
  have nD : D ≠ bx := hb.ne hD
  rw [Int.toNat_natCast]
  refine lc_it (g := gName j) (tt := tYes) (te := te) (vs := vs) (σ := σ) (n := n) walk_range (fun i G => But bx H G ∧ Box bx (m + i) G ∧ ∃ xs, G D = some (.lst xs) ∧ xs.length = i ∧ ∀ v ∈ xs, p v)
    ⟨.of (same_upd hD), hb.same (same_upd hD), [], upd_same, rfl, fun _ z => nomatch z⟩ (fun _ _ _ _ => trivial) (fun i x H1 H2 hi ⟨bt, hB, xs, e, l, hp⟩ y => ?_) fun G ⟨bt, hB, xs, e, l, hp⟩ => q D G xs hD bt hB e l hp
  obtain ⟨rfl, rfl⟩ := y
  refine ⟨hw _, ?_⟩
  show te ((wipe σ vs).set j (some (.int (0 + (i : Int))))) _ _
  rw [Int.zero_add]
  refine ht i H2 _ hi hB fun v H3 pv hB3 b3 => ⟨xs, b3 _ _ nD e, by rw [l]; exact Nat.lt_of_lt_of_le hi (Nat.le_trans hl (by decide)), ?_, ?_, xs ++ [v], upd_same, by rw [List.length_append, l]; rfl, fun u hu => ?_⟩
  · exact fun b o ne e0 => by
      have z := b3 _ _ ne (bt _ _ ne e0)
      rw [upd_ne (ne_of_none e0 hD)]
      exact z
  · obtain ⟨x1, y1, z1, eB, r⟩ := hB3
    exact ⟨x1, y1, z1, by rw [upd_ne nD.symm]; exact eB, r⟩
  · rcases List.mem_append.mp hu with z | z
    · exact hp u z
    · rw [List.mem_singleton.mp z]; exact pv
end
/-- except C as e: return (tag, e.found) -/
theorem caught_at {K : PySem.W.Frag} {C d : Addr} {i : Nat} {σ : L2.St} {H' : Hp} {D : Ends} {l : List ClA} {v : V} {tag : Str} (e : PySem.W.exmOne K (.ref C) (.ref C) = some true) (hi : i < σ.length) (ed : H' d = some (.xd [("found", v)]))
    (q : ∀ p H2, H' p = none → Same H' H2 → H2 p = some (.tup [.str tag, v]) → D.rt (.ref p) H2) :
    wAM K D ((.ref C, i, fun a cls d => tRet (tTup (tCons (tC (.str tag)) (tCons (tXf a cls d C "found" (tVar i)) tNil)))) :: l) (.ref C) (some d) σ H' := by
  refine w_hit e fun a na => ?_
  show tRet (tTup (tCons (tC (.str tag)) (tCons (tXf a (.ref C) (some d) C "found" (tVar i)) tNil))) (offI i D) (σ.set i (some (.ref a))) H'
  refine r_ret (r_tup (r_cons (r_c (r_cons ?_))))
  refine ⟨.ref a, List.getElem?_set_self hi, rfl, rfl, d, _, v, rfl, ed, rfl, ?_⟩
  exact r_nil (newT fun p H2 np s2 e2 => q p H2 np s2 e2)
theorem fm_congr {α β : Type} {f g : α → Option β} : ∀ {l : List α}, (∀ x ∈ l, f x = g x) → l.filterMap f = l.filterMap g
  | [], _ => rfl
  | x :: l, h => by
    rw [List.filterMap_cons, List.filterMap_cons, h x List.mem_cons_self, fm_congr fun y hy => h y (List.mem_cons_of_mem _ hy)]
section
variable {K : PySem.W.Frag} {H : Hp} {x y : V} {Q : VK}
theorem r_neSame {d : PyData} (h1 : Dp K H x d) (h2 : Dp K H y d) (s : SeqAt.shaped d = true) (q : Q (.bl false) H) : rNeD K x y H Q :=
  ⟨d, d, h1, h2, s, s, by rw [SeqAt.eqv_refl d (SeqAt.canLay_of_shaped s)]; exact q⟩
end
theorem box_upd {bx a : Addr} {n : Nat} {H : Hp} {o : HO} (h : Box bx n H) (ne : a ≠ bx) : Box bx n (upd H a o) := by
  obtain ⟨x, y, z, e, r⟩ := h
  exact ⟨x, y, z, by rw [upd_ne ne.symm]; exact e, r⟩
theorem but_upd {bx a : Addr} {H0 H : Hp} {o : HO} (b : But bx H0 H) (fr : H0 a = none) : But bx H0 (upd H a o) := fun c u ne e => by
  rw [upd_ne (ne_of_none e fr)]
  exact b c u ne e
theorem cut_to {xs : List V} {m : Nat} (h : m ≤ xs.length) : cutV xs none (some (m : Int)) = xs.take m := by
  unfold cutV
  rw [HT.sIx_none, HT.sIx_nat, Nat.min_eq_left h, List.drop_zero, Nat.sub_zero]
theorem cut_from {xs : List V} {m : Nat} (h : m ≤ xs.length) : cutV xs (some (m : Int)) none = xs.drop m := by
  unfold cutV
  rw [HT.sIx_none, HT.sIx_nat, Nat.min_eq_left h]
  exact List.take_of_length_le (by rw [List.length_drop]; exact Nat.le_refl _)
section
variable {H : Hp} {Q : VK} {a b : Addr} {xs ys : List V} {lo hi : Option Int}
theorem r_slL {K : PySem.W.Frag} (h : SqL K H a xs) (e : cutV xs lo hi = ys) (q : ∀ p H', H p = none → Same H H' → H' p = some (.lst ys) → Q (.ref p) H') : rSlL K (.ref a) lo hi H Q :=
  ⟨a, xs, rfl, h, fun p n => q p _ n (same_upd n) (by rw [upd_same, e])⟩
theorem r_cat (h1 : H a = some (.lst xs)) (h2 : H b = some (.lst ys)) (q : ∀ p H', H p = none → Same H H' → H' p = some (.lst (xs ++ ys)) → Q (.ref p) H') (l : xs.length + ys.length ≤ 10000 := by omega) : rCat (.ref a) (.ref b) H Q :=
  ⟨a, b, xs, ys, rfl, rfl, h1, h2, Nat.le_trans l (by decide), fun p n => q p _ n (same_upd n) upd_same⟩
end
theorem shw_tup2 {K : PySem.W.Frag} {H : Hp} {a b : Addr} {xs : List V} (h : SqT K H a xs) (h2 : SqT K H b xs) (i : ∀ y ∈ xs, Itm K H y) (l : xs.length ≤ 150) : ∃ z, Shw K H (.ref a) z ∧ Shw K H (.ref b) z := by
  obtain ⟨ds, g1, g2, g3, g4⟩ := itms i
  exact ⟨_, shw_of (.tup h g1) (by simpa only [smallD] using g2) (by simp only [PyData.bulk]; omega) (by simp only [PyData.depth]; omega),
    shw_of (.tup h2 g1) (by simpa only [smallD] using g2) (by simp only [PyData.bulk]; omega) (by simp only [PyData.depth]; omega)⟩
theorem but_none {a c : Addr} {H G : Hp} (b : But a H G) (ne : c ≠ a) (h : G c = none) : H c = none := by
  cases e : H c with
  | none => rfl
  | some o => exact nomatch h.symm.trans (b _ _ ne e)
theorem r_par {i j : Nat} {ta : TA} {D : Ends} {σ : L2.St} {H : Hp} (q : ta σ H fun vs H1 => ∃ v w, vs = [v, w] ∧ D.nx ((σ.set i (some v)).set j (some w)) H1) : tPar i j ta D σ H := q
theorem small_int {i : Int} (h0 : -100000 ≤ i) (h1 : i ≤ 100000) : smS (.int i) = true := smS_int (Nat.lt_of_lt_of_le (show i.natAbs < 1000000 by omega) (by decide))
structure Exc (K : PySem.W.Frag) (C f : Addr) : Prop where
  ox : OexC K C
  i : PySem.W.findIn K (.ref C) "__init__" = some (some (.ref f))
  t : PySem.W.typeIn K (.ref f) = some (.type "function")
  nf : PySem.W.findIn K (.ref C) "found" = some none
  xf : XfC K C
def spGE (K : PySem.W.Frag) : Sp := fun vs H Q _ => ∃ (a C : Addr) (x : V), vs = [.ref a, x] ∧ OexC K C ∧ H a = some (exo a C none) ∧ Q .non H
def wholeV (x : V) (lo hi : Int) : Bool := match x with
  | .int i => decide (lo ≤ i) && decide (i ≤ hi)
  | _ => false
/-- a thing of which isinstance(.., int) is known -/
def WD (K : PySem.W.Frag) (H : Hp) (x : V) : Prop := (∃ i, x = .int i) ∨ (∃ b, x = .bl b) ∨ (IsA K H x "int" false ∧ ∀ l h, wholeV x l h = false)
def spWhole (K : PySem.W.Frag) : Sp := fun vs H Q _ => ∃ (x : V) (lo hi : Int), vs = [x, .int lo, .int hi] ∧ WD K H x ∧ Q (.bl (wholeV x lo hi)) H
def wd (x : V) : Bool := wholeV x 0 4095
def spIsWord (K : PySem.W.Frag) : Sp := fun vs H Q _ => ∃ x : V, vs = [x] ∧ WD K H x ∧ Q (.bl (wd x)) H
def spCheck (K : PySem.W.Frag) (CW : Addr) : Sp := fun vs H Q E => ∃ x : V, vs = [x] ∧ WD K H x ∧ ((wd x = true ∧ Q .non H) ∨ (wd x = false ∧ Refuse CW x H E))
theorem wd_int {i : Int} (h0 : 0 ≤ i) (h1 : i ≤ 4095) : wd (.int i) = true := by
  show (decide (0 ≤ i) && decide (i ≤ 4095)) = true
  rw [decide_eq_true h0, decide_eq_true h1]
  rfl
end Bk

namespace Bk
open PySem PySem.Spec PyProof.Rows L2
/-! ## 19. a text is no dict -/
theorem str_not_dict (x : Str) (t : Tok) (d : Addr) (o : Obj) (es : Array DictEntry) (ep : Nat) (hd : o.data = .dict es ep) (hc : o.cls = .type "dict") :
    Meets (Builtin.«str.__eq__» ⟨[.str x t, .ref d], []⟩) (fun _ R s => s.heap.get? d = some o ∧ R (.ok (.ret .notImplemented)) s) :=
  .of_wp fun prog w A R s h => by
    obtain ⟨hp, g, dr, tk, os⟩ := s
    obtain ⟨hl, h⟩ := h
    obtain ⟨c, dd, dt, sl⟩ := o
    subst hd hc
    wp_walk using wpAny_load hl
    exact ⟨_, rfl, h⟩
theorem dict_not_str (x : Str) (t : Tok) (d : Addr) (o : Obj) (es : Array DictEntry) (ep : Nat) (hd : o.data = .dict es ep) (hc : o.cls = .type "dict") :
    Meets (Builtin.«dict.__eq__» ⟨[.ref d, .str x t], []⟩) (fun _ R s => s.heap.get? d = some o ∧ R (.ok (.ret .notImplemented)) s) :=
  .of_wp fun prog w A R s h => by
    obtain ⟨hp, g, dr, tk, os⟩ := s
    obtain ⟨hl, h⟩ := h
    obtain ⟨c, dd, dt, sl⟩ := o
    subst hd hc
    have f1 := F.sub_str_dict
    wp_walk using wpAny_load hl
    exact ⟨_, rfl, h⟩
def rEqSD : R2 := fun x y H Q => ∃ (z : Str) (a : Addr) (kvs : List (Key × V)), x = .str z ∧ y = .ref a ∧ H a = some (.dK kvs) ∧ Q (.bl false) H
section
variable {X : Cx}
theorem op_eqSD (hu : X.A.units < cLine) : OpR X (compareOp .Eq) rEqSD := by
  intro pins s σ H x y v u Q I rx ry h
  obtain ⟨z, a, kvs, rfl, rfl, e, q⟩ := h
  obtain ⟨t, rfl⟩ := rx
  obtain rfl : u = Value.ref a := ry
  obtain ⟨_, _, vs, _, o, es, ep, ho, hx, hd, _⟩ := I.hok a _ e
  have hc : o.cls = .type "dict" := hx.1
  exact SeqAt.rc_eq_decline_or (k := false) (typeIs_str s z t) ⟨_, ho, hc⟩ (by decide) F.sub_dict_str F.slot_str_eq F.slot_dict_eq_refl
    (fun _ hq => call_meets F.slot_str_eq (typeIs_str s z t) F.entry_str_eq (F.args_str_eq_2 _ _) (str_not_dict z t a o es ep hd hc) ⟨ho, hq⟩)
    (fun _ hq => call_meets F.slot_dict_eq_refl ⟨_, ho, hc⟩ F.entry_dict_eq (F.args_dict_eq_2 _ _) (dict_not_str z t a o es ep hd hc) ⟨ho, hq⟩)
    (fun _ hq => wpAny_of_eq (rfl : isSame (.str z t) (.ref a) = pure false) hq) (.inr hu) ⟨.bl false, H, I, rfl, q⟩
/-- a text beside any thing -/
def rEqS (K : PySem.W.Frag) : R2 := fun x y H Q => (rEq x y H Q ∨ rEqD K x y H Q) ∨ rEqSD x y H Q
theorem op_eqS (hu : X.A.units + 64 < cLine) : OpR X (compareOp .Eq) (rEqS X.K) := OpR.or (OpR.or op_eq (op_eqD hu)) (op_eqSD (by omega))
end
/-! ## 20. refusing defs called with keywords beside values, or with defaults -/
structure CalMX (P : Program) (w : World) (K : PySem.W.Frag) (mg : Str → Option Value) (base : Heap) (k n : Nat) (ks : List Str) (x : Str) (sp : Sp) (gV : List V → List V → List V) : Prop where
  ex : ∃ (f : Addr) (fd : FuncData) (ps : List Str) (g : List Value → List Value → List Value), mg x = some (.ref f) ∧ PySem.W.keepIn K (.ref f) = true ∧ FnOk P w K mg base (L2.CX P w) k f fd ps sp ∧ KBn K fd ps n ks g gV
theorem CalMX.mk' {P : Program} {w : World} {K : PySem.W.Frag} {mg : Str → Option Value} {base : Heap} {k n : Nat} {ks : List Str} {x : Str} {sp : Sp} {gV : List V → List V → List V} {f : Addr} {fd : FuncData} {ps : List Str} {g : List Value → List Value → List Value} (a : mg x = some (.ref f)) (kp : PySem.W.keepIn K (.ref f) = true)
    (F : FnOk P w K mg base (L2.CX P w) k f fd ps sp) (b : KBn K fd ps n ks g gV) : CalMX P w K mg base k n ks x sp gV := ⟨f, fd, ps, g, a, kp, F, b⟩
structure CalXD (P : Program) (w : World) (K : PySem.W.Frag) (mg : Str → Option Value) (base : Heap) (k : Nat) (x : Str) (sp : Sp) (dvs : List V) : Prop where
  ex : ∃ (f : Addr) (fd : FuncData) (ps : List Str) (ds : List Value), mg x = some (.ref f) ∧ PySem.W.keepIn K (.ref f) = true ∧ FnOk P w K mg base (L2.CX P w) k f fd ps sp ∧ Binds K fd ps ds ∧ Vals dvs ds
def tCallNS (n m : Nat) (sp : Sp) (gV : List V → List V → List V) (E : L2.St → XK) (t tk : TA) : TE := fun σ H Q => t σ H fun vs H1 => tk σ H1 fun zs H2 => vs.length = n ∧ zs.length = m ∧ sp (gV vs zs) H2 Q (E σ)
section
variable {X : Cx} {k j n : Nat} {ks : List Str} {sp : Sp} {x : Str} {p pos : Pos} {e : Expr} {es : List Expr} {kws : List Keyword} {t tk : TA} {W : WX} {gV : List V → List V → List V} {dvs : List V}
theorem r_callNS {n m : Nat} {E : L2.St → XK} {σ : L2.St} {H : Hp} {Q : VK} (q : t σ H fun vs H1 => tk σ H1 fun zs H2 => vs.length = n ∧ zs.length = m ∧ sp (gV vs zs) H2 Q (E σ)) : tCallNS n m sp gV E t tk σ H Q := q
theorem pe_calMY (c : CalMX X.prog X.w X.K X.mg X.base k n ks x sp gV) (hr : Room j X.A) (hk : k ≤ j) (hg : Gl X x) (ha : PA X (e :: es) t) (hkw : PK X kws tk)
    (hall : (backToKw pos (keywordEach kws X.env)).all (·.1.isSome) = true := by rfl) (hks : (backToKw pos (keywordEach kws X.env)).filterMap (·.1) = ks := by rfl)
    (hdb : (x == ("__debug__" : Str)) = false := by decide) (he : starEach (e :: es) X.env = (false, eval e X.env) :: starEach es X.env := by rfl)
    (hpl : ((backTo pos (starEach (e :: es) X.env)).any (·.1) || (backToKw pos (keywordEach kws X.env)).any (·.1.isNone)) = false := by rfl) :
    PE X (.Call (.Name x p) (e :: es) kws pos) (tCallN n ks.length sp gV noE t tk) := by
  obtain ⟨f, fd, ps, g, h1, h2, h3, h4⟩ := c.ex
  exact pe_callN h3 (hr.mono hk) hg h1 h2 h4 pass_no ha hkw hall hks hdb he hpl
theorem pe_calYD (c : CalXD X.prog X.w X.K X.mg X.base k x sp dvs) (hr : Room j X.A) (hk : k ≤ j) (hg : Gl X x) (ha : PA X (e :: es) t)
    (hdb : (x == ("__debug__" : Str)) = false := by decide) (he : starEach (e :: es) X.env = (false, eval e X.env) :: starEach es X.env := by rfl) (hpl : (backTo pos (starEach es X.env)).any (·.1) = false := by rfl) :
    PE X (.Call (.Name x p) (e :: es) [] pos) (tCall sp dvs noE t) := by
  obtain ⟨f, fd, ps, ds, h1, h2, h3, h4, h5⟩ := c.ex
  exact pe_call h3 (hr.mono hk) hg h1 h2 h4 h5 pass_no ha hdb he hpl
/-- in a try -/
theorem pe_calMT (c : CalMX X.prog X.w X.K X.mg X.base k n ks x sp gV) (hr : Room j X.A) (hk : k ≤ j) (hg : Gl X x) (tkW : Takes X W) (ha : PA X (e :: es) t) (hkw : PK X kws tk)
    (hall : (backToKw pos (keywordEach kws X.env)).all (·.1.isSome) = true := by rfl) (hks : (backToKw pos (keywordEach kws X.env)).filterMap (·.1) = ks := by rfl)
    (hdb : (x == ("__debug__" : Str)) = false := by decide) (he : starEach (e :: es) X.env = (false, eval e X.env) :: starEach es X.env := by rfl)
    (hpl : ((backTo pos (starEach (e :: es) X.env)).any (·.1) || (backToKw pos (keywordEach kws X.env)).any (·.1.isNone)) = false := by rfl) :
    PE X (.Call (.Name x p) (e :: es) kws pos) (tCallNS n ks.length sp gV (WE W) t tk) := by
  obtain ⟨f, fd, ps, g, h1, h2, h3, h4⟩ := c.ex
  refine ⟨fun pins s σ H Q I h => ?_⟩
  refine wpAny_Call_Name_kw (ld_glob I hg h1 (PySem.W.callWith_KW (h₀ := X.base) I.ok.mod.kin h2 hall (thn (ha.run pos pins s σ H _ I h) fun us s1 ⟨vs, H1, I1, r, q⟩ => ?_) hpl he) hdb)
  refine thn (hkw.run pos pins s1 σ H1 _ I1 q) fun ws s2 ⟨zs, H2, I2, rz, l1, l2, q2⟩ => ⟨I2.kIn, ?_⟩
  rw [hks]
  refine wpAny_call (codeAny_mono (h3.run X.A X.stack s2 H2 ⟨us, ks.zip ws⟩ (g us ws) (gV vs zs) Q (WE W σ) (hr.mono hk) I2.env0 (h4.to s2 us ws I2.kIn (r.length.symm.trans l1) (rz.length.symm.trans l2)) (h4.rel r rz) q2) fun rr s3 z => ?_)
  match rr, z with
  | .error u, z => exact passAt tkW σ pins H2 s2 u s3 I2 z
  | .ok (.ret _), z => exact I2.after z
end
theorem ix_listK {X : Cx} {K : PySem.W.Frag} (h : X.K = K) : IxR X (rIxL K) := by
  subst h
  exact ix_list
theorem ix_tupK {X : Cx} {K : PySem.W.Frag} (h : X.K = K) : IxR X (rIxT K) := by
  subst h
  exact ix_tup
end Bk

namespace Bk
open PySem PySem.Spec PySem.Calls PyProof.Rows L2
/-! ## 20a. own exception classes under ValueError, LookupError or KeyError -/
/-- what a built-in __init__ of errors must be -/
structure IniF (B initId : String) : Prop where
  init : Slot B "__init__" initId
  entry : entryFor table initId = some Builtin.«BaseException.__init__»
  split : splitId initId = some (B, "__init__")
  kind : builtinKind initId = some .slot
  row : Manifest.signature? initId = some ⟨.positional, "*", B, .self, [⟨"args", .varPos, false⟩]⟩
  noStar : (B != "*") = true
theorem inf_of {B newId initId : String} (F : ExcCallFacts B newId initId) : IniF B initId := ⟨F.init, F.initEntry, F.initSplit, F.initKind, F.initRow, F.noStar⟩
theorem inf_KE : IniF "KeyError" "KeyError.__init__" where
  init := .of (owner := "KeyError") (n := "__init__") (by rw [typeLookup_type, builtinLookup_eq_fast]; kernel_rfl) (by decide +kernel) (by decide +kernel) (by decide +kernel)
    (by first | exact .inl (by decide +kernel) | exact .inr (by decide +kernel)) (by rw [isSubtype_type]; kernel_rfl)
  entry := entryFor_alias (id' := "BaseException.__init__") (by rw [fastTable_eq_tree]; kernel_rfl) (by first | rfl | decide +kernel) (by decide +kernel) (by rw [fastTable_eq_tree]; kernel_rfl)
  split := by kernel_rfl
  kind := by kernel_rfl
  row := by kernel_rfl
  noStar := by decide +kernel
section
variable {M : Model} {prog : Program} {w : World} {A : Around} {E : Value → Shared → Prop} {R : Result → Shared → Prop} {h : Heap} {g : Array GenState} {d : Drawn} {t : Nat} {os : OsState}
variable {nm q : Str} {C N : Addr} {bs bm bmB : List Value} {hdct : Bool} {sn : List Str} {sub : List Value} {ab : Bool} {col : Option Bool} {dd : Option Addr} {k0 k1 k2 k3 k5 : Option Value} {B newId i0 IB initId : String} {rest : List Value}
theorem checkNewW (F : ExcBaseFacts B newId i0 bmB) (hB : bm.contains (.type B) = true) {Q : Unit → Shared → Prop} (hC : h.get? C = some (excClassObj nm q C N bs bm hdct sn sub ab col dd k0 k1 k2 k3 k5 newId)) (hq : Q () ⟨h, g, d, t, os⟩) :
    wpAny M A (checkBuiltinCall newId ⟨.ref C :: rest, []⟩) Q E ⟨h, g, d, t, os⟩ := by
  have cB : (Value.ref C :: bm).contains (.type B) = true := by rw [List.contains_cons, hB, Bool.or_true]
  have star := F.noStar
  simp only [checkBuiltinCall, F.newKind, F.newSplit, F.newRow]
  repeat (first | refine wpAny_loadPart_at hC ?_ | (refine wpAny_isSubtype_exc hC ?_; rw [cB]) | refine wpAny_staticBase_exc hC ?_ | refine wpAny_madeBy_exc hC ?_ | simp only [bne_self_eq_false, Bool.false_eq_true, if_false] | wp_step)
  exact hq
theorem checkInitW (F : IniF IB initId) (hI : bm.contains (.type IB) = true) {e : Addr} {oe : Obj} {Q : Unit → Shared → Prop} (hC : h.get? C = some (excClassObj nm q C N bs bm hdct sn sub ab col dd k0 k1 k2 k3 k5 newId)) (he : h.get? e = some oe) (hcls : oe.cls = .ref C) (hq : Q () ⟨h, g, d, t, os⟩) :
    wpAny M A (checkBuiltinCall initId ⟨.ref e :: rest, []⟩) Q E ⟨h, g, d, t, os⟩ := by
  have cI : (Value.ref C :: bm).contains (.type IB) = true := by rw [List.contains_cons, hI, Bool.or_true]
  have star := F.noStar
  simp only [checkBuiltinCall, F.kind, F.split, F.row]
  repeat (first | (with_reducible refine wpAny_loadPart_at he ?_; rw [hcls]) | with_reducible refine wpAny_loadPart_at hC ?_ | (with_reducible refine wpAny_isSubtype_exc hC ?_; rw [cI]) | wp_step)
  refine wpAny_onRaise ?_
  rw [show ∀ (a b : String) (n : Nat), Bind.check ⟨.positional, "*", IB, .self, [⟨"args", .varPos, false⟩]⟩ a b n (List.map (fun x => x.fst) ({ pos := Value.ref e :: rest } : Args).kw) = pure () from fun a b n => check_star_args _ _ _ _ _ _]
  exact wpAny_pure hq
theorem newW (F : ExcBaseFacts B newId i0 bmB) (hB : bm.contains (.type B) = true) (hA : bm.contains (.type "AttributeError") = false) (hN : bm.contains (.type "NameError") = false) (hC : h.get? C = some (excClassObj nm q C N bs bm hdct sn sub ab col dd k0 k1 k2 k3 k5 newId)) (hrest : rest.length ≤ sizeLine)
    (hq : R (.ok (.ret (.ref (h.objs.size + 1)))) ⟨(h.push (PySem.W.kdv_tup rest)).push (PySem.HandSPX.excO C h.objs.size), g, d, t, os⟩) : codeAny (model prog w) A (.builtin newId ⟨.ref C :: rest, []⟩) R ⟨h, g, d, t, os⟩ := by
  have hends := F.ends
  have cB : (Value.ref C :: bm).contains (.type B) = true := by rw [List.contains_cons, hB, Bool.or_true]
  have cA : (Value.ref C :: bm).contains (.type "AttributeError") = false := by rw [List.contains_cons, hA]; rfl
  have cN : (Value.ref C :: bm).contains (.type "NameError") = false := by rw [List.contains_cons, hN]; rfl
  refine codeAny_builtinAt F.entry ?_
  unfold Builtin.«BaseException.__new__»
  refine PySem.wpAt_bind ?_
  show PySem.wpAt _ _ _ (stack >>= _) _ _ _
  refine PySem.wpAt_bind (PySem.wpAt_stack fun p below => PySem.wpAt_of_wpAny ?_)
  wp_walk
  refine PySem.wpAt_of_wpAny ?_
  rw [F.owner]
  repeat (first | with_reducible refine wpAny_madeHere_exc F.canon hC ?_ | with_reducible refine wpAny_loadPart_at hC ?_ | (with_reducible refine wpAny_isSubtype_exc hC ?_; first | rw [cB] | rw [cA] | rw [cN]) | wp_step)
  show R _ _
  rw [Heap.size_push]
  exact hq
theorem typeCallW (F : ExcBaseFacts B newId i0 bmB) (hB : bm.contains (.type B) = true) (hA : bm.contains (.type "AttributeError") = false) (hN : bm.contains (.type "NameError") = false) {fI : Addr} {Q : Fin → Shared → Prop} (hC : h.get? C = some (excClassObj nm q C N bs bm hdct sn sub ab col dd k0 k1 k2 k3 k5 newId))
    (hi : PySem.W.Looks (model prog w) h (typeLookup (.ref C) "__init__") (some (.ref fI))) (hb : ∀ self, PySem.W.Looks (model prog w) h (bindSpecial (.ref fI) self) (.ref fI, [self])) (hrest : rest.length ≤ sizeLine) {kw : List (Str × Value)} {Af : Around}
    (hq : codeAny (model prog w) A (.call (.ref fI) ⟨.ref (h.objs.size + 1) :: rest, []⟩) (fun r s' => match r with | .ok (.ret v) => v = .none ∧ Q (.done (.ret (.ref (h.objs.size + 1)))) s' | .ok _ => False | .error e => E e s') ⟨(h.push (PySem.W.kdv_tup rest)).push (PySem.HandSPX.excO C h.objs.size), g, d, t, os⟩) :
    wpAny (model prog w) A (Builtin.«type.__call__» ⟨.ref C :: rest, []⟩) Q E ⟨h, g, d, t, os⟩ := by
  repeat (first | with_reducible refine wpAny_loadPart_at hC ?_ | with_reducible refine wpAny_madeBy_exc hC ?_ | wp_step)
  refine codeAny_call_builtin_code (Code.quiet_builtin _ F.quiet) (checkNewW F hB hC ?_)
  refine newW F hB hA hN hC hrest ?_
  show wpAny _ _ _ _ _ _
  have k : ∀ c o, h.get? c = some o → ((h.push (PySem.W.kdv_tup rest)).push (PySem.HandSPX.excO C h.objs.size)).get? c = some o := fun c o e => Heap.get?_push_of_some _ (Heap.get?_push_of_some _ e)
  have hC1 := k _ _ hC
  have hget : ((h.push (PySem.W.kdv_tup rest)).push (PySem.HandSPX.excO C h.objs.size)).get? (h.objs.size + 1) = some (PySem.HandSPX.excO C h.objs.size) := by heap_get
  have cC : (Value.ref C :: bm).contains (.ref C) = true := by simp
  have i1 := hi.keeps k
  have b1 := (hb (.ref (h.objs.size + 1))).keeps k
  unfold isInstance
  repeat (first | with_reducible refine wpAny_loadPart_at hget ?_ | (with_reducible refine wpAny_isSubtype_exc hC1 ?_; rw [cC]) | wp_step)
  show wpAny _ _ (typeLookup (.ref C) _) _ _ _
  refine i1.at (wpAny_holding (wpAny_bind (b1.at (wpAny_bind (wpAny_call (codeAny_mono hq fun r s' z => ?_))))))
  rcases r with e | (v | _ | _ | _) <;> first | exact z | exact z.elim | skip
  obtain ⟨rfl, z⟩ := z
  first
    | exact wpAny_pure (wpAny_pure z)
    | (wp_walk; exact z)
theorem callW (F : ExcBaseFacts B newId i0 bmB) (hB : bm.contains (.type B) = true) (hA : bm.contains (.type "AttributeError") = false) (hN : bm.contains (.type "NameError") = false) {fI : Addr} (hC : h.get? C = some (excClassObj nm q C N bs bm hdct sn sub ab col dd k0 k1 k2 k3 k5 newId))
    (hi : PySem.W.Looks (model prog w) h (typeLookup (.ref C) "__init__") (some (.ref fI))) (hb : ∀ self, PySem.W.Looks (model prog w) h (bindSpecial (.ref fI) self) (.ref fI, [self])) (hrest : rest.length ≤ sizeLine)
    (hq : codeAny (model prog w) (A.under (.builtin "type.__call__" ⟨.ref C :: rest, []⟩)) (.call (.ref fI) ⟨.ref (h.objs.size + 1) :: rest, []⟩) (PySem.W.InitBack (h.objs.size + 1) R) ⟨(h.push (PySem.W.kdv_tup rest)).push (PySem.HandSPX.excO C h.objs.size), g, d, t, os⟩) :
    codeAny (model prog w) A (.call (.ref C) ⟨rest, []⟩) R ⟨h, g, d, t, os⟩ := by
  have f1 := PySem.tc_lookup
  have f2 := PySem.tc_bind (.ref C)
  have hTy : (⟨h, g, d, t, os⟩ : Shared).TypeIs (.ref C) "type" := ⟨_, hC, rfl⟩
  refine codeAny_of_tree ?_
  show wpAny _ _ (callAny (.ref C) _) _ _ _
  repeat (any_goals (first | assumption | with_reducible refine wpAny_loadPart_at hC ?_ | wp_step))
  refine ⟨rfl, codeAny_call_builtin_at (Code.quiet_builtin _ (by decide +kernel)) entry_typeCall (wpAny_check_type_call_sub hC (typeCallW F hB hA hN hC hi hb hrest (kw := []) (Af := A) ?_))⟩
  refine codeAny_mono hq fun r s' z => ?_
  rcases r with e | (v | _ | _ | _) <;> exact z
theorem initW (F : IniF IB initId) (hI : bm.contains (.type IB) = true) {e t0 : Addr} (hC : h.get? C = some (excClassObj nm q C N bs bm hdct sn sub ab col dd k0 k1 k2 k3 k5 newId)) (he : h.get? e = some (PySem.HandSPX.excO C t0)) (hrest : rest.length ≤ sizeLine)
    (hq : ∀ h' t1, (∀ c o, c ≠ e → h.get? c = some o → h'.get? c = some o) → h'.get? e = some (PySem.HandSPX.excO C t1) → R (.ok (.ret .none)) ⟨h', g, d, t, os⟩) : codeAny (model prog w) A (.call (.builtin initId) ⟨.ref e :: rest, []⟩) R ⟨h, g, d, t, os⟩ := by
  refine codeAny_call_builtin F.init.plain F.entry (checkInitW F hI hC he rfl ?_)
  wp_walk
  refine hq _ h.objs.size (fun c o hc ho => ?_) ?_
  · rw [Heap.get?_update_other _ _ (Ne.symm hc)]
    exact Heap.get?_push_of_some _ ho
  · rw [Heap.get?_update_self _ (Heap.get?_push_of_some _ he) rfl]
    rfl
end
inductive Bs where
  | ve
  | le
  | ke
def Bs.nm : Bs → String
  | .ve => "ValueError"
  | .le => "LookupError"
  | .ke => "KeyError"
/-- whose __new__ it is -/
def Bs.nb : Bs → String
  | .ve => "ValueError"
  | _ => "LookupError"
def Bs.new : Bs → String
  | .ve => "ValueError.__new__"
  | _ => "LookupError.__new__"
def Bs.init : Bs → String
  | .ve => "ValueError.__init__"
  | .le => "LookupError.__init__"
  | .ke => "KeyError.__init__"
def Bs.tl : Bs → List Value
  | .ve => [.type "ValueError", .type "Exception", .type "BaseException", .type "object"]
  | .le => [.type "LookupError", .type "Exception", .type "BaseException", .type "object"]
  | .ke => [.type "KeyError", .type "LookupError", .type "Exception", .type "BaseException", .type "object"]
theorem Bs.f : ∀ b : Bs, ∃ i0 bmB, ExcBaseFacts b.nb b.new i0 bmB
  | .ve => ⟨_, _, F.excBase_ValueError⟩
  | .le => ⟨_, _, F.excBase_LookupError⟩
  | .ke => ⟨_, _, F.excBase_LookupError⟩
theorem Bs.i : ∀ b : Bs, IniF b.nm b.init
  | .ve => inf_of F.excBase_ValueError.toExcCallFacts
  | .le => inf_of F.excBase_LookupError.toExcCallFacts
  | .ke => inf_KE
theorem pass_KE (self : Value) : refuseLoop self "__setattr__" [.type "KeyError", .type "LookupError", .type "Exception", .type "BaseException", .type "object"] = pure () := by kernel_rfl
theorem Bs.pass : ∀ (b : Bs) (self : Value), refuseLoop self "__setattr__" b.tl = pure ()
  | .ve, self => F.store_ValueError.passes self
  | .le, self => F.store_LookupError.passes self
  | .ke, self => pass_KE self
theorem Bs.obj (b : Bs) : b.tl.contains (.type "object") = true := by cases b <;> decide +kernel
theorem Bs.hB (b : Bs) : b.tl.contains (.type b.nb) = true := by cases b <;> decide +kernel
theorem Bs.hI (b : Bs) : b.tl.contains (.type b.nm) = true := by cases b <;> decide +kernel
theorem Bs.hA (b : Bs) : b.tl.contains (.type "AttributeError") = false := by cases b <;> decide +kernel
theorem Bs.hN (b : Bs) : b.tl.contains (.type "NameError") = false := by cases b <;> decide +kernel
/-- own classes, then the built-in one's line -/
inductive Tail (b : Bs) : List Value → Prop
  | here : Tail b b.tl
  | own (C : Addr) {l : List Value} : Tail b l → Tail b (.ref C :: l)
section
variable {b : Bs} {l : List Value}
theorem Tail.pass (h : Tail b l) (self : Value) : refuseLoop self "__setattr__" l = pure () := by
  induction h with
  | here => exact b.pass self
  | own C _ ih => rw [refuseLoop_ref]; exact ih
theorem Tail.has (h : Tail b l) (X : String) : l.contains (.type X) = b.tl.contains (.type X) := by
  induction h with
  | here => rfl
  | own C _ ih => rw [List.contains_cons, ih]; rfl
theorem Tail.ne (h : Tail b l) : l.isEmpty = false := by
  cases h with
  | here => cases b <;> rfl
  | own C _ => rfl
end
section
open Builtin Builtin.ObjectAttr
variable {prog : Program} {w : World} {A : Around} {E : Value → Shared → Prop} {R : Result → Shared → Prop} {hp : Heap} {g : Array GenState} {d : Drawn} {t : Nat} {os : OsState}
/-- the first field of an exception -/
theorem osaT {K : PySem.W.Frag} {b : Bs} {name : Str} {tk : Tok} {v : Value} {x C : Addr} {fv : Array Value} {cd : ClassData} (X : K.In hp) (hx : hp.get? x = some { cls := .ref C, data := .fields fv }) (hcd : PySem.W.clsIn K C = some cd) (hm : Tail b cd.mro) (hh : cd.hasDict = true) (ha : PySem.W.findIn K (.ref C) name = some none)
    (hq : ∀ h' tk' dx, (∀ c o, c ≠ x → hp.get? c = some o → h'.get? c = some o) → hp.objs.size ≤ dx → dx ≠ x → h'.get? x = some { cls := .ref C, dict := some dx, data := .fields fv } → h'.Ns1 dx (fun y => if y = name then some v else none) → R (.ok (.ret .none)) ⟨h', g, d, tk', os⟩) :
    codeAny (model prog w) A (.call (.builtin "object.__setattr__") ⟨[.ref x, .str name tk, v], []⟩) R ⟨hp, g, d, t, os⟩ := by
  have I : PySem.W.InstAt hp x { cls := .ref C, data := .fields fv } C none := ⟨hx, rfl, rfl, trivial⟩
  have SF := F.store_object
  have hob : cd.mro.contains (.type "object") = true := (hm.has "object").trans b.obj
  have hxs : x ≠ hp.objs.size := Nat.ne_of_lt (Heap.lt_size hx)
  have isO : PySem.W.Looks (model prog w) hp (isInstance (.ref x) (.type "object")) true :=
    I.type.andThen (PySem.W.looks_mroIn X (by unfold PySem.W.mroIn; rw [hcd, Option.bind_some, if_neg (by rw [hm.ne]; decide), hob]))
  have lineL : PySem.W.Looks (model prog w) hp (mroOf (.ref C)) cd.mro := (PySem.W.looks_clsIn X hcd).andThen .now
  have noTaker : PySem.W.Looks (model prog w) hp (storeTaker? none) none := .now
  have clsL : PySem.W.Looks (model prog w) hp (classData C) cd := PySem.W.looks_clsIn X hcd
  refine codeAny_call_builtin SF.slot.plain SF.entry (@PySem.W.check_slot (model prog w) _ _ ⟨hp, g, d, t, os⟩ "object.__setattr__" "object" "__setattr__" (.ref x) [.str name tk, v] [] _ SF.kind SF.split isO (SF.args (.ref x) (.str name tk) v) ?_)
  rw [PySem.W.osa_eq, refuse_eq]
  refine wpAny_bind (wpAny_bind (I.type.at (wpAny_bind (lineL.at ?_))))
  rw [hm.pass]
  refine wpAny_pure (wpAny_bind (I.type.at (wpAny_bind ((PySem.W.looks_findIn X ha).at (wpAny_bind (noTaker.at ?_))))))
  show wpAny _ _ (storeInOwnDict (.ref x) (.ref C) (.str name tk) name v false) _ _ _
  obtain ⟨nm, bs, mro, ns, qn, hd, sn, sb, ab, col, del⟩ := cd
  dsimp only at hh
  subst hh
  unfold storeInOwnDict ownDictForStores
  repeat (first | with_reducible refine PySem.HandSPX.store_in_new ?_ ?_ | with_reducible refine wpAny_loadPart_at hx ?_ | with_reducible refine clsL.at ?_ | wp_step)
  · exact ⟨_, #[], _, (Heap.get?_update_ne _ _ _ _ hxs.symm).trans (Heap.get?_push_at rfl rfl), rfl, fun e he => absurd he (by simp), fun _ => rfl⟩
  · intro h' tk' hn' hs
    have hx1 : (hp.push { cls := .type "dict", data := .dict #[] }).get? x = some { cls := .ref C, data := .fields fv } := Heap.get?_push_of_some _ hx
    refine hq h' tk' hp.objs.size (fun c o hc ho => ?_) (Nat.le_refl _) hxs.symm ?_ hn'
    · have z1 := hs.2 c (Nat.ne_of_lt (Heap.lt_size ho))
      exact z1.trans ((Heap.get?_update_ne _ _ _ _ hc).trans (Heap.get?_push_of_some _ ho))
    · exact (hs.2 x hxs).trans (Heap.get?_update_self _ hx1 rfl)
end
/-- what the written part says of the class -/
structure OexT (K : PySem.W.Frag) (b : Bs) (C : Addr) : Prop where
  cls : ∃ nm q N bs bm sn sub ab col dd k0 k1 k2 k3 k5, K.lookup C = some (excClassObj nm q C N bs bm true sn sub ab col dd k0 k1 k2 k3 k5 b.new) ∧ Tail b bm
  sa : PySem.W.findIn K (.ref C) "__setattr__" = some (some (.builtin "object.__setattr__"))
  exC : PySem.W.subIn K (.ref C) (.type "BaseException") = some true
  tyC : PySem.W.typeIn K (.ref C) = some (.type "type")
  kC : PySem.W.keepIn K (.ref C) = true
section
variable {X : Cx} {pins : List (Addr × Obj)} {σ : L2.St} {H : Hp} {s : Shared} {a C dx : Addr} {f : Str} {y : V} {u : Value} {b : Bs} {Q : Unit → Shared → Prop} {E : Value → Shared → Prop} {A : Around}
theorem ost_newT (T : OexT X.K b C) (I : Inv X pins σ H s) (e : H a = some (exo a C none)) (hno : PySem.W.findIn X.K (.ref C) f = some none) (ry : RelV y u)
    (h : ∀ dx s', H dx = none → dx ≠ a → Inv X pins σ (upd (upd H dx (exd dx [(f, y)])) a (exo a C (some dx))) s' → Q () s') : wpAny (model X.prog X.w) A (setAttr (.ref a) f u) Q E s := by
  obtain ⟨nm, q, N, bs, bm, sn, sub, ab, col, dd, k0, k1, k2, k3, k5, hC, hbm⟩ := T.cls
  obtain ⟨t1, ho⟩ := exo_at I.hok e
  obtain ⟨hp, g, d, t, os⟩ := s
  have hcl : PySem.W.clsIn X.K C = some { name := nm, bases := bs, mro := .ref C :: bm, ns := N, qualname := q, hasDict := true, slotNames := sn, subclasses := sub, abstract := ab, collection := col, hasDel := false } := by
    unfold PySem.W.clsIn
    rw [hC] <;> rfl
  refine PySem.W.set_plain I.kIn (ox := { cls := .ref C, dict := none, data := .fields #[.ref t1, .none, .none, .none, .bool false, .none] }) (od := none) ⟨ho, rfl, rfl, trivial⟩ T.sa ?_
  refine osaT I.kIn ho hcl (.own C hbm) rfl hno fun h' tk' dx k dn dne hx hn => ?_
  have hnd : H dx = none := I.hok.fresh dn
  have nd : ∀ {c : Addr} {o : Obj}, hp.get? c = some o → c ≠ dx := fun {c o} z => Nat.ne_of_lt (Nat.lt_of_lt_of_le (Heap.lt_size z) dn)
  have na : ∀ {c : Addr}, H c = none → c ≠ a := fun {c} n z => by
    rw [z, e] at n
    exact nomatch n
  have un : Un X.fs [] H (upd (upd H dx (exd dx [(f, y)])) a (exo a C (some dx))) hp h' := by
    refine ⟨fun c o z n _ _ => k c o (na n) z, fun c o z n _ _ => ⟨o.slots, k c o (na n) z⟩, fun c o z n _ => by rw [upd_ne (na n), upd_ne (nd z)]; exact n, fun c o z _ => ?_, fun c xs z => ?_, fun c o v z => ?_, fun c ps z => ⟨#[], ?_⟩⟩
    · by_cases hc : c = a
      · exact ⟨_, by rw [hc]; exact hx⟩
      · exact ⟨o, k c o hc z⟩
    · rw [upd_ne (at_ne e z exo_tup), upd_ne (ne_of_none z hnd)]; exact z
    · rw [upd_ne (at_ne e z exo_frz), upd_ne (ne_of_none z hnd)]; exact z
    · rw [upd_ne (at_ne e z exo_tbl), upd_ne (ne_of_none z hnd), z]; simp
  refine h dx _ hnd dne (I.un (t' := tk') un fun c o z => ?_)
  by_cases hc : c = a
  · subst hc
    rw [upd_same] at z
    obtain rfl := Option.some.inj z
    exact exo_ok hx
  · rw [upd_ne hc] at z
    by_cases hd : c = dx
    · subst hd
      rw [upd_same] at z
      obtain rfl := Option.some.inj z
      exact exd_ok hn (relO_put (fs := []) ry fun _ => True.intro)
    · rw [upd_ne hd] at z
      refine (I.hok c o z).stay (fun c2 v hc2 z2 => k c2 v ?_ z2) (fun c2 z2 => ?_) fun c2 xs z2 => ?_
      · rcases hc2 with q2 | q2
        · rw [q2]; exact hc
        · exact at_ne e q2 exo_own
      · rw [upd_ne (at_ne e z2 exo_own), upd_ne (ne_of_none z2 hnd)]; exact z2
      · rw [upd_ne (at_ne e z2 exo_tup), upd_ne (ne_of_none z2 hnd)]; exact z2
/-- the built-in class's __init__: nothing of it is told -/
theorem oinitT {us : List Value} {Q : Value → Shared → Prop} (T : OexT X.K b C) (I : Inv X pins σ H s) (e : H a = some (exo a C none)) (hl : us.length ≤ sizeLine) (h : ∀ s', Inv X pins σ H s' → Q .none s') : wpAny (model X.prog X.w) A (call (.builtin b.init) (.ref a :: us)) Q E s := by
  obtain ⟨nm, q, N, bs, bm, sn, sub, ab, col, dd, k0, k1, k2, k3, k5, hC, hbm⟩ := T.cls
  obtain ⟨t1, ho⟩ := exo_at I.hok e
  obtain ⟨hp, g, d, t, os⟩ := s
  refine wpAny_call (initW b.i ((hbm.has _).trans b.hI) (I.kIn _ _ hC) ho hl fun h' t2 k hx => ?_)
  have J := I.write (t' := t) (x := a) (e := a) (o := exo a C none) (by rw [e]; exact True.intro) (.inl rfl) k ⟨_, hx⟩ (exo_ok hx)
  have eu : upd H a (exo a C none) = H := funext fun c => by
    by_cases hc : c = a
    · rw [hc, upd_same, e]
    · rw [upd_ne hc]
  exact h _ (eu ▸ J)
end
def tBaI (K : PySem.W.Frag) (b : Bs) (ta : TA) : TE := fun σ H Q => ta σ H fun vs H1 => ∃ (a C : Addr) (ws : List V), vs = .ref a :: ws ∧ ws.length ≤ 1000 ∧ OexT K b C ∧ H1 a = some (exo a C none) ∧ Q .non H1
/-- self.f = e, the first one -/
def tOsN (K : PySem.W.Frag) (f : Str) (to te : TE) : TS := fun D σ H => te σ H fun y H1 => to σ H1 fun x H2 => ∃ (b : Bs) (a C : Addr), x = .ref a ∧ OexT K b C ∧ PySem.W.findIn K (.ref C) f = some none ∧
  H2 a = some (exo a C none) ∧ ∀ dx, H2 dx = none → dx ≠ a → D.nx σ (upd (upd H2 dx (exd dx [(f, y)])) a (exo a C (some dx)))
section
variable {X : Cx} {o e : Expr} {es : List Expr} {to te : TE} {ta : TA} {f : Str} {p p' p1 p2 pos : Pos}
theorem typ_LE : typeOf (.type "LookupError") = pure (.type "type") := by kernel_rfl
theorem pe_veI {pl : Sem Bool} (hg : Gl X "ValueError") (hm : X.mg "ValueError" = none) (vV : PySem.W.findCls X.K (.type "ValueError") (.type "type") "__init__" = some (.val (.builtin "ValueError.__init__"))) (ha : PA X (e :: es) ta)
    (hc : eval (.Call (.Attribute (.Name "ValueError" p1) "__init__" p2) (e :: es) [] pos) X.env = (do
      let ov ← eval (.Name "ValueError" p1) X.env
      standAt p2.atName
      let (f, first) ← holding [ov] (getMethod ov "__init__" pl)
      callWith pos f first (backTo pos (starEach (e :: es) X.env)) (backToKw pos (keywordEach [] X.env))) := by rfl)
    (he : starEach (e :: es) X.env = (false, eval e X.env) :: starEach es X.env := by rfl) (hpl : (backTo pos (starEach es X.env)).any (·.1) = false := by rfl) :
    PE X (.Call (.Attribute (.Name "ValueError" p1) "__init__" p2) (e :: es) [] pos) (tBaI X.K .ve ta) := by
  refine ⟨fun pins s σ H Q I h => PySem.W.methodCall_KW (ld_blt I hg hm PyProof.Rows.Boot.«ValueError» ?_ (by decide) (by decide)) hc⟩
  obtain ⟨m, fr⟩ := I.fr
  refine PySem.W.method_type fr I.ok.mod.kin PySem.OEX.typ_VE (by decide +kernel) vV (by decide +kernel) ?_
  refine PyProof.Rows.callWith_method1 (thn (ha.run pos pins _ σ H _ (I.tok _) h) fun us s1 ⟨vs, H1, I1, r1, a, C, ws, ev, hl, T, ea, q⟩ => ?_) he hpl
  subst ev
  cases r1 with
  | @cons _ u0 _ ur ra rw' =>
    obtain rfl : u0 = Value.ref a := ra
    exact oinitT T I1 ea (by rw [← Paired.length rw', sizeLine_eq]; omega) fun s' J => ⟨.non, H1, J, rfl, q⟩
theorem pe_leI {pl : Sem Bool} (hg : Gl X "LookupError") (hm : X.mg "LookupError" = none) (vV : PySem.W.findCls X.K (.type "LookupError") (.type "type") "__init__" = some (.val (.builtin "LookupError.__init__"))) (ha : PA X (e :: es) ta)
    (hc : eval (.Call (.Attribute (.Name "LookupError" p1) "__init__" p2) (e :: es) [] pos) X.env = (do
      let ov ← eval (.Name "LookupError" p1) X.env
      standAt p2.atName
      let (f, first) ← holding [ov] (getMethod ov "__init__" pl)
      callWith pos f first (backTo pos (starEach (e :: es) X.env)) (backToKw pos (keywordEach [] X.env))) := by rfl)
    (he : starEach (e :: es) X.env = (false, eval e X.env) :: starEach es X.env := by rfl) (hpl : (backTo pos (starEach es X.env)).any (·.1) = false := by rfl) :
    PE X (.Call (.Attribute (.Name "LookupError" p1) "__init__" p2) (e :: es) [] pos) (tBaI X.K .le ta) := by
  refine ⟨fun pins s σ H Q I h => PySem.W.methodCall_KW (ld_blt I hg hm PyProof.Rows.Boot.«LookupError» ?_ (by decide) (by decide)) hc⟩
  obtain ⟨m, fr⟩ := I.fr
  refine PySem.W.method_type fr I.ok.mod.kin typ_LE (by decide +kernel) vV (by decide +kernel) ?_
  refine PyProof.Rows.callWith_method1 (thn (ha.run pos pins _ σ H _ (I.tok _) h) fun us s1 ⟨vs, H1, I1, r1, a, C, ws, ev, hl, T, ea, q⟩ => ?_) he hpl
  subst ev
  cases r1 with
  | @cons _ u0 _ ur ra rw' =>
    obtain rfl : u0 = Value.ref a := ra
    exact oinitT T I1 ea (by rw [← Paired.length rw', sizeLine_eq]; omega) fun s' J => ⟨.non, H1, J, rfl, q⟩
theorem typ_KE : typeOf (.type "KeyError") = pure (.type "type") := by kernel_rfl
theorem pe_keI {pl : Sem Bool} (hg : Gl X "KeyError") (hm : X.mg "KeyError" = none) (vV : PySem.W.findCls X.K (.type "KeyError") (.type "type") "__init__" = some (.val (.builtin "KeyError.__init__"))) (ha : PA X (e :: es) ta)
    (hc : eval (.Call (.Attribute (.Name "KeyError" p1) "__init__" p2) (e :: es) [] pos) X.env = (do
      let ov ← eval (.Name "KeyError" p1) X.env
      standAt p2.atName
      let (f, first) ← holding [ov] (getMethod ov "__init__" pl)
      callWith pos f first (backTo pos (starEach (e :: es) X.env)) (backToKw pos (keywordEach [] X.env))) := by rfl)
    (he : starEach (e :: es) X.env = (false, eval e X.env) :: starEach es X.env := by rfl) (hpl : (backTo pos (starEach es X.env)).any (·.1) = false := by rfl) :
    PE X (.Call (.Attribute (.Name "KeyError" p1) "__init__" p2) (e :: es) [] pos) (tBaI X.K .ke ta) := by
  refine ⟨fun pins s σ H Q I h => PySem.W.methodCall_KW (ld_blt I hg hm PyProof.Rows.Boot.«KeyError» ?_ (by decide) (by decide)) hc⟩
  obtain ⟨m, fr⟩ := I.fr
  refine PySem.W.method_type fr I.ok.mod.kin typ_KE (by decide +kernel) vV (by decide +kernel) ?_
  refine PyProof.Rows.callWith_method1 (thn (ha.run pos pins _ σ H _ (I.tok _) h) fun us s1 ⟨vs, H1, I1, r1, a, C, ws, ev, hl, T, ea, q⟩ => ?_) he hpl
  subst ev
  cases r1 with
  | @cons _ u0 _ ur ra rw' =>
    obtain rfl : u0 = Value.ref a := ra
    exact oinitT T I1 ea (by rw [← Paired.length rw', sizeLine_eq]; omega) fun s' J => ⟨.non, H1, J, rfl, q⟩
theorem ps_osN (ho : PE X o to) (he : PE X e te) (hs : swapsWith e (some (.Attribute o f p')) pos.line X.env = pure false := by rfl) : PS X (.Assign [.Attribute o f p'] e pos) (tOsN X.K f to te) := by
  refine ⟨fun pins s σ H D I h => plainObj_wpAny_Assign_Attribute (thn (he.run pins s σ H _ I h) fun v s1 ⟨y, H1, I1, r1, q1⟩ => thn (ho.run pins s1 σ H1 _ I1 q1) fun u s2 ⟨x, H2, I2, r2, b, a, C, ex, T, hno, ea, q⟩ => ?_) hs⟩
  subst ex
  obtain rfl : u = Value.ref a := r2
  exact ost_newT T I2 ea hno r1 fun dx s' n ne J => ⟨σ, _, J, q dx n ne⟩
/-- C(e, ..) that is raised -/
theorem pmk_oexT {b : Bs} {CX : CXT} {x : Str} {C fI : Addr} {k : Nat} {fd : FuncData} {ps : List Str} {sp : Sp} {ds : List Value} {dvs : List V} (T : OexT X.K b C) (iC : PySem.W.findIn X.K (.ref C) "__init__" = some (some (.ref fI))) (tI : PySem.W.typeIn X.K (.ref fI) = some (.type "function"))
    (F1 : FnOk X.prog X.w X.K X.mg X.base CX k fI fd ps sp) (hr : Room (k + 1) X.A) (hb : Binds X.K fd ps ds) (hd : Vals dvs ds) (hx : Passes CX X (fun _ _ _ => False)) (hg : Gl X x) (hm : X.mg x = some (.ref C)) (ha : PA X (e :: es) ta)
    (hdb : (x == ("__debug__" : Str)) = false := by decide) (he : starEach (e :: es) X.env = (false, eval e X.env) :: starEach es X.env := by rfl) (hpl : (backTo pos (starEach es X.env)).any (·.1) = false := by rfl) :
    PMk X (.Call (.Name x p) (e :: es) [] pos) (tMkO C sp dvs ta) := by
  intro pins s σ H Q I h
  obtain ⟨nm, q, N, bs, bm, sn, sub, ab, col, dd, k0, k1, k2, k3, k5, hC, hbm⟩ := T.cls
  refine wpAny_Call_Name_kw (ld_glob I hg hm ?_ hdb)
  refine PySem.W.callWith_K (h₀ := X.base) I.ok.mod.kin T.kC (thn (ha.run pos pins s σ H _ I h) fun us s1 ⟨vs, H1, I1, r1, hz, q1⟩ => ⟨I1.kIn, ?_⟩) he hpl
  show wpAny _ _ (call (.ref C) us) _ _ _
  obtain ⟨hp, g, dr, tk, os⟩ := s1
  have hsz : hp.objs.size ≤ hp.objs.size + 1 := Nat.le_succ _
  have hq := q1 (hp.objs.size + 1) (I1.hok.fresh hsz)
  have hget : ((hp.push (PySem.W.kdv_tup us)).push (PySem.HandSPX.excO C hp.objs.size)).get? (hp.objs.size + 1) = some (PySem.HandSPX.excO C hp.objs.size) := by heap_get
  have kk : ∀ c o, hp.get? c = some o → ((hp.push (PySem.W.kdv_tup us)).push (PySem.HandSPX.excO C hp.objs.size)).get? c = some o := fun c o z => Heap.get?_push_of_some _ (Heap.get?_push_of_some _ z)
  have I2 : Inv X pins σ (upd H1 (hp.objs.size + 1) (exo (hp.objs.size + 1) C none)) ⟨(hp.push (PySem.W.kdv_tup us)).push (PySem.HandSPX.excO C hp.objs.size), g, dr, tk, os⟩ :=
    I1.laid (t' := tk) (a := hp.objs.size + 1) (o := exo (hp.objs.size + 1) C none) (h' := (hp.push (PySem.W.kdv_tup us)).push (PySem.HandSPX.excO C hp.objs.size)) kk hsz (exo_ok hget)
  have r2 : Vals (V.ref (hp.objs.size + 1) :: (vs ++ dvs)) (Value.ref (hp.objs.size + 1) :: (us ++ ds)) := .cons rfl (r1.append hd)
  have hl : (Value.ref (hp.objs.size + 1) :: us ++ ds).length = ps.length := r2.length.symm.trans (F1.len _ _ _ _ hq)
  have hus : us.length ≤ sizeLine := by rw [← Paired.length r1, sizeLine_eq]; omega
  obtain ⟨i0, bmB, bf⟩ := b.f
  refine wpAny_call (callW bf ((hbm.has _).trans b.hB) ((hbm.has _).trans b.hA) ((hbm.has _).trans b.hN) (I1.kIn _ _ hC) (PySem.W.looks_findIn I1.kIn iC) (fun self => PySem.W.bind_fn I1.kIn self tI) hus
    (codeAny_mono (F1.run _ X.stack _ _ ⟨Value.ref (hp.objs.size + 1) :: us, []⟩ (Value.ref (hp.objs.size + 1) :: (us ++ ds)) _ _ (fun _ _ _ => False) (hr.make C us []) (I2.env0.make C us []) (hb _ (Value.ref (hp.objs.size + 1) :: us) I2.kIn hl) r2 hq) fun r s' hq' => ?_))
  match r, hq' with
  | .error er, hq' => exact hx pins σ _ _ er s' I2 hq'
  | .ok (.ret u), hq' =>
    obtain ⟨v, H2, os2, bare2, un2, hok2, rv, ev, d, fs, ea, ed, hd1, q2⟩ := hq'
    subst ev
    obtain ⟨h2, g2, d2, t2, os'⟩ := s'
    exact ⟨rv, mk_end (raises_own T.exC T.tyC) I1 hsz kk un2 hok2 os2 bare2 ea ed hd1 q2⟩
end
/-- Base.__init__(self, text) of an own family -/
def spGT (K : PySem.W.Frag) (b : Bs) : Sp := fun vs H Q _ => ∃ (a C : Addr) (x : V), vs = [.ref a, x] ∧ OexT K b C ∧ H a = some (exo a C none) ∧ Q .non H
end Bk

namespace Bk
open PySem PySem.Spec PyProof.Rows L2
/-! ## 21. methods of own classes: what is raised is wished for at the caller's slots -/
structure CalM (P : Program) (w : World) (K : PySem.W.Frag) (mg : Str → Option Value) (base : Heap) (CX : CXT) (k : Nat) (C : Addr) (m : Str) (sp : Sp) : Prop where
  ex : ∃ (f : Addr) (fd : FuncData) (ps : List Str), Meth K C m f ∧ FnOk P w K mg base CX k f fd ps sp ∧ Binds K fd ps []
structure CalMK (P : Program) (w : World) (K : PySem.W.Frag) (mg : Str → Option Value) (base : Heap) (CX : CXT) (k n : Nat) (ks : List Str) (C : Addr) (m : Str) (sp : Sp) (gV : List V → List V → List V) : Prop where
  ex : ∃ (f : Addr) (fd : FuncData) (ps : List Str) (g : List Value → List Value → List Value), Meth K C m f ∧ FnOk P w K mg base CX k f fd ps sp ∧ KBn K fd ps (n + 1) ks g gV
/-- C(..) of a class whose objects are plain -/
structure CalC (P : Program) (w : World) (K : PySem.W.Frag) (mg : Str → Option Value) (base : Heap) (CX : CXT) (k : Nat) (C : Addr) (x : Str) (sp : Sp) : Prop where
  ex : ∃ (f : Addr) (fd : FuncData) (ps : List Str), Mk K C f ∧ FnOk P w K mg base CX k f fd ps sp ∧ Binds K fd ps [] ∧ mg x = some (.ref C)
def tMeS (C : Addr) (m : Str) (sp : Sp) (E : L2.St → XK) (ta : TE) (t : TA) : TE := fun σ H Q => ta σ H fun x H1 => ∃ a dx fs, x = .ref a ∧ H1 a = some (.ins C dx fs) ∧ fs.lookup m = none ∧ t σ H1 fun vs H2 => sp (x :: vs) H2 Q (E σ)
def tMeK (C : Addr) (m : Str) (j : Nat) (sp : Sp) (gV : List V → List V → List V) (E : L2.St → XK) (ta : TE) (tk : TA) : TE := fun σ H Q => ta σ H fun x H1 => ∃ a dx fs, x = .ref a ∧ H1 a = some (.ins C dx fs) ∧ fs.lookup m = none ∧ tk σ H1 fun zs H2 => zs.length = j ∧ sp (gV [x] zs) H2 Q (E σ)
def tMkS (C : Addr) (sp : Sp) (E : L2.St → XK) (t : TA) : TE := fun σ H Q => t σ H fun vs H1 => ∀ x dx, H1 x = none → H1 dx = none → dx ≠ x →
  sp (.ref x :: vs) (upd (upd H1 dx (.own x)) x (.ins C dx [])) (fun v H2 => v = .non ∧ Q (.ref x) H2) (E σ)
section
variable {X : Cx} {CX : CXT} {k j n : Nat} {ks : List Str} {f C : Addr} {fd : FuncData} {ps : List Str} {sp : Sp} {E : L2.St → XK} {x m : Str} {p pos apos : Pos} {e o : Expr} {es : List Expr} {kws : List Keyword} {ta : TE} {t tk : TA} {W : WX} {gV : List V → List V → List V} {g : List Value → List Value → List Value}
theorem ps0 : ∀ σ, PassesAt CX0 X σ ((fun _ => E0) σ) := fun _ _ _ _ _ _ _ h => h.elim
theorem psY : ∀ σ, PassesAt (L2.CX X.prog X.w) X σ ((fun _ => noE) σ) := fun σ pins H s e s' I h => pass_no (X := X) pins σ H s e s' I h
theorem psX {E : XK} (tk : Takes X (fun cls d _ H => E cls d H)) : ∀ σ, PassesAt (L2.CX X.prog X.w) X σ ((fun _ => E) σ) := fun σ pins H s e s' I h => passes_call tk (fun _ _ _ _ z => z) pins σ H s e s' I h
theorem psT (tk : Takes X W) : ∀ σ, PassesAt (L2.CX X.prog X.w) X σ (WE W σ) := passAt tk
/-- o.m(e, ..) -/
theorem pe_mth {pl : Sem Bool} (he : PE X o ta) (cl : Cls X.K C) (c : CalM X.prog X.w X.K X.mg X.base CX k C m sp) (hr : Room j X.A) (hk : k ≤ j) (hx : ∀ σ, PassesAt CX X σ (E σ)) (ha : PA X (e :: es) t)
    (hst : starEach (e :: es) X.env = (false, eval e X.env) :: starEach es X.env := by rfl) (hpl : (backTo pos (starEach es X.env)).any (·.1) = false := by rfl)
    (ht : eval (.Call (.Attribute o m apos) (e :: es) [] pos) X.env = (do
      let ov ← eval o X.env
      standAt apos.atName
      let (f, first) ← holding [ov] (getMethod ov m pl)
      callWith pos f first (backTo pos (starEach (e :: es) X.env)) (backToKw pos (keywordEach [] X.env))) := by rfl) :
    PE X (.Call (.Attribute o m apos) (e :: es) [] pos) (tMeS C m sp E ta t) := by
  obtain ⟨f, fd, ps, hm, F, hb⟩ := c.ex
  refine ⟨fun pins s σ H Q I h => ?_⟩
  refine PySem.W.methodCall_KW (pl := pl) (thn (he.run pins s σ H _ I h) fun u s1 ⟨x, H1, I1, rx, a, dx, fs, ex, ea, l, q⟩ => ?_) ht
  subst ex
  obtain rfl : u = Value.ref a := rx
  refine getmeth_ok I1 ea cl hm l ?_
  refine PySem.W.callWith_K (first := [.ref a]) (h₀ := X.base) I.ok.mod.kin hm.kp (thn (ha.run pos pins s1 σ H1 _ I1 q) fun us s2 ⟨vs, H2, I2, r, q2⟩ => ⟨I2.kIn, ?_⟩) hst hpl
  exact run_fnS (us := .ref a :: us) (vs := .ref a :: vs) F (hr.mono hk) hb (hx σ) I2 (.cons rfl r) q2
/-- o.m() -/
theorem pe_mth0 {pl : Sem Bool} (he : PE X o ta) (cl : Cls X.K C) (c : CalM X.prog X.w X.K X.mg X.base CX k C m sp) (hr : Room j X.A) (hk : k ≤ j) (hx : ∀ σ, PassesAt CX X σ (E σ))
    (ht : eval (.Call (.Attribute o m apos) [] [] pos) X.env = (do
      let ov ← eval o X.env
      standAt apos.atName
      let (f, first) ← holding [ov] (getMethod ov m pl)
      callWith pos f first (backTo pos (starEach [] X.env)) (backToKw pos (keywordEach [] X.env))) := by rfl) :
    PE X (.Call (.Attribute o m apos) [] [] pos) (tMeS C m sp E ta tNil) := by
  obtain ⟨f, fd, ps, hm, F, hb⟩ := c.ex
  refine ⟨fun pins s σ H Q I h => ?_⟩
  refine PySem.W.methodCall_KW (pl := pl) (thn (he.run pins s σ H _ I h) fun u s1 ⟨x, H1, I1, rx, a, dx, fs, ex, ea, l, q⟩ => ?_) ht
  subst ex
  obtain rfl : u = Value.ref a := rx
  refine getmeth_ok I1 ea cl hm l ?_
  exact PySem.W.callWith_K0 (first := [.ref a]) I1.kIn hm.kp (run_fnS (us := [.ref a]) (vs := [.ref a]) F (hr.mono hk) hb (hx σ) I1 (.cons rfl .nil) q)
theorem run_fnNS {pins : List (Addr × Obj)} {σ : L2.St} {H : Hp} {s : Shared} {Q : VK} {us ws : List Value} {vs zs : List V} (F : FnOk X.prog X.w X.K X.mg X.base CX k f fd ps sp) (hr : Room k X.A) (hb : KBn X.K fd ps n ks g gV) (hx : PassesAt CX X σ (E σ))
    (I : Inv X pins σ H s) (r : Vals vs us) (rz : Vals zs ws) (l1 : vs.length = n) (l2 : zs.length = ks.length) (h : sp (gV vs zs) H Q (E σ)) : wpAny (model X.prog X.w) X.A (call (.ref f) us (ks.zip ws)) (EP X pins σ Q) X.xe s := by
  refine wpAny_call (codeAny_mono (F.run X.A X.stack s H ⟨us, ks.zip ws⟩ (g us ws) (gV vs zs) Q (E σ) hr I.env0 (hb.to s us ws I.kIn (r.length.symm.trans l1) (rz.length.symm.trans l2)) (hb.rel r rz) h) fun rr s3 z => ?_)
  match rr, z with
  | .error u, z => exact hx pins H s u s3 I z
  | .ok (.ret _), z => exact I.after z
/-- o.m(k = e, ..) -/
theorem pe_mthK {pl : Sem Bool} (he : PE X o ta) (cl : Cls X.K C) (c : CalMK X.prog X.w X.K X.mg X.base CX k 0 ks C m sp gV) (hr : Room j X.A) (hk : k ≤ j) (hx : ∀ σ, PassesAt CX X σ (E σ)) (hkw : PK X kws tk)
    (hall : (backToKw pos (keywordEach kws X.env)).all (·.1.isSome) = true := by rfl) (hks : (backToKw pos (keywordEach kws X.env)).filterMap (·.1) = ks := by rfl)
    (hpl : ((backTo pos (starEach [] X.env)).any (·.1) || (backToKw pos (keywordEach kws X.env)).any (·.1.isNone)) = false := by rfl)
    (ht : eval (.Call (.Attribute o m apos) [] kws pos) X.env = (do
      let ov ← eval o X.env
      standAt apos.atName
      let (f, first) ← holding [ov] (getMethod ov m pl)
      callWith pos f first (backTo pos (starEach [] X.env)) (backToKw pos (keywordEach kws X.env))) := by rfl) :
    PE X (.Call (.Attribute o m apos) [] kws pos) (tMeK C m ks.length sp gV E ta tk) := by
  obtain ⟨f, fd, ps, g, hm, F, hb⟩ := c.ex
  refine ⟨fun pins s σ H Q I h => ?_⟩
  refine PySem.W.methodCall_KW (pl := pl) (thn (he.run pins s σ H _ I h) fun u s1 ⟨x, H1, I1, rx, a, dx, fs, ex, ea, l, q⟩ => ?_) ht
  subst ex
  obtain rfl : u = Value.ref a := rx
  refine getmeth_ok I1 ea cl hm l ?_
  refine PySem.W.callWith_KW0 (first := [.ref a]) (h₀ := X.base) I.ok.mod.kin hm.kp hall ?_ hpl
  refine thn (hkw.run pos pins s1 σ H1 _ I1 q) fun ws s2 ⟨zs, H2, I2, rz, l2, q2⟩ => ⟨I2.kIn, ?_⟩
  rw [hks]
  exact run_fnNS (us := [.ref a]) (vs := [.ref a]) F (hr.mono hk) hb (hx σ) I2 (.cons rfl .nil) rz rfl l2 q2
theorem run_mkS {pins : List (Addr × Obj)} {σ : L2.St} {H : Hp} {s : Shared} {Q : VK} {us : List Value} {vs : List V} (M : Mk X.K C f) (F : FnOk X.prog X.w X.K X.mg X.base CX k f fd ps sp) (hr : Room (k + 1) X.A) (hb : Binds X.K fd ps [])
    (hx : PassesAt CX X σ (E σ)) (I : Inv X pins σ H s) (r : Vals vs us)
    (h : ∀ x dx, H x = none → H dx = none → dx ≠ x → sp (.ref x :: vs) (upd (upd H dx (.own x)) x (.ins C dx [])) (fun v H2 => v = .non ∧ Q (.ref x) H2) (E σ)) :
    wpAny (model X.prog X.w) X.A (call (.ref C) us) (EP X pins σ Q) X.xe s := by
  have hq := h (s.heap.objs.size + 1) s.heap.objs.size (I.hok.fresh (Nat.le_succ _)) (I.hok.fresh (Nat.le_refl _)) (Nat.ne_of_lt (Nat.lt_succ_self _))
  have I2 := Inv.made (C := C) I
  have r2 : Vals (V.ref (s.heap.objs.size + 1) :: vs) (Value.ref (s.heap.objs.size + 1) :: us) := .cons rfl r
  have hl : (Value.ref (s.heap.objs.size + 1) :: us).length = ps.length := by
    have e := r2.length
    rw [F.len _ _ _ _ hq] at e
    exact e.symm
  have bb := hb { s with heap := _ } (Value.ref (s.heap.objs.size + 1) :: us) I2.kIn (by rw [List.append_nil]; exact hl)
  rw [List.append_nil] at bb
  refine wpAny_call (make_map (f := f) I.kIn M.makes M.init (beq_iff_eq.mp M.fn) (codeAny_mono (F.run _ X.stack _ _ ⟨Value.ref (s.heap.objs.size + 1) :: us, []⟩ (Value.ref (s.heap.objs.size + 1) :: us) _ _ (E σ) (hr.make C us [])
    (I2.env0.make C us []) bb r2 hq) fun r s' hq' => ?_))
  cases r with
  | error e => exact hx pins _ _ e s' I2 hq'
  | ok fl =>
    cases fl with
    | ret u =>
      obtain ⟨v, H', I3, rv, ev, q3⟩ := I2.after hq'
      subst ev
      exact ⟨rv, ⟨V.ref (s.heap.objs.size + 1), H', I3, rfl, q3⟩⟩
    | next => exact False.elim hq'
    | brk => exact False.elim hq'
    | cont => exact False.elim hq'
theorem pe_mk (c : CalC X.prog X.w X.K X.mg X.base CX k C x sp) (hr : Room j X.A) (hk : k + 1 ≤ j) (hg : Gl X x) (hx : ∀ σ, PassesAt CX X σ (E σ)) (ha : PA X (e :: es) t)
    (hdb : (x == ("__debug__" : Str)) = false := by decide) (he : starEach (e :: es) X.env = (false, eval e X.env) :: starEach es X.env := by rfl) (hpl : (backTo pos (starEach es X.env)).any (·.1) = false := by rfl) :
    PE X (.Call (.Name x p) (e :: es) [] pos) (tMkS C sp E t) := by
  obtain ⟨f, fd, ps, M, F, hb, hm⟩ := c.ex
  refine ⟨fun pins s σ H Q I h => ?_⟩
  refine wpAny_Call_Name_kw (ld_glob I hg hm ?_ hdb)
  refine PySem.W.callWith_K (h₀ := X.base) I.ok.mod.kin M.kp (thn (ha.run pos pins s σ H _ I h) fun us s1 ⟨vs, H1, I1, r, q⟩ => ⟨I1.kIn, ?_⟩) he hpl
  exact run_mkS M F (hr.mono hk) hb (hx σ) I1 r q
theorem pe_mk0 (c : CalC X.prog X.w X.K X.mg X.base CX k C x sp) (hr : Room j X.A) (hk : k + 1 ≤ j) (hg : Gl X x) (hx : ∀ σ, PassesAt CX X σ (E σ))
    (hdb : (x == ("__debug__" : Str)) = false := by decide) : PE X (.Call (.Name x p) [] [] pos) (tMkS C sp E tNil) := by
  obtain ⟨f, fd, ps, M, F, hb, hm⟩ := c.ex
  refine ⟨fun pins s σ H Q I h => ?_⟩
  refine wpAny_Call_Name_kw (ld_glob I hg hm ?_ hdb)
  exact PySem.W.callWith_K0 I.kIn M.kp (run_mkS (us := []) (vs := []) M F (hr.mono hk) hb (hx σ) I .nil h)
/-- repr and the like in a guarded def -/
theorem run_fnGS {pins : List (Addr × Obj)} {σ : L2.St} {H : Hp} : True := trivial
end
section
variable {σ : L2.St} {H : Hp} {Q : VK} {C a dx : Addr} {m : Str} {sp : Sp} {E : L2.St → XK} {ta : TE} {t tk : TA} {fs : List (Str × V)}
theorem r_mth (q : ta σ H fun x H1 => ∃ a dx fs, x = .ref a ∧ H1 a = some (.ins C dx fs) ∧ fs.lookup m = none ∧ t σ H1 fun vs H2 => sp (x :: vs) H2 Q (E σ)) : tMeS C m sp E ta t σ H Q := q
theorem r_mthK {j : Nat} {gV : List V → List V → List V} (q : ta σ H fun x H1 => ∃ a dx fs, x = .ref a ∧ H1 a = some (.ins C dx fs) ∧ fs.lookup m = none ∧ tk σ H1 fun zs H2 => zs.length = j ∧ sp (gV [x] zs) H2 Q (E σ)) : tMeK C m j sp gV E ta tk σ H Q := q
theorem r_mkS (q : t σ H fun vs H1 => ∀ x dx, H1 x = none → H1 dx = none → dx ≠ x → sp (.ref x :: vs) (upd (upd H1 dx (.own x)) x (.ins C dx [])) (fun v H2 => v = .non ∧ Q (.ref x) H2) (E σ)) : tMkS C sp E t σ H Q := q
theorem r_fld {K : PySem.W.Frag} {f : Str} {v : V} (q : ta σ H fun x H1 => ∃ a C dx fs v, x = .ref a ∧ H1 a = some (.ins C dx fs) ∧ Cls K C ∧ NoAttr K C f ∧ fs.lookup f = some v ∧ Q v H1) : tFld K ta f σ H Q := q
end
/-! ## 22. refusals whose field has another name -/
def RefuseN (nm : Str) (C : Addr) (v : V) (H : Hp) (E : XK) : Prop := ∀ d H', H d = none → Same H H' → H' d = some (.xd [(nm, v)]) → E (.ref C) (some d) H'
theorem RefuseN.on {nm : Str} {C : Addr} {v : V} {H H' : Hp} {E : XK} (r : RefuseN nm C v H E) (s : Same H H') : RefuseN nm C v H' E := fun d H2 hd s2 e => r d H2 (s.free hd) (s.trans s2) e
def spInitN (nm : Str) (C : Addr) : Sp := fun vs H Q _ => ∃ (a : Addr) (x : V), vs = [.ref a, x] ∧ H a = some (exo a C none) ∧ ∀ dx, H dx = none → dx ≠ a → Q .non (upd (upd H dx (exd dx [(nm, x)])) a (exo a C (some dx)))
theorem r_mkN {nm : Str} {C : Addr} {v : V} {H : Hp} {E : XK} (z : RefuseN nm C v H E) : [v].length ≤ 1000 ∧ ∀ a, H a = none → spInitN nm C (.ref a :: ([v] ++ [])) (upd H a (exo a C none))
    (fun u H2 => u = .non ∧ ∃ (d : Addr) (fs : List (Str × V)), H2 a = some (exo a C (some d)) ∧ H2 d = some (exd d fs) ∧ H d = none ∧ E (.ref C) (some d) (upd (del H2 a) d (.xd fs))) (fun _ _ _ => False) := by
  refine ⟨Nat.le_of_ble_eq_true rfl, fun a ha => ⟨a, v, rfl, upd_same, fun dx hd ne => ⟨rfl, dx, [(nm, v)], upd_same, ?_, ?_, ?_⟩⟩⟩
  · rw [upd_ne ne, upd_same]
  · rw [upd_ne ne] at hd
    exact hd
  · rw [upd_ne ne] at hd
    refine z dx _ hd (fun b o e => ?_) upd_same
    have h1 : b ≠ a := ne_of_none e ha
    have h2 : b ≠ dx := ne_of_none e hd
    rw [upd_ne h2]
    show del _ a b = some o
    unfold del
    rw [if_neg h1, upd_ne h1, upd_ne h2, upd_ne h1]
    exact e
structure ExcN (K : PySem.W.Frag) (nm : Str) (C f : Addr) : Prop where
  ox : OexC K C
  i : PySem.W.findIn K (.ref C) "__init__" = some (some (.ref f))
  t : PySem.W.typeIn K (.ref f) = some (.type "function")
  nf : PySem.W.findIn K (.ref C) nm = some none
  xf : XfC K C
/-! ## 23. a comprehension each turn of which lays a new object, all of them unlike -/
section
variable {J : It} {n : Nat} {G : Hp → Prop} {Y : Nat → Hp → V → Hp → Prop} {g : TG} {te : TE} {vs : List Nat} {σ : L2.St} {H : Hp} {D : Addr} {Q : VK}
theorem lc_new (w : Walk J n G Y) (c : Nat → HO) (hD : H D = none) (hn : n ≤ 10000) (hG : ∀ H', Same H H' → G H')
    (hs : ∀ i x H1 H2 (Q' : VK) (R' : Hp → Prop), i < n → Same H H1 → Y i H1 x H2 → (∀ t H3, H1 t = none → Same H1 H3 → H3 t = some (c i) → Q' (.ref t) H3) →
      g x (wipe σ vs) H2 fun τ H3 => wipe τ vs = wipe σ vs ∧ tYes τ H3 fun b H4 => if b = true then te τ H4 Q' else R' H4)
    (q : ∀ H' (ts : List Addr), Same H H' → H' D = some (.lst (ts.map V.ref)) → ts.length = n → (∀ k t, ts[k]? = some t → H' t = some (c k)) → (D :: ts).Nodup → (∀ t ∈ ts, H t = none) → Q (.ref D) H') :
    ∃ W : Nat → Nat → Hp → Prop, (∃ m, W 0 m (upd H D (.lst []))) ∧ ∀ i m H, W i m H →
      (J.stop i H ∧ Q (.ref D) H) ∨ (J.go i H ∧ ∃ Nx : Hp → Prop, (∀ H', Nx H' → ∃ m', m' < m ∧ W (i + 1) m' H') ∧ ∀ x H', J.yld i H x H' → g x (wipe σ vs) H' fun σ2 H2 => wipe σ2 vs = wipe σ vs ∧ tYes σ2 H2 fun b H3 =>
        if b = true then te σ2 H3 fun y H4 => ∃ acc, H4 D = some (.lst acc) ∧ acc.length < sizeLine ∧ Nx (upd H4 D (.lst (acc ++ [y]))) else Nx H3) := by
  refine lc_it w (fun i G => Same H G ∧ ∃ ts : List Addr, G D = some (.lst (ts.map V.ref)) ∧ ts.length = i ∧ (∀ k t, ts[k]? = some t → G t = some (c k)) ∧ (D :: ts).Nodup ∧ ∀ t ∈ ts, H t = none)
    ⟨same_upd hD, [], upd_same, rfl, (fun _ _ z => nomatch z), (by simp), (fun _ z => nomatch z)⟩ (fun i G _ z => hG G z.1) (fun i x H1 H2 hi ⟨sm, ts, e, l, all, nd, fr⟩ y => ?_) fun G ⟨sm, ts, e, l, all, nd, fr⟩ => q G ts sm e l all nd fr
  refine hs i x H1 H2 _ _ hi sm y fun t H3 nt s3 et => ?_
  have tD : t ≠ D := fun z => by rw [z, e] at nt; exact nomatch nt
  have tts : t ∉ ts := fun z => by
    obtain ⟨k, hk⟩ := List.getElem?_of_mem z
    rw [all k t hk] at nt
    exact nomatch nt
  obtain ⟨nD, nts⟩ := List.nodup_cons.mp nd
  refine ⟨_, s3 _ _ e, by rw [List.length_map, l]; exact Nat.lt_of_lt_of_le hi (Nat.le_trans hn (by decide)), sameBut (sm.trans s3) hD, ts ++ [t], ?_, by rw [List.length_append, l]; rfl, fun k u hk => ?_, ?_, fun u hu => ?_⟩
  · rw [upd_same, List.map_append]
    rfl
  · by_cases hk2 : k < ts.length
    · rw [List.getElem?_append_left hk2] at hk
      have z := s3 _ _ (all k u hk)
      have nu : u ≠ D := fun q => by subst q; exact nD (List.mem_of_getElem? hk)
      rw [upd_ne nu]
      exact z
    · have e3 : k = i := by
        have := (List.getElem?_eq_some_iff.mp hk).1
        rw [List.length_append] at this
        have h1 : [t].length = 1 := rfl
        omega
      subst e3
      rw [List.getElem?_append_right (by omega), l, Nat.sub_self] at hk
      obtain rfl := Option.some.inj hk
      rw [upd_ne tD]
      exact et
  · refine List.nodup_cons.mpr ⟨fun z => ?_, List.nodup_append.mpr ⟨nts, by simp, fun a ha b hb q => ?_⟩⟩
    · rcases List.mem_append.mp z with z | z
      · exact nD z
      · exact tD (List.mem_singleton.mp z).symm
    · rw [List.mem_singleton.mp hb] at q
      exact tts (q ▸ ha)
  · rcases List.mem_append.mp hu with z | z
    · exact fr u z
    · rw [List.mem_singleton.mp z]
      exact sm.free nt
end
/-! ## 24. a list of lists -/
/-- at l: a list of the lists at rows, which hold ws -/
structure LL (H : Hp) (l : Addr) (rows : List Addr) (ws : List (List V)) : Prop where
  at_ : H l = some (.lst (rows.map V.ref))
  len : rows.length = ws.length
  row : ∀ (k : Nat) (r : Addr) (w : List V), rows[k]? = some r → ws[k]? = some w → H r = some (.lst w)
  nd : (l :: rows).Nodup
theorem LL.keep {H H' : Hp} {l : Addr} {rows : List Addr} {ws : List (List V)} (h : LL H l rows ws) (k : ∀ b ∈ l :: rows, H' b = H b) : LL H' l rows ws :=
  ⟨by rw [k l List.mem_cons_self]; exact h.at_, h.len, fun i r w h1 h2 => by rw [k r (List.mem_cons_of_mem _ (List.mem_of_getElem? h1))]; exact h.row i r w h1 h2, h.nd⟩
theorem LL.same {H H' : Hp} {l : Addr} {rows : List Addr} {ws : List (List V)} (h : LL H l rows ws) (s : Same H H') : LL H' l rows ws :=
  ⟨s _ _ h.at_, h.len, fun i r w h1 h2 => s _ _ (h.row i r w h1 h2), h.nd⟩
/-- the row at k grows -/
theorem LL.put {H H' : Hp} {l r : Addr} {rows : List Addr} {ws : List (List V)} {k : Nat} {w w' : List V} (h : LL H l rows ws) (hr : rows[k]? = some r) (hw : ws[k]? = some w) (b : But r H H') (e : H' r = some (.lst w')) : LL H' l rows (ws.set k w') := by
  obtain ⟨nl, nr⟩ := List.nodup_cons.mp h.nd
  have lr : l ≠ r := fun q => nl (q ▸ List.mem_of_getElem? hr)
  refine ⟨b _ _ lr h.at_, by rw [List.length_set]; exact h.len, fun i r2 w2 h1 h2 => ?_, h.nd⟩
  by_cases q : i = k
  · subst q
    rw [hr] at h1
    obtain rfl := Option.some.inj h1
    rw [List.getElem?_set_self (List.getElem?_eq_some_iff.mp hw).1] at h2
    obtain rfl := Option.some.inj h2
    exact e
  · rw [List.getElem?_set_ne (fun z => q z.symm)] at h2
    refine b _ _ (fun z => ?_) (h.row i r2 w2 h1 h2)
    subst z
    exact q ((List.getElem?_inj (List.getElem?_eq_some_iff.mp h1).1 nr).mp (h1.trans hr.symm))
end Bk

namespace Bk
open PySem PySem.Spec PyProof.Rows L2
/-! ## 25. the text of things, dicts among them -/
mutual
/-- v is the thing d; b: a dict may be in it, and each list stands where no dict of modules does -/
inductive Dq (b : Bool) (K : PySem.W.Frag) (H : Hp) : V → PyData → Prop
  | non : Dq b K H .non .none
  | bl (c : Bool) : Dq b K H (.bl c) (.bool c)
  | int (i : Int) : Dq b K H (.int i) (.int i)
  | str (x : Str) : Dq b K H (.str x) (.str x)
  | lst {a : Addr} {xs : List V} {ds : List PyData} : (b = true → a ≠ sysModules) → SqL K H a xs → DqAll b K H xs ds → Dq b K H (.ref a) (.list ds)
  | tup {a : Addr} {xs : List V} {ds : List PyData} : SqT K H a xs → DqAll b K H xs ds → Dq b K H (.ref a) (.tuple ds)
  | dK {a : Addr} {kvs : List (Key × V)} {ps : List (PyData × PyData)} : b = true → H a = some (.dK kvs) → DqAll b K H (kvs.map fun q => kV q.1) (ps.map (·.1)) → DqAll b K H (kvs.map (·.2)) (ps.map (·.2)) → Dq b K H (.ref a) (.dict ps)
inductive DqAll (b : Bool) (K : PySem.W.Frag) (H : Hp) : List V → List PyData → Prop
  | nil : DqAll b K H [] []
  | cons {v : V} {vs : List V} {d : PyData} {ds : List PyData} : Dq b K H v d → DqAll b K H vs ds → DqAll b K H (v :: vs) (d :: ds)
end
mutual
theorem dq_flat {K : PySem.W.Frag} {H : Hp} : ∀ (d : PyData) (v : V), Dq false K H v d → d.hasDict = false
  | .none, _, _ => by simp only [PyData.hasDict]
  | .bool _, _, _ => by simp only [PyData.hasDict]
  | .int _, _, _ => by simp only [PyData.hasDict]
  | .str _, _, _ => by simp only [PyData.hasDict]
  | .list ds, _, h => by
    cases h with
    | lst _ _ ha => simpa only [PyData.hasDict] using dq_flatAll ds _ ha
  | .tuple ds, _, h => by
    cases h with
    | tup _ ha => simpa only [PyData.hasDict] using dq_flatAll ds _ ha
  | .dict _, _, h => by
    cases h with
    | dK e _ _ _ => exact nomatch e
theorem dq_flatAll {K : PySem.W.Frag} {H : Hp} : ∀ (ds : List PyData) (vs : List V), DqAll false K H vs ds → PyData.hasDictAll ds = false
  | [], _, _ => by simp only [PyData.hasDictAll]
  | d :: ds, _, h => by
    cases h with
    | cons h1 h2 => simp only [PyData.hasDictAll, dq_flat d _ h1, dq_flatAll ds _ h2, Bool.or_false]
end
theorem kv_of : ∀ {P : Program} {w : World} {kvs : List (Key × V)} {vs : List (Key × Value)} {es : List DictEntry}, KV kvs vs → Pairs (mixKind P w) es vs → Vals (kvs.map fun q => kV q.1) (es.map (·.key)) ∧ Vals (kvs.map (·.2)) (es.map (·.val))
  | _, _, _, _, _, .nil, .nil => ⟨.nil, .nil⟩
  | P, w, (k, v) :: kvs, (k2, u) :: vs, e :: es, .cons r t, .cons h1 h2 h3 => by
    obtain ⟨a, b⟩ := kv_of (P := P) (w := w) t h3
    obtain ⟨rk, rv⟩ := r
    refine ⟨.cons ?_ a, .cons ?_ b⟩
    · have rk : k = k2 := rk
      subst rk
      rcases keyIs_shape (show keyIs k e.key = true from h1) with ⟨i, t, rfl, z⟩ | ⟨x, t, rfl, z⟩
      · exact ⟨t, z⟩
      · exact ⟨t, z⟩
    · show RelV v e.val
      rw [h2]
      exact rv
section
variable {X : Cx} {pins : List (Addr × Obj)} {σ : L2.St} {H : Hp} {s : Shared} {b : Bool}
mutual
theorem Dq.reads (I : Inv X pins σ H s) : ∀ {d : PyData} {v : V} {u : Value}, Dq b X.K H v d → RelV v u → ∃ as, Reads s.heap u d as ∧ (b = true → sysModules ∉ as)
  | _, _, _, .non, r => by
    cases r
    exact ⟨_, Reads.none, fun _ => by simp⟩
  | _, _, _, .bl b, r => by
    cases r
    exact ⟨_, Reads.bool b, fun _ => by simp⟩
  | _, _, _, .int i, r => by
    obtain ⟨t, rfl⟩ := r
    exact ⟨_, Reads.int i t, fun _ => by simp⟩
  | _, _, _, .str x, r => by
    obtain ⟨t, rfl⟩ := r
    exact ⟨_, Reads.str x t, fun _ => by simp⟩
  | _, _, _, .lst ne hs ha, r => by
    cases r
    obtain ⟨its, rv, ⟨o, n, ho, hc, _, hd⟩, _⟩ := I.list hs
    obtain ⟨as, hr, hn⟩ := Dq.readsAll I ha rv
    exact ⟨_, Reads.list ho hc hd hr, fun z m => by
      rcases List.mem_cons.mp m with m | m
      · exact ne z m.symm
      · exact hn z m⟩
  | _, _, _, .tup hs ha, r => by
    cases r
    obtain ⟨its, rv, ⟨o, ho, hc, n, hd⟩, _⟩ := I.tuple hs
    obtain ⟨as, hr, hn⟩ := Dq.readsAll I ha rv
    exact ⟨_, Reads.tuple ho hc hd hr, hn⟩
  | _, _, _, .dK (a := a) (kvs := kvs) (ps := ps) eb ha h1 h2, r => by
    cases r
    obtain ⟨_, hm, vs, kv, o, es, ep, ho, hx, hde, _, pr, _⟩ := I.hok a _ ha
    obtain ⟨r1, r2⟩ := kv_of kv pr
    obtain ⟨as, q1, n1⟩ := Dq.readsAll I h1 r1
    obtain ⟨bs, q2, n2⟩ := Dq.readsAll I h2 r2
    have rd : Reads s.heap (.ref a) (.dict ps) (a :: as ++ bs) := .dict ho hx.1 hde q1 q2
    exact ⟨_, rd, fun z m => by
      rcases List.mem_append.mp m with m | m
      · rcases List.mem_cons.mp m with m | m
        · rw [← m] at hm
          exact absurd hm (by decide)
        · exact n1 z m
      · exact n2 z m⟩
theorem Dq.readsAll (I : Inv X pins σ H s) : ∀ {ds : List PyData} {vs : List V} {us : List Value}, DqAll b X.K H vs ds → Vals vs us → ∃ as, ReadsAll s.heap us ds as ∧ (b = true → sysModules ∉ as)
  | _, _, _, .nil, r => by
    cases r
    exact ⟨_, ReadsAll.nil, fun _ => by simp⟩
  | _, _, _, .cons h1 h2, r => by
    cases r with
    | cons r1 r2 =>
      obtain ⟨as, q1, n1⟩ := Dq.reads I h1 r1
      obtain ⟨bs, q2, n2⟩ := Dq.readsAll I h2 r2
      exact ⟨_, ReadsAll.cons q1 q2, fun z m => by
        rcases List.mem_append.mp m with m | m
        · exact n1 z m
        · exact n2 z m⟩
end
end
/-- z is how repr tells v -/
def Shq (K : PySem.W.Frag) (H : Hp) (v : V) (z : Str) : Prop := ∃ b d, Dq b K H v d ∧ d.showable = true ∧ d.shown.length ≤ sizeLine ∧ d.depth ≤ 60 ∧ z = d.shown
section
variable {X : Cx} {j : Nat}
theorem call_repr_shq (ga : X.A.guards = some []) (hr : Room j X.A) : CallR X (.builtin "repr") (fun xs H Q => ∃ v z, xs = [v] ∧ Shq X.K H v z ∧ Q (.str z) H) := by
  intro pins s σ H xs us Q I r h
  obtain ⟨v, z, rfl, ⟨b, d, hd, h1, h2, h3, rfl⟩, q⟩ := h
  obtain ⟨u, rfl, rv⟩ := vals1 r
  have hu := hr.units
  have fin : ∀ {x : Str} {t : Nat}, x = d.shown → EP X pins σ Q (.str x s.toks) { s with toks := t } := fun {x t} e => ⟨.str _, H, I.tok _, ⟨_, rfl⟩, by rw [e]; exact q⟩
  have ref : ∀ {a : Addr}, v = .ref a → wpAny (model X.prog X.w) X.A (call (.builtin "repr") [u]) (EP X pins σ Q) X.xe s := fun {a} e => by
    subst e
    obtain rfl : u = Value.ref a := rv
    obtain ⟨as, rd, hn⟩ := Dq.reads I (u := .ref a) hd rfl
    refine repr_of_reads' rd h1 (fun hh => ?_) ga (by omega) (fun _ _ e => e) (fun h' u tk hk => ⟨.str _, H, I.kept hk, ⟨_, rfl⟩, q⟩) h2
    cases b with
    | true => exact hn rfl
    | false =>
      rw [dq_flat d _ hd] at hh
      exact nomatch hh
  cases hd with
  | non =>
    cases rv
    exact PySem.P.repr_of_none (fin (by simp only [PyData.shown]))
  | bl b =>
    cases rv
    exact PySem.P.repr_of_bool (fin (by simp only [PyData.shown]))
  | int i =>
    obtain ⟨t, rfl⟩ := rv
    exact PySem.P.repr_of_int (by simpa only [PyData.showable, decide_eq_true_eq] using h1) (fin (by simp only [PyData.shown]))
  | str x =>
    obtain ⟨t, rfl⟩ := rv
    exact PySem.P.repr_of_str (fin (by simp only [PyData.shown])) (by simpa only [PyData.shown] using h2)
  | lst _ _ _ => exact ref rfl
  | tup _ _ => exact ref rfl
  | dK _ _ _ _ => exact ref rfl
end
mutual
def smQ : PyData → Bool
  | .none | .bool _ => true
  | .int i => decide (i.natAbs < 10 ^ 38)
  | .str x => x.cps.toList.all fun c => decide (c < 16 ^ 8)
  | .list xs | .tuple xs => smQL xs
  | .dict ps => smQK ps
def smQL : List PyData → Bool
  | [] => true
  | x :: xs => smQ x && smQL xs
def smQK : List (PyData × PyData) → Bool
  | [] => true
  | (x, y) :: xs => smQ x && smQ y && smQK xs
end
mutual
theorem smQ_ok : ∀ d : PyData, smQ d = true → d.showable = true ∧ d.leavesShort 40 = true
  | .none, _ => ⟨rfl, rfl⟩
  | .bool _, _ => ⟨rfl, rfl⟩
  | .int i, h => by
    have h' : smallD (.int i) = true := by simpa only [smallD, smQ] using h
    exact small_ok _ h'
  | .str x, h => ⟨by simp only [PyData.showable], by simpa only [smQ, PyData.leavesShort] using h⟩
  | .list xs, h => by simpa only [PyData.showable, PyData.leavesShort] using smQ_okL xs (by simpa only [smQ] using h)
  | .tuple xs, h => by simpa only [PyData.showable, PyData.leavesShort] using smQ_okL xs (by simpa only [smQ] using h)
  | .dict ps, h => by simpa only [PyData.showable, PyData.leavesShort] using smQ_okK ps (by simpa only [smQ] using h)
theorem smQ_okL : ∀ xs : List PyData, smQL xs = true → PyData.showableAll xs = true ∧ PyData.leavesShortAll 40 xs = true
  | [], _ => ⟨rfl, rfl⟩
  | x :: xs, h => by
    have h' : smQ x = true ∧ smQL xs = true := by simpa only [smQL, Bool.and_eq_true] using h
    obtain ⟨a, b⟩ := smQ_ok x h'.1
    obtain ⟨c, d⟩ := smQ_okL xs h'.2
    exact ⟨by simp only [PyData.showableAll, a, c, Bool.and_true], by simp only [PyData.leavesShortAll, b, d, Bool.and_true]⟩
theorem smQ_okK : ∀ xs : List (PyData × PyData), smQK xs = true → PyData.showableKv xs = true ∧ PyData.leavesShortKv 40 xs = true
  | [], _ => ⟨rfl, rfl⟩
  | (x, y) :: xs, h => by
    have h' : (smQ x = true ∧ smQ y = true) ∧ smQK xs = true := by simpa only [smQK, Bool.and_eq_true] using h
    obtain ⟨a, b⟩ := smQ_ok x h'.1.1
    obtain ⟨a2, b2⟩ := smQ_ok y h'.1.2
    obtain ⟨c, d⟩ := smQ_okK xs h'.2
    exact ⟨by simp only [PyData.showableKv, a, a2, c, Bool.and_true], by simp only [PyData.leavesShortKv, b, b2, d, Bool.and_true]⟩
end
section
variable {b : Bool} {K : PySem.W.Frag} {H H' : Hp} {v : V} {a : Addr} {xs : List V}
theorem shq_of {d : PyData} (h : Dq b K H v d) (s : smQ d = true) (l : d.bulk ≤ 390000) (e : d.depth ≤ 60) : Shq K H v d.shown := by
  obtain ⟨h1, h2⟩ := smQ_ok d s
  have h3 := PyData.shown_le_bulk 40 (by decide) d h2
  exact ⟨b, d, h, h1, by rw [sizeLine_eq]; omega, e, rfl⟩
/-- a thing that may stand in a list whose text is asked: m its size -/
def ItQ (b : Bool) (K : PySem.W.Frag) (H : Hp) (m : Nat) (v : V) : Prop := ∃ d, Dq b K H v d ∧ smQ d = true ∧ d.bulk ≤ m ∧ d.depth ≤ 20
theorem ItQ.shq {m : Nat} (h : ItQ b K H m v) (l : m ≤ 390000) : ∃ z, Shq K H v z := let ⟨_, h1, h2, h3, h4⟩ := h; ⟨_, shq_of h1 h2 (by omega) (by omega)⟩
theorem itqs {m : Nat} : ∀ {xs : List V}, (∀ y ∈ xs, ItQ b K H m y) → ∃ ds, DqAll b K H xs ds ∧ smQL ds = true ∧ PyData.bulkAll ds ≤ (m + 1) * xs.length ∧ PyData.depthAll ds ≤ 20
  | [], _ => ⟨[], .nil, rfl, Nat.le_refl _, Nat.zero_le _⟩
  | y :: ys, h => by
    obtain ⟨d, h1, h2, h3, h4⟩ := h y List.mem_cons_self
    obtain ⟨ds, g1, g2, g3, g4⟩ := itqs fun z hz => h z (List.mem_cons_of_mem _ hz)
    refine ⟨d :: ds, .cons h1 g1, by simp only [smQL, h2, g2, Bool.and_true], ?_, ?_⟩
    · simp only [PyData.bulkAll, List.length_cons, Nat.mul_succ]
      omega
    · simp only [PyData.depthAll]
      omega
/-- two lists of the same things are told alike -/
theorem shq_lst2 {m : Nat} {c : Addr} (h : SqL K H a xs) (h2 : SqL K H c xs) (n1 : b = true → a ≠ sysModules) (n2 : b = true → c ≠ sysModules) (i : ∀ y ∈ xs, ItQ b K H m y) (l : (m + 1) * xs.length ≤ 390000) : ∃ z, Shq K H (.ref a) z ∧ Shq K H (.ref c) z := by
  obtain ⟨ds, g1, g2, g3, g4⟩ := itqs i
  exact ⟨_, shq_of (.lst n1 h g1) (by simpa only [smQ] using g2) (by simp only [PyData.bulk]; omega) (by simp only [PyData.depth]; omega),
    shq_of (.lst n2 h2 g1) (by simpa only [smQ] using g2) (by simp only [PyData.bulk]; omega) (by simp only [PyData.depth]; omega)⟩
theorem shq_tup2 {m : Nat} {c : Addr} (h : SqT K H a xs) (h2 : SqT K H c xs) (i : ∀ y ∈ xs, ItQ b K H m y) (l : (m + 1) * xs.length ≤ 390000) : ∃ z, Shq K H (.ref a) z ∧ Shq K H (.ref c) z := by
  obtain ⟨ds, g1, g2, g3, g4⟩ := itqs i
  exact ⟨_, shq_of (.tup h g1) (by simpa only [smQ] using g2) (by simp only [PyData.bulk]; omega) (by simp only [PyData.depth]; omega),
    shq_of (.tup h2 g1) (by simpa only [smQ] using g2) (by simp only [PyData.bulk]; omega) (by simp only [PyData.depth]; omega)⟩
/-- a list of things within a list -/
theorem itq_lst {m M : Nat} (h : SqL K H a xs) (n1 : b = true → a ≠ sysModules) (i : ∀ y ∈ xs, ∃ d, Dq b K H y d ∧ smQ d = true ∧ d.bulk ≤ m ∧ d.depth = 0) (l : (m + 1) * xs.length ≤ M) : ItQ b K H M (.ref a) := by
  have go : ∀ {xs : List V}, (∀ y ∈ xs, ∃ d, Dq b K H y d ∧ smQ d = true ∧ d.bulk ≤ m ∧ d.depth = 0) → ∃ ds, DqAll b K H xs ds ∧ smQL ds = true ∧ PyData.bulkAll ds ≤ (m + 1) * xs.length ∧ PyData.depthAll ds = 0 := by
    intro xs
    induction xs with
    | nil => exact fun _ => ⟨[], .nil, rfl, Nat.le_refl _, rfl⟩
    | cons y ys ih =>
      intro h
      obtain ⟨d, h1, h2, h3, h4⟩ := h y List.mem_cons_self
      obtain ⟨ds, g1, g2, g3, g4⟩ := ih fun z hz => h z (List.mem_cons_of_mem _ hz)
      refine ⟨d :: ds, .cons h1 g1, by simp only [smQL, h2, g2, Bool.and_true], ?_, ?_⟩
      · simp only [PyData.bulkAll, List.length_cons, Nat.mul_succ]
        omega
      · simp only [PyData.depthAll, h4, g4]
        rfl
  obtain ⟨ds, g1, g2, g3, g4⟩ := go i
  exact ⟨_, .lst n1 h g1, by simpa only [smQ] using g2, by simp only [PyData.bulk]; omega, by simp only [PyData.depth, g4]; omega⟩
theorem dqS (h : smS v = true) : Dq b K H v (datS v) ∧ smQ (datS v) = true ∧ (datS v).bulk ≤ 100 ∧ (datS v).depth = 0 := by
  obtain ⟨h1, h2, h3, h4⟩ := datS_ok (K := K) (H := H) h
  refine ⟨?_, ?_, h3, h4⟩
  · cases v with
    | non => exact .non
    | bl b => exact .bl b
    | int i => exact .int i
    | str z => exact .str z
    | _ => exact nomatch h
  · cases v with
    | non => exact rfl
    | bl b => exact rfl
    | int i => simpa only [smallD, smQ, datS] using h2
    | str z => simpa only [smallD, smQ, datS] using h2
    | _ => exact nomatch h
theorem itq_sc (h : smS v = true) : ItQ b K H 100 v := let ⟨h1, h2, h3, h4⟩ := dqS h; ⟨_, h1, h2, h3, by omega⟩
theorem itq_int {i : Int} (h : i.natAbs < 10 ^ 38) : ItQ b K H 0 (.int i) := ⟨.int i, .int i, by simpa only [smQ, decide_eq_true_eq] using h, Nat.le_refl _, by simp only [PyData.depth]; decide⟩
theorem ItQ.mono {m M : Nat} (h : ItQ b K H m v) (l : m ≤ M) : ItQ b K H M v := let ⟨d, h1, h2, h3, h4⟩ := h; ⟨d, h1, h2, by omega, h4⟩
theorem shq_sc (h : smS v = true) : Shq K H v (datS v).shown := let ⟨h1, h2, h3, h4⟩ := dqS (b := false) h; shq_of h1 h2 (by omega) (by omega)
end
/-! new lists and dicts stand where no dict of modules does -/
def NewLB (xs : List V) (H : Hp) (Q : VK) : Prop := xs.length ≤ sizeLine ∧ ∀ p, H p = none → p ≠ sysModules → Q (.ref p) (upd H p (.lst xs))
def tLstB (t : TA) : TE := fun σ H Q => t σ H fun xs H1 => NewLB xs H1 Q
section
variable {X : Cx} {es : List Expr} {t : TA} {pos : Pos}
theorem pe_lstB (h : PA X es t) : PE X (.List es pos) (tLstB t) := by
  refine ⟨fun pins s σ H Q I hq => ?_⟩
  refine wpAny_List_spliced (thn (h.run pos pins s σ H _ I hq) fun us s1 ⟨xs, H1, I1, r, z, q⟩ => ⟨by rw [← r.length]; exact z, ?_⟩)
  have hf : H1 s1.heap.objs.size = none := I1.hok.fresh (Nat.le_refl _)
  refine ⟨.ref s1.heap.objs.size, upd H1 s1.heap.objs.size (.lst xs), I1.laid (t' := s1.toks) (fun b u e => Heap.get?_push_of_some _ e) (Nat.le_refl _) ?_, rfl, q _ hf (Nat.ne_of_gt I1.big)⟩
  exact ⟨z, us, 0, r, Heap.get?_push_size _ rfl⟩
theorem r_lstB {σ : L2.St} {H : Hp} {Q : VK} (q : t σ H fun xs H1 => NewLB xs H1 Q) : tLstB t σ H Q := q
theorem newLB {xs : List V} {H : Hp} {Q : VK} (q : ∀ p H', H p = none → p ≠ sysModules → Same H H' → H' p = some (.lst xs) → Q (.ref p) H') (hl : xs.length ≤ 10000 := by exact Nat.le_of_ble_eq_true rfl) : NewLB xs H Q :=
  ⟨Nat.le_trans hl (by decide), fun p hp ns => q p _ hp ns (same_upd hp) upd_same⟩
end
end Bk

namespace Bk
open PySem PySem.Spec PyProof.Rows L2
/-! ## 26. isinstance of what an except suite holds -/
def rIsH (K : PySem.W.Frag) (a : Addr) (cls : Value) (d : Option Addr) (C : Addr) : List V → Hp → VK → Prop := fun xs H Q => ∃ (c : V) (u : Value) (b : Bool) (dd : Addr) (fs : List (Str × V)), xs = [.ref a, c] ∧ cls = .ref C ∧ d = some dd ∧ H dd = some (.xd fs) ∧ ClsV c u ∧ PySem.W.kitOne K (.ref C) u = some b ∧ Q (.bl b) H
def rIsH2 (K : PySem.W.Frag) (a : Addr) (cls : Value) (d : Option Addr) (C : Addr) : List V → Hp → VK → Prop := fun xs H Q => ∃ (tp : Addr) (cs : List V) (us : List Value) (b : Bool) (dd : Addr) (fs : List (Str × V)), xs = [.ref a, .ref tp] ∧ cls = .ref C ∧ d = some dd ∧ H dd = some (.xd fs) ∧ H tp = some (.tup cs) ∧ Paired ClsV cs us ∧ PySem.W.kitAny K (.ref C) us = some b ∧ Q (.bl b) H
section
variable {X : Cx} {a C : Addr} {oe : Obj} {cls : Value} {d : Option Addr} {pn : List (Addr × Obj)}
theorem held_inst {pins : List (Addr × Obj)} {σ : L2.St} {H : Hp} {s : Shared} {dd : Addr} {fs : List (Str × V)} (I : Inv (X.suite a ((a, oe) :: pn)) pins σ H s) (hz : Zc (.ref C) (some dd) oe) (hf : ∃ vs, oe.data = .fields vs) (ea : H dd = some (.xd fs)) :
    ∃ od, PySem.W.InstAt s.heap a oe C (some od) := by
  obtain ⟨ha, _⟩ := I.pin (a, oe) (List.mem_append_left _ List.mem_cons_self)
  obtain ⟨vs, hd⟩ := hf
  have hx : ObjOk X.prog X.w H s.heap dd (.xd fs) := I.hok dd _ ea
  obtain ⟨mA, hns, hr⟩ := hx
  obtain ⟨od, ho, hl⟩ := lookIn_ns hns
  exact ⟨od, ha, hz.1, by unfold PySem.W.notCls; rw [hd] <;> rfl, by rw [hz.2]; exact ho⟩
theorem call_isH (T : ExcC X.K C) (hz : Zc cls d oe) (hf : ∃ vs, oe.data = .fields vs) : CallR (X.suite a ((a, oe) :: pn)) (.builtin "isinstance") (rIsH X.K a cls d C) := by
  intro pins s σ H xs us Q I r h
  obtain ⟨c, u, b, dd, fs, rfl, ec, ed, ea, k, e, q⟩ := h
  subst ec
  subst ed
  obtain ⟨u1, u2, rfl, r1, r2⟩ := vals2 r
  have e2 := k.eq r2
  subst e2
  obtain rfl : u1 = Value.ref a := r1
  obtain ⟨od, J⟩ := held_inst I hz hf ea
  exact PySem.W.kia_one (PySem.W.bk_kitx (ox := oe) (od := some od) T.hg T.hk T.hs T.hd T.ha T.hn T.ht T.hm) I.kIn J e (fun z => nomatch z) fun tk => ⟨.bl b, H, I.tok tk, rfl, q⟩
theorem call_isH2 (T : ExcC X.K C) (hz : Zc cls d oe) (hf : ∃ vs, oe.data = .fields vs) : CallR (X.suite a ((a, oe) :: pn)) (.builtin "isinstance") (rIsH2 X.K a cls d C) := by
  intro pins s σ H xs us Q I r h
  obtain ⟨tp, cs, ws, b, dd, fs, rfl, ec, ed, ea, hT, k, e, q⟩ := h
  subst ec
  subst ed
  obtain ⟨u1, u2, rfl, r1, r2⟩ := vals2 r
  cases (show u2 = Value.ref tp from r2)
  obtain rfl : u1 = Value.ref a := r1
  obtain ⟨od, J⟩ := held_inst I hz hf ea
  obtain ⟨_, its, rv, o, h1, h2, n, h3⟩ := (show ObjOk X.prog X.w H s.heap tp (.tup cs) from I.hok tp _ hT)
  have e3 := ClsV.all k rv
  subst e3
  obtain ⟨oc, od2, dt, sl⟩ := o
  simp only at h2 h3
  subst h2 h3
  exact PySem.W.kia_tup (PySem.W.bk_kitx (ox := oe) (od := some od) T.hg T.hk T.hs T.hd T.ha T.hn T.ht T.hm) I.kIn J h1 e (fun z => nomatch z) fun tk => ⟨.bl b, H, I.tok tk, rfl, q⟩
end
section
variable {K : PySem.W.Frag} {a C : Addr} {cls : Value} {d : Option Addr} {H : Hp} {Q : VK}
theorem r_isH {dd : Addr} {fs : List (Str × V)} {D : Addr} {b : Bool} (ec : cls = .ref C) (ed : d = some dd) (ea : H dd = some (.xd fs)) (e : PySem.W.kitOne K (.ref C) (.ref D) = some b) (q : Q (.bl b) H) : rIsH K a cls d C [.ref a, .ref D] H Q :=
  ⟨_, _, b, dd, fs, rfl, ec, ed, ea, .own D, e, q⟩
theorem r_isHB {dd : Addr} {fs : List (Str × V)} {T : String} {b : Bool} (ec : cls = .ref C) (ed : d = some dd) (ea : H dd = some (.xd fs)) (e : PySem.W.kitOne K (.ref C) (.type T) = some b) (q : Q (.bl b) H) : rIsH K a cls d C [.ref a, .ty T] H Q :=
  ⟨_, _, b, dd, fs, rfl, ec, ed, ea, .ty T, e, q⟩
theorem r_isH2 {dd tp : Addr} {fs : List (Str × V)} {D1 D2 : Addr} {b c : Bool} (ec : cls = .ref C) (ed : d = some dd) (ea : H dd = some (.xd fs)) (et : H tp = some (.tup [.ref D1, .ref D2])) (e : PySem.W.kitOne K (.ref C) (.ref D1) = some b) (e2 : PySem.W.kitOne K (.ref C) (.ref D2) = some c) (q : Q (.bl (b || c)) H) : rIsH2 K a cls d C [.ref a, .ref tp] H Q := by
  refine ⟨tp, _, [.ref D1, .ref D2], _, dd, fs, rfl, ec, ed, ea, et, .cons (.own D1) (.cons (.own D2) .nil), ?_, q⟩
  cases b with
  | true => exact kitAny_cons e (fun z => nomatch z) (fun _ => rfl)
  | false => exact kitAny_cons e (fun _ => by cases c with
      | true => exact kitAny_cons e2 (fun z => nomatch z) (fun _ => rfl)
      | false => exact kitAny_cons e2 (fun _ => kitAny_nil) (fun z => nomatch z)) (fun z => nomatch z)
theorem kit_own {D : Addr} {b : Bool} (self : PySem.W.subIn K (.ref C) (.ref C) = some true) (hdct : PySem.W.hasDictIn K D = true) (ht : PySem.W.typeIn K (.ref D) = some (.type "type")) (h : PySem.W.subIn K (.ref C) (.ref D) = some b) : PySem.W.kitOne K (.ref C) (.ref D) = some b := by
  obtain ⟨cd, hc, _⟩ := PySem.W.any_some hdct
  unfold PySem.W.kitOne
  by_cases e : C = D
  · subst e
    rw [self] at h
    obtain rfl := Option.some.inj h
    rw [if_pos (beq_self_eq_true _)]
  · rw [if_neg (fun z => e (by injection (beq_iff_eq.mp z)))]
    show (if ((PySem.W.clsIn K D).isSome && PySem.W.typeIn K (.ref D) == some (.type "type")) = true then PySem.W.subIn K (.ref C) (.ref D) else none) = some b
    rw [if_pos (by rw [hc, ht]; rfl)]
    exact h
end
theorem call_list_ofK {X : Cx} {K : PySem.W.Frag} (h : X.K = K) : CallR X (.type "list") (fun xs H Q => ∃ p ys, xs = [.ref p] ∧ (SqL K H p ys ∨ SqT K H p ys) ∧ ∀ l, H l = none → Q (.ref l) (upd H l (.lst ys))) := by
  subst h
  exact call_list_of
theorem call_len_seqK {X : Cx} {K : PySem.W.Frag} (h : X.K = K) : CallR X (.builtin "len") (fun xs H Q => ∃ p ys, xs = [.ref p] ∧ (SqL K H p ys ∨ SqT K H p ys) ∧ Q (.int ys.length) H) := by
  subst h
  exact call_len_seq
/-- all that is asked of an own exception class -/
structure ExcA (K : PySem.W.Frag) (b : Bs) (nm : Str) (C f : Addr) : Prop where
  ox : OexT K b C
  i : PySem.W.findIn K (.ref C) "__init__" = some (some (.ref f))
  t : PySem.W.typeIn K (.ref f) = some (.type "function")
  nf : PySem.W.findIn K (.ref C) nm = some none
  xf : XfC K C
  xc : ExcC K C
/-! ## 26a. comprehensions that lay new things -/
section
variable {K : PySem.W.Frag} {σ : L2.St} {H : Hp} {Q : VK} {j : Nat} {vs : List Nat} {te tl : TE} {a : Addr} {xs : List V}
theorem lcNewR (n : Nat) (c : Nat → HO) (hl : n ≤ 1000) (hw : ∀ x, wipe ((wipe σ vs).set j (some x)) vs = wipe σ vs)
    (ht : ∀ (i : Nat) (H1 : Hp) (Q' : VK), i < n → Same H H1 → (∀ t H3, H1 t = none → Same H1 H3 → H3 t = some (c i) → Q' (.ref t) H3) → te ((wipe σ vs).set j (some (.int (0 + (i : Int))))) H1 Q')
    (q : ∀ D H' (ts : List Addr), H D = none → Same H H' → H' D = some (.lst (ts.map V.ref)) → ts.length = n → (∀ k t, ts[k]? = some t → H' t = some (c k)) → (D :: ts).Nodup → (∀ t ∈ ts, H t = none) → Q (.ref D) H') :
    tLc (iRng1 (tCons (tC (.int n)) tNil)) (gName j) tYes te vs σ H Q := by
  refine ⟨_, rfl, by omega, by omega, fun D hD => ?_⟩
  rw [Int.toNat_natCast]
  refine lc_new (g := gName j) (te := te) (vs := vs) (σ := σ) (Q := Q) walk_range c hD (by omega) (fun _ _ => trivial) (fun i x H1 H2 Q' R' hi sm y k => ?_) fun H' ts s e l all nd fr => q D H' ts hD s e l all nd fr
  obtain ⟨rfl, rfl⟩ := y
  refine ⟨hw _, r_yes ?_⟩
  exact ht i H2 Q' hi sm k
theorem lcNewL (c : Nat → HO) (hv : ∀ QQ : VK, QQ (.ref a) H → tl σ H QQ) (hs : SqL K H a xs) (hl : xs.length ≤ 10000) (hw : ∀ x, wipe ((wipe σ vs).set j (some x)) vs = wipe σ vs)
    (ht : ∀ (i : Nat) (y : V) (H1 : Hp) (Q' : VK), xs[i]? = some y → Same H H1 → (∀ t H3, H1 t = none → Same H1 H3 → H3 t = some (c i) → Q' (.ref t) H3) → te ((wipe σ vs).set j (some y)) H1 Q')
    (q : ∀ D H' (ts : List Addr), H D = none → Same H H' → H' D = some (.lst (ts.map V.ref)) → ts.length = xs.length → (∀ k t, ts[k]? = some t → H' t = some (c k)) → (D :: ts).Nodup → (∀ t ∈ ts, H t = none) → Q (.ref D) H') :
    tLc (iList K tl) (gName j) tYes te vs σ H Q := by
  refine hv _ ⟨a, rfl, ⟨xs, hs⟩, fun D hD => ?_⟩
  refine lc_new (g := gName j) (te := te) (vs := vs) (σ := σ) (Q := Q) walk_list c hD hl (fun _ s => s.seq hs) (fun i x H1 H2 Q' R' hi sm y k => ?_) fun H' ts s e l all nd fr => q D H' ts hD s e l all nd fr
  obtain ⟨rfl, hx⟩ := y
  exact ⟨hw _, r_yes (ht i x H2 Q' hx sm k)⟩
end
/-! ## 27. a count -/
def countV (x : V) : Bool := match x with
  | .int i => decide (0 ≤ i)
  | _ => false
/-- a thing of which isinstance(.., int) is known -/
def WC (K : PySem.W.Frag) (H : Hp) (x : V) : Prop := (∃ i, x = .int i) ∨ (∃ b, x = .bl b) ∨ (IsA K H x "int" false ∧ (∀ l h, wholeV x l h = false) ∧ countV x = false)
theorem WC.wd {K : PySem.W.Frag} {H : Hp} {x : V} (h : WC K H x) : WD K H x := by
  rcases h with h | h | ⟨h1, h2, _⟩
  · exact .inl h
  · exact .inr (.inl h)
  · exact .inr (.inr ⟨h1, h2⟩)
def spCount (K : PySem.W.Frag) : Sp := fun vs H Q _ => ∃ x : V, vs = [x] ∧ WC K H x ∧ Q (.bl (countV x)) H
def spCheckN (K : PySem.W.Frag) (C : Addr) : Sp := fun vs H Q E => ∃ (x : V) (lo hi : Int), vs = [x, .int lo, .int hi] ∧ WD K H x ∧ ((wholeV x lo hi = true ∧ Q .non H) ∨ (wholeV x lo hi = false ∧ Refuse C x H E))
def spCheckC (K : PySem.W.Frag) (C : Addr) : Sp := fun vs H Q E => ∃ x : V, vs = [x] ∧ WC K H x ∧ ((countV x = true ∧ Q .non H) ∨ (countV x = false ∧ Refuse C x H E))
theorem whole_int {i lo hi : Int} (h0 : lo ≤ i) (h1 : i ≤ hi) : wholeV (.int i) lo hi = true := by
  show (decide (lo ≤ i) && decide (i ≤ hi)) = true
  rw [decide_eq_true h0, decide_eq_true h1]
  rfl
theorem count_int {i : Int} (h0 : 0 ≤ i) : countV (.int i) = true := decide_eq_true h0
end Bk

namespace Bk
open PySem PySem.Spec PyProof.Rows L2
/-! ## 28. return [tag, e.f, isinstance(e, G) and not isinstance(e, (B1, B2))] -/
def tHit (K : PySem.W.Frag) (i : Nat) (C G B1 B2 : Addr) (tag nm : Str) (a : Addr) (cls : Value) (d : Option Addr) : TS :=
  tRet (tLstB (tCons (tC (.str tag)) (tCons (tXf a cls d C nm (tVar i)) (tCons (tAndV (tCB (rIsH K a cls d C) (tCons (tVar i) (tCons (tC (.ref G)) tNil)))
    (tNotV (tCB (rIsH2 K a cls d C) (tCons (tVar i) (tCons (tTup (tCons (tC (.ref B1)) (tCons (tC (.ref B2)) tNil))) tNil))))) tNil))))
theorem caught_lst {K : PySem.W.Frag} {C d G B1 B2 : Addr} {i : Nat} {σ : L2.St} {H' : Hp} {D : Ends} {l : List ClA} {v : V} {tag nm : Str} (e : PySem.W.exmOne K (.ref C) (.ref C) = some true) (hi : i < σ.length) (ed : H' d = some (.xd [(nm, v)]))
    (kG : PySem.W.kitOne K (.ref C) (.ref G) = some true) (k1 : PySem.W.kitOne K (.ref C) (.ref B1) = some false) (k2 : PySem.W.kitOne K (.ref C) (.ref B2) = some false)
    (q : ∀ p H2, H' p = none → p ≠ sysModules → Same H' H2 → H2 p = some (.lst [.str tag, v, .bl true]) → D.rt (.ref p) H2) :
    wAM K D ((.ref C, i, fun a cls d => tHit K i C G B1 B2 tag nm a cls d) :: l) (.ref C) (some d) σ H' := by
  refine w_hit e fun a na => ?_
  show tHit K i C G B1 B2 tag nm a (.ref C) (some d) (offI i D) (σ.set i (some (.ref a))) H'
  have hv : (σ.set i (some (V.ref a)))[i]? = some (some (.ref a)) := List.getElem?_set_self hi
  refine r_ret (r_lstB (r_cons (r_c (r_cons ?_))))
  refine ⟨.ref a, hv, rfl, rfl, d, _, v, rfl, ed, by rw [List.lookup_cons, beq_self_eq_true], ?_⟩
  refine r_cons (r_andV (r_cb (r_cons (r_var hv (r_cons (r_c (r_nil (r_isH rfl rfl ed kG ⟨true, rfl, iteT ?_⟩))))))))
  refine r_notV (r_cb (r_cons (r_var hv (r_cons (r_tup (r_cons (r_c (r_cons (r_c (r_nil (newT fun tp H2 nt st et => ?_)))))))))))
  refine r_nil (r_isH2 rfl rfl (st _ _ ed) et k1 k2 ⟨_, rfl, r_nil (newLB fun p H3 np ns s3 e3 => q p H3 (st.free np) ns (st.trans s3) e3)⟩)
theorem r_disp1 {σ : L2.St} {H : Hp} {Q : VK} {k : Key} {v : V} (q : ∀ p H', H p = none → Same H H' → H' p = some (.dK [(k, v)]) → Q (.ref p) H') : tDisp [(tC (kV k), tC v)] σ H Q := by
  intro p np
  refine ⟨upd_same, [(k, v)], rfl, (by show 1 ≤ 15; decide), ?_⟩
  refine q p _ np (fun b o e => ?_) upd_same
  rw [upd_ne (ne_of_none e np), upd_ne (ne_of_none e np)]
  exact e
/-! ## 29. things of a known depth -/
section
variable {b : Bool} {K : PySem.W.Frag} {H H' : Hp} {v : V} {a : Addr} {xs : List V}
def ItD (b : Bool) (K : PySem.W.Frag) (H : Hp) (m k : Nat) (v : V) : Prop := ∃ d, Dq b K H v d ∧ smQ d = true ∧ d.bulk ≤ m ∧ d.depth ≤ k
theorem ItD.q {m k : Nat} (h : ItD b K H m k v) (l : k ≤ 20) : ItQ b K H m v := let ⟨d, h1, h2, h3, h4⟩ := h; ⟨d, h1, h2, h3, by omega⟩
theorem ItD.mono {m k M L : Nat} (h : ItD b K H m k v) (l : m ≤ M) (l2 : k ≤ L) : ItD b K H M L v := let ⟨d, h1, h2, h3, h4⟩ := h; ⟨d, h1, h2, by omega, by omega⟩
theorem itds {m k : Nat} : ∀ {xs : List V}, (∀ y ∈ xs, ItD b K H m k y) → ∃ ds, DqAll b K H xs ds ∧ smQL ds = true ∧ PyData.bulkAll ds ≤ (m + 1) * xs.length ∧ PyData.depthAll ds ≤ k
  | [], _ => ⟨[], .nil, rfl, Nat.le_refl _, Nat.zero_le _⟩
  | y :: ys, h => by
    obtain ⟨d, h1, h2, h3, h4⟩ := h y List.mem_cons_self
    obtain ⟨ds, g1, g2, g3, g4⟩ := itds fun z hz => h z (List.mem_cons_of_mem _ hz)
    refine ⟨d :: ds, .cons h1 g1, by simp only [smQL, h2, g2, Bool.and_true], ?_, ?_⟩
    · simp only [PyData.bulkAll, List.length_cons, Nat.mul_succ]
      omega
    · simp only [PyData.depthAll]
      omega
theorem itd_lst {m k M : Nat} (h : SqL K H a xs) (n1 : b = true → a ≠ sysModules) (i : ∀ y ∈ xs, ItD b K H m k y) (l : (m + 1) * xs.length ≤ M) : ItD b K H M (k + 1) (.ref a) := by
  obtain ⟨ds, g1, g2, g3, g4⟩ := itds i
  exact ⟨_, .lst n1 h g1, by simpa only [smQ] using g2, by simp only [PyData.bulk]; omega, by simp only [PyData.depth]; omega⟩
theorem itd_tup {m k M : Nat} (h : SqT K H a xs) (i : ∀ y ∈ xs, ItD b K H m k y) (l : (m + 1) * xs.length ≤ M) : ItD b K H M (k + 1) (.ref a) := by
  obtain ⟨ds, g1, g2, g3, g4⟩ := itds i
  exact ⟨_, .tup h g1, by simpa only [smQ] using g2, by simp only [PyData.bulk]; omega, by simp only [PyData.depth]; omega⟩
theorem itd_sc (h : smS v = true) : ItD b K H 100 0 v := let ⟨h1, h2, h3, h4⟩ := dqS h; ⟨_, h1, h2, h3, by omega⟩
/-- a dict of scalars, by keys that are scalars -/
theorem itd_dK {kvs : List (Key × V)} (e : H a = some (.dK kvs)) (h : ∀ q ∈ kvs, smS (kV q.1) = true ∧ smS q.2 = true) (l : kvs.length ≤ 5) : ItD true K H 2000 1 (.ref a) := by
  have go : ∀ {l : List (Key × V)}, (∀ q ∈ l, smS (kV q.1) = true ∧ smS q.2 = true) → ∃ ps : List (PyData × PyData), DqAll true K H (l.map fun q => kV q.1) (ps.map (·.1)) ∧ DqAll true K H (l.map (·.2)) (ps.map (·.2)) ∧ smQK ps = true ∧ PyData.bulkKv ps ≤ 202 * l.length ∧ PyData.depthKv ps = 0 := by
    intro l
    induction l with
    | nil => exact fun _ => ⟨[], .nil, .nil, rfl, Nat.le_refl _, rfl⟩
    | cons q r ih =>
      intro h
      obtain ⟨h1, h2⟩ := h q List.mem_cons_self
      obtain ⟨a1, a2, a3, a4⟩ := dqS (b := true) (K := K) (H := H) h1
      obtain ⟨b1, b2, b3, b4⟩ := dqS (b := true) (K := K) (H := H) h2
      obtain ⟨ps, g1, g2, g3, g4, g5⟩ := ih fun z hz => h z (List.mem_cons_of_mem _ hz)
      refine ⟨(datS (kV q.1), datS q.2) :: ps, .cons a1 g1, .cons b1 g2, by simp only [smQK, a2, b2, g3, Bool.and_true], ?_, ?_⟩
      · simp only [PyData.bulkKv, List.length_cons]
        omega
      · simp only [PyData.depthKv, a4, b4, g5]
        rfl
  obtain ⟨ps, g1, g2, g3, g4, g5⟩ := go h
  exact ⟨.dict ps, .dK rfl e g1 g2, by simpa only [smQ] using g3, by simp only [PyData.bulk]; omega, by simp only [PyData.depth, g5]; omega⟩
end
section
variable {b : Bool} {K : PySem.W.Frag} {H H' : Hp} {v : V} {a : Addr} {xs : List V}
theorem dqSs : ∀ {xs : List V}, xs.all smS = true → DqAll b K H xs (xs.map datS) ∧ smQL (xs.map datS) = true ∧ PyData.bulkAll (xs.map datS) ≤ 101 * xs.length ∧ PyData.depthAll (xs.map datS) = 0
  | [], _ => ⟨.nil, rfl, Nat.le_refl _, rfl⟩
  | y :: ys, h => by
    rw [List.all_cons, Bool.and_eq_true] at h
    obtain ⟨h1, h2, h3, h4⟩ := dqS (b := b) (K := K) (H := H) h.1
    obtain ⟨g1, g2, g3, g4⟩ := dqSs h.2
    rw [List.map_cons]
    refine ⟨.cons h1 g1, by simp only [smQL, h2, g2, Bool.and_true], ?_, ?_⟩
    · simp only [PyData.bulkAll, List.length_cons]
      omega
    · simp only [PyData.depthAll, h4, g4]
      rfl
/-- a list of scalars: its text hangs on them alone -/
theorem shq_lsc (h : SqL K H a xs) (i : xs.all smS = true) (l : xs.length ≤ 3000) : Shq K H (.ref a) (PyData.list (xs.map datS)).shown := by
  obtain ⟨g1, g2, g3, g4⟩ := dqSs (b := false) (K := K) (H := H) i
  exact shq_of (b := false) (.lst (fun z => Bool.noConfusion z) h g1) (by simpa only [smQ] using g2) (by simp only [PyData.bulk]; omega) (by simp only [PyData.depth]; omega)
theorem shq_tsc (h : SqT K H a xs) (i : xs.all smS = true) (l : xs.length ≤ 3000) : Shq K H (.ref a) (PyData.tuple (xs.map datS)).shown := by
  obtain ⟨g1, g2, g3, g4⟩ := dqSs (b := false) (K := K) (H := H) i
  exact shq_of (b := false) (.tup h g1) (by simpa only [smQ] using g2) (by simp only [PyData.bulk]; omega) (by simp only [PyData.depth]; omega)
end
/-! ## 30. odd things -/
/-- a thing that is no number of any use; fp: its lists; m: how many things a list of it has at most -/
inductive OddV (H : Hp) (m : Nat) : List Addr → V → Prop
  | sc {v : V} (h : smS v = true) (hw : ∀ lo hi, 0 ≤ lo → wholeV v lo hi = false) (hc : countV v = false) : OddV H m [] v
  | tup {a : Addr} {xs : List V} (e : H a = some (.tup xs)) (h : ∀ y ∈ xs, smS y = true) (l : xs.length ≤ 5) : OddV H m [] (.ref a)
  | dK {a : Addr} {kvs : List (Key × V)} (e : H a = some (.dK kvs)) (h : ∀ q ∈ kvs, smS (kV q.1) = true ∧ smS q.2 = true) (l : kvs.length ≤ 5) : OddV H m [] (.ref a)
  | lst {a : Addr} {xs : List V} {fp : List Addr} (e : H a = some (.lst xs)) (ns : a ≠ sysModules) (l : xs.length ≤ m) (h : ∀ y ∈ xs, smS y = true ∨ ∃ c ∈ fp, y = .ref c) (na : a ∉ fp) (hf : ∀ c ∈ fp, c ≠ sysModules ∧ ∃ ys, H c = some (.lst ys) ∧ (∀ y ∈ ys, smS y = true) ∧ ys.length ≤ 5) : OddV H m (a :: fp) (.ref a)
section
variable {K : PySem.W.Frag} {H H' : Hp} {m n : Nat} {fp : List Addr} {v : V} {bx : Addr}
/-- what may change -/
theorem OddV.keep (o : OddV H m fp v) (k : ∀ b ∈ fp, H' b = H b) (t : ∀ b xs, H b = some (.tup xs) → H' b = some (.tup xs)) (d : ∀ b kvs, H b = some (.dK kvs) → H' b = some (.dK kvs)) (l : m ≤ n) : OddV H' n fp v := by
  cases o with
  | sc h hw hc => exact .sc h hw hc
  | tup e h l => exact .tup (t _ _ e) h l
  | dK e h l => exact .dK (d _ _ e) h l
  | lst e ns l1 h na hf =>
    exact .lst (by rw [k _ List.mem_cons_self]; exact e) ns (by omega) h na fun c hc => by
      obtain ⟨h1, ys, h2, h3⟩ := hf c hc
      exact ⟨h1, ys, by rw [k _ (List.mem_cons_of_mem _ hc)]; exact h2, h3⟩
/-- the lists among them stand -/
theorem OddV.there (o : OddV H m fp v) : ∀ b ∈ fp, ∃ xs, H b = some (.lst xs) := by
  cases o with
  | sc h hw hc => exact fun b z => nomatch z
  | tup e h l => exact fun b z => nomatch z
  | dK e h l => exact fun b z => nomatch z
  | lst e ns l1 h na hf =>
    intro b hb
    rcases List.mem_cons.mp hb with z | z
    · exact ⟨_, by rw [z]; exact e⟩
    · obtain ⟨_, ys, h2, _⟩ := hf b z
      exact ⟨ys, h2⟩
theorem OddV.same (o : OddV H m fp v) (s : Same H H') : OddV H' m fp v := o.keep (fun b hb => by
    obtain ⟨xs, e⟩ := o.there b hb
    rw [e]; exact s _ _ e) (fun b xs e => s _ _ e) (fun b kvs e => s _ _ e) (Nat.le_refl _)
/-- what stands at bx, a list that is none of these, may change -/
theorem OddV.but {xs : List V} (o : OddV H m fp v) (eb : H bx = some (.lst xs)) (n : bx ∉ fp) (s : But bx H H') : OddV H' m fp v := o.keep (fun b hb => by
    obtain ⟨xs, e⟩ := o.there b hb
    rw [e]; exact s _ _ (fun z => n (z ▸ hb)) e) (fun b xs e => s _ _ (fun z => by rw [z, eb] at e; exact nomatch e) e) (fun b kvs e => s _ _ (fun z => by rw [z, eb] at e; exact nomatch e) e) (Nat.le_refl _)
theorem OddV.wc (o : OddV H m fp v) : WC K H v ∧ countV v = false ∧ ∀ lo hi, 0 ≤ lo → wholeV v lo hi = false := by
  cases o with
  | @sc v h hw hc =>
    refine ⟨?_, hc, hw⟩
    cases v with
    | int i => exact .inl ⟨i, rfl⟩
    | bl b => exact .inr (.inl ⟨b, rfl⟩)
    | non => exact .inr (.inr ⟨isa_non, fun _ _ => rfl, rfl⟩)
    | str z => exact .inr (.inr ⟨isa_str, fun _ _ => rfl, rfl⟩)
    | _ => exact nomatch h
  | tup e h l => exact ⟨.inr (.inr ⟨isa_tup e, fun _ _ => rfl, rfl⟩), rfl, fun _ _ _ => rfl⟩
  | dK e h l => exact ⟨.inr (.inr ⟨isa_dK e, fun _ _ => rfl, rfl⟩), rfl, fun _ _ _ => rfl⟩
  | lst e ns l1 h na hf => exact ⟨.inr (.inr ⟨isa_lst e, fun _ _ => rfl, rfl⟩), rfl, fun _ _ _ => rfl⟩
theorem OddV.it (o : OddV H m fp v) : ItQ true K H (2000 + 700 * m) v := by
  cases o with
  | sc h hw hc => exact ((itd_sc h).q (by decide)).mono (by omega)
  | tup e h l => exact ((itd_tup (m := 100) (k := 0) (M := 2000) (sqT e) (fun y hy => itd_sc (h y hy)) (by omega)).q (by decide)).mono (by omega)
  | dK e h l => exact ((itd_dK e h l).q (by decide)).mono (by omega)
  | lst e ns l1 h na hf =>
    refine ((itd_lst (m := 600) (k := 1) (M := 2000 + 700 * m) (sqL e) (fun _ => ns) (fun y hy => ?_) (by
      have := Nat.mul_le_mul_left 601 l1
      omega)).q (by decide)).mono (by omega)
    rcases h y hy with z | ⟨c, hc, rfl⟩
    · exact (itd_sc z).mono (by omega) (by omega)
    · obtain ⟨n1, ys, h2, h3, h4⟩ := hf c hc
      exact (itd_lst (m := 100) (k := 0) (M := 600) (sqL h2) (fun _ => n1) (fun y hy => itd_sc (h3 y hy)) (by omega)).mono (by omega) (by omega)
/-- a list among them grows by a scalar -/
theorem OddV.grow {a : Addr} {xs : List V} {y : V} (o : OddV H m fp v) (ea : H a = some (.lst xs)) (hy : smS y = true) (h : v = .ref a ∨ a ∉ fp) : OddV (upd H a (.lst (xs ++ [y]))) (m + 1) fp v := by
  rcases h with rfl | h
  · cases o with
    | sc h hw hc => exact nomatch h
    | tup e h l => rw [ea] at e; exact nomatch e
    | dK e h l => rw [ea] at e; exact nomatch e
    | @lst _ xs2 fp2 e ns l1 h na hf =>
      rw [ea] at e
      obtain rfl : xs = xs2 := by injection (Option.some.inj e)
      refine .lst upd_same ns (by rw [List.length_append]; exact Nat.succ_le_succ l1) (fun z hz => ?_) na fun c hc => ?_
      · rcases List.mem_append.mp hz with z1 | z1
        · exact h z z1
        · rw [List.mem_singleton.mp z1]; exact .inl hy
      · obtain ⟨n1, ys, h2, h3⟩ := hf c hc
        exact ⟨n1, ys, by rw [upd_ne (fun q => na (by rw [← q]; exact hc))]; exact h2, h3⟩
  · refine o.keep (fun b hb => upd_ne fun z => h (z ▸ hb)) (fun b ys e => ?_) (fun b kvs e => ?_) (Nat.le_succ _)
    · rw [upd_ne (fun z => by rw [z, ea] at e; exact nomatch e)]; exact e
    · rw [upd_ne (fun z => by rw [z, ea] at e; exact nomatch e)]; exact e
/-- isinstance(v, list) -/
theorem OddV.isl (o : OddV H m fp v) : (IsA K H v "list" false ∧ fp = []) ∨ ∃ a xs, v = .ref a ∧ H a = some (.lst xs) ∧ a ∈ fp ∧ xs.length ≤ m := by
  cases o with
  | @sc v h hw hc =>
    refine .inl ⟨?_, rfl⟩
    cases v with
    | int i => exact isa_int
    | bl b => exact isa_bl
    | non => exact isa_non
    | str z => exact isa_str
    | _ => exact nomatch h
  | tup e h l => exact .inl ⟨isa_tup e, rfl⟩
  | dK e h l => exact .inl ⟨isa_dK e, rfl⟩
  | lst e ns l1 h na hf => exact .inr ⟨_, _, rfl, e, List.mem_cons_self, l1⟩
end
end Bk

namespace Bk
open PySem PySem.Spec PySem.Calls PyProof.Rows L2
/-! ## 31. own exceptions made with keywords, as values -/
section
variable {M : Model} {prog : Program} {w : World} {A : Around} {E : Value → Shared → Prop} {R : Result → Shared → Prop} {h : Heap} {g : Array GenState} {d : Drawn} {t : Nat} {os : OsState}
variable {nm q : Str} {C N : Addr} {bs bm bmB : List Value} {hdct : Bool} {sn : List Str} {sub : List Value} {ab : Bool} {col : Option Bool} {dd : Option Addr} {k0 k1 k2 k3 k5 : Option Value} {B newId i0 IB initId : String} {rest : List Value}
variable {kw : List (Str × Value)}
theorem checkTypeK {Q : Unit → Shared → Prop} (hC : h.get? C = some (excClassObj nm q C N bs bm hdct sn sub ab col dd k0 k1 k2 k3 k5 newId)) (hq : Q () ⟨h, g, d, t, os⟩) : wpAny M A (checkBuiltinCall "type.__call__" ⟨.ref C :: rest, kw⟩) Q E ⟨h, g, d, t, os⟩ := by
  have f3 := tc_sub
  have hT : (⟨h, g, d, t, os⟩ : Shared).TypeIs (.ref C) "type" := ⟨_, hC, rfl⟩
  simp only [checkBuiltinCall, tc_kind, tc_split]
  repeat (any_goals (first | assumption | with_reducible refine wpAny_loadPart_at hC ?_ | with_reducible refine wpAny_onRaise ?_ | with_reducible refine wpAny_map ?_ | wp_step))
theorem checkNewK (F : ExcBaseFacts B newId i0 bmB) (hB : bm.contains (.type B) = true) {Q : Unit → Shared → Prop} (hC : h.get? C = some (excClassObj nm q C N bs bm hdct sn sub ab col dd k0 k1 k2 k3 k5 newId)) (hq : Q () ⟨h, g, d, t, os⟩) :
    wpAny M A (checkBuiltinCall newId ⟨.ref C :: rest, kw⟩) Q E ⟨h, g, d, t, os⟩ := by
  have cB : (Value.ref C :: bm).contains (.type B) = true := by rw [List.contains_cons, hB, Bool.or_true]
  have star := F.noStar
  simp only [checkBuiltinCall, F.newKind, F.newSplit, F.newRow]
  repeat (first | refine wpAny_loadPart_at hC ?_ | (refine wpAny_isSubtype_exc hC ?_; rw [cB]) | refine wpAny_staticBase_exc hC ?_ | refine wpAny_madeBy_exc hC ?_ | simp only [bne_self_eq_false, Bool.false_eq_true, if_false] | wp_step)
  exact hq
theorem newK (F : ExcBaseFacts B newId i0 bmB) (hB : bm.contains (.type B) = true) (hA : bm.contains (.type "AttributeError") = false) (hN : bm.contains (.type "NameError") = false) (hC : h.get? C = some (excClassObj nm q C N bs bm hdct sn sub ab col dd k0 k1 k2 k3 k5 newId)) (hrest : rest.length ≤ sizeLine)
    (hq : R (.ok (.ret (.ref (h.objs.size + 1)))) ⟨(h.push (PySem.W.kdv_tup rest)).push (PySem.HandSPX.excO C h.objs.size), g, d, t, os⟩) : codeAny (model prog w) A (.builtin newId ⟨.ref C :: rest, kw⟩) R ⟨h, g, d, t, os⟩ := by
  have hends := F.ends
  have cB : (Value.ref C :: bm).contains (.type B) = true := by rw [List.contains_cons, hB, Bool.or_true]
  have cA : (Value.ref C :: bm).contains (.type "AttributeError") = false := by rw [List.contains_cons, hA]; rfl
  have cN : (Value.ref C :: bm).contains (.type "NameError") = false := by rw [List.contains_cons, hN]; rfl
  refine codeAny_builtinAt F.entry ?_
  unfold Builtin.«BaseException.__new__»
  refine PySem.wpAt_bind ?_
  show PySem.wpAt _ _ _ (stack >>= _) _ _ _
  refine PySem.wpAt_bind (PySem.wpAt_stack fun p below => PySem.wpAt_of_wpAny ?_)
  wp_walk
  refine PySem.wpAt_of_wpAny ?_
  rw [F.owner]
  repeat (first | with_reducible refine wpAny_madeHere_exc F.canon hC ?_ | with_reducible refine wpAny_loadPart_at hC ?_ | (with_reducible refine wpAny_isSubtype_exc hC ?_; first | rw [cB] | rw [cA] | rw [cN]) | wp_step)
  show R _ _
  rw [Heap.size_push]
  exact hq
theorem typeCallK (F : ExcBaseFacts B newId i0 bmB) (hB : bm.contains (.type B) = true) (hA : bm.contains (.type "AttributeError") = false) (hN : bm.contains (.type "NameError") = false) {fI : Addr} {Q : Fin → Shared → Prop} (hC : h.get? C = some (excClassObj nm q C N bs bm hdct sn sub ab col dd k0 k1 k2 k3 k5 newId))
    (hi : PySem.W.Looks (model prog w) h (typeLookup (.ref C) "__init__") (some (.ref fI))) (hb : ∀ self, PySem.W.Looks (model prog w) h (bindSpecial (.ref fI) self) (.ref fI, [self])) (hrest : rest.length ≤ sizeLine)
    (hq : codeAny (model prog w) A (.call (.ref fI) ⟨.ref (h.objs.size + 1) :: rest, kw⟩) (fun r s' => match r with | .ok (.ret v) => v = .none ∧ Q (.done (.ret (.ref (h.objs.size + 1)))) s' | .ok _ => False | .error e => E e s') ⟨(h.push (PySem.W.kdv_tup rest)).push (PySem.HandSPX.excO C h.objs.size), g, d, t, os⟩) :
    wpAny (model prog w) A (Builtin.«type.__call__» ⟨.ref C :: rest, kw⟩) Q E ⟨h, g, d, t, os⟩ := by
  repeat (first | with_reducible refine wpAny_loadPart_at hC ?_ | with_reducible refine wpAny_madeBy_exc hC ?_ | wp_step)
  refine codeAny_call_builtin_code (Code.quiet_builtin _ F.quiet) (checkNewK F hB hC ?_)
  refine newK F hB hA hN hC hrest ?_
  show wpAny _ _ _ _ _ _
  have k : ∀ c o, h.get? c = some o → ((h.push (PySem.W.kdv_tup rest)).push (PySem.HandSPX.excO C h.objs.size)).get? c = some o := fun c o e => Heap.get?_push_of_some _ (Heap.get?_push_of_some _ e)
  have hC1 := k _ _ hC
  have hget : ((h.push (PySem.W.kdv_tup rest)).push (PySem.HandSPX.excO C h.objs.size)).get? (h.objs.size + 1) = some (PySem.HandSPX.excO C h.objs.size) := by heap_get
  have cC : (Value.ref C :: bm).contains (.ref C) = true := by simp
  have i1 := hi.keeps k
  have b1 := (hb (.ref (h.objs.size + 1))).keeps k
  unfold isInstance
  repeat (first | with_reducible refine wpAny_loadPart_at hget ?_ | (with_reducible refine wpAny_isSubtype_exc hC1 ?_; rw [cC]) | wp_step)
  show wpAny _ _ (typeLookup (.ref C) _) _ _ _
  refine i1.at (wpAny_holding (wpAny_bind (b1.at (wpAny_bind (wpAny_call (codeAny_mono hq fun r s' z => ?_))))))
  rcases r with e | (v | _ | _ | _) <;> first | exact z | exact z.elim | skip
  obtain ⟨rfl, z⟩ := z
  first
    | exact wpAny_pure (wpAny_pure z)
    | (wp_walk; exact z)
theorem callK (F : ExcBaseFacts B newId i0 bmB) (hB : bm.contains (.type B) = true) (hA : bm.contains (.type "AttributeError") = false) (hN : bm.contains (.type "NameError") = false) {fI : Addr} (hC : h.get? C = some (excClassObj nm q C N bs bm hdct sn sub ab col dd k0 k1 k2 k3 k5 newId))
    (hi : PySem.W.Looks (model prog w) h (typeLookup (.ref C) "__init__") (some (.ref fI))) (hb : ∀ self, PySem.W.Looks (model prog w) h (bindSpecial (.ref fI) self) (.ref fI, [self])) (hrest : rest.length ≤ sizeLine)
    (hq : codeAny (model prog w) (A.under (.builtin "type.__call__" ⟨.ref C :: rest, kw⟩)) (.call (.ref fI) ⟨.ref (h.objs.size + 1) :: rest, kw⟩) (PySem.W.InitBack (h.objs.size + 1) R) ⟨(h.push (PySem.W.kdv_tup rest)).push (PySem.HandSPX.excO C h.objs.size), g, d, t, os⟩) :
    codeAny (model prog w) A (.call (.ref C) ⟨rest, kw⟩) R ⟨h, g, d, t, os⟩ := by
  have f1 := PySem.tc_lookup
  have f2 := PySem.tc_bind (.ref C)
  have hTy : (⟨h, g, d, t, os⟩ : Shared).TypeIs (.ref C) "type" := ⟨_, hC, rfl⟩
  refine codeAny_of_tree ?_
  show wpAny _ _ (callAny (.ref C) _) _ _ _
  repeat (any_goals (first | assumption | with_reducible refine wpAny_loadPart_at hC ?_ | wp_step))
  refine ⟨rfl, codeAny_call_builtin_at (Code.quiet_builtin _ (by decide +kernel)) entry_typeCall (checkTypeK hC (typeCallK F hB hA hN hC hi hb hrest ?_))⟩
  refine codeAny_mono hq fun r s' z => ?_
  rcases r with e | (v | _ | _ | _) <;> exact z
end
end Bk

namespace Bk
open PySem PySem.Spec PySem.Calls PyProof.Rows L2
/-! ## 32. own exceptions as values -/
section
open Builtin Builtin.ObjectAttr
variable {prog : Program} {w : World} {A : Around} {E : Value → Shared → Prop} {R : Result → Shared → Prop} {hp : Heap} {g : Array GenState} {d : Drawn} {t : Nat} {os : OsState}
/-- a further field -/
theorem osaT2 {K : PySem.W.Frag} {b : Bs} {name : Str} {tk : Tok} {v : Value} {x C dx : Addr} {fv : Array Value} {cd : ClassData} {m0 : Str → Option Value} {nl : List Str} (X : K.In hp) (hx : hp.get? x = some { cls := .ref C, dict := some dx, data := .fields fv }) (hns : hp.Ns1 dx m0) (hw : Within m0 nl) (hz : nl.length ≤ 1000) (hcd : PySem.W.clsIn K C = some cd)
    (hm : Tail b cd.mro) (hh : cd.hasDict = true) (ha : PySem.W.findIn K (.ref C) name = some none) (hq : ∀ h' tk', (∀ c o, c ≠ dx → hp.get? c = some o → h'.get? c = some o) → h'.Ns1 dx (fun y => if y = name then some v else m0 y) → R (.ok (.ret .none)) ⟨h', g, d, tk', os⟩) :
    codeAny (model prog w) A (.call (.builtin "object.__setattr__") ⟨[.ref x, .str name tk, v], []⟩) R ⟨hp, g, d, t, os⟩ := by
  obtain ⟨oD, _, _, hoD, _, _⟩ := hns.count hw
  have I : PySem.W.InstAt hp x { cls := .ref C, dict := some dx, data := .fields fv } C (some oD) := ⟨hx, rfl, rfl, hoD⟩
  have SF := F.store_object
  have hob : cd.mro.contains (.type "object") = true := (hm.has "object").trans b.obj
  have isO : PySem.W.Looks (model prog w) hp (isInstance (.ref x) (.type "object")) true :=
    I.type.andThen (PySem.W.looks_mroIn X (by unfold PySem.W.mroIn; rw [hcd, Option.bind_some, if_neg (by rw [hm.ne]; decide), hob]))
  have lineL : PySem.W.Looks (model prog w) hp (mroOf (.ref C)) cd.mro := (PySem.W.looks_clsIn X hcd).andThen .now
  have noTaker : PySem.W.Looks (model prog w) hp (storeTaker? none) none := .now
  have clsL : PySem.W.Looks (model prog w) hp (classData C) cd := PySem.W.looks_clsIn X hcd
  refine codeAny_call_builtin SF.slot.plain SF.entry (@PySem.W.check_slot (model prog w) _ _ ⟨hp, g, d, t, os⟩ "object.__setattr__" "object" "__setattr__" (.ref x) [.str name tk, v] [] _ SF.kind SF.split isO (SF.args (.ref x) (.str name tk) v) ?_)
  rw [PySem.W.osa_eq, refuse_eq]
  refine wpAny_bind (wpAny_bind (I.type.at (wpAny_bind (lineL.at ?_))))
  rw [hm.pass]
  refine wpAny_pure (wpAny_bind (I.type.at (wpAny_bind ((PySem.W.looks_findIn X ha).at (wpAny_bind (noTaker.at ?_))))))
  show wpAny _ _ (storeInOwnDict (.ref x) (.ref C) (.str name tk) name v false) _ _ _
  obtain ⟨nm, bs, mro, ns, qn, hd, sn, sb, ab, col, del⟩ := cd
  dsimp only at hh
  subst hh
  unfold storeInOwnDict ownDictForStores
  repeat (first | with_reducible refine PySem.OEX.store_in_old hns hw hz ?_ | with_reducible refine wpAny_loadPart_at hx ?_ | with_reducible refine clsL.at ?_ | wp_step)
  exact fun h' tk' hn' hs => hq h' tk' (fun c o hc ho => (hs.2 c hc).trans ho) hn'
end
section
variable {X : Cx} {pins : List (Addr × Obj)} {σ : L2.St} {H : Hp} {s : Shared} {a C dx : Addr} {f : Str} {y : V} {u : Value} {b : Bs} {fs : List (Str × V)} {Q : Unit → Shared → Prop} {E : Value → Shared → Prop} {A : Around}
theorem ost_oldT (T : OexT X.K b C) (I : Inv X pins σ H s) (e : H a = some (exo a C (some dx))) (ed : H dx = some (exd dx fs)) (hl : fs.length ≤ 900) (hno : PySem.W.findIn X.K (.ref C) f = some none) (ry : RelV y u)
    (h : ∀ s', Inv X pins σ (upd H dx (exd dx ((f, y) :: fs))) s' → Q () s') : wpAny (model X.prog X.w) A (setAttr (.ref a) f u) Q E s := by
  obtain ⟨nm, q, N, bs, bm, sn, sub, ab, col, dd, k0, k1, k2, k3, k5, hC, hbm⟩ := T.cls
  obtain ⟨t1, ho⟩ := exo_at I.hok e
  obtain ⟨mA, hns, rel⟩ := exd_at I.hok ed
  have hw := within_of rel
  obtain ⟨hp, g, d, t, os⟩ := s
  obtain ⟨oD, _, _, hoD, _, _⟩ := hns.count hw
  have hcl : PySem.W.clsIn X.K C = some { name := nm, bases := bs, mro := .ref C :: bm, ns := N, qualname := q, hasDict := true, slotNames := sn, subclasses := sub, abstract := ab, collection := col, hasDel := false } := by
    unfold PySem.W.clsIn
    rw [hC] <;> rfl
  refine PySem.W.set_plain I.kIn (ox := { cls := .ref C, dict := some dx, data := .fields #[.ref t1, .none, .none, .none, .bool false, .none] }) (od := some oD) ⟨ho, rfl, rfl, hoD⟩ T.sa ?_
  refine osaT2 I.kIn ho hns hw (by rw [List.length_map]; omega) hcl (.own C hbm) rfl hno fun h' tk' k hn => ?_
  have hd : ∃ o, h'.get? dx = some o := by
    obtain ⟨o, _, _, e', _⟩ := hn
    exact ⟨o, e'⟩
  exact h _ (I.write (t' := tk') (x := dx) (e := dx) (o := exd dx ((f, y) :: fs)) (by rw [ed]; exact True.intro) (.inl rfl) k hd (exd_ok hn (relO_put ry rel)))
end
/-- self.f = e, a further one -/
def tOsO (K : PySem.W.Frag) (f : Str) (to te : TE) : TS := fun D σ H => te σ H fun y H1 => to σ H1 fun x H2 => ∃ (b : Bs) (a C dx : Addr) (fs : List (Str × V)), x = .ref a ∧ OexT K b C ∧ PySem.W.findIn K (.ref C) f = some none ∧
  H2 a = some (exo a C (some dx)) ∧ H2 dx = some (exd dx fs) ∧ fs.length ≤ 900 ∧ D.nx σ (upd H2 dx (exd dx ((f, y) :: fs)))
theorem ps_osO {X : Cx} {o e : Expr} {to te : TE} {f : Str} {p' pos : Pos} (ho : PE X o to) (he : PE X e te) (hs : swapsWith e (some (.Attribute o f p')) pos.line X.env = pure false := by rfl) : PS X (.Assign [.Attribute o f p'] e pos) (tOsO X.K f to te) := by
  refine ⟨fun pins s σ H D I h => plainObj_wpAny_Assign_Attribute (thn (he.run pins s σ H _ I h) fun v s1 ⟨y, H1, I1, r1, q1⟩ => thn (ho.run pins s1 σ H1 _ I1 q1) fun u s2 ⟨x, H2, I2, r2, b, a, C, dx, fs, ex, T, hno, ea, ed, hl, q⟩ => ?_) hs⟩
  subst ex
  obtain rfl : u = Value.ref a := r2
  exact ost_oldT T I2 ea ed hl hno r1 fun s' J => ⟨σ, _, J, q⟩
/-- C(..), C an own exception class: a value -/
structure CalO (P : Program) (w : World) (K : PySem.W.Frag) (mg : Str → Option Value) (base : Heap) (k n : Nat) (ks : List Str) (C : Addr) (x : Str) (sp : Sp) (gV : List V → List V → List V) : Prop where
  ex : ∃ (b : Bs) (fI : Addr) (fd : FuncData) (ps : List Str) (g : List Value → List Value → List Value), OexT K b C ∧ PySem.W.findIn K (.ref C) "__init__" = some (some (.ref fI)) ∧ PySem.W.typeIn K (.ref fI) = some (.type "function") ∧ FnOk P w K mg base CX0 k fI fd ps sp ∧ KBn K fd ps (n + 1) ks g gV ∧ mg x = some (.ref C)
theorem kbn_of {K : PySem.W.Frag} {fd : FuncData} {ps : List Str} {m : Nat} (b : Binds K fd ps []) (h : ps.length = m) : KBn K fd ps m [] (fun us _ => us) (fun vs _ => vs) :=
  ⟨fun s us ws X l1 l2 => by
    have z := b s us X (by rw [List.append_nil, l1, h])
    rw [List.append_nil] at z
    exact z, fun r1 _ => r1⟩
def tMkO1 (C : Addr) (n m : Nat) (sp : Sp) (gV : List V → List V → List V) (t tk : TA) : TE := fun σ H Q => t σ H fun vs H1 => tk σ H1 fun zs H2 => vs.length = n ∧ zs.length = m ∧ n ≤ 1000 ∧ ∀ a, H2 a = none →
  sp (gV (.ref a :: vs) zs) (upd H2 a (exo a C none)) (fun v H3 => v = .non ∧ Q (.ref a) H3) (fun _ _ _ => False)
section
variable {X : Cx} {k j n : Nat} {ks : List Str} {C : Addr} {x : Str} {sp : Sp} {gV : List V → List V → List V} {t tk : TA} {e : Expr} {es : List Expr} {kws : List Keyword} {p pos : Pos}
theorem run_oeK {b : Bs} {fI : Addr} {fd : FuncData} {ps : List Str} {g : List Value → List Value → List Value} {pins : List (Addr × Obj)} {σ : L2.St} {H : Hp} {s : Shared} {Q : VK} {us ws : List Value} {vs zs : List V} (T : OexT X.K b C) (iC : PySem.W.findIn X.K (.ref C) "__init__" = some (some (.ref fI))) (tI : PySem.W.typeIn X.K (.ref fI) = some (.type "function"))
    (F1 : FnOk X.prog X.w X.K X.mg X.base CX0 k fI fd ps sp) (hr : Room (k + 1) X.A) (hb : KBn X.K fd ps (n + 1) ks g gV) (I1 : Inv X pins σ H s) (r1 : Vals vs us) (rz : Vals zs ws) (l1 : vs.length = n) (l2 : zs.length = ks.length) (hn : n ≤ 1000)
    (q1 : ∀ a, H a = none → sp (gV (.ref a :: vs) zs) (upd H a (exo a C none)) (fun v H3 => v = .non ∧ Q (.ref a) H3) (fun _ _ _ => False)) : wpAny (model X.prog X.w) X.A (call (.ref C) us (ks.zip ws)) (EP X pins σ Q) X.xe s := by
  obtain ⟨nm, q, N, bs, bm, sn, sub, ab, col, dd, k0, k1, k2, k3, k5, hC, hbm⟩ := T.cls
  obtain ⟨hp, g1, dr, tk, os⟩ := s
  have hsz : hp.objs.size ≤ hp.objs.size + 1 := Nat.le_succ _
  have hq := q1 (hp.objs.size + 1) (I1.hok.fresh hsz)
  have hget : ((hp.push (PySem.W.kdv_tup us)).push (PySem.HandSPX.excO C hp.objs.size)).get? (hp.objs.size + 1) = some (PySem.HandSPX.excO C hp.objs.size) := by heap_get
  have kk : ∀ c o, hp.get? c = some o → ((hp.push (PySem.W.kdv_tup us)).push (PySem.HandSPX.excO C hp.objs.size)).get? c = some o := fun c o z => Heap.get?_push_of_some _ (Heap.get?_push_of_some _ z)
  have I2 : Inv X pins σ (upd H (hp.objs.size + 1) (exo (hp.objs.size + 1) C none)) ⟨(hp.push (PySem.W.kdv_tup us)).push (PySem.HandSPX.excO C hp.objs.size), g1, dr, tk, os⟩ :=
    I1.laid (t' := tk) (a := hp.objs.size + 1) (o := exo (hp.objs.size + 1) C none) (h' := (hp.push (PySem.W.kdv_tup us)).push (PySem.HandSPX.excO C hp.objs.size)) kk hsz (exo_ok hget)
  have rr1 : Vals (V.ref (hp.objs.size + 1) :: vs) (Value.ref (hp.objs.size + 1) :: us) := .cons rfl r1
  have e1 : (Value.ref (hp.objs.size + 1) :: us).length = n + 1 := rr1.length.symm.trans (congrArg Nat.succ l1)
  have e2 : ws.length = ks.length := rz.length.symm.trans l2
  have hus : us.length ≤ sizeLine := by rw [← Paired.length r1, l1, sizeLine_eq]; omega
  obtain ⟨i0, bmB, bf⟩ := b.f
  refine wpAny_call (callK bf ((hbm.has _).trans b.hB) ((hbm.has _).trans b.hA) ((hbm.has _).trans b.hN) (I1.kIn _ _ hC) (PySem.W.looks_findIn I1.kIn iC) (fun self => PySem.W.bind_fn I1.kIn self tI) hus
    (codeAny_mono (F1.run _ X.stack _ _ ⟨Value.ref (hp.objs.size + 1) :: us, ks.zip ws⟩ (g (Value.ref (hp.objs.size + 1) :: us) ws) _ _ (fun _ _ _ => False) (hr.make C us (ks.zip ws)) (I2.env0.make C us (ks.zip ws)) (hb.to _ (Value.ref (hp.objs.size + 1) :: us) ws I2.kIn e1 e2) (hb.rel rr1 rz) hq) fun r s' hq' => ?_))
  match r, hq' with
  | .error er, hq' => exact (hq' : False).elim
  | .ok (.ret u), hq' =>
    obtain ⟨v, H2, I3, rv, ev, q2⟩ := I2.after hq'
    subst ev
    exact ⟨rv, .ref (hp.objs.size + 1), H2, I3, rfl, q2⟩
theorem pe_oeP (c : CalO X.prog X.w X.K X.mg X.base k n [] C x sp gV) (hr : Room j X.A) (hk : k + 1 ≤ j) (hg : Gl X x) (ha : PA X (e :: es) t)
    (hdb : (x == ("__debug__" : Str)) = false := by decide) (he : starEach (e :: es) X.env = (false, eval e X.env) :: starEach es X.env := by rfl) (hpl : (backTo pos (starEach es X.env)).any (·.1) = false := by rfl) :
    PE X (.Call (.Name x p) (e :: es) [] pos) (tMkO1 C n 0 sp gV t tNil) := by
  obtain ⟨b, fI, fd, ps, g, T, iC, tI, F1, hb, hm⟩ := c.ex
  refine ⟨fun pins s σ H Q I h => ?_⟩
  refine wpAny_Call_Name_kw (ld_glob I hg hm ?_ hdb)
  refine PySem.W.callWith_K (h₀ := X.base) I.ok.mod.kin T.kC (thn (ha.run pos pins s σ H _ I h) fun us s1 ⟨vs, H1, I1, r1, l1, l2, hn, q1⟩ => ⟨I1.kIn, ?_⟩) he hpl
  exact run_oeK (ws := []) (zs := []) T iC tI F1 (hr.mono hk) hb I1 r1 .nil l1 rfl hn q1
theorem pe_oe0 (c : CalO X.prog X.w X.K X.mg X.base k 0 [] C x sp gV) (hr : Room j X.A) (hk : k + 1 ≤ j) (hg : Gl X x) (hdb : (x == ("__debug__" : Str)) = false := by decide) :
    PE X (.Call (.Name x p) [] [] pos) (tMkO1 C 0 0 sp gV tNil tNil) := by
  obtain ⟨b, fI, fd, ps, g, T, iC, tI, F1, hb, hm⟩ := c.ex
  refine ⟨fun pins s σ H Q I h => ?_⟩
  obtain ⟨_, _, hn, q1⟩ := h
  refine wpAny_Call_Name_kw (ld_glob I hg hm ?_ hdb)
  exact PySem.W.callWith_K0 I.kIn T.kC (run_oeK (us := []) (vs := []) (ws := []) (zs := []) T iC tI F1 (hr.mono hk) hb I .nil .nil rfl rfl hn q1)
theorem pe_oeK (c : CalO X.prog X.w X.K X.mg X.base k 0 ks C x sp gV) (hr : Room j X.A) (hk : k + 1 ≤ j) (hg : Gl X x) (hkw : PK X kws tk)
    (hall : (backToKw pos (keywordEach kws X.env)).all (·.1.isSome) = true := by rfl) (hks : (backToKw pos (keywordEach kws X.env)).filterMap (·.1) = ks := by rfl)
    (hdb : (x == ("__debug__" : Str)) = false := by decide) (hpl : ((backTo pos (starEach [] X.env)).any (·.1) || (backToKw pos (keywordEach kws X.env)).any (·.1.isNone)) = false := by rfl) :
    PE X (.Call (.Name x p) [] kws pos) (tMkO1 C 0 ks.length sp gV tNil tk) := by
  obtain ⟨b, fI, fd, ps, g, T, iC, tI, F1, hb, hm⟩ := c.ex
  refine ⟨fun pins s σ H Q I h => ?_⟩
  refine wpAny_Call_Name_kw (ld_glob I hg hm ?_ hdb)
  refine PySem.W.callWith_KW0 (h₀ := X.base) I.ok.mod.kin T.kC hall ?_ hpl
  refine thn (hkw.run pos pins s σ H _ I h) fun ws s2 ⟨zs, H2, I2, rz, _, l2, hn, q2⟩ => ⟨I2.kIn, ?_⟩
  rw [hks]
  exact run_oeK (us := []) (vs := []) T iC tI F1 (hr.mono hk) hb I2 .nil rz rfl l2 hn q2
end
section
variable {σ : L2.St} {H : Hp} {Q : VK} {C : Addr} {n m : Nat} {sp : Sp} {gV : List V → List V → List V} {t tk : TA}
theorem r_mkO1 (q : t σ H fun vs H1 => tk σ H1 fun zs H2 => vs.length = n ∧ zs.length = m ∧ n ≤ 1000 ∧ ∀ a, H2 a = none → sp (gV (.ref a :: vs) zs) (upd H2 a (exo a C none)) (fun v H3 => v = .non ∧ Q (.ref a) H3) (fun _ _ _ => False)) : tMkO1 C n m sp gV t tk σ H Q := q
end
/-- at a: an exception of the class at D; its own dict, if it has one, holds fs -/
def XVo (H : Hp) (a D : Addr) (d : Option Addr) (fs : List (Str × V)) : Prop := H a = some (exo a D d) ∧ match d with
  | none => fs = []
  | some dx => H dx = some (exd dx fs)
def rIsV (K : PySem.W.Frag) : List V → Hp → VK → Prop := fun xs H Q => ∃ (a D : Addr) (d : Option Addr) (fs : List (Str × V)) (c : V) (u : Value) (b : Bool), xs = [.ref a, c] ∧ XVo H a D d fs ∧ ExcC K D ∧ ClsV c u ∧ PySem.W.kitOne K (.ref D) u = some b ∧ Q (.bl b) H
theorem call_isV {X : Cx} : CallR X (.builtin "isinstance") (rIsV X.K) := by
  intro pins s σ H xs us Q I r h
  obtain ⟨a, D, d, fs, c, u, b, rfl, xv, C, k, e, q⟩ := h
  obtain ⟨u1, u2, rfl, r1, r2⟩ := vals2 r
  have e2 := k.eq r2
  subst e2
  obtain rfl : u1 = Value.ref a := r1
  obtain ⟨ho, hd⟩ := xv
  match d, ho, hd with
  | none, ho, _ =>
    obtain ⟨t1, g⟩ := exo_at I.hok ho
    exact PySem.W.kia_one (PySem.W.bk_kitx (od := none) C.hg C.hk C.hs C.hd C.ha C.hn C.ht C.hm) I.kIn ⟨g, rfl, rfl, trivial⟩ e (fun z => nomatch z) fun tk => ⟨.bl b, H, I.tok tk, rfl, q⟩
  | some dx, ho, hd =>
    obtain ⟨ox, od, mA, J, _, _⟩ := xv_inst I (show XV H a D dx fs from ⟨ho, hd⟩)
    exact PySem.W.kia_one (PySem.W.bk_kitx (ox := ox) (od := some od) C.hg C.hk C.hs C.hd C.ha C.hn C.ht C.hm) I.kIn J e (fun z => nomatch z) fun tk => ⟨.bl b, H, I.tok tk, rfl, q⟩
def tXv (K : PySem.W.Frag) (f : Str) (te : TE) : TE := fun σ H Q => te σ H fun x H1 => ∃ (a D dx : Addr) (fs : List (Str × V)) (v : V), x = .ref a ∧ XV H1 a D dx fs ∧ XfC K D ∧ PySem.W.findIn K (.ref D) f = some none ∧ fs.lookup f = some v ∧ Q v H1
theorem pe_xv {X : Cx} {e : Expr} {te : TE} {pos : Pos} {n : Str} (he : PE X e te) (hb : attributeBase e n X.env (eval e X.env) = eval e X.env := by rfl) : PE X (.Attribute e n pos) (tXv X.K n te) := by
  refine ⟨fun pins s σ H Q I h => attr_of hb (thn (he.run pins s σ H _ I h) fun u s1 ⟨x, H1, I1, rx, a, D, dx, fs, v, ex, xv, T, hno, l, q⟩ => ?_)⟩
  subst ex
  obtain rfl : u = Value.ref a := rx
  obtain ⟨ox, od, mA, J, hl, hr⟩ := xv_inst I1 xv
  obtain ⟨u, hu, ru⟩ := RelO.some_of (v := v) (o := mA n) (by rw [← l]; exact hr n)
  exact HandSPX.exc_get I1.kIn J T.ga T.gg T.exC (PySem.W.findObj_own T.hdC hno rfl (by rw [hl, hu])) (handed_of ru) ⟨v, H1, I1.tok _, ru, q⟩
theorem r_dispV {σ : L2.St} {H : Hp} {Q : VK} {k : Key} {v : V} {i : Nat} (hv : σ[i]? = some (some v)) (q : ∀ p H', H p = none → Same H H' → H' p = some (.dK [(k, v)]) → Q (.ref p) H') : tDisp [(tC (kV k), tVar i)] σ H Q := by
  intro p np
  refine ⟨v, hv, upd_same, [(k, v)], rfl, (by show 1 ≤ 15; decide), ?_⟩
  refine q p _ np (fun b o e => ?_) upd_same
  rw [upd_ne (ne_of_none e np), upd_ne (ne_of_none e np)]
  exact e
end Bk

namespace Bk
open PySem PySem.Spec PyProof.Rows L2
/-! ## 33. l.remove(x) of data -/
def rRemD (K : PySem.W.Frag) : V → List V → Hp → VK → Prop := fun x vs H Q => ∃ (l : Addr) (xs : List V) (ds : List PyData) (y : V) (d : PyData) (j : Nat), x = .ref l ∧ vs = [y] ∧ H l = some (.lst xs) ∧ DpAll K H xs ds ∧ Dp K H y d ∧
  PyData.plainAll ds = true ∧ d.plain = true ∧ d.depth ≤ 60 ∧ SeqAt.dataPlace ds d = some j ∧ Q .non (upd H l (.lst (xs.eraseIdx j)))
theorem mt_removeD {X : Cx} (hu : X.A.units + 64 < cLine) : MtM X "list.remove" (rRemD X.K) := by
  intro pins s σ H x vs v us Q I rx rv h
  obtain ⟨l, xs, ds, y, d, j, rfl, rfl, hH, hxs, hy, pa, pd, hd, hp, q⟩ := h
  cases rx
  obtain ⟨u, rfl, ru⟩ := rv.one
  obtain ⟨z, its, n, r, hl, e⟩ := I.lstM hH
  obtain ⟨as, h4⟩ := Dp.readsAll I ds _ its hxs r
  obtain ⟨bs, r1⟩ := Dp.reads I d y u hy ru
  have hpl : s.heap.IsList l its.toArray := ⟨_, e, rfl, n, rfl⟩
  refine SeqAt.remove_list_data hpl (show ReadsAll s.heap its.toArray.toList ds as from h4) r1 pa pd ?_ hp (by rw [List.size_toArray, ← hl]; exact z) ?_
  · have h2 : min (PyData.depthAll ds) d.depth ≤ d.depth := Nat.min_le_right _ _
    omega
  · refine ⟨.non, _, I.lset (t' := s.toks) (its' := its.eraseIdx j) hH e ?_ (r.eraseIdx j) ?_, rfl, q⟩
    · show its.toArray.eraseIdxIfInBounds j = (its.eraseIdx j).toArray
      rw [List.eraseIdxIfInBounds_toArray]
    · have := List.length_eraseIdx_le xs j
      omega
end Bk

namespace Bk
open PySem PySem.Spec PyProof.Rows L2
/-! ## 34. a list of asks, tuples of a name and a number -/
def askD (p : Str × Nat) : PyData := .tuple [.str p.1, .int p.2]
structure AL (H : Hp) (l : Addr) (ts : List Addr) (as : List (Str × Nat)) : Prop where
  at_ : H l = some (.lst (ts.map V.ref))
  len : ts.length = as.length
  row : ∀ (k : Nat) (t : Addr) (p : Str × Nat), ts[k]? = some t → as[k]? = some p → H t = some (.tup [.str p.1, .int p.2])
theorem eqv_ask (q p : Str × Nat) : PyData.eqv (askD q) (askD p) = decide (q = p) := by
  obtain ⟨a, i⟩ := q
  obtain ⟨b, j⟩ := p
  simp only [askD, PyData.eqv, PyData.eqvAll, Bool.and_true]
  by_cases h : a = b
  · subst h
    by_cases h2 : i = j
    · subst h2
      rw [beq_self_eq_true, beq_self_eq_true, decide_eq_true rfl]
      rfl
    · rw [beq_self_eq_true, decide_eq_false (fun z => h2 (Prod.mk.inj z).2), Bool.true_and]
      exact beq_eq_false_iff_ne.mpr fun z => h2 (by omega)
  · rw [decide_eq_false (fun z => h (Prod.mk.inj z).1), beq_eq_false_iff_ne.mpr h, Bool.false_and]
theorem in_ask (as : List (Str × Nat)) (p : Str × Nat) : ((as.map askD).any fun z => PyData.eqv z (askD p)) = decide (p ∈ as) := by
  rw [List.any_map]
  induction as with
  | nil => exact (decide_eq_false (fun z => nomatch z)).symm
  | cons q r ih =>
    rw [List.any_cons, ih]
    show (PyData.eqv (askD q) (askD p) || _) = _
    rw [eqv_ask]
    by_cases h : q = p
    · subst h
      rw [decide_eq_true rfl, decide_eq_true List.mem_cons_self, Bool.true_or]
    · rw [decide_eq_false h, Bool.false_or]
      exact decide_eq_decide.mpr ⟨List.mem_cons_of_mem _, fun z => (List.mem_cons.mp z).elim (fun w => absurd w.symm h) id⟩
theorem place_ask (as : List (Str × Nat)) (p : Str × Nat) : SeqAt.dataPlace (as.map askD) (askD p) = as.findIdx? (fun q => decide (q = p)) := by
  unfold SeqAt.dataPlace
  rw [List.findIdx?_map]
  congr 1
  funext q
  exact eqv_ask q p
theorem plain_ask (as : List (Str × Nat)) : PyData.plainAll (as.map askD) = true := by
  induction as with
  | nil => rfl
  | cons q r ih => rw [List.map_cons]; simp only [PyData.plainAll, askD, PyData.plain, ih, Bool.and_true]
def asOk (as : List (Str × Nat)) : Prop := ∀ p ∈ as, PyData.strOk p.1 = true
theorem lay_ask {as : List (Str × Nat)} (h : asOk as) : PyData.canLayAll0 (as.map askD) = true ∧ PyData.depthAll (as.map askD) ≤ 1 := by
  induction as with
  | nil => exact ⟨rfl, Nat.zero_le _⟩
  | cons q r ih =>
    have ih := ih fun p hp => h p (List.mem_cons_of_mem _ hp)
    rw [List.map_cons]
    refine ⟨by simp only [PyData.canLayAll0, askD, PyData.canLay0, ih.1, h q List.mem_cons_self, Bool.and_true], ?_⟩
    have h2 := ih.2
    simp only [PyData.depthAll, askD, PyData.depth]
    omega
theorem sh_ask {as : List (Str × Nat)} (ok : asOk as) : SeqAt.shaped (.list (as.map askD)) = true := by
  have h := (lay_ask ok).2
  unfold SeqAt.shaped
  simp only [PyData.canLay0, (lay_ask ok).1, PyData.depth, Bool.true_and, decide_eq_true_eq]
  exact decide_eq_true (Nat.le_trans (Nat.succ_le_succ h) (show 2 ≤ 64 by decide))
theorem sh_ask1 {p : Str × Nat} (h : PyData.strOk p.1 = true) : SeqAt.shaped (askD p) = true := by
  unfold SeqAt.shaped
  simp only [askD, PyData.canLay0, PyData.canLayAll0, PyData.depth, PyData.depthAll, h, Bool.true_and]
  decide
section
variable {K : PySem.W.Frag} {H H' : Hp} {l : Addr} {ts : List Addr} {as : List (Str × Nat)}
theorem dp_ask {t : Addr} {p : Str × Nat} (e : H t = some (.tup [.str p.1, .int p.2])) : Dp K H (.ref t) (askD p) := .tup (sqT e) (.cons (.str _) (.cons (.int _) .nil))
theorem dps_of {ts : List Addr} {as : List (Str × Nat)} (hl : ts.length = as.length) (hr : ∀ (k : Nat) (t : Addr) (p : Str × Nat), ts[k]? = some t → as[k]? = some p → H t = some (.tup [.str p.1, .int p.2])) : DpAll K H (ts.map V.ref) (as.map askD) := by
  induction ts generalizing as with
  | nil =>
    cases as with
    | nil => exact .nil
    | cons _ _ => exact nomatch hl
  | cons t r ih =>
    cases as with
    | nil => exact nomatch hl
    | cons p q =>
      refine .cons (dp_ask (hr 0 t p rfl rfl)) (ih (Nat.succ.inj hl) fun k u v h1 h2 => hr (k + 1) u v h1 h2)
theorem AL.dps (a : AL H l ts as) : DpAll K H (ts.map V.ref) (as.map askD) := dps_of a.len a.row
theorem AL.dp (a : AL H l ts as) : Dp K H (.ref l) (.list (as.map askD)) := .lst (sqL a.at_) a.dps
theorem AL.keep (a : AL H l ts as) (kl : H' l = H l) (kt : ∀ t ∈ ts, H' t = H t) : AL H' l ts as :=
  ⟨by rw [kl]; exact a.at_, a.len, fun k t p h1 h2 => by rw [kt t (List.mem_of_getElem? h1)]; exact a.row k t p h1 h2⟩
theorem AL.same (a : AL H l ts as) (s : Same H H') : AL H' l ts as := ⟨s _ _ a.at_, a.len, fun k t p h1 h2 => s _ _ (a.row k t p h1 h2)⟩
theorem AL.tup (a : AL H l ts as) : ∀ t ∈ ts, ∃ xs, H t = some (.tup xs) := fun t ht => by
  obtain ⟨k, hk⟩ := List.getElem?_of_mem ht
  have h : k < as.length := by rw [← a.len]; exact (List.getElem?_eq_some_iff.mp hk).1
  exact ⟨_, a.row k t _ hk (List.getElem?_eq_getElem h)⟩
/-- x in l -/
theorem AL.mem (a : AL H l ts as) {x : V} {p : Str × Nat} {Q : VK} (ok : asOk as) (hp : PyData.strOk p.1 = true) (h : Dp K H x (askD p)) (q : Q (.bl (decide (p ∈ as))) H) : rInD K x (.ref l) H Q :=
  ⟨_, _, h, a.dp, sh_ask1 hp, sh_ask ok, by rw [in_ask]; exact q⟩
/-- l.append(t) -/
theorem AL.push (a : AL H l ts as) {t : Addr} {p : Str × Nat} (e : H t = some (.tup [.str p.1, .int p.2])) : AL (upd H l (.lst (ts.map V.ref ++ [.ref t]))) l (ts ++ [t]) (as ++ [p]) := by
  have ne : ∀ {u xs}, H u = some (.tup xs) → u ≠ l := fun e z => by rw [z, a.at_] at e; exact nomatch e
  refine ⟨by rw [upd_same, List.map_append]; rfl, by rw [List.length_append, List.length_append, a.len]; rfl, fun k u v h1 h2 => ?_⟩
  by_cases hk : k < ts.length
  · rw [List.getElem?_append_left hk] at h1
    rw [List.getElem?_append_left (by rw [← a.len]; exact hk)] at h2
    have z := a.row k u v h1 h2
    rw [upd_ne (ne z)]
    exact z
  · rw [List.getElem?_append_right (by omega)] at h1
    rw [List.getElem?_append_right (by rw [← a.len]; omega), ← a.len] at h2
    have k0 : k - ts.length = 0 := by
      have := (List.getElem?_eq_some_iff.mp h1).1
      simp at this
      omega
    rw [k0] at h1 h2
    obtain rfl : t = u := Option.some.inj h1
    obtain rfl : p = v := Option.some.inj h2
    rw [upd_ne (ne e)]
    exact e
theorem map_erase {α β : Type} (f : α → β) : ∀ (l : List α) (j : Nat), (l.map f).eraseIdx j = (l.eraseIdx j).map f
  | [], _ => rfl
  | _ :: _, 0 => rfl
  | x :: r, j + 1 => by
    show f x :: (r.map f).eraseIdx j = f x :: (r.eraseIdx j).map f
    rw [map_erase f r j]
/-- l.remove(x) -/
theorem AL.cut (a : AL H l ts as) (j : Nat) : AL (upd H l (.lst ((ts.map V.ref).eraseIdx j))) l (ts.eraseIdx j) (as.eraseIdx j) := by
  have ne : ∀ {u xs}, H u = some (.tup xs) → u ≠ l := fun e z => by rw [z, a.at_] at e; exact nomatch e
  refine ⟨by rw [upd_same, map_erase], by rw [List.length_eraseIdx, List.length_eraseIdx, a.len], fun k u v h1 h2 => ?_⟩
  rw [List.getElem?_eraseIdx] at h1 h2
  split at h1
  · rename_i hk
    rw [if_pos hk] at h2
    have z := a.row k u v h1 h2
    rw [upd_ne (ne z)]
    exact z
  · rename_i hk
    rw [if_neg hk] at h2
    have z := a.row (k + 1) u v h1 h2
    rw [upd_ne (ne z)]
    exact z
end
end Bk

namespace Bk
open PySem PySem.Spec PyProof.Rows L2
/-! ## 34. l.count(x) of data, a text times a number -/
def rCntD (K : PySem.W.Frag) : V → List V → Hp → VK → Prop := fun x vs H Q => ∃ (l : Addr) (xs : List V) (ds : List PyData) (y : V) (d : PyData), x = .ref l ∧ vs = [y] ∧ H l = some (.lst xs) ∧ DpAll K H xs ds ∧ Dp K H y d ∧
  PyData.plainAll ds = true ∧ d.plain = true ∧ d.depth ≤ 60 ∧ Q (.int (ds.countP (fun z => PyData.eqv z d) : Nat)) H
theorem mt_countD {X : Cx} (hu : X.A.units + 64 < cLine) : MtR X "list.count" (rCntD X.K) := by
  intro pins s σ H x vs v us Q I rx rv h
  obtain ⟨l, xs, ds, y, d, rfl, rfl, hH, hxs, hy, pa, pd, hd, q⟩ := h
  cases rx
  obtain ⟨u, rfl, ru⟩ := rv.one
  obtain ⟨z, its, n, r, hl, e⟩ := I.lstM hH
  obtain ⟨as, h4⟩ := Dp.readsAll I ds _ its hxs r
  obtain ⟨bs, r1⟩ := Dp.reads I d y u hy ru
  have hpl : s.heap.IsList l its.toArray := ⟨_, e, rfl, n, rfl⟩
  refine SeqAt.count_list_data hpl (show ReadsAll s.heap its.toArray.toList ds as from h4) r1 pa pd ?_ ?_
  · have h2 : min (PyData.depthAll ds) d.depth ≤ d.depth := Nat.min_le_right _ _
    omega
  · exact ⟨.int (ds.countP (fun z => PyData.eqv z d) : Nat), H, I.tok _, ⟨_, rfl⟩, q⟩
theorem op_mul01 {X : Cx} : OpR X (binaryOp .Mult) (fun x y H Q => ∃ (z : Str) (k : Int), x = .str z ∧ y = .int k ∧ (k = 0 ∨ k = 1) ∧ Q (.str (if k = 0 then Str.empty else z)) H) := by
  intro pins s σ H x y v u Q I rx ry h
  obtain ⟨z, k, rfl, rfl, hk, q⟩ := h
  obtain ⟨t, rfl⟩ := rx
  obtain ⟨t2, rfl⟩ := ry
  rcases hk with rfl | rfl
  · refine P.mul_str (by decide) (fun h => absurd (by decide) h) (fun h => absurd (by decide) h) ?_
    rw [if_pos (by decide)]
    exact ⟨by decide, V.str Str.empty, H, I.tok _, ⟨_, rfl⟩, q⟩
  · refine P.mul_str (by decide) (fun _ h => ?_) (fun _ h => ?_) ?_
    · simp at h
    · simp at h
    · rw [if_neg (by decide), if_pos (by rfl)]
      exact ⟨.str z, H, I, ⟨_, rfl⟩, q⟩
theorem op_eqDK {X : Cx} {K : PySem.W.Frag} (h : X.K = K) (hu : X.A.units + 64 < cLine) : OpR X (compareOp .Eq) (rEqD K) := by
  subst h
  exact op_eqD hu
theorem op_neDK {X : Cx} {K : PySem.W.Frag} (h : X.K = K) (hu : X.A.units + 64 < cLine) : OpR X (compareOp .NotEq) (rNeD K) := by
  subst h
  exact op_neD hu
/-- len of an own object -/
def rLenO (C : Addr) (sp : Sp) : List V → Hp → VK → Prop := fun xs H Q => ∃ (a dx : Addr) (fs : List (Str × V)), xs = [.ref a] ∧ H a = some (.ins C dx fs) ∧ sp [.ref a] H (fun v H' => ∃ n : Nat, v = .int n ∧ (n : Int) < 2 ^ 63 ∧ Q v H') E0
theorem call_lenO {X : Cx} {k j : Nat} {C : Addr} {sp : Sp} (c : CalM X.prog X.w X.K X.mg X.base CX0 k C "__len__" sp) (hr : Room j X.A) (hk : k + 1 ≤ j) : CallR X (.builtin "len") (rLenO C sp) := by
  obtain ⟨f, fd, ps, hm, F, hb⟩ := c.ex
  intro pins s σ H xs us Q I r h
  obtain ⟨a, dx, fs, rfl, e, h⟩ := h
  obtain ⟨u, rfl, ru⟩ := r.one
  obtain rfl : u = Value.ref a := ru
  have w := I.hok a _ e
  unfold L2.ObjOk at w
  obtain ⟨w1, w2, w3, w4, mA, w5, w6, w7⟩ := w
  obtain ⟨m, fr⟩ := I.fr
  obtain ⟨od, hod⟩ : ∃ od, s.heap.get? dx = some od := by
    obtain ⟨es, ep, h1, h2⟩ := w5
    exact ⟨_, h2.1⟩
  refine PySem.W.len_K (C := C) (f := f) (ox := PySem.W.instObj C dx) (od := some od) fr I.ok.mod.kin ⟨w4, rfl, rfl, hod⟩ hm.at_ hm.fn ?_
  have hrr : Room k X.A.in1 := ⟨hr.hd, by have := hr.dp; show X.A.depth + 3 * k + 5 < _; omega, by have := hr.un; show X.A.units + 1 + 16 * k + 200 < _; omega⟩
  have hl : [Value.ref a].length = ps.length := by
    have e1 := F.len _ _ _ _ h
    exact e1
  have bb := hb s [Value.ref a] I.kIn (by rw [List.append_nil]; exact hl)
  rw [List.append_nil] at bb
  refine wpAny_call (codeAny_mono (F.run X.A.in1 X.stack s H ⟨[.ref a], []⟩ [.ref a] [.ref a] _ E0 hrr I.env0.in1 bb (.cons rfl .nil) h) fun rr s3 z => ?_)
  match rr, z with
  | .ok (.ret u), z =>
    obtain ⟨v, H', I3, rv, n, rfl, hn, q⟩ := I.after z
    obtain ⟨t, rfl⟩ := rv
    exact ⟨⟨by omega, hn⟩, V.int n, H', I3.tok _, ⟨_, rfl⟩, q⟩
  | .error u, z => exact z.elim
end Bk

namespace Bk
open PySem PySem.Spec PyProof.Rows L2
/-! ## 35. names, dicts by names -/
def allW (f l : Nat) (z : Str) : Bool := z.cps.toList.all fun c => decide (f ≤ c) && decide (c ≤ l)
def spAllW : Sp := fun vs H Q _ => ∃ (z F L : Str) (f l : Nat), vs = [.str z, .str F, .str L] ∧ F.cps.toList = [f] ∧ L.cps.toList = [l] ∧ z.length ≤ 1000 ∧ ∀ H', Same H H' → Q (.bl (allW f l z)) H'
def nameOk (z : Str) : Bool := decide (1 ≤ z.length ∧ z.length ≤ 8) && allW 97 122 z
def spName (K : PySem.W.Frag) : Sp := fun vs H Q _ => ∃ x : V, vs = [x] ∧ ((∃ z : Str, x = .str z ∧ z.length ≤ 1000 ∧ ∀ H', Same H H' → Q (.bl (nameOk z)) H') ∨ (IsA K H x "str" false ∧ Q (.bl false) H))
theorem str_of_name {x : Str} (h : nameOk x = true) : PyData.strOk x = true := by
  have h2 := (Bool.and_eq_true_iff.mp h).2
  unfold PyData.strOk
  rw [← Array.all_toList]
  refine List.all_eq_true.mpr fun c hc => decide_eq_true ?_
  have := List.all_eq_true.mp h2 c hc
  rw [Bool.and_eq_true] at this
  have := of_decide_eq_true this.2
  omega
theorem len_of_name {x : Str} (h : nameOk x = true) : 1 ≤ x.length ∧ x.length ≤ 8 := of_decide_eq_true (Bool.and_eq_true_iff.mp h).1
theorem nd_le {α : Type} [DecidableEq α] : ∀ {l m : List α}, l.Nodup → (∀ x ∈ l, x ∈ m) → l.length ≤ m.length
  | [], _, _, _ => Nat.zero_le _
  | a :: r, m, h, s => by
    have h2 := List.nodup_cons.mp h
    have z := nd_le (l := r) (m := m.erase a) h2.2 fun x hx => (List.mem_erase_of_ne (fun e => h2.1 (by rw [← e]; exact hx))).mpr (s x (List.mem_cons_of_mem _ hx))
    have ha := s a List.mem_cons_self
    rw [List.length_erase_of_mem ha] at z
    have : 0 < m.length := List.length_pos_of_mem ha
    rw [List.length_cons]
    omega
theorem inV_str {x : Str} {row : List Str} : inV (.str x) (row.map V.str) = decide (x ∈ row) := by
  unfold inV
  rw [List.any_map]
  induction row with
  | nil => exact (decide_eq_false (fun z => nomatch z)).symm
  | cons y r ih =>
    rw [List.any_cons, ih]
    show (decide (_ = _) || _) = _
    by_cases h : x = y
    · subst h
      rw [decide_eq_true rfl, Bool.true_or, decide_eq_true List.mem_cons_self]
    · rw [decide_eq_false (fun z => h (by first | exact z.symm | (injection z with z; first | exact z | exact z.symm))), Bool.false_or]
      exact decide_eq_decide.mpr ⟨List.mem_cons_of_mem _, fun z => (List.mem_cons.mp z).elim (fun w => absurd w h) id⟩
theorem rng_get {α : Type} (d : α) (l : List α) : (List.range l.length).map (fun i => l.getD i d) = l := by
  refine List.ext_getElem (by rw [List.length_map, List.length_range]) fun i h1 h2 => ?_
  rw [List.getElem_map, List.getElem_range, List.getD_eq_getElem?_getD, List.getElem?_eq_getElem h2]
  rfl
theorem rng_fm {α β : Type} (d : α) (l : List α) (f : α → Option β) : (List.range l.length).filterMap (fun i => f (l.getD i d)) = l.filterMap f := by
  conv => rhs; rw [← rng_get d l]
  rw [List.filterMap_map]
  rfl
section
variable {K : PySem.W.Frag} {σ : L2.St} {H : Hp} {Q : VK} {j : Nat} {vs : List Nat} {tt : TT} {te tl : TE} {a : Addr} {xs : List V}
theorem lcLF (p : Nat → Option V) (hv : ∀ QQ : VK, QQ (.ref a) H → tl σ H QQ) (hs : SqL K H a xs) (hl : xs.length ≤ 10000) (hw : ∀ x, wipe ((wipe σ vs).set j (some x)) vs = wipe σ vs)
    (ht : ∀ (i : Nat) (y : V) (H1 : Hp) (Q' : VK) (R' : Hp → Prop), xs[i]? = some y → Same H H1 → (∀ v, p i = some v → ∀ H3, Same H1 H3 → Q' v H3) → (p i = none → ∀ H3, Same H1 H3 → R' H3) →
      tt ((wipe σ vs).set j (some y)) H1 fun b H4 => if b = true then te ((wipe σ vs).set j (some y)) H4 Q' else R' H4)
    (q : ∀ D H', H D = none → Same H H' → H' D = some (.lst ((List.range xs.length).filterMap p)) → Q (.ref D) H') : tLc (iList K tl) (gName j) tt te vs σ H Q := by
  refine hv _ ⟨a, rfl, ⟨xs, hs⟩, fun D hD => ?_⟩
  refine lc_by (g := gName j) (tt := tt) (te := te) (vs := vs) (σ := σ) (Q := Q) walk_list p hD hl (fun _ s => s.seq hs) (fun i x H1 H2 Q' R' hi sm y h1 h2 => ?_) fun H' s e => q D H' hD s e
  obtain ⟨rfl, hx⟩ := y
  exact ⟨hw _, ht i x _ Q' R' hx sm h1 h2⟩
end
theorem units65 {k : Nat} {A : Around} (r : Room k A) : A.units + 65 < cLine := by
  have := r.un
  omega
theorem putF_old {f : Str} {v u : V} : ∀ {fs : List (Str × V)}, fs.lookup f = some u → (putF f v fs).length = fs.length
  | [], h => nomatch h
  | (g, w) :: r, h => by
    unfold putF
    split
    · rfl
    · rename_i hg
      rw [List.lookup_cons] at h
      have hb : (f == g) = false := beq_eq_false_iff_ne.mpr fun z => hg (by first | exact z | exact z.symm)
      rw [hb] at h
      rw [List.length_cons, List.length_cons, putF_old h]
theorem fm_flt {α β : Type} (c : α → Prop) [DecidablePred c] (g : α → β) : ∀ l : List α, l.filterMap (fun z => if c z then none else some (g z)) = (l.filter fun z => decide (¬ c z)).map g
  | [] => rfl
  | a :: r => by
    rw [List.filterMap_cons, List.filter_cons]
    by_cases h : c a
    · rw [if_pos h, decide_eq_false (fun z => z h), fm_flt c g r]
      simp
    · rw [if_neg h, decide_eq_true h, if_pos rfl, List.map_cons, fm_flt c g r]
theorem r_while {c : TT} {tb : TS} {D : Ends} {σ : L2.St} {H : Hp} (W : Nat → L2.St → Hp → Prop) (h0 : ∃ m, W m σ H) (hs : ∀ m σ H, W m σ H → c σ H fun b H1 => if b = true then ∃ N : L2.St → Hp → Prop, (∀ σ' H', N σ' H' → ∃ m', m' < m ∧ W m' σ' H') ∧ tb { D with nx := N, ct := N, bk := D.nx } σ H1 else D.nx σ H1) : tWhile c tb D σ H := ⟨W, h0, hs⟩
theorem units1 {k : Nat} {A : Around} (r : Room k A) : A.units + 1 < cLine := by
  have := r.un
  omega
theorem r_dget {te ti : TE} {σ : L2.St} {H : Hp} {Q : VK} (h : te σ H fun x H1 => ti σ H1 fun y H2 => ∃ (a : Addr) (v : V), x = .ref a ∧ DGet H2 a y (some v) ∧ Q v H2) : tDGet te ti σ H Q := h
section
variable {K : PySem.W.Frag} {σ : L2.St} {H : Hp} {Q : VK} {j : Nat} {vs : List Nat} {tt : TT} {te tl : TE} {d : Addr} {kvs : List (Key × V)}
theorem lcKeys (p : Nat → Option V) (hd : H d = some (.dK kvs)) (hl : kvs.length ≤ 10000) (hw : ∀ x, wipe ((wipe σ vs).set j (some x)) vs = wipe σ vs)
    (hv : ∀ (od : Obj) (QQ : VK), QQ (.ref d) (upd H d (.frz od (.dK kvs))) → tl σ (upd H d (.frz od (.dK kvs))) QQ)
    (ht : ∀ (i : Nat) (k : Key) (y : V) (od : Obj) (H1 : Hp) (Q' : VK) (R' : Hp → Prop), kvs[i]? = some (k, y) → H1 d = some (.frz od (.dK kvs)) → (∀ b u, b ≠ d → H b = some u → H1 b = some u) → (∀ v, p i = some v → ∀ H3, Same H1 H3 → Q' v H3) → (p i = none → ∀ H3, Same H1 H3 → R' H3) →
      tt ((wipe σ vs).set j (some (kV k))) H1 fun b H4 => if b = true then te ((wipe σ vs).set j (some (kV k))) H4 Q' else R' H4)
    (q : ∀ D H', H D = none → Same H H' → H' D = some (.lst ((List.range kvs.length).filterMap p)) → Q (.ref D) H') : tLockE (tLc (iKeys tl) (gName j) tt te vs) σ H Q := by
  refine ⟨d, .dK kvs, hd, trivial, fun od => ?_⟩
  have f0 : ∀ b u, b ≠ d → H b = some u → upd H d (.frz od (.dK kvs)) b = some u := fun b u nb eb => by rw [upd_ne nb]; exact eb
  have e0 : upd H d (.frz od (.dK kvs)) d = some (.frz od (.dK kvs)) := upd_same
  have z0 : ∀ {D : Addr}, upd H d (.frz od (.dK kvs)) D = none → H D = none ∧ D ≠ d := fun {D} z => by
    by_cases h : D = d
    · rw [h, upd_same] at z; exact nomatch z
    · rw [upd_ne h] at z; exact ⟨z, h⟩
  refine hv od _ ⟨d, od, rfl, .inl ⟨kvs, e0, fun D hD => ?_⟩⟩
  refine lc_by (g := gName j) (tt := tt) (te := te) (vs := vs) (σ := σ) (Q := fun v H' => H' d = some (.frz od (.dK kvs)) ∧ Q v (upd H' d (.dK kvs))) walk_keys p hD hl (fun H' s => s _ _ e0) (fun i x H1 H2 Q' R' hi sm y h1 h2 => ?_) fun H' s e => ?_
  · obtain ⟨rfl, k, v, hk, rfl⟩ := y
    exact ⟨hw _, ht i k v od H2 Q' R' hk (sm _ _ e0) (fun b u nb eb => sm _ _ (f0 b u nb eb)) h1 h2⟩
  · obtain ⟨hD1, hD2⟩ := z0 hD
    refine ⟨s _ _ e0, q D _ hD1 (fun b u eb => ?_) (by rw [upd_ne hD2]; exact e)⟩
    by_cases h : b = d
    · rw [h, upd_same, ← hd, ← h]
      exact eb
    · rw [upd_ne h]
      exact s _ _ (f0 b u h eb)
end
theorem eqv_nil {ds : List PyData} : PyData.eqv (.list ds) (.list []) = decide (ds = []) := by
  cases ds with
  | nil => rfl
  | cons a r => rfl
section
variable {σ : L2.St} {H : Hp} {Q : VK} {i j : Nat} {a b : Addr} {z x : Str} {kvs lvs : List (Key × V)} {y : V}
theorem r_dgT (hv : σ[i]? = some (some (.ref a))) (e : Rd H a (.dK kvs)) (hx : valV kvs (.inr z : Key) = some y) (q : Q y H) : tDGet (tVar i) (tC (.str z)) σ H Q := ⟨_, hv, a, y, rfl, .inl ⟨kvs, .inr z, e, rfl, hx.symm⟩, q⟩
theorem r_dg2 (hv : σ[i]? = some (some (.ref a))) (e : Rd H a (.dK kvs)) (hx : valV kvs (.inr z : Key) = some (.ref b)) (e2 : Rd H b (.dK lvs)) (hj : σ[j]? = some (some (.str x))) (h2 : valV lvs (.inr x : Key) = some y) (q : Q y H) :
    tDGet (tDGet (tVar i) (tC (.str z))) (tVar j) σ H Q := r_dgT hv e hx ⟨_, hj, b, y, rfl, .inl ⟨lvs, .inr x, e2, rfl, h2.symm⟩, q⟩
end
theorem ne_ct {H : Hp} {a b : Addr} {u w : HO} (h : H a = some u) (h2 : H b = some w) (n : u ≠ w) : a ≠ b := fun z => n (by rw [z, h2] at h; exact (Option.some.inj h).symm)
theorem r_dget2 {td ty tx : TE} {σ : L2.St} {H : Hp} {Q : VK} (h : td σ H fun x H1 => ∃ a, x = .ref a ∧ IsD H1 a ∧ ty σ H1 fun y H2 => tx σ H2 fun z H3 => ∃ o, DGet H3 a y o ∧ Q (o.getD z) H3) : tDGet2 td ty tx σ H Q := h
theorem r_dgV {σ : L2.St} {H : Hp} {Q : VK} {i j : Nat} {a : Addr} {x : Str} {kvs : List (Key × V)} {y : V} (hv : σ[i]? = some (some (.ref a))) (hj : σ[j]? = some (some (.str x))) (e : Rd H a (.dK kvs)) (hx : valV kvs (.inr x : Key) = some y) (q : Q y H) : tDGet (tVar i) (tVar j) σ H Q := ⟨_, hv, _, hj, a, y, rfl, .inl ⟨kvs, .inr x, e, rfl, hx.symm⟩, q⟩
def lowS (z : Str) : Prop := ∀ c ∈ z.cps.toList, 97 ≤ c ∧ c ≤ 122
theorem nameOk_of {z : Str} (h : lowS z) (l1 : 1 ≤ z.length) (l2 : z.length ≤ 8) : nameOk z = true := by
  unfold nameOk
  rw [decide_eq_true ⟨l1, l2⟩, Bool.true_and]
  unfold allW
  refine List.all_eq_true.mpr fun c hc => ?_
  obtain ⟨a, b⟩ := h c hc
  rw [decide_eq_true a, decide_eq_true b]
  rfl
theorem low_app {x y : Str} (hx : lowS x) (hy : lowS y) : lowS (x ++ y) := fun c hc => by
  have w : (x ++ y).cps.toList = x.cps.toList ++ y.cps.toList := Array.toList_append
  rw [w] at hc
  exact (List.mem_append.mp hc).elim (hx c) (hy c)
theorem low_cut {z : Str} {lo hi : Option Int} (h : lowS z) : lowS (cutS z lo hi) := fun c hc => by
  unfold cutS at hc
  exact h c (List.mem_of_mem_drop (List.mem_of_mem_take hc))
theorem cut_pre {z : Str} {m : Int} (h : 0 ≤ m) : (cutS z none (some m)).length = min m.toNat z.length := by
  unfold cutS HT.sIx
  show (List.toArray _).size = _
  rw [List.size_toArray, List.length_take]
  simp only [if_neg (show ¬ m < 0 by omega), Nat.sub_zero, List.drop_zero]
  rw [Array.length_toList]
  show min (min m.toNat z.length) z.length = _
  omega
theorem cut_suf {z : Str} {m : Int} (h : 0 ≤ m) : (cutS z (some m) none).length = z.length - min m.toNat z.length := by
  unfold cutS HT.sIx
  show (List.toArray _).size = _
  rw [List.size_toArray, List.length_take, List.length_drop]
  simp only [if_neg (show ¬ m < 0 by omega)]
  rw [Array.length_toList]
  show min (z.length - min m.toNat z.length) (z.length - min m.toNat z.length) = _
  omega
def one1 (z : Str) : Prop := lowS z ∧ z.length = 1
theorem glue_low : ∀ (ys : List Str) (acc : Array Nat), (∀ y ∈ ys, one1 y) → (∀ c ∈ acc.toList, 97 ≤ c ∧ c ≤ 122) →
    (∀ c ∈ (ys.foldl (fun (acc : Array Nat) (p : Str) => acc ++ (Str.ofString "").cps ++ p.cps) acc).toList, 97 ≤ c ∧ c ≤ 122) ∧ (ys.foldl (fun (acc : Array Nat) (p : Str) => acc ++ (Str.ofString "").cps ++ p.cps) acc).size = acc.size + ys.length
  | [], acc, _, h => ⟨h, rfl⟩
  | y :: r, acc, hy, h => by
    obtain ⟨y1, y2⟩ := hy y List.mem_cons_self
    have e : (Str.ofString "").cps = #[] := by decide +kernel
    have y2 : y.cps.size = 1 := y2
    have z := glue_low r (acc ++ (Str.ofString "").cps ++ y.cps) (fun b hb => hy b (List.mem_cons_of_mem _ hb)) fun c hc => by
      rw [e, Array.append_empty, Array.toList_append] at hc
      exact (List.mem_append.mp hc).elim (h c) (y1 c)
    refine ⟨z.1, z.2.trans ?_⟩
    rw [e, Array.append_empty, Array.size_append, y2, List.length_cons]
    omega
theorem join_low {ys : List Str} (h : ∀ y ∈ ys, one1 y) (h0 : 0 < ys.length) : lowS (Txt.join (Str.ofString "") ys) ∧ (Txt.join (Str.ofString "") ys).length = ys.length := by
  cases ys with
  | nil => exact absurd h0 (by decide)
  | cons y r =>
    obtain ⟨y1, y2⟩ := h y List.mem_cons_self
    have z := glue_low r y.cps (fun b hb => h b (List.mem_cons_of_mem _ hb)) y1
    refine ⟨z.1, z.2.trans ?_⟩
    have y2 : y.cps.size = 1 := y2
    rw [y2, List.length_cons]
    omega
theorem strs_of {R : Str → Prop} : ∀ {xs : List V}, (∀ v ∈ xs, ∃ y, v = .str y ∧ R y) → ∃ ys : List Str, xs = ys.map V.str ∧ ys.length = xs.length ∧ ∀ y ∈ ys, R y
  | [], _ => ⟨[], rfl, rfl, fun _ z => nomatch z⟩
  | v :: r, h => by
    obtain ⟨y, rfl, hy⟩ := h v List.mem_cons_self
    obtain ⟨ys, rfl, l, hs⟩ := strs_of (xs := r) fun u hu => h u (List.mem_cons_of_mem _ hu)
    exact ⟨y :: ys, rfl, by rw [List.length_cons, l, List.length_cons], fun z hz => (List.mem_cons.mp hz).elim (fun w => by rw [w]; exact hy) (hs z)⟩
theorem sum1 : ∀ {ys : List Str}, (∀ y ∈ ys, one1 y) → (ys.map fun x => x.length).sum = ys.length
  | [], _ => rfl
  | y :: r, h => by
    rw [List.map_cons, List.sum_cons, (h y List.mem_cons_self).2, sum1 fun z hz => h z (List.mem_cons_of_mem _ hz), List.length_cons]
    omega
theorem signs_low : ∀ c ∈ (Str.ofString "abcdefghijklmnopqrstuvwxyz").cps.toList, 97 ≤ c ∧ c ≤ 122 := by decide +kernel
theorem z_low : lowS (Str.ofString "z") ∧ (Str.ofString "z").length = 1 := by
  constructor
  · unfold lowS
    decide +kernel
  · decide +kernel
theorem e_low : lowS Str.empty := fun c hc => nomatch hc
theorem sign_ok {c : Nat} (h : 97 ≤ c ∧ c ≤ 122) : one1 ⟨#[c]⟩ := ⟨fun d hd => by
  have w : d = c := List.mem_singleton.mp hd
  rw [w]
  exact h, rfl⟩
theorem low_of {z : Str} (h : nameOk z = true) : lowS z := fun c hc => by
  have h2 := (Bool.and_eq_true_iff.mp h).2
  have := List.all_eq_true.mp h2 c hc
  rw [Bool.and_eq_true] at this
  exact ⟨of_decide_eq_true this.1, of_decide_eq_true this.2⟩
theorem a_low : lowS (Str.ofString "a") ∧ (Str.ofString "a").length = 1 := by
  constructor
  · unfold lowS
    decide +kernel
  · decide +kernel
/-! ## 36. a dict by an order of names -/
def dicF (G : List Str) (f : Str → V) : List (Key × V) := G.map fun x => (.inr x, f x)
theorem dicF_get {f : Str → V} {x : Str} : ∀ {G : List Str}, valV (dicF G f) (.inr x : Key) = if x ∈ G then some (f x) else none
  | [] => rfl
  | a :: r => by
    have ih := dicF_get (f := f) (x := x) (G := r)
    by_cases c : a = x
    · rw [if_pos (by rw [c]; exact List.mem_cons_self)]
      refine (valV_pos (p := ((.inr a : Key), f a)) (by rw [c])).trans ?_
      rw [c]
    · refine (valV_neg (p := ((.inr a : Key), f a)) (fun z => c (by injection z))).trans ?_
      show valV (dicF r f) (.inr x) = _
      rw [ih]
      by_cases d : x ∈ r
      · rw [if_pos d, if_pos (List.mem_cons_of_mem _ d)]
      · rw [if_neg d, if_neg (fun z => (List.mem_cons.mp z).elim (fun w => c w.symm) d)]
theorem dicF_len {G : List Str} {f : Str → V} : (dicF G f).length = G.length := List.length_map _
theorem dicF_any {G : List Str} {f : Str → V} {x : Str} : ((dicF G f).any fun kv => decide (kv.1 = (.inr x : Key))) = decide (x ∈ G) := by
  rw [valV_any, dicF_get]
  by_cases c : x ∈ G
  · rw [if_pos c, decide_eq_true c]; rfl
  · rw [if_neg c, decide_eq_false c]; rfl
theorem dicF_put {G : List Str} {f : Str → V} {x : Str} {v : V} : putK (dicF G f) (.inr x : Key) v = dicF (if x ∈ G then G else G ++ [x]) (fun y => if y = x then v else f y) := by
  unfold putK
  rw [dicF_any]
  by_cases c : x ∈ G
  · rw [if_pos (decide_eq_true c), if_pos c]
    unfold dicF
    rw [List.map_map]
    refine List.map_congr_left fun y _ => ?_
    show (if (.inr y : Key) = .inr x then ((.inr y : Key), v) else (.inr y, f y)) = (.inr y, if y = x then v else f y)
    by_cases d : y = x
    · rw [if_pos (by rw [d]), if_pos d]
    · rw [if_neg (fun z => d (by injection z)), if_neg d]
  · rw [if_neg (by rw [decide_eq_false c]; exact Bool.false_ne_true), if_neg c]
    unfold dicF
    rw [List.map_append]
    congr 1
    · refine List.map_congr_left fun y hy => ?_
      show ((.inr y : Key), f y) = (.inr y, if y = x then v else f y)
      rw [if_neg (fun z => c (by rw [← z]; exact hy))]
    · show [((.inr x : Key), v)] = [(.inr x, if x = x then v else f x)]
      rw [if_pos rfl]
theorem dicF_drop {f : Str → V} {x : Str} : ∀ {G : List Str}, dropK (dicF G f) (.inr x : Key) = dicF (G.filter fun y => decide (y ≠ x)) f
  | [] => rfl
  | a :: r => by
    have ih := dicF_drop (f := f) (x := x) (G := r)
    by_cases c : a = x
    · rw [List.filter_cons_of_neg (by simpa using c)]
      exact (dropK_pos (p := ((.inr a : Key), f a)) (by rw [c])).trans ih
    · rw [List.filter_cons_of_pos (by simpa using c)]
      refine (dropK_neg (p := ((.inr a : Key), f a)) (fun z => c (by injection z))).trans ?_
      show (_ :: dropK (dicF r f) (.inr x)) = _
      rw [ih]
      rfl
theorem dicF_congr {G : List Str} {f g : Str → V} (h : ∀ x ∈ G, f x = g x) : dicF G f = dicF G g := List.map_congr_left fun x hx => by rw [h x hx]
end Bk

namespace Bk
open PySem PySem.Spec PyProof.Rows L2
theorem op_in_seqK {X : Cx} {K : PySem.W.Frag} (h : X.K = K) : OpR X (compareOp .In) (rIn K false) := by
  subst h
  exact op_in_seq
/-! ## 36. dicts walked by their values; dict comprehensions -/
section
variable {K : PySem.W.Frag} {σ : L2.St} {H : Hp} {Q : VK} {vs : List Nat} {g : TG} {tt : TT} {te tl : TE} {d : Addr} {kvs : List (Key × V)}
theorem lcVals (p : Nat → Option V) (hd : H d = some (.dK kvs)) (hl : kvs.length ≤ 10000)
    (hv : ∀ (od : Obj) (QQ : VK), QQ (.ref d) (upd H d (.frz od (.dK kvs))) → tl σ (upd H d (.frz od (.dK kvs))) QQ)
    (ht : ∀ (i : Nat) (k : Key) (y : V) (od : Obj) (H1 : Hp) (Q' : VK) (R' : Hp → Prop), kvs[i]? = some (k, y) → H1 d = some (.frz od (.dK kvs)) → (∀ b u, b ≠ d → H b = some u → H1 b = some u) → (∀ v, p i = some v → ∀ H3, Same H1 H3 → Q' v H3) → (p i = none → ∀ H3, Same H1 H3 → R' H3) →
      g y (wipe σ vs) H1 fun σ2 H2 => wipe σ2 vs = wipe σ vs ∧ tt σ2 H2 fun b H4 => if b = true then te σ2 H4 Q' else R' H4)
    (q : ∀ D H', H D = none → Same H H' → H' D = some (.lst ((List.range kvs.length).filterMap p)) → Q (.ref D) H') : tLockE (tLc (iVals tl) g tt te vs) σ H Q := by
  refine ⟨d, .dK kvs, hd, trivial, fun od => ?_⟩
  have f0 : ∀ b u, b ≠ d → H b = some u → upd H d (.frz od (.dK kvs)) b = some u := fun b u nb eb => by rw [upd_ne nb]; exact eb
  have e0 : upd H d (.frz od (.dK kvs)) d = some (.frz od (.dK kvs)) := upd_same
  have z0 : ∀ {D : Addr}, upd H d (.frz od (.dK kvs)) D = none → H D = none ∧ D ≠ d := fun {D} z => by
    by_cases h : D = d
    · rw [h, upd_same] at z; exact nomatch z
    · rw [upd_ne h] at z; exact ⟨z, h⟩
  refine hv od _ ⟨d, od, kvs, rfl, e0, fun D hD => ?_⟩
  refine lc_by (g := g) (tt := tt) (te := te) (vs := vs) (σ := σ) (Q := fun v H' => H' d = some (.frz od (.dK kvs)) ∧ Q v (upd H' d (.dK kvs))) walk_values p hD hl (fun H' s => s _ _ e0) (fun i x H1 H2 Q' R' hi sm y h1 h2 => ?_) fun H' s e => ?_
  · obtain ⟨rfl, k, hk⟩ := y
    exact ht i k x od H2 Q' R' hk (sm _ _ e0) (fun b u nb eb => sm _ _ (f0 b u nb eb)) h1 h2
  · obtain ⟨hD1, hD2⟩ := z0 hD
    refine ⟨s _ _ e0, q D _ hD1 (fun b u eb => ?_) (by rw [upd_ne hD2]; exact e)⟩
    by_cases h : b = d
    · rw [h, upd_same, ← hd, ← h]
      exact eb
    · rw [upd_ne h]
      exact s _ _ (f0 b u h eb)
theorem lcKeysS {tt : TT} {te tl : TE} {D : Ends} {i j : Nat} (p : Nat → Option V) (hd : H d = some (.dK kvs)) (hl : kvs.length ≤ 10000) (hw : ∀ x, wipe ((wipe σ vs).set j (some x)) vs = wipe σ vs)
    (hv : ∀ (od : Obj) (QQ : VK), QQ (.ref d) (upd H d (.frz od (.dK kvs))) → tl σ (upd H d (.frz od (.dK kvs))) QQ)
    (ht : ∀ (i : Nat) (k : Key) (y : V) (od : Obj) (H1 : Hp) (Q' : VK) (R' : Hp → Prop), kvs[i]? = some (k, y) → H1 d = some (.frz od (.dK kvs)) → (∀ b u, b ≠ d → H b = some u → H1 b = some u) → (∀ v, p i = some v → ∀ H3, Same H1 H3 → Q' v H3) → (p i = none → ∀ H3, Same H1 H3 → R' H3) →
      tt ((wipe σ vs).set j (some (kV k))) H1 fun b H4 => if b = true then te ((wipe σ vs).set j (some (kV k))) H4 Q' else R' H4)
    (q : ∀ L H', H L = none → Same H H' → H' L = some (.lst ((List.range kvs.length).filterMap p)) → D.nx (σ.set i (some (.ref L))) H') : tLock (tAsg (tLc (iKeys tl) (gName j) tt te vs) (gName i)) D σ H := by
  have z : tLockE (tLc (iKeys tl) (gName j) tt te vs) σ H fun v H' => D.nx (σ.set i (some v)) H' := lcKeys p hd hl hw hv ht q
  obtain ⟨d2, u, h1, h2, h3⟩ := z
  refine ⟨d2, u, h1, h2, fun od => ?_⟩
  exact h3 od
/-- a dict comprehension over a dict's keys: each name gets v -/
theorem dcKeys {j : Nat} {G : List Str} {f : Str → V} {v : V} (nd : G.Nodup) (hl : G.length ≤ 10000) (hw : ∀ x, wipe ((wipe σ vs).set j (some x)) vs = wipe σ vs)
    (hd : H d = some (.dK (dicF G f)))
    (hv : ∀ (od : Obj) (QQ : VK), QQ (.ref d) (upd H d (.frz od (.dK (dicF G f)))) → tl σ (upd H d (.frz od (.dK (dicF G f)))) QQ)
    (hk : ∀ (x : Str) (H1 : Hp) (QQ : VK), QQ (.str x) H1 → te ((wipe σ vs).set j (some (.str x))) H1 QQ)
    (hz : ∀ (x : Str) (H1 : Hp) (QQ : VK), QQ v H1 → tv ((wipe σ vs).set j (some (.str x))) H1 QQ)
    (q : ∀ D H', H D = none → Same H H' → H' D = some (.dK (dicF G fun _ => v)) → Q (.ref D) H') : tLockE (tDc (iKeys tl) (gName j) tYes te tv vs) σ H Q := by
  refine ⟨d, .dK (dicF G f), hd, trivial, fun od => ?_⟩
  have f0 : ∀ b u, b ≠ d → H b = some u → upd H d (.frz od (.dK (dicF G f))) b = some u := fun b u nb eb => by rw [upd_ne nb]; exact eb
  have e0 : upd H d (.frz od (.dK (dicF G f))) d = some (.frz od (.dK (dicF G f))) := upd_same
  have z0 : ∀ {D : Addr}, upd H d (.frz od (.dK (dicF G f))) D = none → H D = none ∧ D ≠ d := fun {D} z => by
    by_cases h : D = d
    · rw [h, upd_same] at z; exact nomatch z
    · rw [upd_ne h] at z; exact ⟨z, h⟩
  refine hv od _ ⟨d, od, rfl, .inl ⟨_, e0, fun D hD => ?_⟩⟩
  obtain ⟨hD1, hD2⟩ := z0 hD
  refine ⟨fun i m H' => m = G.length - i ∧ i ≤ G.length ∧ H' d = some (.frz od (.dK (dicF G f))) ∧ (∀ b u, b ≠ d → b ≠ D → H b = some u → H' b = some u) ∧ H' D = some (.dK (dicF (G.take i) fun _ => v)), ⟨_, rfl, Nat.zero_le _, by rw [upd_ne hD2.symm]; exact e0, fun b u n1 n2 eb => by rw [upd_ne n2]; exact f0 _ _ n1 eb, upd_same⟩, fun i m H' hW => ?_⟩
  obtain ⟨rfl, hi, ed, fr, eD⟩ := hW
  by_cases hc : i < G.length
  · refine .inr ⟨(walk_keys (d := d) (o := od) (kvs := dicF G f)).goes i H' (by rw [dicF_len]; exact hc) ed, fun H2 => ∃ m', m' < G.length - i ∧ m' = G.length - (i + 1) ∧ i + 1 ≤ G.length ∧ H2 d = some (.frz od (.dK (dicF G f))) ∧ (∀ b u, b ≠ d → b ≠ D → H b = some u → H2 b = some u) ∧ H2 D = some (.dK (dicF (G.take (i + 1)) fun _ => v)), fun H2 h => ?_, fun x H2 y => ?_⟩
    · obtain ⟨m', a, b⟩ := h
      exact ⟨m', a, b⟩
    · obtain ⟨rfl, k, w, hk2, rfl⟩ := (walk_keys (d := d) (o := od) (kvs := dicF G f)).yields i _ x H2 (by rw [dicF_len]; exact hc) ed y
      have hg : k = .inr G[i] := by
        unfold dicF at hk2
        rw [List.getElem?_map, List.getElem?_eq_getElem hc] at hk2
        exact (Prod.mk.inj (Option.some.inj hk2)).1.symm
      subst hg
      refine ⟨hw _, ?_⟩
      refine hk _ _ _ (hz _ _ _ ⟨_, .inr G[i], rfl, eD, ?_, _, Nat.sub_lt_sub_left hc (Nat.lt_succ_self i), rfl, hc, ?_, fun b u n1 n2 eb => ?_, ?_⟩)
      · rw [dicF_len, List.length_take, sizeLine_eq]; omega
      · rw [upd_ne hD2.symm]; exact ed
      · rw [upd_ne n2]; exact fr _ _ n1 n2 eb
      · have hn : G[i] ∉ G.take i := fun z => by
          obtain ⟨k, hk3, e3⟩ := List.getElem_of_mem z
          rw [List.getElem_take] at e3
          have hk4 : k < i := by rw [List.length_take] at hk3; omega
          exact absurd ((List.getElem_inj nd).mp e3) (Nat.ne_of_lt hk4)
        rw [upd_same, dicF_put, if_neg hn, List.take_succ_eq_append_getElem hc]
        refine congrArg (fun l => some (HO.dK l)) (dicF_congr fun x _ => ?_)
        by_cases hx : x = G[i]
        · rw [if_pos hx]
        · rw [if_neg hx]
  · have hi2 : i = (dicF G f).length := by rw [dicF_len]; omega
    refine .inl ⟨by rw [hi2]; exact (walk_keys (d := d) (o := od) (kvs := dicF G f)).stops H' ed, ed, q D _ hD1 (fun b u eb => ?_) ?_⟩
    · by_cases h : b = d
      · rw [h, upd_same, ← hd, ← h]
        exact eb
      · rw [upd_ne h]
        exact fr _ _ h (fun z => by rw [z, hD1] at eb; exact nomatch eb) eb
    · rw [upd_ne hD2, eD, List.take_of_length_le (by omega)]
end
end Bk

namespace Bk
open PySem PySem.Spec PyProof.Rows L2
/-! ## 37. a comprehension over a list of names, some left out as drawn -/
section
variable {K : PySem.W.Frag} {σ : L2.St} {H H0 : Hp} {Q : VK} {j : Nat} {vs : List Nat} {tt : TT} {te tl : TE} {a bx : Addr} {M : List Str} {m : Nat} {q : Str}
theorem lcFltD (hb : Box bx m H) (ea : H a = some (.lst (M.map V.str))) (na : a ≠ bx) (hl : M.length ≤ 1000) (hw : ∀ x, wipe ((wipe σ vs).set j (some x)) vs = wipe σ vs)
    (hv : ∀ QQ : VK, QQ (.ref a) H → tl σ H0 QQ)
    (hte : ∀ (x : Str) (H1 : Hp) (QQ : VK), QQ (.str x) H1 → te ((wipe σ vs).set j (some (.str x))) H1 QQ)
    (ht : ∀ (x : Str) (k : Nat) (H1 : Hp) (Q' : Bool → Hp → Prop), x ∈ M → k < m + M.length → Box bx k H1 → (∀ b H2, (x = q → b = true) → Box bx (k + 1) H2 → But bx H1 H2 → Q' b H2) → tt ((wipe σ vs).set j (some (.str x))) H1 Q')
    (hq : ∀ (D : Addr) (H' : Hp) (ys : List Str), H D = none → But bx H H' → Box bx (m + M.length) H' → H' D = some (.lst (ys.map V.str)) → ys.length ≤ M.length → (∀ y ∈ ys, y ∈ M) → (q ∈ M → q ∈ ys) → Q (.ref D) H') : tLc (iList K tl) (gName j) tt te vs σ H0 Q := by
  refine hv _ ⟨a, rfl, ⟨_, sqL ea⟩, fun D hD => ?_⟩
  have nD : D ≠ bx := hb.ne hD
  have nDa : D ≠ a := (ne_of_none ea hD).symm
  refine lc_it (g := gName j) (tt := tt) (te := te) (vs := vs) (σ := σ) (walk_list (K := K) (a := a) (xs := M.map V.str)) (fun i G => But bx H G ∧ Box bx (m + i) G ∧ ∃ ys : List Str, G D = some (.lst (ys.map V.str)) ∧ ys.length ≤ i ∧ (∀ y ∈ ys, y ∈ M) ∧ ∀ k, k < i → M[k]? = some q → q ∈ ys)
    ⟨.of (same_upd hD), hb.same (same_upd hD), [], upd_same, Nat.le_refl _, (fun _ z => (nomatch z)), fun k hk => absurd hk (Nat.not_lt_zero _)⟩ (fun i G hi ⟨bt, _⟩ => sqL (bt _ _ na ea)) (fun i x H1 H2 hi ⟨bt, hB, ys, e, l, hp, hk⟩ y => ?_) fun G ⟨bt, hB, ys, e, l, hp, hk⟩ => ?_
  · obtain ⟨rfl, hx⟩ := y
    rw [List.getElem?_map] at hx
    cases hm : M[i]? with
    | none => rw [hm] at hx; exact nomatch hx
    | some z =>
      rw [hm] at hx
      obtain rfl := Option.some.inj hx
      rw [List.length_map] at hi
      refine ⟨hw _, ht z (m + i) _ _ (List.mem_of_getElem? hm) (by omega) hB fun b H3 hbq hB3 b3 => ?_⟩
      have e3 := b3 _ _ nD e
      have bt3 := bt.trans b3
      cases b with
      | false =>
        refine ⟨bt3, hB3, ys, e3, by omega, hp, fun k hk2 hkq => ?_⟩
        by_cases c : k = i
        · rw [c, hm] at hkq
          exact absurd (hbq (Option.some.inj hkq)) Bool.false_ne_true
        · exact hk k (by omega) hkq
      | true =>
        rw [if_pos rfl]
        refine hte z H3 _ ⟨_, e3, by rw [List.length_map, sizeLine_eq]; omega, ?_⟩
        refine ⟨fun b o nb eb => by rw [upd_ne (ne_of_none eb hD)]; exact bt3 _ _ nb eb, ?_, ys ++ [z], by rw [upd_same, List.map_append]; rfl, by rw [List.length_append]; exact Nat.succ_le_succ l, fun y hy => ?_, fun k hk2 hkq => ?_⟩
        · obtain ⟨x1, y1, z1, eB, r⟩ := hB3
          exact ⟨x1, y1, z1, by rw [upd_ne nD.symm]; exact eB, r⟩
        · rcases List.mem_append.mp hy with w | w
          · exact hp y w
          · rw [List.mem_singleton.mp w]; exact List.mem_of_getElem? hm
        · by_cases c : k = i
          · rw [c, hm] at hkq
            rw [Option.some.inj hkq]
            exact List.mem_append_right _ (List.mem_singleton.mpr rfl)
          · exact List.mem_append_left _ (hk k (by omega) hkq)
  · rw [List.length_map] at hB l hk
    refine hq D G ys hD bt hB e l hp fun h => ?_
    obtain ⟨k, hk1, hk2⟩ := List.getElem_of_mem h
    exact hk k hk1 (by rw [List.getElem?_eq_getElem hk1, hk2])
theorem lcFltN (hb : Box bx m H0) (hl : M.length ≤ 1000) (hw : ∀ x, wipe ((wipe σ vs).set j (some x)) vs = wipe σ vs)
    (hv : ∀ QQ : VK, (∀ a H, H0 a = none → Same H0 H → H a = some (.lst (M.map V.str)) → QQ (.ref a) H) → tl σ H0 QQ)
    (hte : ∀ (x : Str) (H1 : Hp) (QQ : VK), QQ (.str x) H1 → te ((wipe σ vs).set j (some (.str x))) H1 QQ)
    (ht : ∀ (x : Str) (k : Nat) (H1 : Hp) (Q' : Bool → Hp → Prop), x ∈ M → k < m + M.length → Box bx k H1 → (∀ b H2, (x = q → b = true) → Box bx (k + 1) H2 → But bx H1 H2 → Q' b H2) → tt ((wipe σ vs).set j (some (.str x))) H1 Q')
    (hq : ∀ (D : Addr) (H' : Hp) (ys : List Str), H0 D = none → But bx H0 H' → Box bx (m + M.length) H' → H' D = some (.lst (ys.map V.str)) → ys.length ≤ M.length → (∀ y ∈ ys, y ∈ M) → (q ∈ M → q ∈ ys) → Q (.ref D) H') : tLc (iList K tl) (gName j) tt te vs σ H0 Q := by
  refine hv _ fun a H na s ea => ?_
  have z : tLc (iList K (fun _ H' QQ => QQ (.ref a) H')) (gName j) tt te vs σ H Q := lcFltD (q := q) (hb.same s) ea (hb.ne na) hl hw (fun QQ z => z) hte ht fun D H' ys nD b hB e l h1 h2 => hq D H' ys (s.free nD) (fun c o nb eb => b c o nb (s _ _ eb)) hB e l h1 h2
  exact z
end
/-! ## 38. a list of names as data -/
def strD (l : List Str) : PyData := .list (l.map PyData.str)
theorem lay_strs : ∀ {l : List Str}, (∀ x ∈ l, PyData.strOk x = true) → PyData.canLayAll0 (l.map PyData.str) = true ∧ PyData.depthAll (l.map PyData.str) = 0
  | [], _ => ⟨rfl, rfl⟩
  | a :: r, h => by
    obtain ⟨h1, h2⟩ := lay_strs (l := r) fun x hx => h x (List.mem_cons_of_mem _ hx)
    constructor
    · show (PyData.canLay0 (.str a) && PyData.canLayAll0 _) = true
      rw [h1]
      simp only [PyData.canLay0, h a List.mem_cons_self, Bool.true_and]
    · show max (PyData.depth (.str a)) (PyData.depthAll _) = 0
      rw [h2]
      rfl
theorem sh_strs {l : List Str} (h : ∀ x ∈ l, PyData.strOk x = true) : SeqAt.shaped (strD l) = true := by
  unfold SeqAt.shaped strD
  simp only [PyData.canLay0, (lay_strs h).1, PyData.depth, (lay_strs h).2, Bool.true_and]
  decide
theorem dps_strs {K : PySem.W.Frag} {H : Hp} : ∀ l : List Str, DpAll K H (l.map V.str) (l.map PyData.str)
  | [] => .nil
  | a :: r => .cons (.str _) (dps_strs r)
theorem dp_strs {K : PySem.W.Frag} {H : Hp} {a : Addr} {l : List Str} (h : SqL K H a (l.map V.str)) : Dp K H (.ref a) (strD l) := .lst h (dps_strs l)
theorem sh_nil : SeqAt.shaped (.list []) = true := by decide +kernel
end Bk

namespace Bk
open PySem PySem.Spec PyProof.Rows L2
/-! ## 39. dicts made of pairs -/
theorem dicF_merge {f : Str → V} : ∀ {M G : List Str}, (G ++ M).Nodup → mergeK (dicF G f) (dicF M f) = dicF (G ++ M) f
  | [], G, _ => by rw [List.append_nil]; rfl
  | a :: r, G, h => by
    have ha : a ∉ G := fun z => (List.nodup_append.mp h).2.2 a z a List.mem_cons_self rfl
    have e : putK (dicF G f) (.inr a : Key) (f a) = dicF (G ++ [a]) f := by
      rw [dicF_put, if_neg ha]
      refine dicF_congr fun y _ => ?_
      by_cases c : y = a
      · rw [if_pos c, c]
      · rw [if_neg c]
    show mergeK (putK (dicF G f) (.inr a : Key) (f a)) (dicF r f) = _
    rw [e]
    have h2 : ((G ++ [a]) ++ r).Nodup := by rw [List.append_assoc]; exact h
    rw [dicF_merge h2, List.append_assoc]
    rfl
theorem dicF_new {f : Str → V} {M : List Str} (h : M.Nodup) : mergeK [] (dicF M f) = dicF M f := dicF_merge (G := []) h
theorem paired_dic {R : Addr → Key × V → Prop} {f : Str → V} : ∀ {M : List Str} {ts : List Addr}, ts.length = M.length → (∀ (k : Nat) t x, ts[k]? = some t → M[k]? = some x → R t (.inr x, f x)) → Paired R ts (dicF M f)
  | [], [], _, _ => .nil
  | x :: M, t :: ts, l, h => .cons (h 0 t x rfl rfl) (paired_dic (Nat.succ.inj l) fun k t x a b => h (k + 1) t x a b)
theorem by_name {α : Type} (d : α) {M : List Str} (nd : M.Nodup) {cs : List α} : ∃ f : Str → α, ∀ (k : Nat) x c, M[k]? = some x → cs[k]? = some c → f x = c :=
  ⟨fun x => cs.getD (M.idxOf x) d, fun k x c hx hc => by
    obtain ⟨hk, e⟩ := List.getElem?_eq_some_iff.mp hx
    have : M.idxOf x = k := by rw [← e]; exact List.Nodup.idxOf_getElem nd k hk
    show cs.getD (M.idxOf x) d = c
    rw [this, List.getD_eq_getElem?_getD, hc]
    rfl⟩
section
variable {J : It} {G : Hp → Prop} {Y : Nat → Hp → V → Hp → Prop} {te : TE} {vs : List Nat} {σ : L2.St} {H : Hp} {D : Addr} {Q : VK} {M : List Str} {j : Nat}
/-- each turn lays a pair of a name and a new thing -/
theorem lc_prs (w : Walk J M.length G Y) (o : Str → HO) (hD : H D = none) (hn : M.length ≤ 10000) (hG : ∀ H', Same H H' → G H') (hw : ∀ x, wipe ((wipe σ vs).set j (some x)) vs = wipe σ vs)
    (hY : ∀ i H1 x H2, i < M.length → Y i H1 x H2 → H2 = H1 ∧ ∃ z, M[i]? = some z ∧ x = .str z)
    (hs : ∀ (z : Str) (H1 : Hp) (Q' : VK), z ∈ M → Same H H1 → (∀ t c H3, H1 t = none → H1 c = none → t ≠ c → Same H1 H3 → H3 t = some (.tup [.str z, .ref c]) → H3 c = some (o z) → Q' (.ref t) H3) → te ((wipe σ vs).set j (some (.str z))) H1 Q')
    (q : ∀ H' (ts cs : List Addr), Same H H' → H' D = some (.lst (ts.map V.ref)) → ts.length = M.length → cs.length = M.length → (∀ (k : Nat) t c x, ts[k]? = some t → cs[k]? = some c → M[k]? = some x → H' t = some (.tup [.str x, .ref c]) ∧ H' c = some (o x)) → cs.Nodup → (∀ c ∈ cs, H c = none) → D ∉ cs → Q (.ref D) H') :
    ∃ W : Nat → Nat → Hp → Prop, (∃ m, W 0 m (upd H D (.lst []))) ∧ ∀ i m H, W i m H →
      (J.stop i H ∧ Q (.ref D) H) ∨ (J.go i H ∧ ∃ Nx : Hp → Prop, (∀ H', Nx H' → ∃ m', m' < m ∧ W (i + 1) m' H') ∧ ∀ x H', J.yld i H x H' → gName j x (wipe σ vs) H' fun σ2 H2 => wipe σ2 vs = wipe σ vs ∧ tYes σ2 H2 fun b H3 =>
        if b = true then te σ2 H3 fun y H4 => ∃ acc, H4 D = some (.lst acc) ∧ acc.length < sizeLine ∧ Nx (upd H4 D (.lst (acc ++ [y]))) else Nx H3) := by
  refine lc_it w (fun i G => Same H G ∧ ∃ ts cs : List Addr, G D = some (.lst (ts.map V.ref)) ∧ ts.length = i ∧ cs.length = i ∧ (∀ (k : Nat) t c x, ts[k]? = some t → cs[k]? = some c → M[k]? = some x → G t = some (.tup [.str x, .ref c]) ∧ G c = some (o x)) ∧ cs.Nodup ∧ (∀ c ∈ cs, H c = none ∧ G c ≠ none) ∧ D ∉ cs)
    ⟨same_upd hD, [], [], upd_same, rfl, rfl, (fun _ _ _ _ z => nomatch z), List.nodup_nil, (fun _ z => nomatch z), fun z => nomatch z⟩ (fun i G _ z => hG G z.1) (fun i x H1 H2 hi ⟨sm, ts, cs, e, l1, l2, all, nd, fr, nD⟩ y => ?_) fun G ⟨sm, ts, cs, e, l1, l2, all, nd, fr, nD⟩ => q G ts cs sm e l1 l2 all nd (fun c hc => (fr c hc).1) nD
  obtain ⟨rfl, z, hz, rfl⟩ := hY i H1 x H2 hi y
  refine ⟨hw _, ?_⟩
  refine hs z H2 _ (List.mem_of_getElem? hz) sm fun t c H3 nt nc tc s3 et ec => ?_
  have tD : t ≠ D := fun w => by rw [w, e] at nt; exact nomatch nt
  have cD : c ≠ D := fun w => by rw [w, e] at nc; exact nomatch nc
  have ccs : c ∉ cs := fun w => (fr c w).2 nc
  refine ⟨_, s3 _ _ e, by rw [List.length_map, l1]; exact Nat.lt_of_lt_of_le hi (Nat.le_trans hn (by decide)), sameBut (sm.trans s3) hD, ts ++ [t], cs ++ [c], ?_, by rw [List.length_append, l1]; rfl, by rw [List.length_append, l2]; rfl, fun k u v x hk hv hx => ?_, ?_, fun u hu => ?_, fun w => ?_⟩
  · rw [upd_same, List.map_append]
    rfl
  · have hlt : k < ts.length + 1 := by
      have := (List.getElem?_eq_some_iff.mp hk).1
      rw [List.length_append] at this
      exact this
    by_cases hk2 : k < ts.length
    · rw [List.getElem?_append_left hk2] at hk
      rw [List.getElem?_append_left (by omega)] at hv
      obtain ⟨a1, a2⟩ := all k u v x hk hv hx
      have nu : u ≠ D := fun w => by rw [w, e] at a1; exact nomatch a1
      have nv : v ≠ D := fun w => nD (by rw [← w]; exact List.mem_of_getElem? hv)
      exact ⟨by rw [upd_ne nu]; exact s3 _ _ a1, by rw [upd_ne nv]; exact s3 _ _ a2⟩
    · have e3 : k = i := by omega
      subst e3
      rw [List.getElem?_append_right (by omega), l1, Nat.sub_self] at hk
      rw [List.getElem?_append_right (by omega), l2, Nat.sub_self] at hv
      obtain rfl := Option.some.inj hk
      obtain rfl := Option.some.inj hv
      rw [hz] at hx
      obtain rfl := Option.some.inj hx
      exact ⟨by rw [upd_ne tD]; exact et, by rw [upd_ne cD]; exact ec⟩
  · refine List.nodup_append.mpr ⟨nd, (by simp), fun a ha b hb w => ?_⟩
    rw [List.mem_singleton.mp hb] at w
    exact ccs (by rw [← w]; exact ha)
  · rcases List.mem_append.mp hu with w | w
    · obtain ⟨a1, a2⟩ := fr u w
      refine ⟨a1, ?_⟩
      rw [upd_ne (fun z => nD (by rw [← z]; exact w))]
      cases h : H2 u with
      | none => exact absurd h a2
      | some r => rw [s3 _ _ h]; exact fun z => nomatch z
    · rw [List.mem_singleton.mp w]
      refine ⟨sm.free nc, ?_⟩
      rw [upd_ne cD, ec]
      exact fun z => nomatch z
  · rcases List.mem_append.mp w with w | w
    · exact nD w
    · exact cD (List.mem_singleton.mp w).symm
end
/-- dict(..) of such a list -/
theorem r_dictP {K : PySem.W.Frag} {H : Hp} {Q : VK} {M : List Str} {D : Addr} {ts cs : List Addr} {o : Str → HO} (nd : M.Nodup) (eD : H D = some (.lst (ts.map V.ref))) (lt : ts.length = M.length) (lc : cs.length = M.length)
    (hp : ∀ (k : Nat) t c x, ts[k]? = some t → cs[k]? = some c → M[k]? = some x → H t = some (.tup [.str x, .ref c]) ∧ H c = some (o x)) (cn : cs.Nodup)
    (q : ∀ p (f : Str → Addr) H', H p = none → Same H H' → H' p = some (.dK (dicF M fun x => .ref (f x))) → (∀ x ∈ M, H' (f x) = some (o x) ∧ f x ∈ cs) → (∀ x ∈ M, ∀ y ∈ M, f x = f y → x = y) → Q (.ref p) H') :
    ∃ (a : Addr) (ps : List Addr) (kvs : List (Key × V)), [V.ref D] = [.ref a] ∧ SqL K H a (ps.map V.ref) ∧ Paired (fun p kv => SqT K H p [kV kv.1, kv.2]) ps kvs ∧ ∀ p, H p = none → Q (.ref p) (upd H p (.dK (mergeK [] kvs))) := by
  obtain ⟨f, hf⟩ := by_name (D : Addr) nd (cs := cs)
  have at2 : ∀ {k : Nat} {x : Str}, M[k]? = some x → cs[k]? = some (f x) := fun {k x} hx => by
    obtain ⟨hk, _⟩ := List.getElem?_eq_some_iff.mp hx
    have h2 : cs[k]? = some cs[k] := List.getElem?_eq_getElem (by omega)
    rw [h2, hf k x _ hx h2]
  refine ⟨D, ts, dicF M fun x => .ref (f x), rfl, sqL eD, paired_dic lt fun k t x ht hx => ?_, fun p np => ?_⟩
  · exact sqT (hp k t (f x) x ht (at2 hx) hx).1
  · rw [dicF_new nd]
    refine q p f _ np (same_upd np) upd_same (fun x hx => ?_) fun x hx y hy e => ?_
    · obtain ⟨k, hk⟩ := List.getElem?_of_mem hx
      have h2 := at2 hk
      obtain ⟨hk2, _⟩ := List.getElem?_eq_some_iff.mp hk
      have e := (hp k _ _ x (List.getElem?_eq_getElem (by omega : k < ts.length)) h2 hk).2
      exact ⟨by rw [upd_ne (ne_of_none e np)]; exact e, List.mem_of_getElem? h2⟩
    · obtain ⟨k, hk⟩ := List.getElem?_of_mem hx
      obtain ⟨l, hl⟩ := List.getElem?_of_mem hy
      have h1 := at2 hk
      have h2 := at2 hl
      rw [e] at h1
      obtain ⟨k1, k2⟩ := List.getElem?_eq_some_iff.mp h1
      obtain ⟨l1, l2⟩ := List.getElem?_eq_some_iff.mp h2
      have := (List.getElem_inj cn).mp (k2.trans l2.symm)
      subst this
      rw [hk] at hl
      exact Option.some.inj hl
/-! ## 40. a dict of pairs of a name and a drawn number -/
section
variable {K : PySem.W.Frag} {σ : L2.St} {H : Hp} {Q : VK} {j : Nat} {vs : List Nat} {te tl : TE} {a bx : Addr} {M : List Str} {m : Nat}
theorem lcMood (hb : Box bx m H) (ea : H a = some (.lst (M.map V.str))) (na : a ≠ bx) (hl : M.length ≤ 1000) (hw : ∀ x, wipe ((wipe σ vs).set j (some x)) vs = wipe σ vs)
    (hv : ∀ QQ : VK, QQ (.ref a) H → tl σ H QQ)
    (ht : ∀ (x : Str) (k : Nat) (H1 : Hp) (Q' : VK), x ∈ M → k < m + M.length → Box bx k H1 → (∀ t (v : Int) H2, H1 t = none → Box bx (k + 1) H2 → But bx H1 H2 → H2 t = some (.tup [.str x, .int v]) → Q' (.ref t) H2) → te ((wipe σ vs).set j (some (.str x))) H1 Q')
    (hq : ∀ (D : Addr) (H' : Hp) (ts : List Addr) (ns : List Int), H D = none → But bx H H' → Box bx (m + M.length) H' → H' D = some (.lst (ts.map V.ref)) → ts.length = M.length → ns.length = M.length → (∀ (k : Nat) t x v, ts[k]? = some t → M[k]? = some x → ns[k]? = some v → H' t = some (.tup [.str x, .int v])) → Q (.ref D) H') : tLc (iList K tl) (gName j) tYes te vs σ H Q := by
  refine hv _ ⟨a, rfl, ⟨_, sqL ea⟩, fun D hD => ?_⟩
  have nD : D ≠ bx := hb.ne hD
  refine lc_it (g := gName j) (tt := tYes) (te := te) (vs := vs) (σ := σ) (walk_list (K := K) (a := a) (xs := M.map V.str)) (fun i G => But bx H G ∧ Box bx (m + i) G ∧ ∃ (ts : List Addr) (ns : List Int), G D = some (.lst (ts.map V.ref)) ∧ ts.length = i ∧ ns.length = i ∧ ∀ (k : Nat) t x v, ts[k]? = some t → M[k]? = some x → ns[k]? = some v → G t = some (.tup [.str x, .int v]))
    ⟨.of (same_upd hD), hb.same (same_upd hD), [], [], upd_same, rfl, rfl, (fun _ _ _ _ z => nomatch z)⟩ (fun i G hi ⟨bt, _⟩ => sqL (bt _ _ na ea)) (fun i x H1 H2 hi ⟨bt, hB, ts, ns, e, l1, l2, all⟩ y => ?_) fun G ⟨bt, hB, ts, ns, e, l1, l2, all⟩ => ?_
  · obtain ⟨rfl, hx⟩ := y
    rw [List.getElem?_map] at hx
    cases hm : M[i]? with
    | none => rw [hm] at hx; exact nomatch hx
    | some z =>
      rw [hm] at hx
      obtain rfl := Option.some.inj hx
      rw [List.length_map] at hi
      refine ⟨hw _, ?_⟩
      refine ht z (m + i) _ _ (List.mem_of_getElem? hm) (by omega) hB fun t v H3 nt hB3 b3 et => ?_
      have tD : t ≠ D := fun w => by rw [w, e] at nt; exact nomatch nt
      refine ⟨_, b3 _ _ nD e, by rw [List.length_map, sizeLine_eq]; omega, fun b o nb eb => ?_, ?_, ts ++ [t], ns ++ [v], by rw [upd_same, List.map_append]; rfl, by rw [List.length_append, l1]; rfl, by rw [List.length_append, l2]; rfl, fun k u x v2 hk hx hv2 => ?_⟩
      · rw [upd_ne (ne_of_none eb hD)]
        exact (bt.trans b3) _ _ nb eb
      · obtain ⟨x1, y1, z1, eB, r⟩ := hB3
        exact ⟨x1, y1, z1, by rw [upd_ne nD.symm]; exact eB, r⟩
      · have hlt : k < ts.length + 1 := by
          have := (List.getElem?_eq_some_iff.mp hk).1
          rw [List.length_append] at this
          exact this
        by_cases hk2 : k < ts.length
        · rw [List.getElem?_append_left hk2] at hk
          rw [List.getElem?_append_left (by omega)] at hv2
          have a1 := all k u x v2 hk hx hv2
          have nu : u ≠ D := fun w => by rw [w, e] at a1; exact nomatch a1
          have nub : u ≠ bx := fun w => by
            obtain ⟨x1, y1, z1, eB, r⟩ := hB
            rw [w, eB] at a1
            exact nomatch a1
          rw [upd_ne nu]
          exact b3 _ _ nub a1
        · have e3 : k = i := by omega
          subst e3
          rw [List.getElem?_append_right (by omega), l1, Nat.sub_self] at hk
          rw [List.getElem?_append_right (by omega), l2, Nat.sub_self] at hv2
          obtain rfl := Option.some.inj hk
          obtain rfl := Option.some.inj hv2
          rw [hm] at hx
          obtain rfl := Option.some.inj hx
          rw [upd_ne tD]
          exact et
  · rw [List.length_map] at hB l1 l2
    exact hq D G ts ns hD bt hB e l1 l2 all
end
theorem r_dictN {K : PySem.W.Frag} {H : Hp} {Q : VK} {M : List Str} {D : Addr} {ts : List Addr} {ns : List Int} (nd : M.Nodup) (eD : H D = some (.lst (ts.map V.ref))) (lt : ts.length = M.length) (ln : ns.length = M.length)
    (hp : ∀ (k : Nat) t x v, ts[k]? = some t → M[k]? = some x → ns[k]? = some v → H t = some (.tup [.str x, .int v]))
    (q : ∀ p (f : Str → Int) H', H p = none → Same H H' → H' p = some (.dK (dicF M fun x => .int (f x))) → Q (.ref p) H') :
    ∃ (a : Addr) (ps : List Addr) (kvs : List (Key × V)), [V.ref D] = [.ref a] ∧ SqL K H a (ps.map V.ref) ∧ Paired (fun p kv => SqT K H p [kV kv.1, kv.2]) ps kvs ∧ ∀ p, H p = none → Q (.ref p) (upd H p (.dK (mergeK [] kvs))) := by
  obtain ⟨f, hf⟩ := by_name (0 : Int) nd (cs := ns)
  refine ⟨D, ts, dicF M fun x => .int (f x), rfl, sqL eD, paired_dic lt fun k t x ht hx => ?_, fun p np => ?_⟩
  · obtain ⟨hk, _⟩ := List.getElem?_eq_some_iff.mp hx
    have h2 : ns[k]? = some ns[k] := List.getElem?_eq_getElem (by omega)
    have e := hp k t x _ ht hx h2
    rw [← hf k x _ hx h2] at e
    exact sqT e
  · rw [dicF_new nd]
    exact q p f _ np (same_upd np) upd_same
end Bk

namespace Bk
open PySem PySem.Spec PyProof.Rows L2
/-! ## 41. C(k = e, ..) -/
structure CalCK (P : Program) (w : World) (K : PySem.W.Frag) (mg : Str → Option Value) (base : Heap) (CX : CXT) (k : Nat) (ks : List Str) (C : Addr) (x : Str) (sp : Sp) (gV : List V → List V → List V) : Prop where
  ex : ∃ (f : Addr) (fd : FuncData) (ps : List Str) (g : List Value → List Value → List Value), Mk K C f ∧ FnOk P w K mg base CX k f fd ps sp ∧ KBn K fd ps 1 ks g gV ∧ mg x = some (.ref C)
def tMkK (C : Addr) (j : Nat) (sp : Sp) (gV : List V → List V → List V) (E : L2.St → XK) (tk : TA) : TE := fun σ H Q => tk σ H fun zs H1 => zs.length = j ∧ ∀ x dx, H1 x = none → H1 dx = none → dx ≠ x →
  sp (gV [.ref x] zs) (upd (upd H1 dx (.own x)) x (.ins C dx [])) (fun v H2 => v = .non ∧ Q (.ref x) H2) (E σ)
section
variable {X : Cx} {CX : CXT} {k j n : Nat} {ks : List Str} {f C : Addr} {fd : FuncData} {ps : List Str} {sp : Sp} {E : L2.St → XK} {x m : Str} {p pos apos : Pos} {e o : Expr} {es : List Expr} {kws : List Keyword} {ta : TE} {t tk : TA} {gV : List V → List V → List V} {g : List Value → List Value → List Value}
theorem run_mkNS {pins : List (Addr × Obj)} {σ : L2.St} {H : Hp} {s : Shared} {Q : VK} {ws : List Value} {zs : List V} (M : Mk X.K C f) (F : FnOk X.prog X.w X.K X.mg X.base CX k f fd ps sp) (hr : Room (k + 1) X.A) (hb : KBn X.K fd ps 1 ks g gV)
    (hx : PassesAt CX X σ (E σ)) (I : Inv X pins σ H s) (rz : Vals zs ws) (l2 : zs.length = ks.length)
    (h : ∀ x dx, H x = none → H dx = none → dx ≠ x → sp (gV [.ref x] zs) (upd (upd H dx (.own x)) x (.ins C dx [])) (fun v H2 => v = .non ∧ Q (.ref x) H2) (E σ)) :
    wpAny (model X.prog X.w) X.A (call (.ref C) [] (ks.zip ws)) (EP X pins σ Q) X.xe s := by
  have hq := h (s.heap.objs.size + 1) s.heap.objs.size (I.hok.fresh (Nat.le_succ _)) (I.hok.fresh (Nat.le_refl _)) (Nat.ne_of_lt (Nat.lt_succ_self _))
  have I2 := Inv.made (C := C) I
  have r2 : Vals [V.ref (s.heap.objs.size + 1)] [Value.ref (s.heap.objs.size + 1)] := .cons rfl .nil
  refine wpAny_call (make_map (f := f) I.kIn M.makes M.init (beq_iff_eq.mp M.fn) (codeAny_mono (F.run _ X.stack _ _ ⟨[Value.ref (s.heap.objs.size + 1)], ks.zip ws⟩ (g [Value.ref (s.heap.objs.size + 1)] ws) _ _ (E σ) (hr.make C [] (ks.zip ws))
    (I2.env0.make C [] (ks.zip ws)) (hb.to { s with heap := _ } [Value.ref (s.heap.objs.size + 1)] ws I2.kIn rfl (rz.length.symm.trans l2)) (hb.rel r2 rz) hq) fun r s' hq' => ?_))
  cases r with
  | error e => exact hx pins _ _ e s' I2 hq'
  | ok fl =>
    cases fl with
    | ret u =>
      obtain ⟨v, H', I3, rv, ev, q3⟩ := I2.after hq'
      subst ev
      exact ⟨rv, ⟨V.ref (s.heap.objs.size + 1), H', I3, rfl, q3⟩⟩
    | next => exact False.elim hq'
    | brk => exact False.elim hq'
    | cont => exact False.elim hq'
theorem pe_mkK (c : CalCK X.prog X.w X.K X.mg X.base CX k ks C x sp gV) (hr : Room j X.A) (hk : k + 1 ≤ j) (hg : Gl X x) (hx : ∀ σ, PassesAt CX X σ (E σ)) (hkw : PK X kws tk)
    (hall : (backToKw pos (keywordEach kws X.env)).all (·.1.isSome) = true := by rfl) (hks : (backToKw pos (keywordEach kws X.env)).filterMap (·.1) = ks := by rfl)
    (hpl : ((backTo pos (starEach [] X.env)).any (·.1) || (backToKw pos (keywordEach kws X.env)).any (·.1.isNone)) = false := by rfl)
    (hdb : (x == ("__debug__" : Str)) = false := by decide) : PE X (.Call (.Name x p) [] kws pos) (tMkK C ks.length sp gV E tk) := by
  obtain ⟨f, fd, ps, g, M, F, hb, hm⟩ := c.ex
  refine ⟨fun pins s σ H Q I h => ?_⟩
  refine wpAny_Call_Name_kw (ld_glob I hg hm ?_ hdb)
  refine PySem.W.callWith_KW0 (first := []) (h₀ := X.base) I.ok.mod.kin M.kp hall ?_ hpl
  refine thn (hkw.run pos pins s σ H _ I h) fun ws s2 ⟨zs, H2, I2, rz, l2, q2⟩ => ⟨I2.kIn, ?_⟩
  rw [hks]
  exact run_mkNS M F (hr.mono hk) hb (hx σ) I2 rz l2 q2
end
theorem sl_listK {X : Cx} {K : PySem.W.Frag} (h : X.K = K) : SlR X (rSlL K) := by
  subst h
  exact sl_list
/-- for over a list or a tuple, whichever it is -/
theorem r_forA {K : PySem.W.Frag} {a : Addr} {xs : List V} {g : TG} {tb : TS} {D : Ends} {σ : L2.St} {H : Hp} (hq : SqL K H a xs ∨ SqT K H a xs) (Pv : Nat → L2.St → Hp → Prop) (h0 : Pv 0 σ H) (hG : ∀ i σ G, i ≤ xs.length → Pv i σ G → Same H G)
    (hs : ∀ i x σ G, xs[i]? = some x → Pv i σ G → g x σ G fun σ2 H2 => tb { D with nx := Pv (i + 1), ct := Pv (i + 1), bk := D.nx } σ2 H2) (hd : ∀ σ G, Pv xs.length σ G → D.nx σ G) :
    ∃ a' xs', V.ref a = .ref a' ∧ ((SqL K H a' xs' ∧ (∃ W : Nat → Nat → L2.St → Hp → Prop, (∃ m, W 0 m σ H) ∧ ∀ i m σ H, W i m σ H →
      ((Itl K a').stop i H ∧ D.nx σ H) ∨ ((Itl K a').go i H ∧ ∃ N : L2.St → Hp → Prop, (∀ σ' H', N σ' H' → ∃ m', m' < m ∧ W (i + 1) m' σ' H') ∧ ∀ x H', (Itl K a').yld i H x H' → g x σ H' fun σ2 H2 => tb { D with nx := N, ct := N, bk := D.nx } σ2 H2))) ∨
      (SqT K H a' xs' ∧ (∃ W : Nat → Nat → L2.St → Hp → Prop, (∃ m, W 0 m σ H) ∧ ∀ i m σ H, W i m σ H →
      ((Itt K a').stop i H ∧ D.nx σ H) ∨ ((Itt K a').go i H ∧ ∃ N : L2.St → Hp → Prop, (∀ σ' H', N σ' H' → ∃ m', m' < m ∧ W (i + 1) m' σ' H') ∧ ∀ x H', (Itt K a').yld i H x H' → g x σ H' fun σ2 H2 => tb { D with nx := N, ct := N, bk := D.nx } σ2 H2)))) := by
  rcases hq with hq | hq
  · exact ⟨a, xs, rfl, .inl ⟨hq, for_it walk_list Pv h0 (fun i σ G hi h => (hG i σ G hi h).seq hq) (fun i x σ G G' hi h y => by obtain ⟨rfl, y⟩ := y; exact hs i x σ _ y h) hd⟩⟩
  · exact ⟨a, xs, rfl, .inr ⟨hq, for_it walk_tup Pv h0 (fun i σ G hi h => seqT (hG i σ G hi h) hq) (fun i x σ G G' hi h y => by obtain ⟨rfl, y⟩ := y; exact hs i x σ _ y h) hd⟩⟩
end Bk

namespace Bk
open PySem PySem.Spec PyProof.Rows L2
/-! ## 42. what a locked dict leaves behind -/
section
variable {H H' : Hp} {d bx : Addr} {kvs : List (Key × V)} {od : Obj}
theorem unlock_same (hd : H d = some (.dK kvs)) (s : Same (upd H d (.frz od (.dK kvs))) H') : Same H (upd H' d (.dK kvs)) := fun b u eb => by
  by_cases h : b = d
  · rw [h, upd_same, ← hd, ← h]
    exact eb
  · rw [upd_ne h]
    exact s _ _ (by rw [upd_ne h]; exact eb)
theorem unlock_but (hd : H d = some (.dK kvs)) (s : But bx (upd H d (.frz od (.dK kvs))) H') : But bx H (upd H' d (.dK kvs)) := fun b u nb eb => by
  by_cases h : b = d
  · rw [h, upd_same, ← hd, ← h]
    exact eb
  · rw [upd_ne h]
    exact s _ _ nb (by rw [upd_ne h]; exact eb)
theorem lock_but : But d H (upd H d (.frz od (.dK kvs))) := fun b u nb eb => by rw [upd_ne nb]; exact eb
theorem lock_none {D : Addr} (z : upd H d (.frz od (.dK kvs)) D = none) : H D = none ∧ D ≠ d := by
  by_cases h : D = d
  · rw [h, upd_same] at z; exact nomatch z
  · rw [upd_ne h] at z; exact ⟨z, h⟩
theorem lockS {t : TE} {D : Ends} {i : Nat} {σ : L2.St} (h : tLockE t σ H fun v H' => D.nx (σ.set i (some v)) H') : tLock (tAsg t (gName i)) D σ H := by
  obtain ⟨d2, u, h1, h2, h3⟩ := h
  exact ⟨d2, u, h1, h2, fun od => h3 od⟩
end
/-! ## 43. comprehensions over a locked dict that lay new things -/
section
variable {K : PySem.W.Frag} {σ : L2.St} {H : Hp} {Q : VK} {j : Nat} {vs : List Nat} {g : TG} {tt : TT} {te tl : TE} {d bx : Addr} {kvs : List (Key × V)}
theorem lcNewV (c : Nat → HO) (hd : H d = some (.dK kvs)) (hl : kvs.length ≤ 10000) (hw : ∀ x, wipe ((wipe σ vs).set j (some x)) vs = wipe σ vs)
    (hv : ∀ (od : Obj) (QQ : VK), QQ (.ref d) (upd H d (.frz od (.dK kvs))) → tl σ (upd H d (.frz od (.dK kvs))) QQ)
    (ht : ∀ (i : Nat) (k : Key) (y : V) (od : Obj) (H1 : Hp) (Q' : VK), kvs[i]? = some (k, y) → H1 d = some (.frz od (.dK kvs)) → (∀ b u, b ≠ d → H b = some u → H1 b = some u) → (∀ t H3, H1 t = none → Same H1 H3 → H3 t = some (c i) → Q' (.ref t) H3) → te ((wipe σ vs).set j (some y)) H1 Q')
    (q : ∀ D H' (ts : List Addr), H D = none → Same H H' → H' D = some (.lst (ts.map V.ref)) → ts.length = kvs.length → (∀ k t, ts[k]? = some t → H' t = some (c k)) → Q (.ref D) H') : tLockE (tLc (iVals tl) (gName j) tYes te vs) σ H Q := by
  refine ⟨d, .dK kvs, hd, trivial, fun od => ?_⟩
  have e0 : upd H d (.frz od (.dK kvs)) d = some (.frz od (.dK kvs)) := upd_same
  refine hv od _ ⟨d, od, kvs, rfl, e0, fun D hD => ?_⟩
  obtain ⟨hD1, hD2⟩ := lock_none hD
  refine lc_new (g := gName j) (te := te) (vs := vs) (σ := σ) (Q := fun v H' => H' d = some (.frz od (.dK kvs)) ∧ Q v (upd H' d (.dK kvs))) walk_values c hD hl (fun H' s => s _ _ e0) (fun i x H1 H2 Q' R' hi sm y h => ?_) fun H' ts s e l all nd fr => ?_
  · obtain ⟨rfl, k, hk⟩ := y
    exact ⟨hw _, r_yes (ht i k x od H2 Q' hk (sm _ _ e0) (fun b u nb eb => sm _ _ (lock_but _ _ nb eb)) h)⟩
  · refine ⟨s _ _ e0, q D _ ts hD1 (unlock_same hd s) (by rw [upd_ne hD2]; exact e) l fun k t hk => ?_⟩
    rw [upd_ne (lock_none (fr t (List.mem_of_getElem? hk))).2]
    exact all k t hk
theorem lcNewK (c : Nat → HO) (hd : H d = some (.dK kvs)) (hl : kvs.length ≤ 10000) (hw : ∀ x, wipe ((wipe σ vs).set j (some x)) vs = wipe σ vs)
    (hv : ∀ (od : Obj) (QQ : VK), QQ (.ref d) (upd H d (.frz od (.dK kvs))) → tl σ (upd H d (.frz od (.dK kvs))) QQ)
    (ht : ∀ (i : Nat) (k : Key) (y : V) (od : Obj) (H1 : Hp) (Q' : VK), kvs[i]? = some (k, y) → H1 d = some (.frz od (.dK kvs)) → (∀ b u, b ≠ d → H b = some u → H1 b = some u) → (∀ t H3, H1 t = none → Same H1 H3 → H3 t = some (c i) → Q' (.ref t) H3) → te ((wipe σ vs).set j (some (kV k))) H1 Q')
    (q : ∀ D H' (ts : List Addr), H D = none → Same H H' → H' D = some (.lst (ts.map V.ref)) → ts.length = kvs.length → (∀ k t, ts[k]? = some t → H' t = some (c k)) → Q (.ref D) H') : tLockE (tLc (iKeys tl) (gName j) tYes te vs) σ H Q := by
  refine ⟨d, .dK kvs, hd, trivial, fun od => ?_⟩
  have e0 : upd H d (.frz od (.dK kvs)) d = some (.frz od (.dK kvs)) := upd_same
  refine hv od _ ⟨d, od, rfl, .inl ⟨kvs, e0, fun D hD => ?_⟩⟩
  obtain ⟨hD1, hD2⟩ := lock_none hD
  refine lc_new (g := gName j) (te := te) (vs := vs) (σ := σ) (Q := fun v H' => H' d = some (.frz od (.dK kvs)) ∧ Q v (upd H' d (.dK kvs))) walk_keys c hD hl (fun H' s => s _ _ e0) (fun i x H1 H2 Q' R' hi sm y h => ?_) fun H' ts s e l all nd fr => ?_
  · obtain ⟨rfl, k, v, hk, rfl⟩ := y
    exact ⟨hw _, r_yes (ht i k v od H2 Q' hk (sm _ _ e0) (fun b u nb eb => sm _ _ (lock_but _ _ nb eb)) h)⟩
  · refine ⟨s _ _ e0, q D _ ts hD1 (unlock_same hd s) (by rw [upd_ne hD2]; exact e) l fun k t hk => ?_⟩
    rw [upd_ne (lock_none (fr t (List.mem_of_getElem? hk))).2]
    exact all k t hk
/-- tuples stay -/
def TS (H H' : Hp) : Prop := ∀ a xs, H a = some (.tup xs) → H' a = some (.tup xs)
theorem Same.ts {H H' : Hp} (s : Same H H') : TS H H' := fun _ _ e => s _ _ e
theorem TS.trans {A B C : Hp} (a : TS A B) (b : TS B C) : TS A C := fun x xs e => b x xs (a x xs e)
section
variable {J : It} {n : Nat} {G : Hp → Prop} {Y : Nat → Hp → V → Hp → Prop} {D : Addr}
/-- each turn gives a thing of which Pr tells, by tuples -/
theorem lc_any (w : Walk J n G Y) (Pr : Nat → V → Hp → Prop) (st : ∀ i v H1 H2, TS H1 H2 → Pr i v H1 → Pr i v H2) (hD : H D = none) (hn : n ≤ 10000) (hG : ∀ H', Same H H' → G H')
    (hY : ∀ i H1 x H2, i < n → Y i H1 x H2 → Same H1 H2)
    (hs : ∀ i x H1 H2 (Q' : VK) (R' : Hp → Prop), i < n → Same H H1 → Y i H1 x H2 → (∀ v H3, Same H2 H3 → Pr i v H3 → Q' v H3) → g x (wipe σ vs) H2 fun τ H3 => wipe τ vs = wipe σ vs ∧ tYes τ H3 fun b H4 => if b = true then te τ H4 Q' else R' H4)
    (q : ∀ H' (xs : List V), Same H H' → H' D = some (.lst xs) → xs.length = n → (∀ k v, xs[k]? = some v → Pr k v H') → Q (.ref D) H') :
    ∃ W : Nat → Nat → Hp → Prop, (∃ m, W 0 m (upd H D (.lst []))) ∧ ∀ i m H, W i m H →
      (J.stop i H ∧ Q (.ref D) H) ∨ (J.go i H ∧ ∃ Nx : Hp → Prop, (∀ H', Nx H' → ∃ m', m' < m ∧ W (i + 1) m' H') ∧ ∀ x H', J.yld i H x H' → g x (wipe σ vs) H' fun σ2 H2 => wipe σ2 vs = wipe σ vs ∧ tYes σ2 H2 fun b H3 =>
        if b = true then te σ2 H3 fun y H4 => ∃ acc, H4 D = some (.lst acc) ∧ acc.length < sizeLine ∧ Nx (upd H4 D (.lst (acc ++ [y]))) else Nx H3) := by
  refine lc_it w (fun i G => Same H G ∧ ∃ xs : List V, G D = some (.lst xs) ∧ xs.length = i ∧ (∀ k v, xs[k]? = some v → Pr k v G))
    ⟨same_upd hD, [], upd_same, rfl, fun _ _ z => nomatch z⟩ (fun i G _ z => hG G z.1) (fun i x H1 H2 hi ⟨sm, xs, e, l, all⟩ y => ?_) fun G ⟨sm, xs, e, l, all⟩ => q G xs sm e l all
  have s12 := hY i H1 x H2 hi y
  refine hs i x H1 H2 _ _ hi sm y fun v H3 s3 pv => ?_
  have e3 := s3 _ _ (s12 _ _ e)
  have tD : TS H3 (upd H3 D (.lst (xs ++ [v]))) := fun a ys ea => by
    rw [upd_ne (fun z => by rw [z, e3] at ea; exact nomatch ea)]
    exact ea
  refine ⟨_, e3, by rw [l]; exact Nat.lt_of_lt_of_le hi (Nat.le_trans hn (by decide)), sameBut (sm.trans (s12.trans s3)) hD, xs ++ [v], upd_same, by rw [List.length_append, l]; rfl, fun k u hk => ?_⟩
  by_cases hk2 : k < xs.length
  · rw [List.getElem?_append_left hk2] at hk
    exact st _ _ _ _ (((Same.ts s12).trans (Same.ts s3)).trans tD) (all k u hk)
  · have e4 : k = i := by
      have := (List.getElem?_eq_some_iff.mp hk).1
      rw [List.length_append, List.length_singleton] at this
      omega
    subst e4
    rw [List.getElem?_append_right (by omega), l, Nat.sub_self] at hk
    obtain rfl := Option.some.inj hk
    exact st _ _ _ _ tD pv
end
theorem lcAnyK (Pr : Nat → V → Hp → Prop) (st : ∀ i v H1 H2, TS H1 H2 → Pr i v H1 → Pr i v H2) (hd : H d = some (.dK kvs)) (hl : kvs.length ≤ 10000) (hw : ∀ x, wipe ((wipe σ vs).set j (some x)) vs = wipe σ vs)
    (hv : ∀ (od : Obj) (QQ : VK), QQ (.ref d) (upd H d (.frz od (.dK kvs))) → tl σ (upd H d (.frz od (.dK kvs))) QQ)
    (ht : ∀ (i : Nat) (k : Key) (y : V) (od : Obj) (H1 : Hp) (Q' : VK), kvs[i]? = some (k, y) → H1 d = some (.frz od (.dK kvs)) → (∀ b u, b ≠ d → H b = some u → H1 b = some u) → (∀ v H3, Same H1 H3 → Pr i v H3 → Q' v H3) → te ((wipe σ vs).set j (some (kV k))) H1 Q')
    (q : ∀ D H' (xs : List V), H D = none → Same H H' → H' D = some (.lst xs) → xs.length = kvs.length → (∀ k v, xs[k]? = some v → Pr k v H') → Q (.ref D) H') : tLockE (tLc (iKeys tl) (gName j) tYes te vs) σ H Q := by
  refine ⟨d, .dK kvs, hd, trivial, fun od => ?_⟩
  have e0 : upd H d (.frz od (.dK kvs)) d = some (.frz od (.dK kvs)) := upd_same
  refine hv od _ ⟨d, od, rfl, .inl ⟨kvs, e0, fun D hD => ?_⟩⟩
  obtain ⟨hD1, hD2⟩ := lock_none hD
  refine lc_any (g := gName j) (te := te) (vs := vs) (σ := σ) (Q := fun v H' => H' d = some (.frz od (.dK kvs)) ∧ Q v (upd H' d (.dK kvs))) walk_keys Pr st hD hl (fun H' s => s _ _ e0) (fun i H1 x H2 _ y => by rw [y.1]; exact Same.refl _) (fun i x H1 H2 Q' R' hi sm y h => ?_) fun H' xs s e l all => ?_
  · obtain ⟨rfl, k, v, hk, rfl⟩ := y
    exact ⟨hw _, r_yes (ht i k v od H2 Q' hk (sm _ _ e0) (fun b u nb eb => sm _ _ (lock_but _ _ nb eb)) h)⟩
  · refine ⟨s _ _ e0, q D _ xs hD1 (unlock_same hd s) (by rw [upd_ne hD2]; exact e) l fun k t hk => st _ _ _ _ (fun a ys ea => ?_) (all k t hk)⟩
    rw [upd_ne (fun z => by rw [z, s _ _ e0] at ea; exact nomatch ea)]
    exact ea
theorem lcAnyV (Pr : Nat → V → Hp → Prop) (st : ∀ i v H1 H2, TS H1 H2 → Pr i v H1 → Pr i v H2) (hd : H d = some (.dK kvs)) (hl : kvs.length ≤ 10000) (hw : ∀ x, wipe ((wipe σ vs).set j (some x)) vs = wipe σ vs)
    (hv : ∀ (od : Obj) (QQ : VK), QQ (.ref d) (upd H d (.frz od (.dK kvs))) → tl σ (upd H d (.frz od (.dK kvs))) QQ)
    (ht : ∀ (i : Nat) (k : Key) (y : V) (od : Obj) (H1 : Hp) (Q' : VK), kvs[i]? = some (k, y) → H1 d = some (.frz od (.dK kvs)) → (∀ b u, b ≠ d → H b = some u → H1 b = some u) → (∀ v H3, Same H1 H3 → Pr i v H3 → Q' v H3) → te ((wipe σ vs).set j (some y)) H1 Q')
    (q : ∀ D H' (xs : List V), H D = none → Same H H' → H' D = some (.lst xs) → xs.length = kvs.length → (∀ k v, xs[k]? = some v → Pr k v H') → Q (.ref D) H') : tLockE (tLc (iVals tl) (gName j) tYes te vs) σ H Q := by
  refine ⟨d, .dK kvs, hd, trivial, fun od => ?_⟩
  have e0 : upd H d (.frz od (.dK kvs)) d = some (.frz od (.dK kvs)) := upd_same
  refine hv od _ ⟨d, od, kvs, rfl, e0, fun D hD => ?_⟩
  obtain ⟨hD1, hD2⟩ := lock_none hD
  refine lc_any (g := gName j) (te := te) (vs := vs) (σ := σ) (Q := fun v H' => H' d = some (.frz od (.dK kvs)) ∧ Q v (upd H' d (.dK kvs))) walk_values Pr st hD hl (fun H' s => s _ _ e0) (fun i H1 x H2 _ y => by rw [y.1]; exact Same.refl _) (fun i x H1 H2 Q' R' hi sm y h => ?_) fun H' xs s e l all => ?_
  · obtain ⟨rfl, k, hk⟩ := y
    exact ⟨hw _, r_yes (ht i k x od H2 Q' hk (sm _ _ e0) (fun b u nb eb => sm _ _ (lock_but _ _ nb eb)) h)⟩
  · refine ⟨s _ _ e0, q D _ xs hD1 (unlock_same hd s) (by rw [upd_ne hD2]; exact e) l fun k t hk => st _ _ _ _ (fun a ys ea => ?_) (all k t hk)⟩
    rw [upd_ne (fun z => by rw [z, s _ _ e0] at ea; exact nomatch ea)]
    exact ea
/-- over items; what stands in the list is known ahead -/
theorem lcItems (p : Nat → Option V) (hd : H d = some (.dK kvs)) (hl : kvs.length ≤ 10000)
    (hv : ∀ (od : Obj) (QQ : VK), QQ (.ref d) (upd H d (.frz od (.dK kvs))) → tl σ (upd H d (.frz od (.dK kvs))) QQ)
    (ht : ∀ (i : Nat) (k : Key) (y : V) (T : Addr) (od : Obj) (H1 : Hp) (Q' : VK) (R' : Hp → Prop), kvs[i]? = some (k, y) → H1 T = some (.tup [kV k, y]) → H1 d = some (.frz od (.dK kvs)) → (∀ b u, b ≠ d → H b = some u → H1 b = some u) → (∀ v, p i = some v → ∀ H3, Same H1 H3 → Q' v H3) → (p i = none → ∀ H3, Same H1 H3 → R' H3) →
      g (.ref T) (wipe σ vs) H1 fun σ2 H2 => wipe σ2 vs = wipe σ vs ∧ tt σ2 H2 fun b H4 => if b = true then te σ2 H4 Q' else R' H4)
    (q : ∀ D H', H D = none → Same H H' → H' D = some (.lst ((List.range kvs.length).filterMap p)) → Q (.ref D) H') : tLockE (tLc (iItems tl) g tt te vs) σ H Q := by
  refine ⟨d, .dK kvs, hd, trivial, fun od => ?_⟩
  have e0 : upd H d (.frz od (.dK kvs)) d = some (.frz od (.dK kvs)) := upd_same
  refine hv od _ ⟨d, od, kvs, rfl, e0, fun D hD => ?_⟩
  obtain ⟨hD1, hD2⟩ := lock_none hD
  refine lc_by (g := g) (tt := tt) (te := te) (vs := vs) (σ := σ) (Q := fun v H' => H' d = some (.frz od (.dK kvs)) ∧ Q v (upd H' d (.dK kvs))) walk_items p hD hl (fun H' s => s _ _ e0) (fun i x H1 H2 Q' R' hi sm y h1 h2 => ?_) fun H' s e => ?_
  · obtain ⟨T, a, b, rfl, nT, rfl, ha, hb⟩ := y
    have ha : kvs[i]?.map (fun kv => kV kv.1) = some a := ha
    have hb : kvs[i]?.map Prod.snd = some b := hb
    cases hk : kvs[i]? with
    | none => rw [hk] at ha; exact nomatch ha
    | some kv =>
      rw [hk] at ha hb
      obtain rfl := Option.some.inj ha
      obtain rfl := Option.some.inj hb
      have sT : Same H1 (upd H1 T (.tup [kV kv.1, kv.2])) := same_upd nT
      exact ht i kv.1 kv.2 T od _ Q' R' hk upd_same (sT _ _ (sm _ _ e0)) (fun b u nb eb => sT _ _ (sm _ _ (lock_but _ _ nb eb))) (fun v hv H3 s3 => h1 v hv H3 (sT.trans s3)) fun hn H3 s3 => h2 hn H3 (sT.trans s3)
  · exact ⟨s _ _ e0, q D _ hD1 (unlock_same hd s) (by rw [upd_ne hD2]; exact e)⟩
end
section
variable {J : It} {G : Hp → Prop} {Y : Nat → Hp → V → Hp → Prop} {g : TG} {te tl : TE} {vs : List Nat} {σ : L2.St} {H : Hp} {D d : Addr} {Q : VK} {M : List Str}
/-- each turn lays a pair of a name and a new thing -/
theorem lc_prsG (w : Walk J M.length G Y) (o : Str → HO) (hD : H D = none) (hn : M.length ≤ 10000) (hG : ∀ H', Same H H' → G H')
    (hY : ∀ i H1 x H2, i < M.length → Y i H1 x H2 → Same H1 H2)
    (hs : ∀ i x (H1 H2 : Hp) (Q' : VK) (R' : Hp → Prop), i < M.length → Same H H1 → Y i H1 x H2 → (∀ z t c H3, M[i]? = some z → H2 t = none → H2 c = none → t ≠ c → Same H2 H3 → H3 t = some (.tup [.str z, .ref c]) → H3 c = some (o z) → Q' (.ref t) H3) →
      g x (wipe σ vs) H2 fun τ H3 => wipe τ vs = wipe σ vs ∧ tYes τ H3 fun b H4 => if b = true then te τ H4 Q' else R' H4)
    (q : ∀ H' (ts cs : List Addr), Same H H' → H' D = some (.lst (ts.map V.ref)) → ts.length = M.length → cs.length = M.length → (∀ (k : Nat) t c x, ts[k]? = some t → cs[k]? = some c → M[k]? = some x → H' t = some (.tup [.str x, .ref c]) ∧ H' c = some (o x)) → cs.Nodup → (∀ c ∈ cs, H c = none) → D ∉ cs → Q (.ref D) H') :
    ∃ W : Nat → Nat → Hp → Prop, (∃ m, W 0 m (upd H D (.lst []))) ∧ ∀ i m H, W i m H →
      (J.stop i H ∧ Q (.ref D) H) ∨ (J.go i H ∧ ∃ Nx : Hp → Prop, (∀ H', Nx H' → ∃ m', m' < m ∧ W (i + 1) m' H') ∧ ∀ x H', J.yld i H x H' → g x (wipe σ vs) H' fun σ2 H2 => wipe σ2 vs = wipe σ vs ∧ tYes σ2 H2 fun b H3 =>
        if b = true then te σ2 H3 fun y H4 => ∃ acc, H4 D = some (.lst acc) ∧ acc.length < sizeLine ∧ Nx (upd H4 D (.lst (acc ++ [y]))) else Nx H3) := by
  refine lc_it w (fun i G => Same H G ∧ ∃ ts cs : List Addr, G D = some (.lst (ts.map V.ref)) ∧ ts.length = i ∧ cs.length = i ∧ (∀ (k : Nat) t c x, ts[k]? = some t → cs[k]? = some c → M[k]? = some x → G t = some (.tup [.str x, .ref c]) ∧ G c = some (o x)) ∧ cs.Nodup ∧ (∀ c ∈ cs, H c = none ∧ G c ≠ none) ∧ D ∉ cs)
    ⟨same_upd hD, [], [], upd_same, rfl, rfl, (fun _ _ _ _ z => nomatch z), List.nodup_nil, (fun _ z => nomatch z), fun z => nomatch z⟩ (fun i G _ z => hG G z.1) (fun i x H1 H2 hi ⟨sm, ts, cs, e, l1, l2, all, nd, fr, nD⟩ y => ?_) fun G ⟨sm, ts, cs, e, l1, l2, all, nd, fr, nD⟩ => q G ts cs sm e l1 l2 all nd (fun c hc => (fr c hc).1) nD
  have s12 := hY i H1 x H2 hi y
  refine hs i x H1 H2 _ _ hi sm y fun z t c H3 hz nt nc tc s3 et ec => ?_
  have sm2 := sm.trans s12
  replace e := s12 _ _ e
  replace all : ∀ (k : Nat) t c x, ts[k]? = some t → cs[k]? = some c → M[k]? = some x → H2 t = some (.tup [.str x, .ref c]) ∧ H2 c = some (o x) := fun k t c x h1 h2 h3 => ⟨s12 _ _ (all k t c x h1 h2 h3).1, s12 _ _ (all k t c x h1 h2 h3).2⟩
  replace fr : ∀ c ∈ cs, H c = none ∧ H2 c ≠ none := fun c hc => ⟨(fr c hc).1, fun w => by
    cases h : H1 c with
    | none => exact (fr c hc).2 h
    | some r => rw [s12 _ _ h] at w; exact nomatch w⟩
  have tD : t ≠ D := fun w => by rw [w, e] at nt; exact nomatch nt
  have cD : c ≠ D := fun w => by rw [w, e] at nc; exact nomatch nc
  have ccs : c ∉ cs := fun w => (fr c w).2 nc
  refine ⟨_, s3 _ _ e, by rw [List.length_map, l1]; exact Nat.lt_of_lt_of_le hi (Nat.le_trans hn (by decide)), sameBut (sm2.trans s3) hD, ts ++ [t], cs ++ [c], ?_, by rw [List.length_append, l1]; rfl, by rw [List.length_append, l2]; rfl, fun k u v x hk hv hx => ?_, ?_, fun u hu => ?_, fun w => ?_⟩
  · rw [upd_same, List.map_append]
    rfl
  · have hlt : k < ts.length + 1 := by
      have := (List.getElem?_eq_some_iff.mp hk).1
      rw [List.length_append] at this
      exact this
    by_cases hk2 : k < ts.length
    · rw [List.getElem?_append_left hk2] at hk
      rw [List.getElem?_append_left (by omega)] at hv
      obtain ⟨a1, a2⟩ := all k u v x hk hv hx
      have nu : u ≠ D := fun w => by rw [w, e] at a1; exact nomatch a1
      have nv : v ≠ D := fun w => nD (by rw [← w]; exact List.mem_of_getElem? hv)
      exact ⟨by rw [upd_ne nu]; exact s3 _ _ a1, by rw [upd_ne nv]; exact s3 _ _ a2⟩
    · have e3 : k = i := by omega
      subst e3
      rw [List.getElem?_append_right (by omega), l1, Nat.sub_self] at hk
      rw [List.getElem?_append_right (by omega), l2, Nat.sub_self] at hv
      obtain rfl := Option.some.inj hk
      obtain rfl := Option.some.inj hv
      rw [hz] at hx
      obtain rfl := Option.some.inj hx
      exact ⟨by rw [upd_ne tD]; exact et, by rw [upd_ne cD]; exact ec⟩
  · refine List.nodup_append.mpr ⟨nd, (by simp), fun a ha b hb w => ?_⟩
    rw [List.mem_singleton.mp hb] at w
    exact ccs (by rw [← w]; exact ha)
  · rcases List.mem_append.mp hu with w | w
    · obtain ⟨a1, a2⟩ := fr u w
      refine ⟨a1, ?_⟩
      rw [upd_ne (fun z => nD (by rw [← z]; exact w))]
      cases h : H2 u with
      | none => exact absurd h a2
      | some r => rw [s3 _ _ h]; exact fun z => nomatch z
    · rw [List.mem_singleton.mp w]
      refine ⟨sm2.free nc, ?_⟩
      rw [upd_ne cD, ec]
      exact fun z => nomatch z
  · rcases List.mem_append.mp w with w | w
    · exact nD w
    · exact cD (List.mem_singleton.mp w).symm
/-- over the items of a locked dict by names -/
theorem lcPrsI {f : Str → V} (o : Str → HO) (hl : M.length ≤ 10000) (hd : H d = some (.dK (dicF M f)))
    (hv : ∀ (od : Obj) (QQ : VK), QQ (.ref d) (upd H d (.frz od (.dK (dicF M f)))) → tl σ (upd H d (.frz od (.dK (dicF M f)))) QQ)
    (ht : ∀ (z : Str) (T : Addr) (od : Obj) (H1 : Hp) (Q' : VK) (R' : Hp → Prop), z ∈ M → H1 T = some (.tup [.str z, f z]) → H1 d = some (.frz od (.dK (dicF M f))) → (∀ b u, b ≠ d → H b = some u → H1 b = some u) → (∀ t c H3, H1 t = none → H1 c = none → t ≠ c → Same H1 H3 → H3 t = some (.tup [.str z, .ref c]) → H3 c = some (o z) → Q' (.ref t) H3) →
      g (.ref T) (wipe σ vs) H1 fun τ H3 => wipe τ vs = wipe σ vs ∧ tYes τ H3 fun b H4 => if b = true then te τ H4 Q' else R' H4)
    (q : ∀ D H' (ts cs : List Addr), H D = none → Same H H' → H' D = some (.lst (ts.map V.ref)) → ts.length = M.length → cs.length = M.length → (∀ (k : Nat) t c x, ts[k]? = some t → cs[k]? = some c → M[k]? = some x → H' t = some (.tup [.str x, .ref c]) ∧ H' c = some (o x)) → cs.Nodup → (∀ c ∈ cs, H c = none) → Q (.ref D) H') : tLockE (tLc (iItems tl) g tYes te vs) σ H Q := by
  refine ⟨d, .dK (dicF M f), hd, trivial, fun od => ?_⟩
  have e0 : upd H d (.frz od (.dK (dicF M f))) d = some (.frz od (.dK (dicF M f))) := upd_same
  refine hv od _ ⟨d, od, _, rfl, e0, fun D hD => ?_⟩
  obtain ⟨hD1, hD2⟩ := lock_none hD
  have wl : Walk (Iti d od (dicF M f)) M.length (fun H => H d = some (.frz od (.dK (dicF M f)))) (YPair (fun i => (dicF M f)[i]?.map fun kv => kV kv.1) (fun i => (dicF M f)[i]?.map Prod.snd)) := by
    have w := walk_items (d := d) (o := od) (kvs := dicF M f)
    rwa [dicF_len] at w
  refine lc_prsG (g := g) (te := te) (vs := vs) (σ := σ) (Q := fun v H' => H' d = some (.frz od (.dK (dicF M f))) ∧ Q v (upd H' d (.dK (dicF M f)))) wl o hD hl (fun H' s => s _ _ e0) (fun i H1 x H2 _ y => ?_) (fun i x H1 H2 Q' R' hi sm y h => ?_) fun H' ts cs s e l1 l2 all nd fr nD => ?_
  · obtain ⟨T, a, b, rfl, nT, rfl, ha, hb⟩ := y
    exact same_upd nT
  · obtain ⟨T, a, b, rfl, nT, rfl, ha, hb⟩ := y
    have ha : (M.map fun x => ((Sum.inr x : Key), f x))[i]?.map (fun kv => kV kv.1) = some a := ha
    have hb : (M.map fun x => ((Sum.inr x : Key), f x))[i]?.map Prod.snd = some b := hb
    rw [List.getElem?_map, List.getElem?_eq_getElem hi] at ha hb
    obtain rfl := Option.some.inj ha
    obtain rfl := Option.some.inj hb
    have sT : Same H1 (upd H1 T (.tup [.str M[i], f M[i]])) := same_upd nT
    exact ht M[i] T od _ Q' R' (List.getElem_mem hi) upd_same (sT _ _ (sm _ _ e0)) (fun b u nb eb => sT _ _ (sm _ _ (lock_but _ _ nb eb))) fun t c H3 n1 n2 tc s3 et ec => h _ t c H3 (List.getElem?_eq_getElem hi) n1 n2 tc s3 et ec
  · refine ⟨s _ _ e0, q D _ ts cs hD1 (unlock_same hd s) (by rw [upd_ne hD2]; exact e) l1 l2 (fun k t c x h1 h2 h3 => ?_) nd fun c hc => (lock_none (fr c hc)).1⟩
    obtain ⟨a1, a2⟩ := all k t c x h1 h2 h3
    have nt : t ≠ d := fun z => by rw [z, s _ _ e0] at a1; exact nomatch a1
    exact ⟨by rw [upd_ne nt]; exact a1, by rw [upd_ne (lock_none (fr c (List.mem_of_getElem? h2))).2]; exact a2⟩
end
/-! ## 44. a comprehension over a locked dict by names, some left out as drawn -/
section
variable {K : PySem.W.Frag} {σ : L2.St} {H : Hp} {Q : VK} {j m : Nat} {vs : List Nat} {tt : TT} {te tl : TE} {d bx : Addr} {M : List Str} {f : Str → V}
theorem lcFltK (hb : Box bx m H) (hl : M.length ≤ 1000) (hw : ∀ x, wipe ((wipe σ vs).set j (some x)) vs = wipe σ vs) (hd : H d = some (.dK (dicF M f)))
    (hv : ∀ (od : Obj) (QQ : VK), QQ (.ref d) (upd H d (.frz od (.dK (dicF M f)))) → tl σ (upd H d (.frz od (.dK (dicF M f)))) QQ)
    (hte : ∀ (x : Str) (H1 : Hp) (QQ : VK), QQ (.str x) H1 → te ((wipe σ vs).set j (some (.str x))) H1 QQ)
    (ht : ∀ (x : Str) (k : Nat) (H1 : Hp) (Q' : Bool → Hp → Prop), x ∈ M → k < m + M.length → Box bx k H1 → (∀ b H2, Box bx (k + 1) H2 → But bx H1 H2 → Q' b H2) → tt ((wipe σ vs).set j (some (.str x))) H1 Q')
    (hq : ∀ (D : Addr) (H' : Hp) (ys : List Str), H D = none → But bx H H' → Box bx (m + M.length) H' → H' D = some (.lst (ys.map V.str)) → ys.length ≤ M.length → (∀ y ∈ ys, y ∈ M) → Q (.ref D) H') : tLockE (tLc (iKeys tl) (gName j) tt te vs) σ H Q := by
  refine ⟨d, .dK (dicF M f), hd, trivial, fun od => ?_⟩
  have e0 : upd H d (.frz od (.dK (dicF M f))) d = some (.frz od (.dK (dicF M f))) := upd_same
  have nbd : bx ≠ d := by
    rintro rfl
    obtain ⟨x, y, z, e, _⟩ := hb
    rw [hd] at e
    exact nomatch e
  refine hv od _ ⟨d, od, rfl, .inl ⟨_, e0, fun D hD => ?_⟩⟩
  obtain ⟨hD1, hD2⟩ := lock_none hD
  have hbL : Box bx m (upd H d (.frz od (.dK (dicF M f)))) := by
    obtain ⟨x, y, z, e, r⟩ := hb
    exact ⟨x, y, z, by rw [upd_ne nbd]; exact e, r⟩
  have nD : D ≠ bx := hbL.ne hD
  generalize hHL : upd H d (.frz od (.dK (dicF M f))) = HL at e0 hD hbL ⊢
  refine lc_it (g := gName j) (tt := tt) (te := te) (vs := vs) (σ := σ) (walk_keys (d := d) (o := od) (kvs := dicF M f)) (fun i G => But bx HL G ∧ Box bx (m + i) G ∧ ∃ ys : List Str, G D = some (.lst (ys.map V.str)) ∧ ys.length ≤ i ∧ ∀ y ∈ ys, y ∈ M)
    ⟨.of (same_upd hD), hbL.same (same_upd hD), [], upd_same, Nat.le_refl _, fun _ z => nomatch z⟩ (fun i G hi ⟨bt, _⟩ => bt _ _ nbd.symm e0) (fun i x H1 H2 hi ⟨bt, hB, ys, e, l, hp⟩ y => ?_) fun G ⟨bt, hB, ys, e, l, hp⟩ => ?_
  · obtain ⟨rfl, k, v, hk, rfl⟩ := y
    rw [dicF_len] at hi
    unfold dicF at hk
    rw [List.getElem?_map, List.getElem?_eq_getElem hi] at hk
    obtain ⟨rfl, _⟩ := Prod.mk.inj (Option.some.inj hk)
    refine ⟨hw _, ht M[i] (m + i) _ _ (List.getElem_mem hi) (by omega) hB fun b H3 hB3 b3 => ?_⟩
    have e3 := b3 _ _ nD e
    have bt3 := bt.trans b3
    cases b with
    | false => exact ⟨bt3, hB3, ys, e3, by omega, hp⟩
    | true =>
      rw [if_pos rfl]
      refine hte M[i] H3 _ ⟨_, e3, by rw [List.length_map, sizeLine_eq]; omega, ?_⟩
      refine ⟨fun b o nb eb => by rw [upd_ne (ne_of_none eb hD)]; exact bt3 _ _ nb eb, ?_, ys ++ [M[i]], by rw [upd_same, List.map_append]; rfl, by rw [List.length_append]; exact Nat.succ_le_succ l, fun y hy => ?_⟩
      · obtain ⟨x1, y1, z1, eB, r⟩ := hB3
        exact ⟨x1, y1, z1, by rw [upd_ne nD.symm]; exact eB, r⟩
      · rcases List.mem_append.mp hy with w | w
        · exact hp y w
        · rw [List.mem_singleton.mp w]; exact List.getElem_mem hi
  · rw [dicF_len] at hB l
    refine ⟨bt _ _ nbd.symm e0, hq D _ ys hD1 (unlock_but hd (by rw [hHL]; exact bt)) ?_ (by rw [upd_ne hD2]; exact e) l hp⟩
    obtain ⟨x1, y1, z1, eB, r⟩ := hB
    exact ⟨x1, y1, z1, by rw [upd_ne nbd]; exact eB, r⟩
end
end Bk

open PySem PySem.Spec PyProof.Rows L2 Bk
local macro_rules | `(tactic| walk_at "go1") => `(tactic| with_reducible first
  | refine r_seq ?_ | refine r_asg ?_ | refine r_name ?_ | refine r_if ?_ | refine r_ret ?_ | refine r_next ?_ | refine r_drop ?_
  | refine r_op ?_ | refine r_un ?_ | refine r_c ?_ | refine r_I0 ?_ | refine r_lstB ?_ | refine r_mth ?_ | refine r_mthK ?_ | refine r_mkS ?_ | refine r_fld ?_ | refine r_par ?_ | refine r_U ?_ | refine r_nil ?_ | refine r_cons ?_ | refine r_call ?_ | refine r_callN ?_ | refine r_for ?_ | refine r_iList ?_ | refine r_iTup ?_ | refine r_iRng1 ?_ | refine r_iRng2 ?_ | refine r_mkV ?_ | refine r_dnewK ?_ | refine r_cb ?_
  | refine r_test ?_ | refine r_tB ?_ | refine r_isb ?_ | refine r_isv ?_ | refine r_not ?_ | refine r_and ?_ | refine r_or ?_ | refine r_andV ?_ | refine r_orV ?_ | refine r_notV ?_ | refine r_chain ?_ | refine r_ifE ?_
  | refine r_lst ?_ | refine r_tup ?_ | refine r_gSub ?_ | refine r_bm ?_
  | (apply r_var; focus (with_unfolding_all rfl))
  | refine iteT ?_ | refine iteF ?_ | refine iteNF ?_ | refine iteNT ?_ | refine r_m1 ?_ | refine r_sl ?_ | refine r_noPart ?_ | refine r_part ?_ | refine r_isi ?_
  | (refine r_eq ?_ ?_; focus (with_unfolding_all (first | rfl | decide))) | (refine r_ne ?_ ?_; focus (with_unfolding_all (first | rfl | decide))))
local macro_rules | `(tactic| walk_at "go") => `(tactic| repeat (walk_at "go1"))
namespace K25
open PySem PySem.Spec PyProof.Rows L2 Bk


def topS (i : Nat) : Stmt := PySem.Challenge.pw_guestsalone_k25_whole_turns_dealt.main.body.getD i (.Pass ⟨0, 0, 0, 0⟩)
abbrev s_GuestError_init : Stmt := inClass (topS 1) 0
abbrev s_Missing_init : Stmt := inClass (topS 2) 0
abbrev s_Barred_init : Stmt := inClass (topS 3) 0
abbrev s_NoNumber_init : Stmt := inClass (topS 4) 0
abbrev s_NoName_init : Stmt := inClass (topS 5) 0
abbrev s_Doubled_init : Stmt := inClass (topS 6) 0
abbrev s_TooMuch_init : Stmt := inClass (topS 7) 0
abbrev s_NoGuest_init : Stmt := inClass (topS 8) 0
abbrev s_Full_init : Stmt := inClass (topS 9) 0
abbrev s_is_whole : Stmt := topS 11
abbrev s_is_name : Stmt := topS 12
abbrev s_all_within : Stmt := topS 13
abbrev s_check_number : Stmt := topS 15
abbrev s_check_name : Stmt := topS 16
abbrev s_check_guest : Stmt := topS 17
abbrev s_Shares_init : Stmt := inClass (topS 22) 0
abbrev s_Shares_come : Stmt := inClass (topS 22) 1
abbrev s_Shares_go : Stmt := inClass (topS 22) 2
abbrev s_Shares_change : Stmt := inClass (topS 22) 3
abbrev s_Shares_deal : Stmt := inClass (topS 22) 4
abbrev s_Shares_length : Stmt := inClass (topS 22) 5
abbrev s_Shares_names : Stmt := inClass (topS 22) 6
abbrev s_Shares_promise : Stmt := inClass (topS 22) 7
abbrev s_Shares_ceiling : Stmt := inClass (topS 22) 8
abbrev s_Shares_counting : Stmt := inClass (topS 22) 9
abbrev s_Shares_used : Stmt := inClass (topS 22) 10
abbrev s_Shares_passed : Stmt := inClass (topS 22) 11
abbrev s_Shares_promised : Stmt := inClass (topS 22) 12
abbrev s_Shares_dealt : Stmt := inClass (topS 22) 13
abbrev s_Shares_twin : Stmt := inClass (topS 22) 14
abbrev s_Shares_check_share : Stmt := inClass (topS 22) 15
abbrev s_Shares_check_promised : Stmt := inClass (topS 22) 16
abbrev s_Shares_by_promise : Stmt := inClass (topS 22) 17
abbrev s_Shares_by_ceiling : Stmt := inClass (topS 22) 18
abbrev s_Shares_begin_stretch : Stmt := inClass (topS 22) 19
abbrev s_cell_L : Stmt := topS 24
abbrev s_box_L : Stmt := topS 25
abbrev s_take_L : Stmt := topS 26
abbrev s_names_L : Stmt := topS 27
abbrev s_model_L : Stmt := topS 28
abbrev s_together_L : Stmt := topS 29
abbrev s_comes_L : Stmt := topS 30
abbrev s_changes_L : Stmt := topS 31
abbrev s_gets_L : Stmt := topS 32
abbrev s_deals_L : Stmt := topS 33
abbrev s_length_L : Stmt := topS 34
abbrev s_share_L : Stmt := topS 35
abbrev s_asked_L : Stmt := topS 36
abbrev s_stands_L : Stmt := topS 37
abbrev s_dealt_L : Stmt := topS 38
abbrev s_done_L : Stmt := topS 39
abbrev s_twin_L : Stmt := topS 40
abbrev s_law : Stmt := topS 41
theorem sc_GuestError_init : FnScope ["self", "text"] ["self", "text"] (defScope s_GuestError_init) := ⟨rfl, rfl, rfl, by decide +kernel, rfl, by decide +kernel, by decide +kernel⟩
theorem sc_Missing_init : FnScope ["self", "text"] ["self", "text"] (defScope s_Missing_init) := ⟨rfl, rfl, rfl, by decide +kernel, rfl, by decide +kernel, by decide +kernel⟩
theorem sc_Barred_init : FnScope ["self", "text"] ["self", "text"] (defScope s_Barred_init) := ⟨rfl, rfl, rfl, by decide +kernel, rfl, by decide +kernel, by decide +kernel⟩
theorem sc_NoNumber_init : FnScope ["self", "found"] ["self", "found"] (defScope s_NoNumber_init) := ⟨rfl, rfl, rfl, by decide +kernel, rfl, by decide +kernel, by decide +kernel⟩
theorem sc_NoName_init : FnScope ["self", "found"] ["self", "found"] (defScope s_NoName_init) := ⟨rfl, rfl, rfl, by decide +kernel, rfl, by decide +kernel, by decide +kernel⟩
theorem sc_Doubled_init : FnScope ["self", "found"] ["self", "found"] (defScope s_Doubled_init) := ⟨rfl, rfl, rfl, by decide +kernel, rfl, by decide +kernel, by decide +kernel⟩
theorem sc_TooMuch_init : FnScope ["self", "many"] ["self", "many"] (defScope s_TooMuch_init) := ⟨rfl, rfl, rfl, by decide +kernel, rfl, by decide +kernel, by decide +kernel⟩
theorem sc_NoGuest_init : FnScope ["self", "found"] ["self", "found"] (defScope s_NoGuest_init) := ⟨rfl, rfl, rfl, by decide +kernel, rfl, by decide +kernel, by decide +kernel⟩
theorem sc_Full_init : FnScope ["self", "many"] ["self", "many"] (defScope s_Full_init) := ⟨rfl, rfl, rfl, by decide +kernel, rfl, by decide +kernel, by decide +kernel⟩
theorem sc_is_whole : FnScope ["thing", "low", "high"] ["thing", "low", "high"] (defScope s_is_whole) := ⟨rfl, rfl, rfl, by decide +kernel, rfl, by decide +kernel, by decide +kernel⟩
theorem sc_is_name : FnScope ["thing"] ["thing"] (defScope s_is_name) := ⟨rfl, rfl, rfl, by decide +kernel, rfl, by decide +kernel, by decide +kernel⟩
theorem sc_all_within : FnScope ["text", "first", "last", "sign"] ["text", "first", "last"] (defScope s_all_within) := ⟨rfl, rfl, rfl, by decide +kernel, rfl, by decide +kernel, by decide +kernel⟩
theorem sc_check_number : FnScope ["thing", "low", "high"] ["thing", "low", "high"] (defScope s_check_number) := ⟨rfl, rfl, rfl, by decide +kernel, rfl, by decide +kernel, by decide +kernel⟩
theorem sc_check_name : FnScope ["thing"] ["thing"] (defScope s_check_name) := ⟨rfl, rfl, rfl, by decide +kernel, rfl, by decide +kernel, by decide +kernel⟩
theorem sc_check_guest : FnScope ["thing", "guests"] ["thing", "guests"] (defScope s_check_guest) := ⟨rfl, rfl, rfl, by decide +kernel, rfl, by decide +kernel, by decide +kernel⟩
theorem sc_Shares_init : FnScope ["self", "length"] ["self", "length"] (defScope s_Shares_init) := ⟨rfl, rfl, rfl, by decide +kernel, rfl, by decide +kernel, by decide +kernel⟩
theorem sc_Shares_come : FnScope ["self", "name", "promise", "ceiling"] ["self", "name", "promise", "ceiling"] (defScope s_Shares_come) := ⟨rfl, rfl, rfl, by decide +kernel, rfl, by decide +kernel, by decide +kernel⟩
theorem sc_Shares_go : FnScope ["self", "name"] ["self", "name"] (defScope s_Shares_go) := ⟨rfl, rfl, rfl, by decide +kernel, rfl, by decide +kernel, by decide +kernel⟩
theorem sc_Shares_change : FnScope ["self", "name", "promise", "ceiling"] ["self", "name", "promise", "ceiling"] (defScope s_Shares_change) := ⟨rfl, rfl, rfl, by decide +kernel, rfl, by decide +kernel, by decide +kernel⟩
theorem sc_Shares_deal : FnScope ["self", "ready", "name", "among", "chosen"] ["self", "ready"] (defScope s_Shares_deal) := ⟨rfl, rfl, rfl, by decide +kernel, rfl, by decide +kernel, by decide +kernel⟩
theorem sc_Shares_length : FnScope ["self"] ["self"] (defScope s_Shares_length) := ⟨rfl, rfl, rfl, by decide +kernel, rfl, by decide +kernel, by decide +kernel⟩
theorem sc_Shares_names : FnScope ["self"] ["self"] (defScope s_Shares_names) := ⟨rfl, rfl, rfl, by decide +kernel, rfl, by decide +kernel, by decide +kernel⟩
theorem sc_Shares_promise : FnScope ["self", "name"] ["self", "name"] (defScope s_Shares_promise) := ⟨rfl, rfl, rfl, by decide +kernel, rfl, by decide +kernel, by decide +kernel⟩
theorem sc_Shares_ceiling : FnScope ["self", "name"] ["self", "name"] (defScope s_Shares_ceiling) := ⟨rfl, rfl, rfl, by decide +kernel, rfl, by decide +kernel, by decide +kernel⟩
theorem sc_Shares_counting : FnScope ["self", "name"] ["self", "name"] (defScope s_Shares_counting) := ⟨rfl, rfl, rfl, by decide +kernel, rfl, by decide +kernel, by decide +kernel⟩
theorem sc_Shares_used : FnScope ["self", "name"] ["self", "name"] (defScope s_Shares_used) := ⟨rfl, rfl, rfl, by decide +kernel, rfl, by decide +kernel, by decide +kernel⟩
theorem sc_Shares_passed : FnScope ["self"] ["self"] (defScope s_Shares_passed) := ⟨rfl, rfl, rfl, by decide +kernel, rfl, by decide +kernel, by decide +kernel⟩
theorem sc_Shares_promised : FnScope ["self", "promise", "_"] ["self"] (defScope s_Shares_promised) := ⟨rfl, rfl, rfl, by decide +kernel, rfl, by decide +kernel, by decide +kernel⟩
theorem sc_Shares_dealt : FnScope ["self"] ["self"] (defScope s_Shares_dealt) := ⟨rfl, rfl, rfl, by decide +kernel, rfl, by decide +kernel, by decide +kernel⟩
theorem sc_Shares_twin : FnScope ["self", "other"] ["self"] (defScope s_Shares_twin) := ⟨rfl, rfl, rfl, by decide +kernel, rfl, by decide +kernel, by decide +kernel⟩
theorem sc_Shares_check_share : FnScope ["self", "promise", "ceiling"] ["self", "promise", "ceiling"] (defScope s_Shares_check_share) := ⟨rfl, rfl, rfl, by decide +kernel, rfl, by decide +kernel, by decide +kernel⟩
theorem sc_Shares_check_promised : FnScope ["self", "many"] ["self", "many"] (defScope s_Shares_check_promised) := ⟨rfl, rfl, rfl, by decide +kernel, rfl, by decide +kernel, by decide +kernel⟩
theorem sc_Shares_by_promise : FnScope ["self", "among", "chosen", "name", "used", "promise"] ["self", "among"] (defScope s_Shares_by_promise) := ⟨rfl, rfl, rfl, by decide +kernel, rfl, by decide +kernel, by decide +kernel⟩
theorem sc_Shares_by_ceiling : FnScope ["self", "among", "chosen", "name"] ["self", "among"] (defScope s_Shares_by_ceiling) := ⟨rfl, rfl, rfl, by decide +kernel, rfl, by decide +kernel, by decide +kernel⟩
theorem sc_Shares_begin_stretch : FnScope ["self", "name"] ["self"] (defScope s_Shares_begin_stretch) := ⟨rfl, rfl, rfl, by decide +kernel, rfl, by decide +kernel, by decide +kernel⟩
theorem sc_cell_L : FnScope ["_law_script", "_law_k"] ["_law_script", "_law_k"] (defScope s_cell_L) := ⟨rfl, rfl, rfl, by decide +kernel, rfl, by decide +kernel, by decide +kernel⟩
theorem sc_box_L : FnScope ["_law_cell_here"] ["_law_cell_here"] (defScope s_box_L) := ⟨rfl, rfl, rfl, by decide +kernel, rfl, by decide +kernel, by decide +kernel⟩
theorem sc_take_L : FnScope ["_law_box_here", "_law_size", "_law_digit", "_law_one", "_law_two"] ["_law_box_here", "_law_size"] (defScope s_take_L) := ⟨rfl, rfl, rfl, by decide +kernel, rfl, by decide +kernel, by decide +kernel⟩
theorem sc_names_L : FnScope ["_law_box_here", "_law_size", "_law_small", "_law_stem", "_law_place", "_law_shift", "_law_tails", "_law_some", "_law_k", "_law_turn"] ["_law_box_here", "_law_size"] (defScope s_names_L) := ⟨rfl, rfl, rfl, by decide +kernel, rfl, by decide +kernel, by decide +kernel⟩
theorem sc_model_L : FnScope ["_law_stretch"] ["_law_stretch"] (defScope s_model_L) := ⟨rfl, rfl, rfl, by decide +kernel, rfl, by decide +kernel, by decide +kernel⟩
theorem sc_together_L : FnScope ["_law_model_here", "_law_but", "_law_label", "_law_row"] ["_law_model_here", "_law_but"] (defScope s_together_L) := ⟨rfl, rfl, rfl, by decide +kernel, rfl, by decide +kernel, by decide +kernel⟩
theorem sc_comes_L : FnScope ["_law_model_here", "_law_label", "_law_pledge", "_law_cap", "_law_counts"] ["_law_model_here", "_law_label", "_law_pledge", "_law_cap"] (defScope s_comes_L) := ⟨rfl, rfl, rfl, by decide +kernel, rfl, by decide +kernel, by decide +kernel⟩
theorem sc_changes_L : FnScope ["_law_model_here", "_law_label", "_law_pledge", "_law_cap", "_law_row"] ["_law_model_here", "_law_label", "_law_pledge", "_law_cap"] (defScope s_changes_L) := ⟨rfl, rfl, rfl, by decide +kernel, rfl, by decide +kernel, by decide +kernel⟩
theorem sc_gets_L : FnScope ["_law_model_here", "_law_those", "_law_best", "_law_label", "_law_row", "_law_kept"] ["_law_model_here", "_law_those"] (defScope s_gets_L) := ⟨rfl, rfl, rfl, by decide +kernel, rfl, by decide +kernel, by decide +kernel⟩
theorem sc_deals_L : FnScope ["_law_model_here", "_law_those", "_law_label", "_law_row"] ["_law_model_here", "_law_those"] (defScope s_deals_L) := ⟨rfl, rfl, rfl, by decide +kernel, rfl, by decide +kernel, by decide +kernel⟩
theorem sc_length_L : FnScope ["_law_box_here"] ["_law_box_here"] (defScope s_length_L) := ⟨rfl, rfl, rfl, by decide +kernel, rfl, by decide +kernel, by decide +kernel⟩
theorem sc_share_L : FnScope ["_law_box_here", "_law_stretch", "_law_free", "_law_pledge", "_law_low"] ["_law_box_here", "_law_stretch", "_law_free"] (defScope s_share_L) := ⟨rfl, rfl, rfl, by decide +kernel, rfl, by decide +kernel, by decide +kernel⟩
theorem sc_asked_L : FnScope ["_law_shares", "_law_model_here", "_law_way", "_law_rows", "_law_told", "_law_label", "_law_row"] ["_law_shares", "_law_model_here", "_law_way"] (defScope s_asked_L) := ⟨rfl, rfl, rfl, by decide +kernel, rfl, by decide +kernel, by decide +kernel⟩
theorem sc_stands_L : FnScope ["_law_shares", "_law_model_here", "_law_ask", "_law_turn"] ["_law_shares", "_law_model_here", "_law_ask"] (defScope s_stands_L) := ⟨rfl, rfl, rfl, by decide +kernel, rfl, by decide +kernel, by decide +kernel⟩
theorem sc_dealt_L : FnScope ["_law_box_here", "_law_shares", "_law_model_here", "_law_names_here", "_law_those", "_law_turn", "_law_handed", "_law_kept", "_law_told", "_law_label"] ["_law_box_here", "_law_shares", "_law_model_here", "_law_names_here"] (defScope s_dealt_L) := ⟨rfl, rfl, rfl, by decide +kernel, rfl, by decide +kernel, by decide +kernel⟩
theorem sc_done_L : FnScope ["_law_box_here", "_law_shares", "_law_model_here", "_law_names_here", "_law_way", "_law_label", "_law_stretch", "_law_guests", "_law_pledge", "_law_cap"] ["_law_box_here", "_law_shares", "_law_model_here", "_law_names_here"] (defScope s_done_L) := ⟨rfl, rfl, rfl, by decide +kernel, rfl, by decide +kernel, by decide +kernel⟩
theorem sc_twin_L : FnScope ["_law_model_here", "_law_guests", "_law_label", "_law_row"] ["_law_model_here"] (defScope s_twin_L) := ⟨rfl, rfl, rfl, by decide +kernel, rfl, by decide +kernel, by decide +kernel⟩
theorem sc_law : FnScope ["_law_script", "_law_box_here", "_law_names_here", "_law_models", "_law_some", "_law_k", "_law_side", "_law_twin_here", "_law_ask", "_law_which"] ["_law_script"] (defScope s_law) := ⟨rfl, rfl, rfl, by decide +kernel, rfl, by decide +kernel, by decide +kernel⟩
structure Ad where
  CG : Addr
  fG : Addr
  CK : Addr
  fK : Addr
  CB : Addr
  fB : Addr
  CM : Addr
  fM : Addr
  CN : Addr
  fN : Addr
  CD : Addr
  fD : Addr
  CT : Addr
  fT : Addr
  CA : Addr
  fA : Addr
  CF : Addr
  fF : Addr
  CS : Addr
structure Txt (K : PySem.W.Frag) (mg : Str → Option Value) (A : Ad) : Prop where
  m_isinstance : mg "isinstance" = none
  m_int : mg "int" = none
  m_bool : mg "bool" = none
  m_str : mg "str" = none
  m_list : mg "list" = none
  m_tuple : mg "tuple" = none
  m_dict : mg "dict" = none
  m_len : mg "len" = none
  m_max : mg "max" = none
  m_min : mg "min" = none
  m_range : mg "range" = none
  m_all : mg "all" = none
  m_sum : mg "sum" = none
  m_repr : mg "repr" = none
  m_ValueError : mg "ValueError" = none
  m_LookupError : mg "LookupError" = none
  m_KeyError : mg "KeyError" = none
  c_MOST_GUESTS : ∃ u, mg "MOST_GUESTS" = some u ∧ RelV (.int 6) u
  c_SHORTEST : ∃ u, mg "SHORTEST" = some u ∧ RelV (.int 4) u
  c_LONGEST : ∃ u, mg "LONGEST" = some u ∧ RelV (.int 60) u
  g_GuestError : mg "GuestError" = some (.ref A.CG)
  rd_GuestError : PySem.W.readsIn K A.CG (.type "type") = true
  ga_GuestError : PySem.W.specialIn K (.ref A.CG) "__getattribute__" = some (some (.builtin "type.__getattribute__"))
  at_GuestError : PySem.W.findCls K (.ref A.CG) (.type "type") "__init__" = some (.val (.ref A.fG))
  g_Missing : mg "Missing" = some (.ref A.CK)
  rd_Missing : PySem.W.readsIn K A.CK (.type "type") = true
  ga_Missing : PySem.W.specialIn K (.ref A.CK) "__getattribute__" = some (some (.builtin "type.__getattribute__"))
  at_Missing : PySem.W.findCls K (.ref A.CK) (.type "type") "__init__" = some (.val (.ref A.fK))
  g_Barred : mg "Barred" = some (.ref A.CB)
  rd_Barred : PySem.W.readsIn K A.CB (.type "type") = true
  ga_Barred : PySem.W.specialIn K (.ref A.CB) "__getattribute__" = some (some (.builtin "type.__getattribute__"))
  at_Barred : PySem.W.findCls K (.ref A.CB) (.type "type") "__init__" = some (.val (.ref A.fB))
  vV : PySem.W.findCls K (.type "ValueError") (.type "type") "__init__" = some (.val (.builtin "ValueError.__init__"))
  vL : PySem.W.findCls K (.type "LookupError") (.type "type") "__init__" = some (.val (.builtin "LookupError.__init__"))
  vK : PySem.W.findCls K (.type "KeyError") (.type "type") "__init__" = some (.val (.builtin "KeyError.__init__"))
  g_NoNumber : mg "NoNumber" = some (.ref A.CM)
  xM : ExcA K .ve "found" A.CM A.fM
  g_NoName : mg "NoName" = some (.ref A.CN)
  xN : ExcA K .ve "found" A.CN A.fN
  g_Doubled : mg "Doubled" = some (.ref A.CD)
  xD : ExcA K .ve "found" A.CD A.fD
  g_TooMuch : mg "TooMuch" = some (.ref A.CT)
  xT : ExcA K .ve "many" A.CT A.fT
  g_NoGuest : mg "NoGuest" = some (.ref A.CA)
  xA : ExcA K .ke "found" A.CA A.fA
  g_Full : mg "Full" = some (.ref A.CF)
  xF : ExcA K .le "many" A.CF A.fF
  g_Shares : mg "Shares" = some (.ref A.CS)
  cl_Shares : Cls K A.CS
  na_length : NoAttr K A.CS "_length"
  na_told : NoAttr K A.CS "_told"
  na_counts : NoAttr K A.CS "_counts"
  na_used : NoAttr K A.CS "_used"
  na_passed : NoAttr K A.CS "_passed"
  na_dealt : NoAttr K A.CS "_dealt"
section
variable {K : PySem.W.Frag} {mg : Str → Option Value} {A : Ad}
theorem Txt.nf_NoNumber (T : Txt K mg A) : PySem.W.findIn K (.ref A.CM) "found" = some none := T.xM.nf
theorem Txt.ox_NoNumber (T : Txt K mg A) : OexT K .ve A.CM := T.xM.ox
theorem Txt.i_NoNumber (T : Txt K mg A) : PySem.W.findIn K (.ref A.CM) "__init__" = some (some (.ref A.fM)) := T.xM.i
theorem Txt.t_NoNumber (T : Txt K mg A) : PySem.W.typeIn K (.ref A.fM) = some (.type "function") := T.xM.t
theorem Txt.nf_NoName (T : Txt K mg A) : PySem.W.findIn K (.ref A.CN) "found" = some none := T.xN.nf
theorem Txt.ox_NoName (T : Txt K mg A) : OexT K .ve A.CN := T.xN.ox
theorem Txt.i_NoName (T : Txt K mg A) : PySem.W.findIn K (.ref A.CN) "__init__" = some (some (.ref A.fN)) := T.xN.i
theorem Txt.t_NoName (T : Txt K mg A) : PySem.W.typeIn K (.ref A.fN) = some (.type "function") := T.xN.t
theorem Txt.nf_Doubled (T : Txt K mg A) : PySem.W.findIn K (.ref A.CD) "found" = some none := T.xD.nf
theorem Txt.ox_Doubled (T : Txt K mg A) : OexT K .ve A.CD := T.xD.ox
theorem Txt.i_Doubled (T : Txt K mg A) : PySem.W.findIn K (.ref A.CD) "__init__" = some (some (.ref A.fD)) := T.xD.i
theorem Txt.t_Doubled (T : Txt K mg A) : PySem.W.typeIn K (.ref A.fD) = some (.type "function") := T.xD.t
theorem Txt.nf_TooMuch (T : Txt K mg A) : PySem.W.findIn K (.ref A.CT) "many" = some none := T.xT.nf
theorem Txt.ox_TooMuch (T : Txt K mg A) : OexT K .ve A.CT := T.xT.ox
theorem Txt.i_TooMuch (T : Txt K mg A) : PySem.W.findIn K (.ref A.CT) "__init__" = some (some (.ref A.fT)) := T.xT.i
theorem Txt.t_TooMuch (T : Txt K mg A) : PySem.W.typeIn K (.ref A.fT) = some (.type "function") := T.xT.t
theorem Txt.nf_NoGuest (T : Txt K mg A) : PySem.W.findIn K (.ref A.CA) "found" = some none := T.xA.nf
theorem Txt.ox_NoGuest (T : Txt K mg A) : OexT K .ke A.CA := T.xA.ox
theorem Txt.i_NoGuest (T : Txt K mg A) : PySem.W.findIn K (.ref A.CA) "__init__" = some (some (.ref A.fA)) := T.xA.i
theorem Txt.t_NoGuest (T : Txt K mg A) : PySem.W.typeIn K (.ref A.fA) = some (.type "function") := T.xA.t
theorem Txt.nf_Full (T : Txt K mg A) : PySem.W.findIn K (.ref A.CF) "many" = some none := T.xF.nf
theorem Txt.ox_Full (T : Txt K mg A) : OexT K .le A.CF := T.xF.ox
theorem Txt.i_Full (T : Txt K mg A) : PySem.W.findIn K (.ref A.CF) "__init__" = some (some (.ref A.fF)) := T.xF.i
theorem Txt.t_Full (T : Txt K mg A) : PySem.W.typeIn K (.ref A.fF) = some (.type "function") := T.xF.t
end
def spWh : Sp := fun vs H Q _ => ∃ x lo hi : Int, vs = [.int x, .int lo, .int hi] ∧ Q (.bl (decide (lo ≤ x ∧ x ≤ hi))) H
def spCkN : Sp := fun vs H Q _ => ∃ x lo hi : Int, vs = [.int x, .int lo, .int hi] ∧ lo ≤ x ∧ x ≤ hi ∧ Q .non H
def spCkName : Sp := fun vs H Q _ => ∃ z : Str, vs = [.str z] ∧ nameOk z = true ∧ ∀ H', Same H H' → Q .non H'
/-- the name is a key of the dict at d -/
def spCkGuest : Sp := fun vs H Q _ => ∃ (z : Str) (d : Addr) (G : List Str) (f : Str → V), vs = [.str z, .ref d] ∧ nameOk z = true ∧ H d = some (.dK (dicF G f)) ∧ z ∈ G ∧ ∀ H', Same H H' → Q .non H'
/-! ### Shares -/
structure Sa where
  o : Addr
  dt : Addr
  dc : Addr
  du : Addr
  dl : Addr
def Sa.own (S : Sa) (b : Addr) : Prop := b = S.o ∨ b = S.dt ∨ b = S.dc ∨ b = S.du ∨ b = S.dl
/-- what is not this one's own stays, and stays no own of it -/
def Keep (S : Sa) (H : Hp) (S' : Sa) (H' : Hp) : Prop := ∀ b u, H b = some u → ¬ S.own b → H' b = some u ∧ ¬ S'.own b
theorem Keep.same {S : Sa} {H H' : Hp} (s : Same H H') : Keep S H S H' := fun b u e n => ⟨s _ _ e, n⟩
theorem Keep.trans {S S1 S2 : Sa} {H H1 H2 : Hp} (a : Keep S H S1 H1) (b : Keep S1 H1 S2 H2) : Keep S H S2 H2 := fun c u e n => b c u (a c u e n).1 (a c u e n).2
/-- a Shares by its values: the length, the guests, promise and ceiling as told, as they count, turns used, turns passed, all dealt -/
structure Ps where
  L : Nat
  G : List Str
  pr : Str → Nat
  ce : Str → Nat
  cp : Str → Nat
  cc : Str → Nat
  us : Str → Nat
  ps : Nat
  dl : List V
def total (G : List Str) (f : Str → Nat) : Nat := (G.map f).sum
structure Ps.Ok (P : Ps) : Prop where
  l4 : 4 ≤ P.L
  l60 : P.L ≤ 60
  nm : ∀ x ∈ P.G, nameOk x = true
  nd : P.G.Nodup
  six : P.G.length ≤ 6
  pc : ∀ x ∈ P.G, P.pr x ≤ P.ce x ∧ 1 ≤ P.ce x ∧ P.ce x ≤ P.L
  cl : ∀ x ∈ P.G, P.cp x ≤ P.cc x ∧ P.cc x ≤ P.L
  fit : total P.G P.pr ≤ P.L
  fitc : total P.G P.cp ≤ P.L
  ps : P.ps < P.L
  zero : P.ps = 0 → ∀ x ∈ P.G, P.cp x = P.pr x ∧ P.cc x = P.ce x ∧ P.us x = 0
  u60 : ∀ x ∈ P.G, P.us x ≤ P.ps
  d480 : P.dl.length ≤ 480
/-- pairs lie in a dict's values -/
def Prs (H : Hp) (d : Addr) (G : List Str) (f g : Str → Nat) : Prop := ∃ tt : Str → Addr, H d = some (.dK (dicF G fun x => .ref (tt x))) ∧ ∀ x ∈ G, H (tt x) = some (.tup [.int (f x), .int (g x)])
theorem Prs.same {H H' : Hp} {d : Addr} {G : List Str} {f g : Str → Nat} (h : Prs H d G f g) (s : Same H H') : Prs H' d G f g := by
  obtain ⟨tt, e, ht⟩ := h
  exact ⟨tt, s _ _ e, fun x hx => s _ _ (ht x hx)⟩
structure Sh (C : Addr) (H : Hp) (S : Sa) (P : Ps) : Prop where
  ob : ∃ dx fs, H S.o = some (.ins C dx fs) ∧ fs.lookup ("_length" : Str) = some (.int P.L) ∧ fs.lookup ("_told" : Str) = some (.ref S.dt) ∧ fs.lookup ("_counts" : Str) = some (.ref S.dc) ∧ fs.lookup ("_used" : Str) = some (.ref S.du) ∧
    fs.lookup ("_passed" : Str) = some (.int P.ps) ∧ fs.lookup ("_dealt" : Str) = some (.ref S.dl) ∧ fs.length ≤ 6 ∧ ∀ m : Str, (m == ("_length" : Str)) = false → (m == ("_told" : Str)) = false → (m == ("_counts" : Str)) = false → (m == ("_used" : Str)) = false → (m == ("_passed" : Str)) = false → (m == ("_dealt" : Str)) = false → fs.lookup m = none
  told : Prs H S.dt P.G P.pr P.ce
  cts : Prs H S.dc P.G P.cp P.cc
  used : H S.du = some (.dK (dicF P.G fun x => .int (P.us x)))
  dlt : H S.dl = some (.lst P.dl)
  n1 : S.dt ≠ S.dc
  n2 : S.dt ≠ S.du
  n3 : S.dc ≠ S.du
  ok : P.Ok
theorem Sh.same {C : Addr} {H H' : Hp} {S : Sa} {P : Ps} (h : Sh C H S P) (s : Same H H') : Sh C H' S P := by
  obtain ⟨dx, fs, e, r⟩ := h.ob
  exact ⟨⟨dx, fs, s _ _ e, r⟩, h.told.same s, h.cts.same s, s _ _ h.used, s _ _ h.dlt, h.n1, h.n2, h.n3, h.ok⟩
def spInitS (A : Ad) : Sp := fun vs H Q _ => ∃ (x dx : Addr) (l : Nat), vs = [.ref x, .int l] ∧ 4 ≤ l ∧ l ≤ 60 ∧ H x = some (.ins A.CS dx []) ∧ ∀ (S : Sa) H', S.o = x → But x H H' → (∀ b, S.own b → b = x ∨ H b = none) → Sh A.CS H' S ⟨l, [], fun _ => 0, fun _ => 0, fun _ => 0, fun _ => 0, fun _ => 0, 0, []⟩ → Q .non H'
def spLength (A : Ad) : Sp := fun vs H Q _ => ∃ (S : Sa) (P : Ps), vs = [.ref S.o] ∧ Sh A.CS H S P ∧ Q (.int P.L) H
def spNames (A : Ad) : Sp := fun vs H Q _ => ∃ (S : Sa) (P : Ps), vs = [.ref S.o] ∧ Sh A.CS H S P ∧ ∀ p H', H p = none → Same H H' → H' p = some (.lst (P.G.map V.str)) → Q (.ref p) H'
def spDealt (A : Ad) : Sp := fun vs H Q _ => ∃ (S : Sa) (P : Ps), vs = [.ref S.o] ∧ Sh A.CS H S P ∧ ∀ p H', H p = none → Same H H' → H' p = some (.lst P.dl) → Q (.ref p) H'
def spPromise (A : Ad) : Sp := fun vs H Q _ => ∃ (S : Sa) (P : Ps) (x : Str), vs = [.ref S.o, .str x] ∧ Sh A.CS H S P ∧ x ∈ P.G ∧ ∀ H', Same H H' → Q (.int (P.pr x)) H'
def spPromised (A : Ad) : Sp := fun vs H Q _ => ∃ (S : Sa) (P : Ps), vs = [.ref S.o] ∧ Sh A.CS H S P ∧ ∀ H', Same H H' → Q (.int (total P.G P.pr)) H'
def spCkShare (A : Ad) : Sp := fun vs H Q _ => ∃ (S : Sa) (P : Ps) (p c : Nat), vs = [.ref S.o, .int p, .int c] ∧ Sh A.CS H S P ∧ p ≤ c ∧ 1 ≤ c ∧ c ≤ P.L ∧ Q .non H
def spCkPromised (A : Ad) : Sp := fun vs H Q _ => ∃ (S : Sa) (P : Ps) (m : Int), vs = [.ref S.o, .int m] ∧ Sh A.CS H S P ∧ m ≤ P.L ∧ Q .non H
def setF (f : Str → Nat) (x : Str) (v : Nat) : Str → Nat := fun y => if y = x then v else f y
def Ps.come (P : Ps) (x : Str) (p c : Nat) : Ps := { P with G := P.G ++ [x], pr := setF P.pr x p, ce := setF P.ce x c, cp := setF P.cp x (if P.ps = 0 then p else 0), cc := setF P.cc x c, us := setF P.us x 0 }
def Ps.go (P : Ps) (x : Str) : Ps := { P with G := P.G.filter fun y => decide (y ≠ x) }
def Ps.change (P : Ps) (x : Str) (p c : Nat) : Ps := { P with pr := setF P.pr x p, ce := setF P.ce x c, cp := if P.ps = 0 then setF P.cp x p else P.cp, cc := if P.ps = 0 then setF P.cc x c else P.cc }
def Ps.deal (P : Ps) (v : V) (y : Option Str) : Ps :=
  { P with us := (fun x => if P.ps + 1 = P.L then 0 else if y = some x then P.us x + 1 else P.us x), dl := P.dl ++ [v], ps := if P.ps + 1 = P.L then 0 else P.ps + 1, cp := if P.ps + 1 = P.L then P.pr else P.cp, cc := if P.ps + 1 = P.L then P.ce else P.cc }
def nameV : Option Str → V
  | none => .non
  | some x => .str x
def okP (P : Ps) (x : Str) : Bool := decide (P.us x < P.cp x)
def okC (P : Ps) (x : Str) : Bool := decide (P.us x < P.cc x)
def ltP (P : Ps) (x y : Str) : Bool := decide (P.us x * P.cp y < P.us y * P.cp x)
def ltC (P : Ps) (x y : Str) : Bool := decide (P.us x < P.us y)
/-- the best so far, and one more -/
def over (lt : Str → Str → Bool) : Option Str → Str → Option Str
  | none, x => some x
  | some y, x => if lt x y = true then some x else some y
def better (c : Str → Bool) (lt : Str → Str → Bool) (b : Option Str) (x : Str) : Option Str := if c x = true then over lt b x else b
/-- the first of the best -/
def pick (c : Str → Bool) (lt : Str → Str → Bool) (R : List Str) : Option Str := R.foldl (better c lt) none
theorem pick_app {c : Str → Bool} {lt : Str → Str → Bool} {R : List Str} {x : Str} : pick c lt (R ++ [x]) = better c lt (pick c lt R) x := by
  unfold pick
  rw [List.foldl_append]
  rfl
theorem fold_mem {c : Str → Bool} {lt : Str → Str → Bool} {x : Str} : ∀ (R : List Str) (b : Option Str), R.foldl (better c lt) b = some x → b = some x ∨ (x ∈ R ∧ c x = true)
  | [], _, h => .inl h
  | a :: R, b, h => by
    rcases fold_mem R _ h with z | z
    · unfold better at z
      by_cases ca : c a = true
      · rw [if_pos ca] at z
        cases b with
        | none => obtain rfl := Option.some.inj z; exact .inr ⟨List.mem_cons_self .., ca⟩
        | some y =>
          have z : (if lt a y = true then some a else some y) = some x := z
          by_cases l : lt a y = true
          · rw [if_pos l] at z; obtain rfl := Option.some.inj z; exact .inr ⟨List.mem_cons_self .., ca⟩
          · rw [if_neg l] at z; exact .inl z
      · rw [if_neg ca] at z; exact .inl z
    · exact .inr ⟨List.mem_cons_of_mem _ z.1, z.2⟩
theorem pick_mem {c : Str → Bool} {lt : Str → Str → Bool} {R : List Str} {x : Str} (h : pick c lt R = some x) : x ∈ R ∧ c x = true := (fold_mem R none h).elim (fun z => nomatch z) id
/-- who gets the turn, of those of R that are guests -/
def gets (P : Ps) (R : List Str) : Option Str :=
  match pick (okP P) (ltP P) (P.G.filter fun x => decide (x ∈ R)) with
  | some y => some y
  | none => pick (okC P) (ltC P) (P.G.filter fun x => decide (x ∈ R))
theorem gets_mem {P : Ps} {R : List Str} {x : Str} (h : gets P R = some x) : x ∈ P.G ∧ x ∈ R := by
  have k : ∀ {c lt}, pick c lt (P.G.filter fun x => decide (x ∈ R)) = some x → x ∈ P.G ∧ x ∈ R := fun h => by
    have := List.mem_filter.mp (pick_mem h).1
    exact ⟨this.1, of_decide_eq_true this.2⟩
  unfold gets at h
  cases e : pick (okP P) (ltP P) (P.G.filter fun x => decide (x ∈ R)) with
  | some y => rw [e] at h; exact k (e.trans h)
  | none => rw [e] at h; exact k h
def spCome (A : Ad) : Sp := fun vs H Q _ => ∃ (S : Sa) (P : Ps) (x : Str) (p c : Nat), vs = [.ref S.o, .str x, .int p, .int c] ∧ Sh A.CS H S P ∧ nameOk x = true ∧ x ∉ P.G ∧ P.G.length < 6 ∧ p ≤ c ∧ 1 ≤ c ∧ c ≤ P.L ∧ total P.G P.pr + p ≤ P.L ∧
  ∀ H', Keep S H S H' → Sh A.CS H' S (P.come x p c) → Q .non H'
def spGo (A : Ad) : Sp := fun vs H Q _ => ∃ (S : Sa) (P : Ps) (x : Str), vs = [.ref S.o, .str x] ∧ Sh A.CS H S P ∧ x ∈ P.G ∧ ∀ H', Keep S H S H' → Sh A.CS H' S (P.go x) → Q .non H'
def spChange (A : Ad) : Sp := fun vs H Q _ => ∃ (S : Sa) (P : Ps) (x : Str) (p c : Nat), vs = [.ref S.o, .str x, .int p, .int c] ∧ Sh A.CS H S P ∧ x ∈ P.G ∧ p ≤ c ∧ 1 ≤ c ∧ c ≤ P.L ∧ total P.G P.pr + p ≤ P.L + P.pr x ∧
  ∀ H', Keep S H S H' → Sh A.CS H' S (P.change x p c) → Q .non H'
def spDeal (A : Ad) : Sp := fun vs H Q _ => ∃ (S : Sa) (P : Ps) (r : Addr) (R : List Str), vs = [.ref S.o, .ref r] ∧ Sh A.CS H S P ∧ (H r = some (.lst (R.map V.str)) ∨ H r = some (.tup (R.map V.str))) ∧ R.length ≤ 12 ∧ (∀ x ∈ R, x ∈ P.G) ∧ P.dl.length < 480 ∧
  ∀ (S' : Sa) H', S'.o = S.o → Keep S H S' H' → Sh A.CS H' S' (P.deal (nameV (gets P R)) (gets P R)) → Q (nameV (gets P R)) H'
/-- whom a choosing among the names of R gives -/
def spChoose (A : Ad) (c : Ps → Str → Bool) (lt : Ps → Str → Str → Bool) : Sp := fun vs H Q _ => ∃ (S : Sa) (P : Ps) (r : Addr) (R : List Str), vs = [.ref S.o, .ref r] ∧ Sh A.CS H S P ∧ H r = some (.lst (R.map V.str)) ∧ R.length ≤ 6 ∧ (∀ x ∈ R, x ∈ P.G) ∧
  Q (nameV (pick (c P) (lt P) R)) H
def spCeil (A : Ad) : Sp := fun vs H Q _ => ∃ (S : Sa) (P : Ps) (x : Str), vs = [.ref S.o, .str x] ∧ Sh A.CS H S P ∧ x ∈ P.G ∧ ∀ H', Same H H' → Q (.int (P.ce x)) H'
def spUsed (A : Ad) : Sp := fun vs H Q _ => ∃ (S : Sa) (P : Ps) (x : Str), vs = [.ref S.o, .str x] ∧ Sh A.CS H S P ∧ x ∈ P.G ∧ ∀ H', Same H H' → Q (.int (P.us x)) H'
def spCounting (A : Ad) : Sp := fun vs H Q _ => ∃ (S : Sa) (P : Ps) (x : Str), vs = [.ref S.o, .str x] ∧ Sh A.CS H S P ∧ x ∈ P.G ∧ ∀ t H', Same H H' → H' t = some (.tup [.int (P.cp x), .int (P.cc x)]) → Q (.ref t) H'
def spPassed (A : Ad) : Sp := fun vs H Q _ => ∃ (S : Sa) (P : Ps), vs = [.ref S.o] ∧ Sh A.CS H S P ∧ Q (.int P.ps) H
/-- another of the same values, all its own new -/
def spTwin (A : Ad) : Sp := fun vs H Q _ => ∃ (S : Sa) (P : Ps), vs = [.ref S.o] ∧ Sh A.CS H S P ∧ ∀ (S' : Sa) H', Same H H' → (∀ b, S'.own b → H b = none) → Sh A.CS H' S' P → Q (.ref S'.o) H'
def spBegin (A : Ad) : Sp := fun vs H Q _ => ∃ (S : Sa) (dx : Addr) (fs : List (Str × V)) (G : List Str) (f g : Str → Nat), vs = [.ref S.o] ∧ H S.o = some (.ins A.CS dx fs) ∧ fs.lookup ("_told" : Str) = some (.ref S.dt) ∧ fs.length ≤ 6 ∧ Prs H S.dt G f g ∧ G.Nodup ∧ G.length ≤ 6 ∧
  (∃ u, fs.lookup ("_counts" : Str) = some u) ∧ (∃ u, fs.lookup ("_used" : Str) = some u) ∧ (∃ u, fs.lookup ("_passed" : Str) = some u) ∧
  ∀ (c u : Addr) H' fs', H c = none → H u = none → c ≠ u → But S.o H H' → H' S.o = some (.ins A.CS dx fs') → fs'.lookup ("_counts" : Str) = some (.ref c) → fs'.lookup ("_used" : Str) = some (.ref u) → fs'.lookup ("_passed" : Str) = some (.int 0) →
    (∀ m : Str, (m == ("_counts" : Str)) = false → (m == ("_used" : Str)) = false → (m == ("_passed" : Str)) = false → fs'.lookup m = fs.lookup m) → fs'.length ≤ 6 → Prs H' c G f g → H' u = some (.dK (dicF G fun _ => .int 0)) → Q .non H'
end K25

namespace K25
open PySem PySem.Spec PyProof.Rows L2 Bk


section
variable {P : Program} {w : World} {K : PySem.W.Frag} {mg : Str → Option Value} {base : Heap} {A : Ad}
theorem ok_allW {f : Addr} {fd : FuncData} (F : Fun K "_all_within" "_all_within" s_all_within f fd) (T : Txt K mg A) : FnOk P w K mg base CX0 1 f fd ["text", "first", "last"] spAllW := by
  refine F.ok sc_all_within (fun vs H Q E h => ?_) (fun cdv A' outer s H vs Q E hr h => ⟨_, (pss_one (ps_ret (pe_callB (cr_all rfl) (by rfl) T.m_all (by decide +kernel) (pa_cons (pe_lc (own := [("sign", 3)]) rfl sc_all_within.nd (pi_str (pv 0)) (blkOk_by (N := ["text", "first", "last", "sign"]) (sc := defScope s_all_within) (by decide +kernel)) (fun _ _ _ _ _ => (pg_name (i := 3) sc_all_within.nd rfl (.inl rfl))) (fun _ _ _ _ _ => pts_nil) (fun _ _ _ _ _ => (pe_chain op_le_str op_le_str (pv 1) (pv 3) (pv 2)))) pa_nil)))), ?_⟩)
  · obtain ⟨z, F, L, f, l, rfl, _⟩ := h
    rfl
  · obtain ⟨z, F, L, f, l, rfl, hf, hl, hz, q⟩ := h
    refine r_ret (r_allStr (fun c => decide (f ≤ c) && decide (c ≤ l)) rfl (by omega) (fun _ => rfl) (fun c H' Q' _ _ k => ?_) q)
    walk_at "go"
    refine ⟨_, _, rfl, rfl, ?_⟩
    walk_at "go"
    rw [hf, sign_tl, lt1]
    have k' := k H' (Same.refl _)
    by_cases h1 : c < f
    · rw [decide_eq_true h1]
      rw [decide_eq_false (by omega : ¬ f ≤ c)] at k'
      exact k'
    · rw [decide_eq_false h1]
      rw [decide_eq_true (by omega : f ≤ c), Bool.true_and] at k'
      walk_at "go"
      refine ⟨_, _, rfl, rfl, ?_⟩
      rw [hl, sign_tl, lt1, show (!decide (l < c)) = decide (c ≤ l) by by_cases h2 : l < c <;> simp [h2] <;> omega]
      exact k'
theorem ok_name {f : Addr} {fd : FuncData} (F : Fun K "is_name" "is_name" s_is_name f fd) (T : Txt K mg A) (c_all_within : CalD P w K mg base CX0 1 "_all_within" spAllW []) : FnOk P w K mg base CX0 2 f fd ["thing"] (spName K) := by
  refine F.ok sc_is_name (fun vs H Q E h => ?_) (fun cdv A' outer s H vs Q E hr h => ⟨_, (pss_one (ps_ret (pe_and (pe_callB call_is (by rfl) T.m_isinstance (by decide +kernel) (pa_cons (pv 0) (pa_cons (pe_bltn (v := .ty "str") (by rfl) T.m_str (by decide +kernel) rfl) pa_nil))) (pe_and (pe_chain op_le op_le pe_int (pe_callB call_len_str (by rfl) T.m_len (by decide +kernel) (pa_cons (pv 0) pa_nil)) pe_int) (pe_one (pe_cal c_all_within hr (by decide) (by rfl) (pa_cons (pv 0) (pa_cons pe_str (pa_cons pe_str pa_nil))))))))), ?_⟩)
  · obtain ⟨x, rfl, _⟩ := h
    rfl
  · obtain ⟨x, rfl, hx⟩ := h
    walk_at "go"
    rcases hx with ⟨z, rfl, hz, q⟩ | ⟨hx, q⟩
    · refine r_is (isa_str (b := true)) ?_
      walk_at "go"
      refine ⟨z, rfl, Nat.le_trans hz (by decide), ?_⟩
      walk_at "go"
      unfold nameOk at q
      refine ite2 (fun e => ?_) (fun e => ?_)
      · walk_at "go"
        refine ite2 (fun e2 => ?_) (fun e2 => ?_)
        · walk_at "go"
          have e1 := of_decide_eq_true e
          have e3 := of_decide_eq_true e2
          rw [decide_eq_true (by omega : 1 ≤ z.length ∧ z.length ≤ 8), Bool.true_and] at q
          exact ⟨z, _, _, 97, 122, rfl, rfl, rfl, hz, q⟩
        · have e3 := of_decide_eq_false (Bool.eq_false_iff.mpr e2)
          rw [decide_eq_false (by omega : ¬ (1 ≤ z.length ∧ z.length ≤ 8)), Bool.false_and] at q
          walk_at "go"
          exact q _ (Same.refl _)
      · have e3 := of_decide_eq_false (Bool.eq_false_iff.mpr e)
        rw [decide_eq_false (by omega : ¬ (1 ≤ z.length ∧ z.length ≤ 8)), Bool.false_and] at q
        walk_at "go"
        exact q _ (Same.refl _)
    · refine r_is hx ?_
      walk_at "go"
      exact q
theorem ok_ckn {f : Addr} {fd fdN : FuncData} (F : Fun K "check_name" "check_name" s_check_name f fd) (T : Txt K mg A) (c_is_name : CalD P w K mg base CX0 2 "is_name" (spName K) [])
    (c_NoName_init : Own P w K mg base CX0 2 A.fN fdN ["self", "found"] (spInitN "found" A.CN)) : FnOk P w K mg base (L2.CX P w) 4 f fd ["thing"] spCkName := by
  refine F.okX sc_check_name (fun vs H Q E h => ?_) (fun cdv A' outer s H vs Q E hr h => ⟨_, (pss_one (ps_if (pt_not (pt_val (pe_cal c_is_name hr (by decide) (by rfl) (pa_cons (pv 0) pa_nil)))) (pss_one (ps_raise rfl (takes_of rfl rfl rfl rfl) (pmk_oexT T.ox_NoName T.i_NoName T.t_NoName c_NoName_init.ok (hr.mono (by decide)) c_NoName_init.bd .nil pass0 (by rfl) T.g_NoName (pa_cons (pv 0) pa_nil)))) pss_nil)), ?_⟩)
  · obtain ⟨z, rfl, _⟩ := h
    rfl
  · obtain ⟨z, rfl, hz, q⟩ := h
    walk_at "go"
    refine ⟨_, rfl, .inl ⟨z, rfl, by have := (len_of_name hz).2; omega, fun H1 s1 => ?_⟩⟩
    rw [hz]
    walk_at "go"
    exact q _ s1
theorem ok_whole {f : Addr} {fd : FuncData} (F : Fun K "is_whole" "is_whole" s_is_whole f fd) (T : Txt K mg A) : FnOk P w K mg base CX0 1 f fd ["thing", "low", "high"] spWh := by
  refine F.ok sc_is_whole (fun vs H Q E h => ?_) (fun cdv A' outer s H vs Q E hr h => ⟨_, (pss_one (ps_ret (pe_and (pe_callB call_is (by rfl) T.m_isinstance (by decide +kernel) (pa_cons (pv 0) (pa_cons (pe_bltn (v := .ty "int") (by rfl) T.m_int (by decide +kernel) rfl) pa_nil))) (pe_and (pe_not (pe_callB call_is (by rfl) T.m_isinstance (by decide +kernel) (pa_cons (pv 0) (pa_cons (pe_bltn (v := .ty "bool") (by rfl) T.m_bool (by decide +kernel) rfl) pa_nil)))) (pe_one (pe_chain op_le op_le (pv 1) (pv 0) (pv 2))))))), ?_⟩)
  · obtain ⟨x, lo, hi, rfl, _⟩ := h
    rfl
  · obtain ⟨x, lo, hi, rfl, q⟩ := h
    walk_at "go"
    refine r_is (isa_int (b := true)) ?_
    walk_at "go"
    refine r_is (isa_int (b := false)) ?_
    rw [Bool.decide_and] at q
    walk_at "go"
    refine ite2 (fun e => ?_) (fun e => ?_)
    · walk_at "go"
      rw [e, Bool.true_and] at q
      exact q
    · rw [Bool.eq_false_iff.mpr e, Bool.false_and] at q
      exact q
theorem ok_cknum {f : Addr} {fd fdM : FuncData} (F : Fun K "check_number" "check_number" s_check_number f fd) (T : Txt K mg A) (c_is_whole : CalD P w K mg base CX0 1 "is_whole" spWh [])
    (c_NoNumber_init : Own P w K mg base CX0 2 A.fM fdM ["self", "found"] (spInitN "found" A.CM)) : FnOk P w K mg base (L2.CX P w) 4 f fd ["thing", "low", "high"] spCkN := by
  refine F.okX sc_check_number (fun vs H Q E h => ?_) (fun cdv A' outer s H vs Q E hr h => ⟨_, (pss_one (ps_if (pt_not (pt_val (pe_cal c_is_whole hr (by decide) (by rfl) (pa_cons (pv 0) (pa_cons (pv 1) (pa_cons (pv 2) pa_nil)))))) (pss_one (ps_raise rfl (takes_of rfl rfl rfl rfl) (pmk_oexT T.ox_NoNumber T.i_NoNumber T.t_NoNumber c_NoNumber_init.ok (hr.mono (by decide)) c_NoNumber_init.bd .nil pass0 (by rfl) T.g_NoNumber (pa_cons (pv 0) pa_nil)))) pss_nil)), ?_⟩)
  · obtain ⟨x, lo, hi, rfl, _⟩ := h
    rfl
  · obtain ⟨x, lo, hi, rfl, h1, h2, q⟩ := h
    walk_at "go"
    refine ⟨x, lo, hi, rfl, ?_⟩
    rw [decide_eq_true ⟨h1, h2⟩]
    walk_at "go"
    exact q
theorem ok_ckg {f : Addr} {fd fdA : FuncData} (F : Fun K "check_guest" "check_guest" s_check_guest f fd) (T : Txt K mg A) (c_is_name : CalD P w K mg base CX0 2 "is_name" (spName K) [])
    (c_NoGuest_init : Own P w K mg base CX0 2 A.fA fdA ["self", "found"] (spInitN "found" A.CA)) : FnOk P w K mg base (L2.CX P w) 4 f fd ["thing", "guests"] spCkGuest := by
  refine F.okX sc_check_guest (fun vs H Q E h => ?_) (fun cdv A' outer s H vs Q E hr h => have hu := units1 hr; ⟨_, (pss_one (ps_if (PW.pt (pw_or (pt_not (pt_val (pe_cal c_is_name hr (by decide) (by rfl) (pa_cons (pv 0) pa_nil)))) (pw_or1 (pt_cmp (pc_dnotin hu (pv 0) (pv 1)))))) (pss_one (ps_raise rfl (takes_of rfl rfl rfl rfl) (pmk_oexT T.ox_NoGuest T.i_NoGuest T.t_NoGuest c_NoGuest_init.ok (hr.mono (by decide)) c_NoGuest_init.bd .nil pass0 (by rfl) T.g_NoGuest (pa_cons (pv 0) pa_nil)))) pss_nil)), ?_⟩)
  · obtain ⟨z, d, G, f, rfl, _⟩ := h
    rfl
  · obtain ⟨z, d, G, f, rfl, hz, e, hG, q⟩ := h
    walk_at "go"
    refine ⟨_, rfl, .inl ⟨z, rfl, by have := (len_of_name hz).2; omega, fun H1 s1 => ?_⟩⟩
    rw [hz]
    walk_at "go"
    refine ⟨_, rfl, _, rfl, d, some (f z), rfl, .inl ⟨_, .inr z, .inl (s1 _ _ e), rfl, (by rw [dicF_get, if_pos hG])⟩, _, rfl, ?_⟩
    walk_at "go"
    exact q _ s1

theorem ok_init {f : Addr} {fd : FuncData} (F : Fun K "__init__" "Shares.__init__" s_Shares_init f fd) (T : Txt K mg A) (c_check_number : CalX P w K mg base 4 "check_number" spCkN) : FnOk P w K mg base (L2.CX P w) 5 f fd ["self", "length"] (spInitS A) := by
  refine F.okX sc_Shares_init (fun vs H Q E h => ?_) (fun cdv A' outer s H vs Q E hr h => ⟨_, (pss_cons (ps_expr (pe_calX c_check_number hr (by decide) (by rfl) (takes_of rfl rfl rfl rfl) (pa_cons (pv 1) (pa_cons (C8.pe_gc (by rfl) T.c_SHORTEST) (pa_cons (C8.pe_gc (by rfl) T.c_LONGEST) pa_nil)))))
    (pss_cons (ps_fld (pv 0) (pv 1) rfl)
    (pss_cons (ps_fld (pv 0) pe_dnewK rfl)
    (pss_cons (ps_fld (pv 0) pe_dnewK rfl)
    (pss_cons (ps_fld (pv 0) pe_dnewK rfl)
    (pss_cons (ps_fld (pv 0) pe_int rfl)
    (pss_one (ps_fld (pv 0) (pe_lstB pa_nil) rfl)))))))), ?_⟩)
  · obtain ⟨x, dx, l, rfl, _⟩ := h
    rfl
  · obtain ⟨x, dx, l, rfl, h4, h60, e, q⟩ := h
    walk_at "go"
    refine ⟨l, 4, 60, rfl, by omega, by omega, ?_⟩
    walk_at "go"
    refine ⟨_, rfl, _, rfl, x, A.CS, dx, _, rfl, e, T.cl_Shares, T.na_length, by decide, ?_⟩
    have b1 : But x H (upd H x (.ins A.CS dx [("_length", .int l)])) := fun b u nb eb => by rw [upd_ne nb]; exact eb
    have o1 : upd H x (.ins A.CS dx [("_length", .int l)]) x = some (.ins A.CS dx [("_length", .int l)]) := upd_same
    show tSeq _ _ _ _ (upd H x (.ins A.CS dx [("_length", .int l)]))
    generalize upd H x (.ins A.CS dx [("_length", .int l)]) = H1 at b1 o1 ⊢
    walk_at "go"
    intro dt n1
    have s1 : Same H1 (upd H1 dt (.dK [])) := same_upd n1
    have e1 : upd H1 dt (.dK []) dt = some (.dK []) := upd_same
    generalize upd H1 dt (.dK []) = H2 at s1 e1 ⊢
    walk_at "go"
    refine ⟨x, A.CS, dx, _, rfl, s1 _ _ o1, T.cl_Shares, T.na_told, Nat.le_of_ble_eq_true rfl, ?_⟩
    have x1 : dt ≠ x := (ne_of_none o1 n1).symm
    have b2 : But x H (upd H2 x (.ins A.CS dx [("_length", .int l), ("_told", .ref dt)])) := fun b u nb eb => by rw [upd_ne nb]; exact s1 _ _ (b1 _ _ nb eb)
    have o2 : upd H2 x (.ins A.CS dx [("_length", .int l), ("_told", .ref dt)]) x = some (.ins A.CS dx [("_length", .int l), ("_told", .ref dt)]) := upd_same
    have e1 : upd H2 x (.ins A.CS dx [("_length", .int l), ("_told", .ref dt)]) dt = some (.dK []) := by rw [upd_ne x1]; exact e1
    show tSeq _ _ _ _ (upd H2 x (.ins A.CS dx [("_length", .int l), ("_told", .ref dt)]))
    generalize upd H2 x (.ins A.CS dx [("_length", .int l), ("_told", .ref dt)]) = H3 at b2 o2 e1 ⊢
    walk_at "go"
    intro dc n2
    have s2 : Same H3 (upd H3 dc (.dK [])) := same_upd n2
    have e2 : upd H3 dc (.dK []) dc = some (.dK []) := upd_same
    generalize upd H3 dc (.dK []) = H4 at s2 e2 ⊢
    walk_at "go"
    refine ⟨x, A.CS, dx, _, rfl, s2 _ _ o2, T.cl_Shares, T.na_counts, Nat.le_of_ble_eq_true rfl, ?_⟩
    have x2 : dc ≠ x := (ne_of_none o2 n2).symm
    have y12 : dt ≠ dc := ne_of_none e1 n2
    have b3 : But x H (upd H4 x (.ins A.CS dx [("_length", .int l), ("_told", .ref dt), ("_counts", .ref dc)])) := fun b u nb eb => by rw [upd_ne nb]; exact s2 _ _ (b2 _ _ nb eb)
    have o3 : upd H4 x (.ins A.CS dx [("_length", .int l), ("_told", .ref dt), ("_counts", .ref dc)]) x = some (.ins A.CS dx [("_length", .int l), ("_told", .ref dt), ("_counts", .ref dc)]) := upd_same
    have e1 : upd H4 x (.ins A.CS dx [("_length", .int l), ("_told", .ref dt), ("_counts", .ref dc)]) dt = some (.dK []) := by rw [upd_ne x1]; exact s2 _ _ e1
    have e2 : upd H4 x (.ins A.CS dx [("_length", .int l), ("_told", .ref dt), ("_counts", .ref dc)]) dc = some (.dK []) := by rw [upd_ne x2]; exact e2
    show tSeq _ _ _ _ (upd H4 x (.ins A.CS dx [("_length", .int l), ("_told", .ref dt), ("_counts", .ref dc)]))
    generalize upd H4 x (.ins A.CS dx [("_length", .int l), ("_told", .ref dt), ("_counts", .ref dc)]) = H5 at b3 o3 e1 e2 ⊢
    walk_at "go"
    intro du n3
    have s3 : Same H5 (upd H5 du (.dK [])) := same_upd n3
    have e3 : upd H5 du (.dK []) du = some (.dK []) := upd_same
    generalize upd H5 du (.dK []) = H6 at s3 e3 ⊢
    walk_at "go"
    refine ⟨x, A.CS, dx, _, rfl, s3 _ _ o3, T.cl_Shares, T.na_used, Nat.le_of_ble_eq_true rfl, ?_⟩
    have x3 : du ≠ x := (ne_of_none o3 n3).symm
    have y13 : dt ≠ du := ne_of_none e1 n3
    have y23 : dc ≠ du := ne_of_none e2 n3
    have b4 : But x H (upd H6 x (.ins A.CS dx [("_length", .int l), ("_told", .ref dt), ("_counts", .ref dc), ("_used", .ref du)])) := fun b u nb eb => by rw [upd_ne nb]; exact s3 _ _ (b3 _ _ nb eb)
    have o4 : upd H6 x (.ins A.CS dx [("_length", .int l), ("_told", .ref dt), ("_counts", .ref dc), ("_used", .ref du)]) x = some (.ins A.CS dx [("_length", .int l), ("_told", .ref dt), ("_counts", .ref dc), ("_used", .ref du)]) := upd_same
    have e1 : upd H6 x (.ins A.CS dx [("_length", .int l), ("_told", .ref dt), ("_counts", .ref dc), ("_used", .ref du)]) dt = some (.dK []) := by rw [upd_ne x1]; exact s3 _ _ e1
    have e2 : upd H6 x (.ins A.CS dx [("_length", .int l), ("_told", .ref dt), ("_counts", .ref dc), ("_used", .ref du)]) dc = some (.dK []) := by rw [upd_ne x2]; exact s3 _ _ e2
    have e3 : upd H6 x (.ins A.CS dx [("_length", .int l), ("_told", .ref dt), ("_counts", .ref dc), ("_used", .ref du)]) du = some (.dK []) := by rw [upd_ne x3]; exact e3
    show tSeq _ _ _ _ (upd H6 x (.ins A.CS dx [("_length", .int l), ("_told", .ref dt), ("_counts", .ref dc), ("_used", .ref du)]))
    generalize upd H6 x (.ins A.CS dx [("_length", .int l), ("_told", .ref dt), ("_counts", .ref dc), ("_used", .ref du)]) = H7 at b4 o4 e1 e2 e3 ⊢
    walk_at "go"
    refine ⟨_, rfl, x, A.CS, dx, _, rfl, o4, T.cl_Shares, T.na_passed, Nat.le_of_ble_eq_true rfl, ?_⟩
    have b5 : But x H (upd H7 x (.ins A.CS dx [("_length", .int l), ("_told", .ref dt), ("_counts", .ref dc), ("_used", .ref du), ("_passed", .int 0)])) := fun b u nb eb => by rw [upd_ne nb]; exact b4 _ _ nb eb
    have o5 : upd H7 x (.ins A.CS dx [("_length", .int l), ("_told", .ref dt), ("_counts", .ref dc), ("_used", .ref du), ("_passed", .int 0)]) x = some (.ins A.CS dx [("_length", .int l), ("_told", .ref dt), ("_counts", .ref dc), ("_used", .ref du), ("_passed", .int 0)]) := upd_same
    have e1 : upd H7 x (.ins A.CS dx [("_length", .int l), ("_told", .ref dt), ("_counts", .ref dc), ("_used", .ref du), ("_passed", .int 0)]) dt = some (.dK []) := by rw [upd_ne x1]; exact e1
    have e2 : upd H7 x (.ins A.CS dx [("_length", .int l), ("_told", .ref dt), ("_counts", .ref dc), ("_used", .ref du), ("_passed", .int 0)]) dc = some (.dK []) := by rw [upd_ne x2]; exact e2
    have e3 : upd H7 x (.ins A.CS dx [("_length", .int l), ("_told", .ref dt), ("_counts", .ref dc), ("_used", .ref du), ("_passed", .int 0)]) du = some (.dK []) := by rw [upd_ne x3]; exact e3
    show sFld K (tVar 0) (tLstB tNil) "_dealt" _ _ (upd H7 x (.ins A.CS dx [("_length", .int l), ("_told", .ref dt), ("_counts", .ref dc), ("_used", .ref du), ("_passed", .int 0)]))
    generalize upd H7 x (.ins A.CS dx [("_length", .int l), ("_told", .ref dt), ("_counts", .ref dc), ("_used", .ref du), ("_passed", .int 0)]) = H8 at b5 o5 e1 e2 e3 ⊢
    refine r_lstB (r_nil (newLB fun ll H9 n9 g9 s9 e9 => ?_))
    walk_at "go"
    refine ⟨x, A.CS, dx, _, rfl, s9 _ _ o5, T.cl_Shares, T.na_dealt, Nat.le_of_ble_eq_true rfl, ?_⟩
    have x9 : ll ≠ x := (ne_of_none o5 n9).symm
    have hN : ∀ {b : Addr} {H' : Hp}, But x H H' → b ≠ x → H' b = none → H b = none := fun {b H'} bb nb z => by
      cases w : H b with
      | none => rfl
      | some u => rw [bb _ _ nb w] at z; exact nomatch z
    refine q ⟨x, dt, dc, du, ll⟩ _ rfl (fun b u nb eb => by rw [upd_ne nb]; exact s9 _ _ (b5 _ _ nb eb)) (fun b hb => ?_) ⟨⟨dx, _, upd_same, rfl, rfl, rfl, rfl, rfl, rfl, Nat.le_of_ble_eq_true rfl, fun m h1 h2 h3 h4 h5 h6 => ?_⟩, ⟨fun _ => 0, by rw [upd_ne x1]; exact s9 _ _ e1, fun y hy => (nomatch hy)⟩, ⟨fun _ => 0, by rw [upd_ne x2]; exact s9 _ _ e2, fun y hy => (nomatch hy)⟩, by rw [upd_ne x3]; exact s9 _ _ e3, by rw [upd_ne x9]; exact e9, y12, y13, y23, ⟨h4, h60, fun y hy => (nomatch hy), List.nodup_nil, Nat.zero_le _, fun y hy => (nomatch hy), fun y hy => (nomatch hy), Nat.zero_le _, Nat.zero_le _, by show 0 < l; omega, fun _ y hy => (nomatch hy), fun y hy => (nomatch hy), Nat.zero_le _⟩⟩
    · rcases hb with h | h | h | h | h
      · exact .inl h
      · exact .inr (by rw [h]; exact hN b1 x1 n1)
      · exact .inr (by rw [h]; exact hN b2 x2 n2)
      · exact .inr (by rw [h]; exact hN b3 x3 n3)
      · exact .inr (by rw [h]; exact hN b5 x9 n9)
    · show List.lookup m [(("_length" : Str), V.int l), ("_told", .ref dt), ("_counts", .ref dc), ("_used", .ref du), ("_passed", .int 0), ("_dealt", .ref ll)] = none
      rw [List.lookup_cons, h1, List.lookup_cons, h2, List.lookup_cons, h3, List.lookup_cons, h4, List.lookup_cons, h5, List.lookup_cons, h6]
      rfl
theorem ok_length {f : Addr} {fd : FuncData} (F : Fun K "length" "Shares.length" s_Shares_length f fd) (T : Txt K mg A) : FnOk P w K mg base CX0 1 f fd ["self"] (spLength A) := by
  refine F.ok sc_Shares_length (fun vs H Q E h => ?_) (fun cdv A' outer s H vs Q E hr h => ⟨_, (pss_one (ps_ret (pe_fld (pv 0) rfl))), ?_⟩)
  · obtain ⟨S, P, rfl, _⟩ := h
    rfl
  · obtain ⟨S, P, rfl, hS, q⟩ := h
    obtain ⟨dx, fs, e, fL, fT, fC, fU, fP, fD, fn⟩ := hS.ob
    walk_at "go"
    exact ⟨_, rfl, S.o, A.CS, dx, fs, _, rfl, e, T.cl_Shares, T.na_length, fL, q⟩
theorem ok_names {f : Addr} {fd : FuncData} (F : Fun K "names" "Shares.names" s_Shares_names f fd) (T : Txt K mg A) : FnOk P w K mg base CX0 1 f fd ["self"] (spNames A) := by
  refine F.ok sc_Shares_names (fun vs H Q E h => ?_) (fun cdv A' outer s H vs Q E hr h => ⟨_, (pss_one (ps_ret (pe_callTy (call_listD rfl) (by rfl) T.m_list (by decide +kernel) (pa_cons (pe_fld (pv 0) rfl) pa_nil)))), ?_⟩)
  · obtain ⟨S, P, rfl, _⟩ := h
    rfl
  · obtain ⟨S, P, rfl, hS, q⟩ := h
    obtain ⟨dx, fs, e, fL, fT, fC, fU, fP, fD, fn⟩ := hS.ob
    obtain ⟨tt, et, ht⟩ := hS.told
    walk_at "go"
    refine ⟨_, rfl, S.o, A.CS, dx, fs, _, rfl, e, T.cl_Shares, T.na_told, fT, ?_⟩
    walk_at "go"
    refine ⟨S.dt, _, rfl, .inl et, fun l1 nl1 => ?_⟩
    have hm : (dicF P.G fun x => .ref (tt x)).map (fun kv => kV kv.1) = P.G.map V.str := by
      unfold dicF
      rw [List.map_map]
      rfl
    rw [hm]
    exact q l1 _ nl1 (same_upd nl1) upd_same
theorem ok_dealt {f : Addr} {fd : FuncData} (F : Fun K "dealt" "Shares.dealt" s_Shares_dealt f fd) (T : Txt K mg A) : FnOk P w K mg base CX0 1 f fd ["self"] (spDealt A) := by
  refine F.ok sc_Shares_dealt (fun vs H Q E h => ?_) (fun cdv A' outer s H vs Q E hr h => ⟨_, (pss_one (ps_ret (pe_callTy call_list_of (by rfl) T.m_list (by decide +kernel) (pa_cons (pe_fld (pv 0) rfl) pa_nil)))), ?_⟩)
  · obtain ⟨S, P, rfl, _⟩ := h
    rfl
  · obtain ⟨S, P, rfl, hS, q⟩ := h
    obtain ⟨dx, fs, e, fL, fT, fC, fU, fP, fD, fn⟩ := hS.ob
    walk_at "go"
    refine ⟨_, rfl, S.o, A.CS, dx, fs, _, rfl, e, T.cl_Shares, T.na_dealt, fD, ?_⟩
    walk_at "go"
    refine ⟨S.dl, _, rfl, .inl (sqL hS.dlt), fun l1 nl1 => ?_⟩
    exact q l1 _ nl1 (same_upd nl1) upd_same
theorem ok_promise {f : Addr} {fd : FuncData} (F : Fun K "promise" "Shares.promise" s_Shares_promise f fd) (T : Txt K mg A) (c_check_guest : CalX P w K mg base 4 "check_guest" spCkGuest) : FnOk P w K mg base (L2.CX P w) 5 f fd ["self", "name"] (spPromise A) := by
  refine F.okX sc_Shares_promise (fun vs H Q E h => ?_) (fun cdv A' outer s H vs Q E hr h => have hu := units1 hr; ⟨_, (pss_cons (ps_expr (pe_calX c_check_guest hr (by decide) (by rfl) (takes_of rfl rfl rfl rfl) (pa_cons (pv 1) (pa_cons (pe_fld (pv 0) rfl) pa_nil))))
    (pss_one (ps_ret (pe_ix ix_tup (pe_dget hu (pe_fld (pv 0) rfl) (pv 1) (fun _ _ => rfl)) pe_int (fun _ _ => rfl))))), ?_⟩)
  · obtain ⟨S, P, x, rfl, _⟩ := h
    rfl
  · obtain ⟨S, P, x, rfl, hS, hx, q⟩ := h
    obtain ⟨dx, fs, e, fL, fT, fC, fU, fP, fD, fn⟩ := hS.ob
    obtain ⟨tt, et, ht⟩ := hS.told
    walk_at "go"
    refine ⟨_, rfl, S.o, A.CS, dx, fs, _, rfl, e, T.cl_Shares, T.na_told, fT, ?_⟩
    walk_at "go"
    refine ⟨x, S.dt, P.G, _, rfl, hS.ok.nm x hx, et, hx, fun H1 s1 => ?_⟩
    walk_at "go"
    refine ⟨_, rfl, S.o, A.CS, dx, fs, _, rfl, s1 _ _ e, T.cl_Shares, T.na_told, fT, ?_⟩
    walk_at "go"
    refine ⟨S.dt, _, rfl, .inl ⟨_, .inr x, .inl (s1 _ _ et), rfl, (by rw [dicF_get, if_pos hx])⟩, ?_⟩
    walk_at "go"
    refine r_ixT (sqT (s1 _ _ (ht x hx))) (v := .int (P.pr x)) rfl ?_
    exact q _ s1
theorem ok_promised {f : Addr} {fd : FuncData} (F : Fun K "promised" "Shares.promised" s_Shares_promised f fd) (T : Txt K mg A) : FnOk P w K mg base CX0 1 f fd ["self"] (spPromised A) := by
  refine F.ok sc_Shares_promised (fun vs H Q E h => ?_) (fun cdv A' outer s H vs Q E hr h => ⟨_, (pss_one (ps_ret (pe_callB (cr_sum rfl) (by rfl) T.m_sum (by decide +kernel) (pa_cons (pe_lock (pe_lc (own := [("promise", 1), ("_", 2)]) rfl sc_Shares_promised.nd (pi_values (pe_fld (pv 0) rfl)) (blkOk_by (N := ["self", "promise", "_"]) (sc := defScope s_Shares_promised) (by decide +kernel)) (fun _ _ _ _ _ => (pg_tupK (K := K) (n := 2) rfl rfl (pgs_cons (pg_name (i := 1) sc_Shares_promised.nd rfl (.inl rfl)) (pgs_cons (pg_name (i := 2) sc_Shares_promised.nd rfl (.inl rfl)) pgs_nil)))) (fun _ _ _ _ _ => pts_nil) (fun _ _ _ _ _ => (pv 1)))) pa_nil)))), ?_⟩)
  · obtain ⟨S, P, rfl, _⟩ := h
    rfl
  · obtain ⟨S, P, rfl, hS, q⟩ := h
    obtain ⟨dx, fs, e, fL, fT, fC, fU, fP, fD, fn⟩ := hS.ob
    obtain ⟨tt, et, ht⟩ := hS.told
    walk_at "go"
    refine lcVals (fun i => some (V.int (P.pr (P.G.getD i "")))) et (by rw [dicF_len]; have := hS.ok.six; omega) (fun od QQ z => ?_) (fun i k y od H1 Q' R' hk ed fr h1 h2 => ?_) fun D H1 nD s1 e1 => ?_
    · refine ⟨_, rfl, S.o, A.CS, dx, fs, _, rfl, ?_, T.cl_Shares, T.na_told, fT, z⟩
      rw [upd_ne (ne_ct e et (fun z => nomatch z))]
      exact e
    · have hi : i < P.G.length := by
        have z := (List.getElem?_eq_some_iff.mp hk).1
        rwa [dicF_len] at z
      unfold dicF at hk
      rw [List.getElem?_map, List.getElem?_eq_getElem hi] at hk
      obtain ⟨_, rfl⟩ := Prod.mk.inj (Option.some.inj hk)
      have hm := ht P.G[i] (List.getElem_mem hi)
      have em := fr _ _ (ne_ct hm et (fun z => nomatch z)) hm
      have hg : P.G.getD i "" = P.G[i] := by
        rw [List.getD_eq_getElem?_getD, List.getElem?_eq_getElem hi]
        rfl
      rw [hg] at h1
      refine ⟨_, _, rfl, sqT em, rfl, ?_⟩
      walk_at "go"
      refine ⟨_, _, rfl, _, _, rfl, rfl, rfl, ?_⟩
      exact ⟨_, rfl, h1 _ rfl _ (Same.refl _)⟩
    · walk_at "go"
      have hm : ((List.range (dicF P.G fun x => V.ref (tt x)).length).filterMap fun i => some (V.int (P.pr (P.G.getD i "")))) = (P.G.map fun x => ((P.pr x : Nat) : Int)).map V.int := by
        rw [dicF_len]
        have z := rng_fm (Str.ofString "") P.G (fun x => some (V.int (P.pr x)))
        refine z.trans ?_
        rw [List.filterMap_eq_map', List.map_map]
        rfl
      rw [hm] at e1
      refine ⟨D, _, rfl, sqL e1, ?_⟩
      have ht : (P.G.map fun x => ((P.pr x : Nat) : Int)).sum = ((total P.G P.pr : Nat) : Int) := by
        unfold total
        induction P.G with
        | nil => rfl
        | cons a r ih => simp only [List.map_cons, List.sum_cons, ih, Int.natCast_add]
      rw [ht]
      exact q _ s1
end
end K25

namespace K25
open PySem PySem.Spec PyProof.Rows L2 Bk


/-! ### the numbers -/
theorem total_app {G : List Str} {f : Str → Nat} {x : Str} : total (G ++ [x]) f = total G f + f x := by
  unfold total
  rw [List.map_append, List.sum_append]
  rfl
theorem total_congr {G : List Str} {f g : Str → Nat} (h : ∀ x ∈ G, f x = g x) : total G f = total G g := by
  unfold total
  rw [List.map_congr_left h]
theorem total_le {f g : Str → Nat} : ∀ {G : List Str}, (∀ x ∈ G, f x ≤ g x) → total G f ≤ total G g
  | [], _ => Nat.le_refl _
  | a :: r, h => Nat.add_le_add (h a List.mem_cons_self) (total_le (G := r) fun x hx => h x (List.mem_cons_of_mem _ hx))
theorem total_drop {f : Str → Nat} {p : Str → Bool} : ∀ {G : List Str}, total (G.filter p) f ≤ total G f
  | [] => Nat.le_refl _
  | a :: r => by
    have ih := total_drop (f := f) (p := p) (G := r)
    by_cases c : p a = true
    · rw [List.filter_cons_of_pos c]
      exact Nat.add_le_add_left ih _
    · rw [List.filter_cons_of_neg c]
      exact Nat.le_trans ih (Nat.le_add_left _ _)
theorem total_out {G : List Str} {f : Str → Nat} {x : Str} {v : Nat} (h : x ∉ G) : total G (setF f x v) = total G f := total_congr fun y hy => if_neg fun z => h (by rw [← z]; exact hy)
theorem total_set {f : Str → Nat} {x : Str} {v : Nat} : ∀ {G : List Str}, G.Nodup → x ∈ G → total G (setF f x v) + f x = total G f + v
  | [], _, h => nomatch h
  | a :: r, nd, h => by
    have n2 := List.nodup_cons.mp nd
    show setF f x v a + total r (setF f x v) + f x = f a + total r f + v
    by_cases c : a = x
    · subst c
      rw [total_out n2.1]
      unfold setF
      rw [if_pos rfl]
      omega
    · have ih := total_set (f := f) (v := v) (G := r) n2.2 ((List.mem_cons.mp h).resolve_left fun z => c z.symm)
      unfold setF at ih ⊢
      rw [if_neg c]
      omega
theorem total_mem {f : Str → Nat} {x : Str} : ∀ {G : List Str}, x ∈ G → f x ≤ total G f
  | [], h => nomatch h
  | a :: r, h => by
    show f x ≤ f a + total r f
    rcases List.mem_cons.mp h with rfl | h
    · omega
    · have := total_mem (f := f) (G := r) h
      omega
theorem setF_same {f : Str → Nat} {x : Str} {v : Nat} : setF f x v x = v := if_pos rfl
theorem setF_ne {f : Str → Nat} {x y : Str} {v : Nat} (h : y ≠ x) : setF f x v y = f y := if_neg h
theorem Ps.Ok.come {P : Ps} (h : P.Ok) {x : Str} {p c : Nat} (nx : nameOk x = true) (hx : x ∉ P.G) (h6 : P.G.length < 6) (pc : p ≤ c) (c1 : 1 ≤ c) (cl : c ≤ P.L) (ft : total P.G P.pr + p ≤ P.L) : (P.come x p c).Ok := by
  have ne : ∀ y ∈ P.G, y ≠ x := fun y hy z => hx (by rw [← z]; exact hy)
  have sp : ∀ {y : Str}, y ∈ P.G ++ [x] → (y ∈ P.G ∧ y ≠ x) ∨ y = x := fun {y} hy => (List.mem_append.mp hy).elim (fun z => .inl ⟨z, ne y z⟩) fun z => .inr (List.mem_singleton.mp z)
  refine ⟨h.l4, h.l60, fun y hy => ?_, ?_, ?_, fun y hy => ?_, fun y hy => ?_, ?_, ?_, h.ps, fun hz y hy => ?_, fun y hy => ?_, h.d480⟩
  · rcases sp hy with ⟨z, _⟩ | rfl
    · exact h.nm y z
    · exact nx
  · exact List.nodup_append.mpr ⟨h.nd, List.pairwise_singleton _ _, fun a ha b hb => by
      rw [List.mem_singleton.mp hb]
      exact ne a ha⟩
  · show (P.G ++ [x]).length ≤ 6
    rw [List.length_append]
    exact h6
  · show setF P.pr x p y ≤ setF P.ce x c y ∧ 1 ≤ setF P.ce x c y ∧ setF P.ce x c y ≤ P.L
    rcases sp hy with ⟨z, n⟩ | rfl
    · rw [setF_ne n, setF_ne n]; exact h.pc y z
    · rw [setF_same, setF_same]; exact ⟨pc, c1, cl⟩
  · show setF P.cp x (if P.ps = 0 then p else 0) y ≤ setF P.cc x c y ∧ setF P.cc x c y ≤ P.L
    rcases sp hy with ⟨z, n⟩ | rfl
    · rw [setF_ne n, setF_ne n]; exact h.cl y z
    · rw [setF_same, setF_same]
      refine ⟨?_, cl⟩
      split
      · exact pc
      · exact Nat.zero_le _
  · show total (P.G ++ [x]) (setF P.pr x p) ≤ P.L
    rw [total_app, setF_same, total_out hx]
    exact ft
  · show total (P.G ++ [x]) (setF P.cp x (if P.ps = 0 then p else 0)) ≤ P.L
    rw [total_app, setF_same, total_out hx]
    by_cases z : P.ps = 0
    · rw [if_pos z, total_congr fun y hy => (h.zero z y hy).1]
      exact ft
    · rw [if_neg z]
      exact h.fitc
  · show setF P.cp x (if P.ps = 0 then p else 0) y = setF P.pr x p y ∧ setF P.cc x c y = setF P.ce x c y ∧ setF P.us x 0 y = 0
    have hz : P.ps = 0 := hz
    rcases sp hy with ⟨z, n⟩ | rfl
    · rw [setF_ne n, setF_ne n, setF_ne n, setF_ne n, setF_ne n]; exact h.zero hz y z
    · rw [setF_same, setF_same, setF_same, setF_same, setF_same]; exact ⟨if_pos hz, rfl, rfl⟩
  · show setF P.us x 0 y ≤ P.ps
    rcases sp hy with ⟨z, n⟩ | rfl
    · rw [setF_ne n]; exact h.u60 y z
    · rw [setF_same]; exact Nat.zero_le _
theorem Ps.Ok.go {P : Ps} (h : P.Ok) {x : Str} : (P.go x).Ok := by
  have m : ∀ {y : Str}, y ∈ (P.go x).G → y ∈ P.G := fun hy => (List.mem_filter.mp hy).1
  exact ⟨h.l4, h.l60, fun y hy => h.nm y (m hy), h.nd.filter _, Nat.le_trans (List.length_filter_le _ _) h.six, fun y hy => h.pc y (m hy), fun y hy => h.cl y (m hy), Nat.le_trans total_drop h.fit, Nat.le_trans total_drop h.fitc, h.ps, fun z y hy => h.zero z y (m hy), fun y hy => h.u60 y (m hy), h.d480⟩
theorem Ps.Ok.change {P : Ps} (h : P.Ok) {x : Str} {p c : Nat} (hx : x ∈ P.G) (pc : p ≤ c) (c1 : 1 ≤ c) (cl : c ≤ P.L) (ft : total P.G P.pr + p ≤ P.L + P.pr x) : (P.change x p c).Ok := by
  have ft2 : total P.G (setF P.pr x p) ≤ P.L := by
    have := total_set (f := P.pr) (v := p) h.nd hx
    omega
  refine ⟨h.l4, h.l60, h.nm, h.nd, h.six, fun y hy => ?_, fun y hy => ?_, ft2, ?_, h.ps, fun hz y hy => ?_, h.u60, h.d480⟩
  · show setF P.pr x p y ≤ setF P.ce x c y ∧ 1 ≤ setF P.ce x c y ∧ setF P.ce x c y ≤ P.L
    by_cases n : y = x
    · subst n; rw [setF_same, setF_same]; exact ⟨pc, c1, cl⟩
    · rw [setF_ne n, setF_ne n]; exact h.pc y hy
  · show (if P.ps = 0 then setF P.cp x p else P.cp) y ≤ (if P.ps = 0 then setF P.cc x c else P.cc) y ∧ (if P.ps = 0 then setF P.cc x c else P.cc) y ≤ P.L
    by_cases z : P.ps = 0
    · rw [if_pos z, if_pos z]
      by_cases n : y = x
      · subst n; rw [setF_same, setF_same]; exact ⟨pc, cl⟩
      · rw [setF_ne n, setF_ne n]; exact h.cl y hy
    · rw [if_neg z, if_neg z]; exact h.cl y hy
  · show total P.G (if P.ps = 0 then setF P.cp x p else P.cp) ≤ P.L
    by_cases z : P.ps = 0
    · rw [if_pos z, total_congr (g := setF P.pr x p) fun y hy => ?_]
      · exact ft2
      · unfold setF
        rw [(h.zero z y hy).1]
    · rw [if_neg z]; exact h.fitc
  · have hz : P.ps = 0 := hz
    show (if P.ps = 0 then setF P.cp x p else P.cp) y = setF P.pr x p y ∧ (if P.ps = 0 then setF P.cc x c else P.cc) y = setF P.ce x c y ∧ P.us y = 0
    obtain ⟨a, b, d⟩ := h.zero hz y hy
    rw [if_pos hz, if_pos hz]
    unfold setF
    rw [a, b]
    exact ⟨rfl, rfl, d⟩
/-! ### the dicts of pairs -/
theorem Prs.keep {H H' : Hp} {d : Addr} {G : List Str} {f g : Str → Nat} (h : Prs H d G f g) (b : ∀ u, H d = some u → H' d = some u) (t : ∀ a xs, H a = some (.tup xs) → H' a = some (.tup xs)) : Prs H' d G f g := by
  obtain ⟨tt, e, ht⟩ := h
  exact ⟨tt, b _ e, fun x hx => t _ _ (ht x hx)⟩
theorem r_ifn {b : Bool} {σ : L2.St} {H : Hp} {k : VK} {i : Nat} {v w : V} (hv : σ[i]? = some (some v)) (h : k (if b = true then v else w) H) : if b = true then tVar i σ H k else tC w σ H k := by
  cases b
  · exact h
  · exact ⟨_, hv, h⟩
theorem upd_tup {H : Hp} {d : Addr} {u w : HO} (e : H d = some u) (n : ∀ xs, u ≠ .tup xs) (a : Addr) (xs : List V) (h : H a = some (.tup xs)) : upd H d w a = some (.tup xs) := by
  rw [upd_ne fun z => n xs (by rw [z, e] at h; exact Option.some.inj h)]
  exact h
theorem Prs.put {H : Hp} {d t : Addr} {G : List Str} {f g : Str → Nat} {x : Str} {p c : Nat} (h : Prs H d G f g) (ht : H t = some (.tup [.int p, .int c])) :
    ∃ kvs : List (Key × V), H d = some (.dK kvs) ∧ kvs.length = G.length ∧ Prs (upd H d (.dK (putK kvs (.inr x) (.ref t)))) d (if x ∈ G then G else G ++ [x]) (setF f x p) (setF g x c) := by
  obtain ⟨tt, e, h2⟩ := h
  refine ⟨_, e, dicF_len, fun y => if y = x then t else tt y, ?_, fun y hy => ?_⟩
  · rw [upd_same, dicF_put]
    refine congrArg (fun l => some (HO.dK l)) (dicF_congr fun y _ => ?_)
    show (if y = x then V.ref t else V.ref (tt y)) = V.ref (if y = x then t else tt y)
    by_cases n : y = x
    · rw [if_pos n, if_pos n]
    · rw [if_neg n, if_neg n]
  · show upd H d _ (if y = x then t else tt y) = _
    by_cases n : y = x
    · subst n
      rw [if_pos rfl, setF_same, setF_same]
      exact upd_tup e (fun _ z => nomatch z) _ _ ht
    · rw [if_neg n, setF_ne n, setF_ne n]
      refine upd_tup e (fun _ z => nomatch z) _ _ (h2 y ?_)
      by_cases hx : x ∈ G
      · rw [if_pos hx] at hy; exact hy
      · rw [if_neg hx] at hy; exact (List.mem_append.mp hy).elim id fun z => absurd (List.mem_singleton.mp z) n
theorem Prs.drop {H : Hp} {d : Addr} {G : List Str} {f g : Str → Nat} {x : Str} (h : Prs H d G f g) (hx : x ∈ G) :
    ∃ kvs : List (Key × V), H d = some (.dK kvs) ∧ (valV kvs (.inr x)).isSome = true ∧ Prs (upd H d (.dK (dropK kvs (.inr x)))) d (G.filter fun y => decide (y ≠ x)) f g := by
  obtain ⟨tt, e, h2⟩ := h
  refine ⟨_, e, by rw [dicF_get, if_pos hx]; rfl, tt, ?_, fun y hy => ?_⟩
  · rw [upd_same, dicF_drop]
  · exact upd_tup e (fun _ z => nomatch z) _ _ (h2 y (List.mem_filter.mp hy).1)
section
variable {P : Program} {w : World} {K : PySem.W.Frag} {mg : Str → Option Value} {base : Heap} {A : Ad}
theorem ok_ckshare {f : Addr} {fd : FuncData} (F : Fun K "_check_share" "Shares._check_share" s_Shares_check_share f fd) (T : Txt K mg A) (c_check_number : CalX P w K mg base 4 "check_number" spCkN) : FnOk P w K mg base (L2.CX P w) 5 f fd ["self", "promise", "ceiling"] (spCkShare A) := by
  refine F.okX sc_Shares_check_share (fun vs H Q E h => ?_) (fun cdv A' outer s H vs Q E hr h => ⟨_, (pss_cons (ps_expr (pe_calX c_check_number hr (by decide) (by rfl) (takes_of rfl rfl rfl rfl) (pa_cons (pv 1) (pa_cons pe_int (pa_cons (pe_fld (pv 0) rfl) pa_nil)))))
    (pss_one (ps_expr (pe_calX c_check_number hr (by decide) (by rfl) (takes_of rfl rfl rfl rfl) (pa_cons (pv 2) (pa_cons (pe_callB (call_max2 rfl) (by rfl) T.m_max (by decide +kernel) (pa_cons pe_int (pa_cons (pv 1) pa_nil))) (pa_cons (pe_fld (pv 0) rfl) pa_nil))))))), ?_⟩)
  · obtain ⟨S, P, p, c, rfl, _⟩ := h
    rfl
  · obtain ⟨S, P, p, c, rfl, hS, pc, c1, cl, q⟩ := h
    obtain ⟨dx, fs, e, fL, fT, fC, fU, fP, fD, fn⟩ := hS.ob
    have fx : ∀ {σ : L2.St} {Q : VK}, σ[0]? = some (some (.ref S.o)) → Q (.int P.L) H → tFld K (tVar 0) "_length" σ H Q := fun {σ Q} hv q => ⟨_, hv, S.o, A.CS, dx, fs, _, rfl, e, T.cl_Shares, T.na_length, fL, q⟩
    walk_at "go"
    refine fx rfl ?_
    walk_at "go"
    refine ⟨p, 0, P.L, rfl, by omega, by omega, ?_⟩
    walk_at "go"
    refine ⟨1, p, rfl, ?_⟩
    walk_at "go"
    refine fx rfl ?_
    walk_at "go"
    refine ⟨c, _, P.L, rfl, by split <;> omega, by omega, ?_⟩
    walk_at "go"
    exact q
theorem ok_ckpromised {f : Addr} {fd fdT : FuncData} (F : Fun K "_check_promised" "Shares._check_promised" s_Shares_check_promised f fd) (T : Txt K mg A) (c_TooMuch_init : Own P w K mg base CX0 2 A.fT fdT ["self", "many"] (spInitN "many" A.CT)) : FnOk P w K mg base (L2.CX P w) 4 f fd ["self", "many"] (spCkPromised A) := by
  refine F.okX sc_Shares_check_promised (fun vs H Q E h => ?_) (fun cdv A' outer s H vs Q E hr h => ⟨_, (pss_one (ps_if (pt_cmpR op_gt (pv 1) (pe_fld (pv 0) rfl) (nomark _)) (pss_one (ps_raise rfl (takes_of rfl rfl rfl rfl) (pmk_oexT T.ox_TooMuch T.i_TooMuch T.t_TooMuch c_TooMuch_init.ok (hr.mono (by decide)) c_TooMuch_init.bd .nil pass0 (by rfl) T.g_TooMuch (pa_cons (pv 1) pa_nil)))) pss_nil)), ?_⟩)
  · obtain ⟨S, P, m, rfl, _⟩ := h
    rfl
  · obtain ⟨S, P, m, rfl, hS, hm, q⟩ := h
    obtain ⟨dx, fs, e, fL, fT, fC, fU, fP, fD, fn⟩ := hS.ob
    have fx : ∀ {σ : L2.St} {Q : VK}, σ[0]? = some (some (.ref S.o)) → Q (.int P.L) H → tFld K (tVar 0) "_length" σ H Q := fun {σ Q} hv q => ⟨_, hv, S.o, A.CS, dx, fs, _, rfl, e, T.cl_Shares, T.na_length, fL, q⟩
    walk_at "go"
    refine fx rfl ?_
    walk_at "go"
    rw [decide_eq_false (by omega : ¬ (P.L : Int) < m)]
    walk_at "go"
    exact q
theorem ok_come {f : Addr} {fd fdD fdF : FuncData} (F : Fun K "come" "Shares.come" s_Shares_come f fd) (T : Txt K mg A) (c_check_name : CalX P w K mg base 4 "check_name" spCkName)
    (c_Shares_check_share : CalM P w K mg base (L2.CX P w) 5 A.CS "_check_share" (spCkShare A)) (c_Shares_promised : CalM P w K mg base CX0 1 A.CS "promised" (spPromised A)) (c_Shares_check_promised : CalM P w K mg base (L2.CX P w) 4 A.CS "_check_promised" (spCkPromised A))
    (c_Doubled_init : Own P w K mg base CX0 2 A.fD fdD ["self", "found"] (spInitN "found" A.CD)) (c_Full_init : Own P w K mg base CX0 2 A.fF fdF ["self", "many"] (spInitN "many" A.CF)) : FnOk P w K mg base (L2.CX P w) 6 f fd ["self", "name", "promise", "ceiling"] (spCome A) := by
  refine F.okX sc_Shares_come (fun vs H Q E h => ?_) (fun cdv A' outer s H vs Q E hr h => have hu := units1 hr; ⟨_, (pss_cons (ps_expr (pe_calX c_check_name hr (by decide) (by rfl) (takes_of rfl rfl rfl rfl) (pa_cons (pv 1) pa_nil)))
    (pss_cons (ps_expr (pe_mth (pv 0) T.cl_Shares c_Shares_check_share hr (by decide) (psX (takes_of rfl rfl rfl rfl)) (pa_cons (pv 2) (pa_cons (pv 3) pa_nil))))
    (pss_cons (ps_if (pt_cmp (pc_din hu (pv 1) (pe_fld (pv 0) rfl))) (pss_one (ps_raise rfl (takes_of rfl rfl rfl rfl) (pmk_oexT T.ox_Doubled T.i_Doubled T.t_Doubled c_Doubled_init.ok (hr.mono (by decide)) c_Doubled_init.bd .nil pass0 (by rfl) T.g_Doubled (pa_cons (pv 1) pa_nil)))) pss_nil)
    (pss_cons (ps_if (pt_cmpR op_eq (pe_callB call_lenD (by rfl) T.m_len (by decide +kernel) (pa_cons (pe_fld (pv 0) rfl) pa_nil)) (C8.pe_gc (by rfl) T.c_MOST_GUESTS) (nomark _)) (pss_one (ps_raise rfl (takes_of rfl rfl rfl rfl) (pmk_oexT T.ox_Full T.i_Full T.t_Full c_Full_init.ok (hr.mono (by decide)) c_Full_init.bd .nil pass0 (by rfl) T.g_Full (pa_cons (C8.pe_gc (by rfl) T.c_MOST_GUESTS) pa_nil)))) pss_nil)
    (pss_cons (ps_expr (pe_mth (pv 0) T.cl_Shares c_Shares_check_promised hr (by decide) (psX (takes_of rfl rfl rfl rfl)) (pa_cons (pe_op op_add (pe_mth0 (pv 0) T.cl_Shares c_Shares_promised hr (by decide) ps0) (pv 2)) pa_nil)))
    (pss_cons (ps_asg (pe_tup (pa_cons (pv 2) (pa_cons (pv 3) pa_nil))) (pg_sub (pe_fld (pv 0) rfl) (pv 1) (set_dict hu)))
    (pss_cons (ps_asg (pe_tup (pa_cons (pe_ifExp (pt_cmpR op_eq (pe_fld (pv 0) rfl) pe_int (nomark _)) (pv 2) pe_int) (pa_cons (pv 3) pa_nil))) (pg_sub (pe_fld (pv 0) rfl) (pv 1) (set_dict hu)))
    (pss_one (ps_asg pe_int (pg_sub (pe_fld (pv 0) rfl) (pv 1) (set_dict hu))))))))))), ?_⟩)
  · obtain ⟨S, P, x, p, c, rfl, _⟩ := h
    rfl
  · obtain ⟨S, P, x, p, c, rfl, hS, nx, hx, h6, pc, c1, cl, ft, q⟩ := h
    obtain ⟨dx, fs, e, fL, fT, fC, fU, fP, fD, fn⟩ := hS.ob
    obtain ⟨tt, et, ht⟩ := hS.told
    obtain ⟨tc, ec, hc⟩ := hS.cts
    walk_at "go"
    refine ⟨x, rfl, nx, fun H1 s1 => ?_⟩
    walk_at "go"
    refine ⟨S.o, dx, fs, rfl, s1 _ _ e, fn.2 _ (by decide +kernel) (by decide +kernel) (by decide +kernel) (by decide +kernel) (by decide +kernel) (by decide +kernel), ?_⟩
    walk_at "go"
    refine ⟨S, P, p, c, rfl, hS.same s1, pc, c1, cl, ?_⟩
    walk_at "go"
    refine ⟨_, rfl, _, rfl, S.o, A.CS, dx, fs, _, rfl, s1 _ _ e, T.cl_Shares, T.na_told, fT, S.dt, none, rfl, .inl ⟨_, .inr x, .inl (s1 _ _ et), rfl, (by rw [dicF_get, if_neg hx])⟩, _, rfl, ?_⟩
    rw [show (none : Option V).isSome = false from rfl]
    walk_at "go"
    refine ⟨_, rfl, S.o, A.CS, dx, fs, _, rfl, s1 _ _ e, T.cl_Shares, T.na_told, fT, ?_⟩
    walk_at "go"
    refine ⟨S.dt, _, rfl, s1 _ _ et, ?_⟩
    walk_at "go"
    rw [decide_eq_false (by rw [dicF_len]; intro z; injection z with z; omega)]
    walk_at "go"
    refine ⟨S.o, dx, fs, rfl, s1 _ _ e, fn.2 _ (by decide +kernel) (by decide +kernel) (by decide +kernel) (by decide +kernel) (by decide +kernel) (by decide +kernel), ?_⟩
    walk_at "go"
    refine ⟨S.o, dx, fs, rfl, s1 _ _ e, fn.2 _ (by decide +kernel) (by decide +kernel) (by decide +kernel) (by decide +kernel) (by decide +kernel) (by decide +kernel), ?_⟩
    walk_at "go"
    refine ⟨S, P, rfl, hS.same s1, fun H2 s2 => ?_⟩
    walk_at "go"
    refine ⟨S, P, _, rfl, hS.same (s1.trans s2), by omega, ?_⟩
    have h2 := hS.same (s1.trans s2)
    have h1n := hS.n1
    have e2 := s2 _ _ (s1 _ _ e)
    walk_at "go"
    refine newT fun t1 H3 n3 s3 e3 => ?_
    have h3 := h2.same s3
    have e3' := s3 _ _ e2
    obtain ⟨k1, ek1, lk1, p1⟩ := h3.told.put (x := x) e3
    rw [if_neg hx] at p1
    have six := hS.ok.six
    walk_at "go"
    refine ⟨_, rfl, S.o, A.CS, dx, fs, _, rfl, e3', T.cl_Shares, T.na_told, fT, ?_⟩
    refine ⟨_, rfl, S.dt, _, rfl, .inl ⟨k1, .inr x, ek1, rfl, by rw [lk1, sizeLine_eq]; omega, rfl⟩, ?_⟩
    have b1 : But S.dt H3 (upd H3 S.dt (.dK (putK k1 (.inr x) (.ref t1)))) := fun b u nb eb => by rw [upd_ne nb]; exact eb
    have u1 := upd_tup (w := .dK (putK k1 (.inr x) (.ref t1))) ek1 (fun _ z => nomatch z)
    show tSeq _ _ _ _ (upd H3 S.dt (.dK (putK k1 (.inr x) (.ref t1))))
    generalize upd H3 S.dt (.dK (putK k1 (.inr x) (.ref t1))) = H4 at b1 u1 p1 ⊢
    have e4 := b1 _ _ (ne_ct e3' ek1 (fun z => nomatch z)) e3'
    have c4 := h3.cts.keep (fun u z => b1 _ _ h1n.symm z) u1
    walk_at "go"
    refine ⟨_, rfl, S.o, A.CS, dx, fs, _, rfl, e4, T.cl_Shares, T.na_passed, fP, ?_⟩
    walk_at "go"
    refine r_ifn rfl ?_
    have hv : (if decide ((V.int (P.ps : Nat)) = V.int 0) = true then V.int (p : Nat) else V.int 0) = V.int ((if P.ps = 0 then p else 0 : Nat)) := by
      by_cases z : P.ps = 0
      · rw [if_pos (decide_eq_true (by rw [z]; rfl)), if_pos z]
      · rw [if_neg z, decide_eq_false (fun w => z (by injection w with w; omega)), if_neg Bool.false_ne_true]
        rfl
    rw [hv]
    generalize hn : (if P.ps = 0 then p else 0 : Nat) = np
    walk_at "go"
    refine newT fun t2 H5 n5 s5 e5 => ?_
    walk_at "go"
    have e5' := s5 _ _ e4
    obtain ⟨k2, ek2, lk2, p2⟩ := (c4.same s5).put (x := x) e5
    rw [if_neg hx] at p2
    refine ⟨_, rfl, S.o, A.CS, dx, fs, _, rfl, e5', T.cl_Shares, T.na_counts, fC, ?_⟩
    refine ⟨_, rfl, S.dc, _, rfl, .inl ⟨k2, .inr x, ek2, rfl, by rw [lk2, sizeLine_eq]; omega, rfl⟩, ?_⟩
    have b2 : But S.dc H5 (upd H5 S.dc (.dK (putK k2 (.inr x) (.ref t2)))) := fun b u nb eb => by rw [upd_ne nb]; exact eb
    have u2 := upd_tup (w := .dK (putK k2 (.inr x) (.ref t2))) ek2 (fun _ z => nomatch z)
    generalize upd H5 S.dc (.dK (putK k2 (.inr x) (.ref t2))) = H6 at b2 u2 p2 ⊢
    have e6 := b2 _ _ (ne_ct e5' ek2 (fun z => nomatch z)) e5'
    have p16 : Prs H6 S.dt _ _ _ := (p1.same s5).keep (fun u z => b2 _ _ hS.n1 z) u2
    have d6 := b2 _ _ hS.n3.symm (s5 _ _ (b1 _ _ hS.n2.symm h3.used))
    have l6 := b2 _ _ (ne_ct (s5 _ _ (b1 _ _ (ne_ct h3.dlt ek1 (fun z => nomatch z)) h3.dlt)) ek2 (fun z => nomatch z)) (s5 _ _ (b1 _ _ (ne_ct h3.dlt ek1 (fun z => nomatch z)) h3.dlt))
    walk_at "go"
    refine ⟨_, rfl, S.o, A.CS, dx, fs, _, rfl, e6, T.cl_Shares, T.na_used, fU, ?_⟩
    refine ⟨_, rfl, S.du, _, rfl, .inl ⟨_, .inr x, d6, rfl, by rw [dicF_len, sizeLine_eq]; omega, rfl⟩, ?_⟩
    rw [dicF_put, if_neg hx]
    have hd : (dicF (P.G ++ [x]) fun y => if y = x then V.int 0 else V.int (P.us y)) = dicF (P.G ++ [x]) fun y => V.int ((setF P.us x 0 y : Nat)) := dicF_congr fun y _ => by
      unfold setF
      by_cases n : y = x
      · rw [if_pos n, if_pos n]; rfl
      · rw [if_neg n, if_neg n]
    rw [hd]
    subst hn
    refine q _ (fun b u eb nb => ⟨?_, nb⟩) ⟨⟨dx, fs, by rw [upd_ne (ne_ct e6 d6 (fun z => nomatch z))]; exact e6, fL, fT, fC, fU, fP, fD, fn⟩, p16.keep (fun u z => by rw [upd_ne hS.n2]; exact z) (upd_tup d6 (fun _ z => nomatch z)), p2.keep (fun u z => by rw [upd_ne hS.n3]; exact z) (upd_tup d6 (fun _ z => nomatch z)), upd_same, by rw [upd_ne (ne_ct l6 d6 (fun z => nomatch z))]; exact l6, hS.n1, hS.n2, hS.n3, hS.ok.come nx hx h6 pc c1 cl ft⟩
    rw [upd_ne fun z => nb (.inr (.inr (.inr (.inl z))))]
    exact b2 _ _ (fun z => nb (.inr (.inr (.inl z)))) (s5 _ _ (b1 _ _ (fun z => nb (.inr (.inl z))) (s3 _ _ (s2 _ _ (s1 _ _ eb)))))
theorem ok_go {f : Addr} {fd : FuncData} (F : Fun K "go" "Shares.go" s_Shares_go f fd) (T : Txt K mg A) (c_check_guest : CalX P w K mg base 4 "check_guest" spCkGuest) : FnOk P w K mg base (L2.CX P w) 5 f fd ["self", "name"] (spGo A) := by
  refine F.okX sc_Shares_go (fun vs H Q E h => ?_) (fun cdv A' outer s H vs Q E hr h => have hu := units1 hr; ⟨_, (pss_cons (ps_expr (pe_calX c_check_guest hr (by decide) (by rfl) (takes_of rfl rfl rfl rfl) (pa_cons (pv 1) (pa_cons (pe_fld (pv 0) rfl) pa_nil))))
    (pss_cons (ps_ddel (pe_fld (pv 0) rfl) (pv 1))
    (pss_cons (ps_ddel (pe_fld (pv 0) rfl) (pv 1))
    (pss_one (ps_ddel (pe_fld (pv 0) rfl) (pv 1)))))), ?_⟩)
  · obtain ⟨S, P, x, rfl, _⟩ := h
    rfl
  · obtain ⟨S, P, x, rfl, hS, hx, q⟩ := h
    obtain ⟨dx, fs, e, fL, fT, fC, fU, fP, fD, fn⟩ := hS.ob
    obtain ⟨tt, et, ht⟩ := hS.told
    obtain ⟨tc, ec, hc⟩ := hS.cts
    walk_at "go"
    refine ⟨_, rfl, S.o, A.CS, dx, fs, _, rfl, e, T.cl_Shares, T.na_told, fT, ?_⟩
    walk_at "go"
    refine ⟨x, S.dt, P.G, _, rfl, hS.ok.nm x hx, et, hx, fun H1 s1 => ?_⟩
    have h1 := hS.same s1
    have e1 := s1 _ _ e
    obtain ⟨k1, ek1, v1, p1⟩ := h1.told.drop hx
    walk_at "go"
    refine ⟨_, rfl, S.o, A.CS, dx, fs, _, rfl, e1, T.cl_Shares, T.na_told, fT, ?_⟩
    refine ⟨_, rfl, S.dt, k1, .inr x, rfl, ek1, rfl, v1, ?_⟩
    have b1 : But S.dt H1 (upd H1 S.dt (.dK (dropK k1 (.inr x)))) := fun b u nb eb => by rw [upd_ne nb]; exact eb
    have t1 := upd_tup (w := .dK (dropK k1 (.inr x))) ek1 (fun _ z => nomatch z)
    show tSeq _ _ _ _ (upd H1 S.dt (.dK (dropK k1 (.inr x))))
    generalize upd H1 S.dt (.dK (dropK k1 (.inr x))) = H2 at b1 t1 p1 ⊢
    have no : S.o ≠ S.dt := ne_ct e1 ek1 (fun z => nomatch z)
    have e2 := b1 _ _ no e1
    obtain ⟨k2, ek2, v2, p2⟩ := (h1.cts.keep (fun u z => b1 _ _ h1.n1.symm z) t1).drop hx
    walk_at "go"
    refine ⟨_, rfl, S.o, A.CS, dx, fs, _, rfl, e2, T.cl_Shares, T.na_counts, fC, ?_⟩
    refine ⟨_, rfl, S.dc, k2, .inr x, rfl, ek2, rfl, v2, ?_⟩
    have b2 : But S.dc H2 (upd H2 S.dc (.dK (dropK k2 (.inr x)))) := fun b u nb eb => by rw [upd_ne nb]; exact eb
    have t2 := upd_tup (w := .dK (dropK k2 (.inr x))) ek2 (fun _ z => nomatch z)
    show tSeq _ _ _ _ (upd H2 S.dc (.dK (dropK k2 (.inr x))))
    generalize upd H2 S.dc (.dK (dropK k2 (.inr x))) = H3 at b2 t2 p2 ⊢
    have e3 := b2 _ _ (ne_ct e2 ek2 (fun z => nomatch z)) e2
    have p13 : Prs H3 S.dt _ _ _ := p1.keep (fun u z => b2 _ _ h1.n1 z) t2
    have u3 := b2 _ _ h1.n3.symm (b1 _ _ h1.n2.symm h1.used)
    have l3 := b2 _ _ (ne_ct h1.dlt (s1 _ _ ec) (fun z => nomatch z)) (b1 _ _ (ne_ct h1.dlt ek1 (fun z => nomatch z)) h1.dlt)
    walk_at "go"
    refine ⟨_, rfl, S.o, A.CS, dx, fs, _, rfl, e3, T.cl_Shares, T.na_used, fU, ?_⟩
    refine ⟨_, rfl, S.du, _, .inr x, rfl, u3, rfl, (by rw [dicF_get, if_pos hx]; rfl), ?_⟩
    rw [dicF_drop]
    refine q _ (fun b u eb nb => ?_) ⟨⟨dx, fs, by rw [upd_ne (ne_ct e3 u3 (fun z => nomatch z))]; exact e3, fL, fT, fC, fU, fP, fD, fn⟩, p13.keep (fun u z => by rw [upd_ne h1.n2]; exact z) (upd_tup u3 (fun _ z => nomatch z)), p2.keep (fun u z => by rw [upd_ne h1.n3]; exact z) (upd_tup u3 (fun _ z => nomatch z)), upd_same, by rw [upd_ne (ne_ct l3 u3 (fun z => nomatch z))]; exact l3, h1.n1, h1.n2, h1.n3, hS.ok.go⟩
    refine ⟨?_, nb⟩
    rw [upd_ne fun z => nb (.inr (.inr (.inr (.inl z))))]
    exact b2 _ _ (fun z => nb (.inr (.inr (.inl z)))) (b1 _ _ (fun z => nb (.inr (.inl z))) (s1 _ _ eb))
end
end K25

namespace K25
open PySem PySem.Spec PyProof.Rows L2 Bk


theorem over_pos {lt : Str → Str → Bool} {x y : Str} (h : lt x y = true) : over lt (some y) x = some x := if_pos h
theorem over_neg {lt : Str → Str → Bool} {x y : Str} (h : ¬ lt x y = true) : over lt (some y) x = some y := if_neg h
theorem pick_succ {c : Str → Bool} {lt : Str → Str → Bool} {R : List Str} {k : Nat} {x : Str} (h : R[k]? = some x) : pick c lt (R.take (k + 1)) = better c lt (pick c lt (R.take k)) x := by
  rw [List.take_succ, h]
  exact pick_app
theorem pick_in {c : Str → Bool} {lt : Str → Str → Bool} {R : List Str} {k : Nat} {x : Str} (h : pick c lt (R.take k) = some x) : x ∈ R := List.mem_of_mem_take (pick_mem h).1
section
variable {P : Program} {w : World} {K : PySem.W.Frag} {mg : Str → Option Value} {base : Heap} {A : Ad}
theorem ok_byp {f : Addr} {fd : FuncData} (F : Fun K "_by_promise" "Shares._by_promise" s_Shares_by_promise f fd) (T : Txt K mg A) : FnOk P w K mg base CX0 1 f fd ["self", "among"] (spChoose A okP ltP) := by
  refine F.ok sc_Shares_by_promise (fun vs H Q E h => ?_) (fun cdv A' outer s H vs Q E hr h => have hu := units1 hr; ⟨_, (pss_cons (ps_set (i := 2) sc_Shares_by_promise.nd rfl (.inl rfl) pe_non)
    (pss_cons (ps_for PassesOwn.never rfl (pi_list (pv 1)) (pg_name (i := 3) sc_Shares_by_promise.nd rfl (.inl rfl))
      (pss_cons (ps_par (i := 4) (j := 5) rfl sc_Shares_by_promise.nd rfl rfl (by decide) rfl rfl (pa_cons (pe_dget hu (pe_fld (pv 0) rfl) (pv 3) (fun _ _ => rfl)) (pa_cons (pe_ix ix_tup (pe_dget hu (pe_fld (pv 0) rfl) (pv 3) (fun _ _ => rfl)) pe_int (fun _ _ => rfl)) pa_nil)) (by rfl))
    (pss_cons (ps_if (pt_cmpR op_ge (pv 4) (pv 5) (nomark _)) (pss_one ps_continue) pss_nil)
    (pss_one (ps_if (PW.pt (pw_or (pt_cmpR op_isN (pv 2) pe_non (nomark _)) (pw_or1 (pt_cmpR op_lt (pe_op op_mulW (pv 4) (pe_ix ix_tup (pe_dget hu (pe_fld (pv 0) rfl) (pv 2) (fun _ _ => rfl)) pe_int (fun _ _ => rfl))) (pe_op op_mulW (pe_dget hu (pe_fld (pv 0) rfl) (pv 2) (fun _ _ => rfl)) (pv 5)) (nomark _))))) (pss_one (ps_set (i := 2) sc_Shares_by_promise.nd rfl (.inl rfl) (pv 3))) pss_nil)))))
    (pss_one (ps_ret (pv 2))))), ?_⟩)
  · obtain ⟨S, P, r, R, rfl, _⟩ := h
    rfl
  · obtain ⟨S, P, r, R, rfl, hS, er, r6, rG, q⟩ := h
    obtain ⟨dx, fs, e, fL, fT, fC, fU, fP, fD, fn⟩ := hS.ob
    obtain ⟨tc, ec, hc⟩ := hS.cts
    walk_at "go"
    refine ⟨r, rfl, ⟨_, sqL er⟩, for_list (K := K) (a := r) (xs := R.map V.str) (fun k σ G => G = H ∧ ∃ x3 x4 x5, σ = [some (.ref S.o), some (.ref r), some (nameV (pick (okP P) (ltP P) (R.take k))), x3, x4, x5])
      ⟨rfl, none, none, none, rfl⟩ (fun k σ G _ ⟨hG, _⟩ => by rw [hG]; exact sqL er) ?_ ?_⟩
    · rintro k y σ G hk ⟨rfl, x3, x4, x5, rfl⟩
      rw [List.getElem?_map] at hk
      cases hkr : R[k]? with
      | none => rw [hkr] at hk; exact nomatch hk
      | some x =>
        rw [hkr] at hk
        obtain rfl := Option.some.inj hk
        have hx := rG x (List.mem_of_getElem? hkr)
        have hU : ∀ {σ : L2.St} {i : Nat} {z : Str} {Q : VK}, σ[0]? = some (some (.ref S.o)) → σ[i]? = some (some (.str z)) → z ∈ P.G → Q (.int (P.us z)) G → tDGet (tFld K (tVar 0) "_used") (tVar i) σ G Q := fun {σ i z Q} h0 hi hz q => ⟨_, h0, S.o, A.CS, dx, fs, _, rfl, e, T.cl_Shares, T.na_used, fU, _, hi, S.du, _, rfl, .inl ⟨_, .inr z, .inl hS.used, rfl, by rw [dicF_get, if_pos hz]⟩, q⟩
        have hC : ∀ {σ : L2.St} {i : Nat} {z : Str} {Q : VK}, σ[0]? = some (some (.ref S.o)) → σ[i]? = some (some (.str z)) → z ∈ P.G → Q (.ref (tc z)) G → tDGet (tFld K (tVar 0) "_counts") (tVar i) σ G Q := fun {σ i z Q} h0 hi hz q => ⟨_, h0, S.o, A.CS, dx, fs, _, rfl, e, T.cl_Shares, T.na_counts, fC, _, hi, S.dc, _, rfl, .inl ⟨_, .inr z, .inl ec, rfl, by rw [dicF_get, if_pos hz]⟩, q⟩
        have ps := pick_succ (c := okP P) (lt := ltP P) hkr
        generalize hch : pick (okP P) (ltP P) (R.take k) = ch at ps ⊢
        have hok := hS.ok
        have um := hok.u60
        have hL := hok.l60
        have hps := hok.ps
        have hcl := hok.cl
        walk_at "go"
        refine hU rfl rfl hx ?_
        walk_at "go"
        refine hC rfl rfl hx ?_
        walk_at "go"
        refine r_ixT (sqT (hc x hx)) (v := .int (P.cp x)) rfl ?_
        walk_at "go"
        refine ⟨_, _, rfl, ?_⟩
        walk_at "go"
        refine ite2 (fun c => ?_) (fun c => ?_)
        · walk_at "go"
          have c := of_decide_eq_true c
          have pn0 : pick (okP P) (ltP P) (R.take (k + 1)) = ch := by
            rw [ps]
            unfold better
            rw [if_neg (by rw [show okP P x = false from decide_eq_false (by omega)]; exact Bool.false_ne_true)]
          exact ⟨rfl, _, _, _, by rw [pn0]; rfl⟩
        · have c := of_decide_eq_false (Bool.eq_false_iff.mpr c)
          have kx : okP P x = true := decide_eq_true (by omega)
          have pn : pick (okP P) (ltP P) (R.take (k + 1)) = over (ltP P) ch x := by rw [ps]; unfold better; rw [if_pos kx]
          walk_at "go"
          refine ⟨rfl, _, rfl, ?_⟩
          cases ch with
          | none =>
            rw [show (decide (nameV none = V.non)) = true from decide_eq_true rfl]
            walk_at "go"
            exact ⟨rfl, _, _, _, by rw [pn]; rfl⟩
          | some y =>
            have hy := rG y (pick_in hch)
            rw [show (decide (nameV (some y) = V.non)) = false from decide_eq_false (fun z => nomatch z)]
            walk_at "go"
            refine hC rfl rfl hy ?_
            walk_at "go"
            refine r_ixT (sqT (hc y hy)) (v := .int (P.cp y)) rfl ?_
            walk_at "go"
            have ux := um x hx
            have uy := um y hy
            have cx := hcl x hx
            have cy := hcl y hy
            have wm : ∀ {a b : Nat}, a ≤ 60 → b ≤ 60 → CMulW (a : Int) (b : Int) := fun {a b} ha hb => wide_mul (a := 8) (b := 8) (by rw [Int.natAbs_natCast]; omega) (by rw [Int.natAbs_natCast]; omega) (by decide) (by decide) (by decide)
            refine ⟨_, _, rfl, rfl, wm (by omega) (by omega), ?_⟩
            walk_at "go"
            refine hU rfl rfl hy ?_
            walk_at "go"
            refine ⟨_, _, rfl, rfl, wm (by omega) (by omega), ?_⟩
            walk_at "go"
            refine ite2 (fun c => ?_) (fun c => ?_)
            · walk_at "go"
              exact ⟨rfl, _, _, _, by rw [pn, over_pos (show ltP P x y = true from decide_eq_true (by have c := of_decide_eq_true c; exact_mod_cast c))]; rfl⟩
            · walk_at "go"
              exact ⟨rfl, _, _, _, by rw [pn, over_neg (show ¬ ltP P x y = true from fun z => c (decide_eq_true (by have z := of_decide_eq_true z; exact_mod_cast z)))]; rfl⟩
    · rintro σ G ⟨rfl, x3, x4, x5, rfl⟩
      rw [show R.take (R.map V.str).length = R from by rw [List.length_map]; exact List.take_length] at *
      walk_at "go"
      exact q
end
end K25

namespace K25
open PySem PySem.Spec PyProof.Rows L2 Bk


section
variable {P : Program} {w : World} {K : PySem.W.Frag} {mg : Str → Option Value} {base : Heap} {A : Ad}
theorem ok_byc {f : Addr} {fd : FuncData} (F : Fun K "_by_ceiling" "Shares._by_ceiling" s_Shares_by_ceiling f fd) (T : Txt K mg A) : FnOk P w K mg base CX0 1 f fd ["self", "among"] (spChoose A okC ltC) := by
  refine F.ok sc_Shares_by_ceiling (fun vs H Q E h => ?_) (fun cdv A' outer s H vs Q E hr h => have hu := units1 hr; ⟨_, (pss_cons (ps_set (i := 2) sc_Shares_by_ceiling.nd rfl (.inl rfl) pe_non)
    (pss_cons (ps_for PassesOwn.never rfl (pi_list (pv 1)) (pg_name (i := 3) sc_Shares_by_ceiling.nd rfl (.inl rfl))
      (pss_cons (ps_if (pt_cmpR op_ge (pe_dget hu (pe_fld (pv 0) rfl) (pv 3) (fun _ _ => rfl)) (pe_ix ix_tup (pe_dget hu (pe_fld (pv 0) rfl) (pv 3) (fun _ _ => rfl)) pe_int (fun _ _ => rfl)) (nomark _)) (pss_one ps_continue) pss_nil)
    (pss_one (ps_if (PW.pt (pw_or (pt_cmpR op_isN (pv 2) pe_non (nomark _)) (pw_or1 (pt_cmpR op_lt (pe_dget hu (pe_fld (pv 0) rfl) (pv 3) (fun _ _ => rfl)) (pe_dget hu (pe_fld (pv 0) rfl) (pv 2) (fun _ _ => rfl)) (nomark _))))) (pss_one (ps_set (i := 2) sc_Shares_by_ceiling.nd rfl (.inl rfl) (pv 3))) pss_nil))))
    (pss_one (ps_ret (pv 2))))), ?_⟩)
  · obtain ⟨S, P, r, R, rfl, _⟩ := h
    rfl
  · obtain ⟨S, P, r, R, rfl, hS, er, r6, rG, q⟩ := h
    obtain ⟨dx, fs, e, fL, fT, fC, fU, fP, fD, fn⟩ := hS.ob
    obtain ⟨tc, ec, hc⟩ := hS.cts
    walk_at "go"
    refine ⟨r, rfl, ⟨_, sqL er⟩, for_list (K := K) (a := r) (xs := R.map V.str) (fun k σ G => G = H ∧ ∃ x3, σ = [some (.ref S.o), some (.ref r), some (nameV (pick (okC P) (ltC P) (R.take k))), x3])
      ⟨rfl, none, rfl⟩ (fun k σ G _ ⟨hG, _⟩ => by rw [hG]; exact sqL er) ?_ ?_⟩
    · rintro k y σ G hk ⟨rfl, x3, rfl⟩
      rw [List.getElem?_map] at hk
      cases hkr : R[k]? with
      | none => rw [hkr] at hk; exact nomatch hk
      | some x =>
        rw [hkr] at hk
        obtain rfl := Option.some.inj hk
        have hx := rG x (List.mem_of_getElem? hkr)
        have hU : ∀ {σ : L2.St} {i : Nat} {z : Str} {Q : VK}, σ[0]? = some (some (.ref S.o)) → σ[i]? = some (some (.str z)) → z ∈ P.G → Q (.int (P.us z)) G → tDGet (tFld K (tVar 0) "_used") (tVar i) σ G Q := fun {σ i z Q} h0 hi hz q => ⟨_, h0, S.o, A.CS, dx, fs, _, rfl, e, T.cl_Shares, T.na_used, fU, _, hi, S.du, _, rfl, .inl ⟨_, .inr z, .inl hS.used, rfl, by rw [dicF_get, if_pos hz]⟩, q⟩
        have hC : ∀ {σ : L2.St} {i : Nat} {z : Str} {Q : VK}, σ[0]? = some (some (.ref S.o)) → σ[i]? = some (some (.str z)) → z ∈ P.G → Q (.ref (tc z)) G → tDGet (tFld K (tVar 0) "_counts") (tVar i) σ G Q := fun {σ i z Q} h0 hi hz q => ⟨_, h0, S.o, A.CS, dx, fs, _, rfl, e, T.cl_Shares, T.na_counts, fC, _, hi, S.dc, _, rfl, .inl ⟨_, .inr z, .inl ec, rfl, by rw [dicF_get, if_pos hz]⟩, q⟩
        have ps := pick_succ (c := okC P) (lt := ltC P) hkr
        generalize hch : pick (okC P) (ltC P) (R.take k) = ch at ps ⊢
        have hok := hS.ok
        have um := hok.u60
        have hL := hok.l60
        have hps := hok.ps
        have hcl := hok.cl
        walk_at "go"
        refine hU rfl rfl hx ?_
        walk_at "go"
        refine hC rfl rfl hx ?_
        walk_at "go"
        refine r_ixT (sqT (hc x hx)) (v := .int (P.cc x)) rfl ?_
        walk_at "go"
        refine ite2 (fun c => ?_) (fun c => ?_)
        · walk_at "go"
          have c := of_decide_eq_true c
          have pn0 : pick (okC P) (ltC P) (R.take (k + 1)) = ch := by
            rw [ps]
            unfold better
            rw [if_neg (by rw [show okC P x = false from decide_eq_false (by omega)]; exact Bool.false_ne_true)]
          exact ⟨rfl, _, by rw [pn0]; rfl⟩
        · have c := of_decide_eq_false (Bool.eq_false_iff.mpr c)
          have kx : okC P x = true := decide_eq_true (by omega)
          have pn : pick (okC P) (ltC P) (R.take (k + 1)) = over (ltC P) ch x := by rw [ps]; unfold better; rw [if_pos kx]
          walk_at "go"
          refine ⟨rfl, _, rfl, ?_⟩
          cases ch with
          | none =>
            rw [show (decide (nameV none = V.non)) = true from decide_eq_true rfl]
            walk_at "go"
            exact ⟨rfl, _, by rw [pn]; rfl⟩
          | some y =>
            have hy := rG y (pick_in hch)
            rw [show (decide (nameV (some y) = V.non)) = false from decide_eq_false (fun z => nomatch z)]
            walk_at "go"
            refine hU rfl rfl hx ?_
            walk_at "go"
            refine hU rfl rfl hy ?_
            walk_at "go"
            refine ite2 (fun c => ?_) (fun c => ?_)
            · walk_at "go"
              exact ⟨rfl, _, by rw [pn, over_pos (show ltC P x y = true from decide_eq_true (by have c := of_decide_eq_true c; exact_mod_cast c))]; rfl⟩
            · walk_at "go"
              exact ⟨rfl, _, by rw [pn, over_neg (show ¬ ltC P x y = true from fun z => c (decide_eq_true (by have z := of_decide_eq_true z; exact_mod_cast z)))]; rfl⟩
    · rintro σ G ⟨rfl, x3, rfl⟩
      rw [show R.take (R.map V.str).length = R from by rw [List.length_map]; exact List.take_length] at *
      walk_at "go"
      exact q
theorem ok_begin {f : Addr} {fd : FuncData} (F : Fun K "_begin_stretch" "Shares._begin_stretch" s_Shares_begin_stretch f fd) (T : Txt K mg A) : FnOk P w K mg base CX0 1 f fd ["self"] (spBegin A) := by
  refine F.ok sc_Shares_begin_stretch (fun vs H Q E h => ?_) (fun cdv A' outer s H vs Q E hr h => have hu := units1 hr; ⟨_, (pss_cons (ps_fld (pv 0) pe_int rfl)
    (pss_cons (ps_fld (pv 0) (pe_callTy call_dictD (by rfl) T.m_dict (by decide +kernel) (pa_cons (pe_fld (pv 0) rfl) pa_nil)) rfl)
    (pss_one (ps_fld (pv 0) (pe_lock (pe_dc (own := [("name", 1)]) rfl sc_Shares_begin_stretch.nd (pi_keys (pe_fld (pv 0) rfl)) (blkOk_by (N := ["self", "name"]) (sc := defScope s_Shares_begin_stretch) (by decide +kernel)) (fun _ _ _ _ _ => (pg_name (i := 1) sc_Shares_begin_stretch.nd rfl (.inl rfl))) (fun _ _ _ _ _ => pts_nil) (fun _ _ _ _ _ => (pv 1)) (fun _ _ _ _ _ => pe_int))) rfl)))), ?_⟩)
  · obtain ⟨S, dx, fs, G, f, g, rfl, _⟩ := h
    rfl
  · obtain ⟨S, dx, fs, G, f, g, rfl, e, fT, l6, hp, nd, g6, ⟨uc, fC⟩, ⟨uu, fU⟩, ⟨up, fP⟩, q⟩ := h
    obtain ⟨tt, et, ht⟩ := hp
    have fl : ∀ {f g : Str} {v : V} {fs : List (Str × V)}, (g == f) = false → (putF f v fs).lookup g = fs.lookup g := fun {f g v fs} h => by
      rw [lookup_putF, if_neg (beq_eq_false_iff_ne.mp h)]
    have fs_ : ∀ {f : Str} {v : V} {fs : List (Str × V)}, (putF f v fs).lookup f = some v := fun {f v fs} => by
      rw [lookup_putF, if_pos rfl]
    walk_at "go"
    refine ⟨_, rfl, S.o, A.CS, dx, fs, rfl, e, T.cl_Shares, T.na_passed, by omega, ?_⟩
    have b1 : But S.o H (upd H S.o (.ins A.CS dx (putF "_passed" (.int 0) fs))) := fun b u nb eb => by rw [upd_ne nb]; exact eb
    have e1 : upd H S.o (.ins A.CS dx (putF "_passed" (.int 0) fs)) S.o = some (.ins A.CS dx (putF "_passed" (.int 0) fs)) := upd_same
    have l1 := putF_old (v := .int 0) fP
    generalize upd H S.o (.ins A.CS dx (putF "_passed" (.int 0) fs)) = H1 at b1 e1 ⊢
    have no : S.dt ≠ S.o := ne_ct et e (fun z => nomatch z)
    have et1 := b1 _ _ no et
    have fT1 : (putF "_passed" (.int 0) fs).lookup ("_told" : Str) = some (.ref S.dt) := (fl (by decide +kernel)).trans fT
    have fC1 : (putF "_passed" (.int 0) fs).lookup ("_counts" : Str) = some uc := (fl (by decide +kernel)).trans fC
    have fU1 : (putF "_passed" (.int 0) fs).lookup ("_used" : Str) = some uu := (fl (by decide +kernel)).trans fU
    walk_at "go"
    refine ⟨_, rfl, S.o, A.CS, dx, _, _, rfl, e1, T.cl_Shares, T.na_told, fT1, ?_⟩
    walk_at "go"
    refine ⟨S.dt, _, rfl, .inl et1, fun c nc => ?_⟩
    have s2 : Same H1 (upd H1 c (.dK (dicF G fun x => .ref (tt x)))) := same_upd nc
    have ec : upd H1 c (.dK (dicF G fun x => .ref (tt x))) c = some (.dK (dicF G fun x => .ref (tt x))) := upd_same
    generalize upd H1 c (.dK (dicF G fun x => .ref (tt x))) = H2 at s2 ec ⊢
    walk_at "go"
    have e2 := s2 _ _ e1
    refine ⟨S.o, A.CS, dx, _, rfl, e2, T.cl_Shares, T.na_counts, by omega, ?_⟩
    generalize hf1 : putF "_passed" (.int 0) fs = fs1 at e1 l1 fT1 fC1 fU1 e2 ⊢
    have b3 : But S.o H2 (upd H2 S.o (.ins A.CS dx (putF "_counts" (.ref c) fs1))) := fun b u nb eb => by rw [upd_ne nb]; exact eb
    have e3 : upd H2 S.o (.ins A.CS dx (putF "_counts" (.ref c) fs1)) S.o = some (.ins A.CS dx (putF "_counts" (.ref c) fs1)) := upd_same
    have l3 := putF_old (v := .ref c) fC1
    generalize upd H2 S.o (.ins A.CS dx (putF "_counts" (.ref c) fs1)) = H3 at b3 e3 ⊢
    have nc1 : c ≠ S.o := ne_ct ec e2 (fun z => nomatch z)
    have et3 := b3 _ _ no (s2 _ _ et1)
    have ec3 := b3 _ _ nc1 ec
    have fT3 : (putF "_counts" (.ref c) fs1).lookup ("_told" : Str) = some (.ref S.dt) := (fl (by decide +kernel)).trans fT1
    have fU3 : (putF "_counts" (.ref c) fs1).lookup ("_used" : Str) = some uu := (fl (by decide +kernel)).trans fU1
    walk_at "go"
    show sFld K (tVar 0) (tLockE _) "_used" _ _ H3
    unfold sFld
    refine dcKeys (v := .int 0) nd (by omega) (fun _ => rfl) et3 (fun od QQ z => ?_) (fun x H1 QQ z => ?_) (fun x H1 QQ z => ?_) fun u H4 nu s4 eu => ?_
    · exact ⟨_, rfl, S.o, A.CS, dx, _, _, rfl, (by rw [upd_ne (fun z => no z.symm)]; exact e3), T.cl_Shares, T.na_told, fT3, z⟩
    · exact ⟨_, rfl, z⟩
    · exact z
    walk_at "go"
    have e4 := s4 _ _ e3
    refine ⟨S.o, A.CS, dx, _, rfl, e4, T.cl_Shares, T.na_used, by omega, ?_⟩
    have nu1 : u ≠ S.o := ne_ct eu e4 (fun z => nomatch z)
    have bb : But S.o H H3 := fun b o nb eb => b3 _ _ nb (s2 _ _ (b1 _ _ nb eb))
    have hN : ∀ {b : Addr} {H' : Hp}, But S.o H H' → b ≠ S.o → H' b = none → H b = none := fun {b H'} bb nb z => by
      cases w : H b with
      | none => rfl
      | some u => rw [bb _ _ nb w] at z; exact nomatch z
    have ncu : c ≠ u := ne_of_none ec3 nu
    have bf : But S.o H (upd H4 S.o (.ins A.CS dx (putF "_used" (.ref u) (putF "_counts" (.ref c) fs1)))) := fun b o nb eb => by rw [upd_ne nb]; exact s4 _ _ (bb _ _ nb eb)
    refine q c u _ _ (hN b1 nc1 nc) (hN bb nu1 nu) ncu bf upd_same ((fl (by decide +kernel)).trans fs_) fs_ ((fl (by decide +kernel)).trans ((fl (by decide +kernel)).trans (by rw [← hf1]; exact fs_))) (fun m h1 h2 h3 => (fl h2).trans ((fl h1).trans (by rw [← hf1]; exact fl h3))) (by rw [putF_old fU3, l3, l1]; exact l6) ⟨tt, by rw [upd_ne nc1]; exact s4 _ _ ec3, fun x hx => bf _ _ (ne_ct (ht x hx) e (fun z => nomatch z)) (ht x hx)⟩ (by rw [upd_ne nu1]; exact eu)
end
end K25

namespace K25
open PySem PySem.Spec PyProof.Rows L2 Bk


theorem Ps.Ok.deal {P : Ps} (h : P.Ok) {v : V} {y : Option Str} (hd : P.dl.length < 480) : (P.deal v y).Ok := by
  have L4 := h.l4
  have hp := h.ps
  refine ⟨h.l4, h.l60, h.nm, h.nd, h.six, h.pc, fun x hx => ?_, h.fit, ?_, ?_, fun hz x hx => ?_, fun x hx => ?_, ?_⟩
  · show (if P.ps + 1 = P.L then P.pr else P.cp) x ≤ (if P.ps + 1 = P.L then P.ce else P.cc) x ∧ (if P.ps + 1 = P.L then P.ce else P.cc) x ≤ P.L
    by_cases c : P.ps + 1 = P.L
    · rw [if_pos c, if_pos c]; exact ⟨(h.pc x hx).1, (h.pc x hx).2.2⟩
    · rw [if_neg c, if_neg c]; exact h.cl x hx
  · show total P.G (if P.ps + 1 = P.L then P.pr else P.cp) ≤ P.L
    by_cases c : P.ps + 1 = P.L
    · rw [if_pos c]; exact h.fit
    · rw [if_neg c]; exact h.fitc
  · show (if P.ps + 1 = P.L then 0 else P.ps + 1) < P.L
    by_cases c : P.ps + 1 = P.L
    · rw [if_pos c]; omega
    · rw [if_neg c]; omega
  · have hz : (if P.ps + 1 = P.L then 0 else P.ps + 1) = 0 := hz
    by_cases c : P.ps + 1 = P.L
    · show (if P.ps + 1 = P.L then P.pr else P.cp) x = P.pr x ∧ (if P.ps + 1 = P.L then P.ce else P.cc) x = P.ce x ∧ (if P.ps + 1 = P.L then 0 else if y = some x then P.us x + 1 else P.us x) = 0
      rw [if_pos c, if_pos c, if_pos c]
      exact ⟨rfl, rfl, rfl⟩
    · rw [if_neg c] at hz
      omega
  · show (if P.ps + 1 = P.L then 0 else if y = some x then P.us x + 1 else P.us x) ≤ (if P.ps + 1 = P.L then 0 else P.ps + 1)
    have := h.u60 x hx
    by_cases c : P.ps + 1 = P.L
    · rw [if_pos c, if_pos c]; exact Nat.le_refl _
    · rw [if_neg c, if_neg c]
      split <;> omega
  · show (P.dl ++ [v]).length ≤ 480
    rw [List.length_append]
    exact hd
section
variable {P : Program} {w : World} {K : PySem.W.Frag} {mg : Str → Option Value} {base : Heap} {A : Ad}
theorem ok_change {f : Addr} {fd : FuncData} (F : Fun K "change" "Shares.change" s_Shares_change f fd) (T : Txt K mg A) (c_check_guest : CalX P w K mg base 4 "check_guest" spCkGuest)
    (c_Shares_check_share : CalM P w K mg base (L2.CX P w) 5 A.CS "_check_share" (spCkShare A)) (c_Shares_promised : CalM P w K mg base CX0 1 A.CS "promised" (spPromised A)) (c_Shares_check_promised : CalM P w K mg base (L2.CX P w) 4 A.CS "_check_promised" (spCkPromised A)) (c_Shares_promise : CalM P w K mg base (L2.CX P w) 5 A.CS "promise" (spPromise A)) : FnOk P w K mg base (L2.CX P w) 6 f fd ["self", "name", "promise", "ceiling"] (spChange A) := by
  refine F.okX sc_Shares_change (fun vs H Q E h => ?_) (fun cdv A' outer s H vs Q E hr h => have hu := units1 hr; ⟨_, (pss_cons (ps_expr (pe_calX c_check_guest hr (by decide) (by rfl) (takes_of rfl rfl rfl rfl) (pa_cons (pv 1) (pa_cons (pe_fld (pv 0) rfl) pa_nil))))
    (pss_cons (ps_expr (pe_mth (pv 0) T.cl_Shares c_Shares_check_share hr (by decide) (psX (takes_of rfl rfl rfl rfl)) (pa_cons (pv 2) (pa_cons (pv 3) pa_nil))))
    (pss_cons (ps_expr (pe_mth (pv 0) T.cl_Shares c_Shares_check_promised hr (by decide) (psX (takes_of rfl rfl rfl rfl)) (pa_cons (pe_op op_add (pe_op op_sub (pe_mth0 (pv 0) T.cl_Shares c_Shares_promised hr (by decide) ps0) (pe_mth (pv 0) T.cl_Shares c_Shares_promise hr (by decide) (psX (takes_of rfl rfl rfl rfl)) (pa_cons (pv 1) pa_nil))) (pv 2)) pa_nil)))
    (pss_cons (ps_asg (pe_tup (pa_cons (pv 2) (pa_cons (pv 3) pa_nil))) (pg_sub (pe_fld (pv 0) rfl) (pv 1) (set_dict hu)))
    (pss_one (ps_if (pt_cmpR op_eq (pe_fld (pv 0) rfl) pe_int (nomark _)) (pss_one (ps_asg (pe_tup (pa_cons (pv 2) (pa_cons (pv 3) pa_nil))) (pg_sub (pe_fld (pv 0) rfl) (pv 1) (set_dict hu)))) pss_nil)))))), ?_⟩)
  · obtain ⟨S, P, x, p, c, rfl, _⟩ := h
    rfl
  · obtain ⟨S, P, x, p, c, rfl, hS, hx, pc, c1, cl, ft, q⟩ := h
    obtain ⟨dx, fs, e, fL, fT, fC, fU, fP, fD, fn⟩ := hS.ob
    obtain ⟨tt, et, ht⟩ := hS.told
    obtain ⟨tc, ec, hc⟩ := hS.cts
    walk_at "go"
    refine ⟨_, rfl, S.o, A.CS, dx, fs, _, rfl, e, T.cl_Shares, T.na_told, fT, ?_⟩
    walk_at "go"
    refine ⟨x, S.dt, P.G, _, rfl, hS.ok.nm x hx, et, hx, fun H1 s1 => ?_⟩
    walk_at "go"
    refine ⟨S.o, dx, fs, rfl, s1 _ _ e, fn.2 _ (by decide +kernel) (by decide +kernel) (by decide +kernel) (by decide +kernel) (by decide +kernel) (by decide +kernel), ?_⟩
    walk_at "go"
    refine ⟨S, P, p, c, rfl, hS.same s1, pc, c1, cl, ?_⟩
    walk_at "go"
    refine ⟨S.o, dx, fs, rfl, s1 _ _ e, fn.2 _ (by decide +kernel) (by decide +kernel) (by decide +kernel) (by decide +kernel) (by decide +kernel) (by decide +kernel), ?_⟩
    walk_at "go"
    refine ⟨S.o, dx, fs, rfl, s1 _ _ e, fn.2 _ (by decide +kernel) (by decide +kernel) (by decide +kernel) (by decide +kernel) (by decide +kernel) (by decide +kernel), ?_⟩
    walk_at "go"
    refine ⟨S, P, rfl, hS.same s1, fun H2 s2 => ?_⟩
    walk_at "go"
    refine ⟨S.o, dx, fs, rfl, s2 _ _ (s1 _ _ e), fn.2 _ (by decide +kernel) (by decide +kernel) (by decide +kernel) (by decide +kernel) (by decide +kernel) (by decide +kernel), ?_⟩
    walk_at "go"
    refine ⟨S, P, x, rfl, hS.same (s1.trans s2), hx, fun H3 s3 => ?_⟩
    walk_at "go"
    have s13 := (s1.trans s2).trans s3
    have h2 := hS.same s13
    refine ⟨S, P, _, rfl, h2, by omega, ?_⟩
    have e2 := s13 _ _ e
    walk_at "go"
    refine newT fun t1 H4 n4 s4 e4 => ?_
    have h4 := h2.same s4
    have e4' := s4 _ _ e2
    obtain ⟨k1, ek1, lk1, p1⟩ := h4.told.put (x := x) e4
    rw [if_pos hx] at p1
    have six := hS.ok.six
    walk_at "go"
    refine ⟨_, rfl, S.o, A.CS, dx, fs, _, rfl, e4', T.cl_Shares, T.na_told, fT, ?_⟩
    refine ⟨_, rfl, S.dt, _, rfl, .inl ⟨k1, .inr x, ek1, rfl, by rw [lk1, sizeLine_eq]; omega, rfl⟩, ?_⟩
    have b1 : But S.dt H4 (upd H4 S.dt (.dK (putK k1 (.inr x) (.ref t1)))) := fun b u nb eb => by rw [upd_ne nb]; exact eb
    have u1 := upd_tup (w := .dK (putK k1 (.inr x) (.ref t1))) ek1 (fun _ z => nomatch z)
    generalize upd H4 S.dt (.dK (putK k1 (.inr x) (.ref t1))) = H5 at b1 u1 p1 ⊢
    have e5 := b1 _ _ (ne_ct e4' ek1 (fun z => nomatch z)) e4'
    have c5 := h4.cts.keep (fun u z => b1 _ _ hS.n1.symm z) u1
    have d5 := b1 _ _ hS.n2.symm h4.used
    have l5 := b1 _ _ (ne_ct h4.dlt ek1 (fun z => nomatch z)) h4.dlt
    have hok := hS.ok.change hx pc c1 cl ft
    walk_at "go"
    refine ⟨_, rfl, S.o, A.CS, dx, fs, _, rfl, e5, T.cl_Shares, T.na_passed, fP, ?_⟩
    walk_at "go"
    by_cases z : P.ps = 0
    · rw [decide_eq_true (by rw [z]; rfl : (V.int (P.ps : Nat)) = V.int 0)]
      walk_at "go"
      refine newT fun t2 H6 n6 s6 e6 => ?_
      have e6' := s6 _ _ e5
      obtain ⟨k2, ek2, lk2, p2⟩ := (c5.same s6).put (x := x) e6
      rw [if_pos hx] at p2
      walk_at "go"
      refine ⟨_, rfl, S.o, A.CS, dx, fs, _, rfl, e6', T.cl_Shares, T.na_counts, fC, ?_⟩
      refine ⟨_, rfl, S.dc, _, rfl, .inl ⟨k2, .inr x, ek2, rfl, by rw [lk2, sizeLine_eq]; omega, rfl⟩, ?_⟩
      have b2 : But S.dc H6 (upd H6 S.dc (.dK (putK k2 (.inr x) (.ref t2)))) := fun b u nb eb => by rw [upd_ne nb]; exact eb
      have u2 := upd_tup (w := .dK (putK k2 (.inr x) (.ref t2))) ek2 (fun _ z => nomatch z)
      generalize upd H6 S.dc (.dK (putK k2 (.inr x) (.ref t2))) = H7 at b2 u2 p2 ⊢
      refine q _ (fun b u eb nb => ⟨?_, nb⟩) ⟨⟨dx, fs, b2 _ _ (ne_ct e6' ek2 (fun z => nomatch z)) e6', fL, fT, fC, fU, fP, fD, fn⟩, (p1.same s6).keep (fun u z => b2 _ _ hS.n1 z) u2, ?_, b2 _ _ hS.n3.symm (s6 _ _ d5), b2 _ _ (ne_ct (s6 _ _ l5) ek2 (fun z => nomatch z)) (s6 _ _ l5), hS.n1, hS.n2, hS.n3, hok⟩
      · exact b2 _ _ (fun z => nb (.inr (.inr (.inl z)))) (s6 _ _ (b1 _ _ (fun z => nb (.inr (.inl z))) (s4 _ _ (s13 _ _ eb))))
      · show Prs H7 S.dc P.G (if P.ps = 0 then setF P.cp x p else P.cp) (if P.ps = 0 then setF P.cc x c else P.cc)
        rw [if_pos z, if_pos z]
        exact p2
    · rw [decide_eq_false (fun w => z (by injection w with w; omega) : ¬ (V.int (P.ps : Nat)) = V.int 0)]
      walk_at "go"
      refine q _ (fun b u eb nb => ⟨?_, nb⟩) ⟨⟨dx, fs, e5, fL, fT, fC, fU, fP, fD, fn⟩, p1, ?_, d5, l5, hS.n1, hS.n2, hS.n3, hok⟩
      · exact b1 _ _ (fun z => nb (.inr (.inl z))) (s4 _ _ (s13 _ _ eb))
      · show Prs H5 S.dc P.G (if P.ps = 0 then setF P.cp x p else P.cp) (if P.ps = 0 then setF P.cc x c else P.cc)
        rw [if_neg z, if_neg z]
        exact c5
theorem ok_deal {f : Addr} {fd fdA : FuncData} (F : Fun K "deal" "Shares.deal" s_Shares_deal f fd) (T : Txt K mg A) (c_check_guest : CalX P w K mg base 4 "check_guest" spCkGuest)
    (c_Shares_by_promise : CalM P w K mg base CX0 1 A.CS "_by_promise" (spChoose A okP ltP)) (c_Shares_by_ceiling : CalM P w K mg base CX0 1 A.CS "_by_ceiling" (spChoose A okC ltC)) (c_Shares_begin_stretch : CalM P w K mg base CX0 1 A.CS "_begin_stretch" (spBegin A))
    (c_NoGuest_init : Own P w K mg base CX0 2 A.fA fdA ["self", "found"] (spInitN "found" A.CA)) : FnOk P w K mg base (L2.CX P w) 5 f fd ["self", "ready"] (spDeal A) := by
  refine F.okX sc_Shares_deal (fun vs H Q E h => ?_) (fun cdv A' outer s H vs Q E hr h => have hu := units1 hr; ⟨_, (pss_cons (ps_if (pt_not (pt_val (pe_callB call_is2 (by rfl) T.m_isinstance (by decide +kernel) (pa_cons (pv 1) (pa_cons (pe_tup (pa_cons (pe_bltn (v := .ty "list") (by rfl) T.m_list (by decide +kernel) rfl) (pa_cons (pe_bltn (v := .ty "tuple") (by rfl) T.m_tuple (by decide +kernel) rfl) pa_nil))) pa_nil))))) (pss_one (ps_raise rfl (takes_of rfl rfl rfl rfl) (pmk_oexT T.ox_NoGuest T.i_NoGuest T.t_NoGuest c_NoGuest_init.ok (hr.mono (by decide)) c_NoGuest_init.bd .nil pass0 (by rfl) T.g_NoGuest (pa_cons (pv 1) pa_nil)))) pss_nil)
    (pss_cons (ps_for (passes_of rfl) rfl (pi_seqA (pv 1)) (pg_name (i := 2) sc_Shares_deal.nd rfl (.inl rfl))
      (pss_one (ps_expr (pe_calX c_check_guest hr (by decide) (by rfl) (takes_of rfl rfl rfl rfl) (pa_cons (pv 2) (pa_cons (pe_fld (pv 0) rfl) pa_nil))))))
    (pss_cons (ps_lock (ps_setLc (i := 3) (own := [("name", 2)]) rfl sc_Shares_deal.nd rfl rfl (sw_true rfl rfl rfl (by decide +kernel)) (pi_keys (pe_fld (pv 0) rfl)) (blkOk_by (N := ["self", "ready", "name", "among", "chosen"]) (sc := defScope s_Shares_deal) (by decide +kernel)) (fun _ _ _ _ _ => (pg_name (i := 2) sc_Shares_deal.nd rfl (.inl rfl))) (fun _ _ _ _ _ => pts_one (pt_cmpR (op_in_seqK (K := K) rfl) (pv 2) (pv 1) (by rfl))) (fun _ _ _ _ _ => (pv 2))))
    (pss_cons (ps_set (i := 4) sc_Shares_deal.nd rfl (.inl rfl) (pe_mth (pv 0) T.cl_Shares c_Shares_by_promise hr (by decide) ps0 (pa_cons (pv 3) pa_nil)))
    (C8.pss_cut (ps_if (pt_cmpR op_isN (pv 4) pe_non (nomark _)) (pss_one (ps_set (i := 4) sc_Shares_deal.nd rfl (.inl rfl) (pe_mth (pv 0) T.cl_Shares c_Shares_by_ceiling hr (by decide) ps0 (pa_cons (pv 3) pa_nil)))) pss_nil)
    (C8.pss_cut (ps_if (pt_cmpR op_notN (pv 4) pe_non (nomark _)) (pss_one (ps_daug hu (pe_fld (pv 0) rfl) (pv 4) pe_int in_add (fun _ _ _ => rfl))) pss_nil)
    (pss_cons (ps_expr (pe_bm PySem.F.plainAttrs_list PySem.F.slot_list_append PySem.F.type_list_append mt_append (pe_fld (pv 0) rfl) (pa_cons (pv 4) pa_nil)))
    (pss_cons (ps_fldaug (pv 0) pe_int in_add)
    (pss_cons (ps_if (pt_cmpR op_eq (pe_fld (pv 0) rfl) (pe_fld (pv 0) rfl) (nomark _)) (pss_one (ps_expr (pe_mth0 (pv 0) T.cl_Shares c_Shares_begin_stretch hr (by decide) ps0))) pss_nil)
    (pss_one (ps_ret (pv 4)))))))))))), ?_⟩)
  · obtain ⟨S, P, r, R, rfl, _⟩ := h
    rfl
  · obtain ⟨S, P, r, R, rfl, hS, er, r6, rG, l480, q⟩ := h
    obtain ⟨dx, fs, e, fL, fT, fC, fU, fP, fD, fn⟩ := hS.ob
    obtain ⟨tt, et, ht⟩ := hS.told
    walk_at "go"
    refine newT fun tp H1 np s1 ep => ?_
    walk_at "go"
    have erS : ∀ {G : Hp}, Same H G → SqL K G r (R.map V.str) ∨ SqT K G r (R.map V.str) := fun s => er.elim (fun z => .inl (sqL (s _ _ z))) (fun z => .inr (sqT (s _ _ z)))
    refine r_is2 (b := true) (er.elim (fun z => ⟨.type "list", .base (.lst (s1 _ _ z)), kit2 (a := true) (b := false) (kit_ty (by decide +kernel)) (kit_ty (by decide +kernel))⟩) (fun z => ⟨.type "tuple", .base (.tup (s1 _ _ z)), kit2 (a := false) (b := true) (kit_ty (by decide +kernel)) (kit_ty (by decide +kernel))⟩)) ep ?_
    walk_at "go"
    refine ⟨_, rfl, r_forA (erS s1) (fun k σ G => Same H1 G ∧ ∃ x2, σ = [some (.ref S.o), some (.ref r), x2, none, none]) ⟨Same.refl _, none, rfl⟩ (fun k σ G _ ⟨hG, _⟩ => hG) ?_ ?_⟩
    · rintro k y σ G hk ⟨sG1, x2, rfl⟩
      have sG := s1.trans sG1
      rw [List.getElem?_map] at hk
      cases hkr : R[k]? with
      | none => rw [hkr] at hk; exact nomatch hk
      | some x =>
        rw [hkr] at hk
        obtain rfl := Option.some.inj hk
        have hx := rG x (List.mem_of_getElem? hkr)
        walk_at "go"
        refine ⟨_, rfl, S.o, A.CS, dx, fs, _, rfl, sG _ _ e, T.cl_Shares, T.na_told, fT, ?_⟩
        walk_at "go"
        refine ⟨x, S.dt, P.G, _, rfl, hS.ok.nm x hx, sG _ _ et, hx, fun H3 s3 => ?_⟩
        walk_at "go"
        exact ⟨sG1.trans s3, _, rfl⟩
    · rintro σ H2 ⟨s21, x2, rfl⟩
      have s2 := s1.trans s21
      walk_at "go"
      refine lcKeysS (fun i => if P.G.getD i "" ∈ R then some (V.str (P.G.getD i "")) else none) (s2 _ _ et) (by rw [dicF_len]; have := hS.ok.six; omega) (fun _ => rfl) (fun od QQ z => ?_) (fun i k y od H3 Q' R' hk ed fr h1 h2 => ?_) fun D H3 nD s3 e3 => ?_
      · refine ⟨_, rfl, S.o, A.CS, dx, fs, _, rfl, ?_, T.cl_Shares, T.na_told, fT, z⟩
        rw [upd_ne (ne_ct e et (fun z => nomatch z))]
        exact s2 _ _ e
      · have hi : i < P.G.length := by
          have z := (List.getElem?_eq_some_iff.mp hk).1
          rwa [dicF_len] at z
        unfold dicF at hk
        rw [List.getElem?_map, List.getElem?_eq_getElem hi] at hk
        obtain ⟨rfl, _⟩ := Prod.mk.inj (Option.some.inj hk)
        have hg : P.G.getD i "" = P.G[i] := by
          rw [List.getD_eq_getElem?_getD, List.getElem?_eq_getElem hi]
          rfl
        rw [hg] at h1 h2
        have er3 : SqL K H3 r (R.map V.str) ∨ SqT K H3 r (R.map V.str) := er.elim (fun z => .inl (sqL (fr _ _ (ne_ct z et (fun z => nomatch z)) (s2 _ _ z)))) (fun z => .inr (sqT (fr _ _ (ne_ct z et (fun z => nomatch z)) (s2 _ _ z))))
        walk_at "go"
        refine ⟨r, _, rfl, er3, rfl, List.all_eq_true.mpr fun v hv => ?_, ?_⟩
        · obtain ⟨z, _, rfl⟩ := List.mem_map.mp hv
          rfl
        · rw [if_neg Bool.false_ne_true]
          show ∃ k, V.bl (inV (.str P.G[i]) (R.map V.str)) = V.bl k ∧ _
          rw [inV_str]
          refine ⟨_, rfl, ?_⟩
          by_cases m : P.G[i] ∈ R
          · rw [decide_eq_true m]
            exact ⟨_, rfl, h1 _ (if_pos m) _ (Same.refl _)⟩
          · rw [decide_eq_false m]
            exact h2 (if_neg m) _ (Same.refl _)
      · have hM : ((List.range (dicF P.G fun x => V.ref (tt x)).length).filterMap fun i => if P.G.getD i "" ∈ R then some (V.str (P.G.getD i "")) else none) = (P.G.filter fun x => decide (x ∈ R)).map V.str := by
          rw [dicF_len]
          refine (rng_fm (Str.ofString "") P.G (fun x => if x ∈ R then some (V.str x) else none)).trans ?_
          induction P.G with
          | nil => rfl
          | cons a l ih =>
            by_cases c : a ∈ R
            · rw [List.filterMap_cons, if_pos c, List.filter_cons_of_pos (by exact decide_eq_true c), List.map_cons]
              exact congrArg _ ih
            · rw [List.filterMap_cons, if_neg c, List.filter_cons_of_neg (by simpa using c)]
              exact ih
        rw [hM] at e3
        have hMm : ∀ x, x ∈ (P.G.filter fun x => decide (x ∈ R)) ↔ x ∈ P.G ∧ x ∈ R := fun x => by rw [List.mem_filter, decide_eq_true_eq]
        have hMl : (P.G.filter fun x => decide (x ∈ R)).length ≤ 6 := Nat.le_trans (List.length_filter_le _ _) hS.ok.six
        have hget : gets P R = (match pick (okP P) (ltP P) (P.G.filter fun x => decide (x ∈ R)) with | some y => some y | none => pick (okC P) (ltC P) (P.G.filter fun x => decide (x ∈ R))) := rfl
        generalize (P.G.filter fun x => decide (x ∈ R)) = M at e3 hMm hMl hget
        have s13 := s2.trans s3
        have h3 := hS.same s13
        have e3o := s13 _ _ e
        walk_at "go"
        refine ⟨S.o, dx, fs, rfl, e3o, fn.2 _ (by decide +kernel) (by decide +kernel) (by decide +kernel) (by decide +kernel) (by decide +kernel) (by decide +kernel), ?_⟩
        walk_at "go"
        refine ⟨S, P, D, M, rfl, h3, e3, hMl, fun x hx => ((hMm x).mp hx).1, ?_⟩
        walk_at "go"
        show C8.tCut _ _ _ _ _
        have hyG : ∀ {y}, gets P R = some y → y ∈ P.G := fun h => (gets_mem h).1
        refine r_cut (fun σ G => G = H3 ∧ σ = [some (.ref S.o), some (.ref r), x2, some (.ref D), some (nameV (gets P R))]) ?_ ?_
        · walk_at "go"
          refine ⟨rfl, _, rfl, ?_⟩
          cases y1 : pick (okP P) (ltP P) M with
          | none =>
            rw [y1] at hget
            rw [show (decide (nameV none = V.non)) = true from decide_eq_true rfl]
            walk_at "go"
            refine ⟨S.o, dx, fs, rfl, e3o, fn.2 _ (by decide +kernel) (by decide +kernel) (by decide +kernel) (by decide +kernel) (by decide +kernel) (by decide +kernel), ?_⟩
            walk_at "go"
            refine ⟨S, P, D, M, rfl, h3, e3, hMl, fun x hx => ((hMm x).mp hx).1, ?_⟩
            walk_at "go"
            exact ⟨rfl, by rw [hget]; rfl⟩
          | some z =>
            rw [y1] at hget
            rw [show (decide (nameV (some z) = V.non)) = false from decide_eq_false (fun z => nomatch z)]
            walk_at "go"
            exact ⟨rfl, by rw [hget]; rfl⟩
        · rintro σ G ⟨rfl, rfl⟩
          clear hget
          generalize gets P R = y at hyG q ⊢
          show C8.tCut _ _ _ _ _
          refine r_cut (fun σ G' => σ = [some (.ref S.o), some (.ref r), x2, some (.ref D), some (nameV y)] ∧ But S.du G G' ∧ (∀ a xs, G a = some (.tup xs) → G' a = some (.tup xs)) ∧ G' S.du = some (.dK (dicF P.G fun x => .int ((if y = some x then P.us x + 1 else P.us x : Nat))))) ?_ ?_
          · walk_at "go"
            refine ⟨rfl, _, rfl, ?_⟩
            cases y with
            | none =>
              rw [show (decide (nameV none = V.non)) = true from decide_eq_true rfl]
              walk_at "go"
              refine ⟨rfl, fun b u _ z => z, fun a xs z => z, ?_⟩
              rw [h3.used]
              refine congrArg (fun l => some (HO.dK l)) (dicF_congr fun x _ => ?_)
              rw [if_neg (fun z => nomatch z)]
            | some z =>
              have hz : z ∈ P.G := hyG rfl
              rw [show (decide (nameV (some z) = V.non)) = false from decide_eq_false (fun z => nomatch z)]
              walk_at "go"
              refine ⟨_, rfl, S.o, A.CS, dx, fs, _, rfl, e3o, T.cl_Shares, T.na_used, fU, ?_⟩
              refine ⟨_, rfl, S.du, .int (P.us z), rfl, .inl ⟨_, .inr z, .inl h3.used, rfl, by rw [dicF_get, if_pos hz]⟩, ?_⟩
              refine ⟨_, 1, rfl, rfl, _, .inl ⟨_, .inr z, h3.used, rfl, by rw [dicF_len, sizeLine_eq]; have := hS.ok.six; omega, rfl⟩, ?_⟩
              refine ⟨rfl, fun b u nb z => by rw [upd_ne nb]; exact z, upd_tup h3.used (fun _ z => nomatch z), ?_⟩
              rw [upd_same, dicF_put, if_pos hz]
              refine congrArg (fun l => some (HO.dK l)) (dicF_congr fun x _ => ?_)
              by_cases c : x = z
              · subst c
                rw [if_pos rfl, if_pos rfl]
                rfl
              · rw [if_neg c, if_neg (fun w => c (Option.some.inj w).symm)]
          · rintro σ G1 ⟨rfl, b1, t1, u1⟩
            have e4 := b1 _ _ (ne_ct e3o h3.used (fun z => nomatch z)) e3o
            have d4 := b1 _ _ (ne_ct h3.dlt h3.used (fun z => nomatch z)) h3.dlt
            walk_at "go"
            refine ⟨_, rfl, S.o, A.CS, dx, fs, _, rfl, e4, T.cl_Shares, T.na_dealt, fD, ?_⟩
            refine ⟨.inl ⟨rfl, _, sqL d4⟩, ?_⟩
            walk_at "go"
            refine ⟨S.dl, _, _, rfl, rfl, d4, by rw [sizeLine_eq]; omega, ?_⟩
            have b5 : But S.dl G1 (upd G1 S.dl (.lst (P.dl ++ [nameV y]))) := fun b u nb z => by rw [upd_ne nb]; exact z
            have t5 := upd_tup (w := .lst (P.dl ++ [nameV y])) d4 (fun _ z => nomatch z)
            have d5 : upd G1 S.dl (.lst (P.dl ++ [nameV y])) S.dl = some (.lst (P.dl ++ [nameV y])) := upd_same
            generalize upd G1 S.dl (.lst (P.dl ++ [nameV y])) = G2 at b5 t5 d5 ⊢
            have e5 := b5 _ _ (ne_ct e4 d4 (fun z => nomatch z)) e4
            have n5 : ∀ {b u}, G1 b = some u → u ≠ .lst P.dl → G2 b = some u := fun {b u} z n => b5 _ _ (ne_ct z d4 n) z
            have told5 : Prs G2 S.dt P.G P.pr P.ce := (h3.told.keep (fun u z => b1 _ _ hS.n2 z) t1).keep (fun u z => by
              refine b5 _ _ (fun w => ?_) z
              have := b1 _ _ hS.n2 (s13 _ _ et)
              rw [w, d4] at this
              exact nomatch this) t5
            have cts5 : Prs G2 S.dc P.G P.cp P.cc := (h3.cts.keep (fun u z => b1 _ _ hS.n3 z) t1).keep (fun u z => by
              obtain ⟨tc, ec, _⟩ := h3.cts
              refine b5 _ _ (fun w => ?_) z
              have := b1 _ _ hS.n3 ec
              rw [w, d4] at this
              exact nomatch this) t5
            have u5 := n5 u1 (fun z => nomatch z)
            have hok := hS.ok.deal (v := nameV y) (y := y) l480
            have hps := hS.ok.ps
            have K4 : ∀ b u, H b = some u → ¬ S.own b → G2 b = some u := fun b u z nb => b5 _ _ (fun w => nb (.inr (.inr (.inr (.inr w))))) (b1 _ _ (fun w => nb (.inr (.inr (.inr (.inl w))))) (s13 _ _ z))
            have fl : ∀ {f g : Str} {v : V} {fs : List (Str × V)}, (g == f) = false → (putF f v fs).lookup g = fs.lookup g := fun {f g v fs} h => by
              rw [lookup_putF, if_neg (beq_eq_false_iff_ne.mp h)]
            have fs_ : ∀ {f : Str} {v : V} {fs : List (Str × V)}, (putF f v fs).lookup f = some v := fun {f v fs} => by
              rw [lookup_putF, if_pos rfl]
            walk_at "go"
            refine ⟨_, rfl, S.o, A.CS, dx, fs, _, rfl, e5, T.cl_Shares, T.na_passed, fP, ?_⟩
            refine ⟨_, 1, rfl, rfl, dx, fs, e5, by have := fn.1; omega, ?_⟩
            have b6 : But S.o G2 (upd G2 S.o (.ins A.CS dx (putF "_passed" (.int ((P.ps : Nat) + 1)) fs))) := fun b u nb z => by rw [upd_ne nb]; exact z
            have t6 := upd_tup (w := .ins A.CS dx (putF "_passed" (.int ((P.ps : Nat) + 1)) fs)) e5 (fun _ z => nomatch z)
            have e6 : upd G2 S.o (.ins A.CS dx (putF "_passed" (.int ((P.ps : Nat) + 1)) fs)) S.o = some (.ins A.CS dx (putF "_passed" (.int ((P.ps : Nat) + 1)) fs)) := upd_same
            generalize upd G2 S.o (.ins A.CS dx (putF "_passed" (.int ((P.ps : Nat) + 1)) fs)) = G3 at b6 t6 e6 ⊢
            have l6 := putF_old (v := .int ((P.ps : Nat) + 1)) fP
            have fL6 : (putF "_passed" (.int ((P.ps : Nat) + 1)) fs).lookup ("_length" : Str) = some (.int P.L) := (fl (by decide +kernel)).trans fL
            have fT6 : (putF "_passed" (.int ((P.ps : Nat) + 1)) fs).lookup ("_told" : Str) = some (.ref S.dt) := (fl (by decide +kernel)).trans fT
            have fC6 : (putF "_passed" (.int ((P.ps : Nat) + 1)) fs).lookup ("_counts" : Str) = some (.ref S.dc) := (fl (by decide +kernel)).trans fC
            have fU6 : (putF "_passed" (.int ((P.ps : Nat) + 1)) fs).lookup ("_used" : Str) = some (.ref S.du) := (fl (by decide +kernel)).trans fU
            have fD6 : (putF "_passed" (.int ((P.ps : Nat) + 1)) fs).lookup ("_dealt" : Str) = some (.ref S.dl) := (fl (by decide +kernel)).trans fD
            have fP6 : (putF "_passed" (.int ((P.ps : Nat) + 1)) fs).lookup ("_passed" : Str) = some (.int ((P.ps : Nat) + 1)) := fs_
            have fn6 : ∀ m : Str, (m == ("_length" : Str)) = false → (m == ("_told" : Str)) = false → (m == ("_counts" : Str)) = false → (m == ("_used" : Str)) = false → (m == ("_passed" : Str)) = false → (m == ("_dealt" : Str)) = false → (putF "_passed" (.int ((P.ps : Nat) + 1)) fs).lookup m = none := fun m h1 h2 h3 h4 h5 h6 => (fl h5).trans (fn.2 m h1 h2 h3 h4 h5 h6)
            have len6 : (putF "_passed" (.int ((P.ps : Nat) + 1)) fs).length ≤ 6 := by rw [l6]; exact fn.1
            generalize putF "_passed" (.int ((P.ps : Nat) + 1)) fs = fs6 at e6 l6 fL6 fT6 fC6 fU6 fD6 fP6 fn6 len6 ⊢
            have n6 : ∀ {b u}, G2 b = some u → u ≠ .ins A.CS dx fs → G3 b = some u := fun {b u} z n => b6 _ _ (ne_ct z e5 n) z
            have told6 : Prs G3 S.dt P.G P.pr P.ce := told5.keep (fun u z => by
              obtain ⟨_, w, _⟩ := told5
              refine n6 z (fun n => ?_)
              rw [w] at z
              rw [n] at z
              exact nomatch z) t6
            have cts6 : Prs G3 S.dc P.G P.cp P.cc := cts5.keep (fun u z => by
              obtain ⟨_, w, _⟩ := cts5
              refine n6 z (fun n => ?_)
              rw [w] at z
              rw [n] at z
              exact nomatch z) t6
            have u6 := n6 u5 (fun z => nomatch z)
            have d6 := n6 d5 (fun z => nomatch z)
            have K6 : ∀ b u, H b = some u → ¬ S.own b → G3 b = some u := fun b u z nb => b6 _ _ (fun w => nb (.inl w)) (K4 b u z nb)
            walk_at "go"
            refine ⟨_, rfl, S.o, A.CS, dx, fs6, _, rfl, e6, T.cl_Shares, T.na_passed, fP6, ?_⟩
            walk_at "go"
            refine ⟨_, rfl, S.o, A.CS, dx, fs6, _, rfl, e6, T.cl_Shares, T.na_length, fL6, ?_⟩
            walk_at "go"
            by_cases c : P.ps + 1 = P.L
            · rw [decide_eq_true (by rw [← c]; rfl : (V.int ((P.ps : Nat) + 1)) = V.int (P.L : Nat))]
              walk_at "go"
              refine ⟨S.o, dx, fs6, rfl, e6, fn6 _ (by decide +kernel) (by decide +kernel) (by decide +kernel) (by decide +kernel) (by decide +kernel) (by decide +kernel), ?_⟩
              walk_at "go"
              refine ⟨S, dx, fs6, P.G, P.pr, P.ce, rfl, e6, fT6, len6, told6, hS.ok.nd, hS.ok.six, ⟨_, fC6⟩, ⟨_, fU6⟩, ⟨_, fP6⟩, fun c' u' G4 fs7 nc nu ncu b7 e7 fc7 fu7 fp7 fo7 l7 pc7 pu7 => ?_⟩
              walk_at "go"
              have n7 : ∀ {b u}, G3 b = some u → u ≠ .ins A.CS dx fs6 → G4 b = some u := fun {b u} z n => b7 _ _ (ne_ct z e6 n) z
              obtain ⟨tt6, et6, ht6⟩ := told6
              refine q ⟨S.o, S.dt, c', u', S.dl⟩ G4 rfl (fun b u eb nb => ⟨b7 _ _ (fun w => nb (.inl w)) (K6 b u eb nb), fun w => ?_⟩) ⟨⟨dx, fs7, e7, (fo7 _ (by decide +kernel) (by decide +kernel) (by decide +kernel)).trans fL6, (fo7 _ (by decide +kernel) (by decide +kernel) (by decide +kernel)).trans fT6, fc7, fu7, ?_, (fo7 _ (by decide +kernel) (by decide +kernel) (by decide +kernel)).trans fD6, l7, fun m h1 h2 h3 h4 h5 h6 => (fo7 m h3 h4 h5).trans (fn6 m h1 h2 h3 h4 h5 h6)⟩, ⟨tt6, n7 et6 (fun z => nomatch z), fun x hx => n7 (ht6 x hx) (fun z => nomatch z)⟩, ?_, ?_, n7 d6 (fun z => nomatch z), ne_of_none et6 nc, ne_of_none et6 nu, ncu, hok⟩
              · have k6 := K6 b u eb nb
                rcases w with w | w | w | w | w
                · exact nb (.inl w)
                · exact nb (.inr (.inl w))
                · exact ne_of_none k6 nc w
                · exact ne_of_none k6 nu w
                · exact nb (.inr (.inr (.inr (.inr w))))
              · show fs7.lookup ("_passed" : Str) = some (.int ((if P.ps + 1 = P.L then 0 else P.ps + 1 : Nat)))
                rw [if_pos c]
                exact fp7
              · show Prs G4 c' P.G (if P.ps + 1 = P.L then P.pr else P.cp) (if P.ps + 1 = P.L then P.ce else P.cc)
                rw [if_pos c, if_pos c]
                exact pc7
              · refine pu7.trans (congrArg (fun l => some (HO.dK l)) (dicF_congr fun x _ => ?_))
                show V.int 0 = V.int ((if P.ps + 1 = P.L then 0 else if y = some x then P.us x + 1 else P.us x : Nat))
                rw [if_pos c]
                rfl
            · rw [decide_eq_false (fun w => c (by injection w with w; omega) : ¬ (V.int ((P.ps : Nat) + 1)) = V.int (P.L : Nat))]
              walk_at "go"
              refine q S G3 rfl (fun b u eb nb => ⟨K6 b u eb nb, nb⟩) ⟨⟨dx, fs6, e6, fL6, fT6, fC6, fU6, ?_, fD6, len6, fn6⟩, told6, ?_, ?_, d6, hS.n1, hS.n2, hS.n3, hok⟩
              · show fs6.lookup ("_passed" : Str) = some (.int ((if P.ps + 1 = P.L then 0 else P.ps + 1 : Nat)))
                rw [if_neg c]
                exact fP6
              · show Prs G3 S.dc P.G (if P.ps + 1 = P.L then P.pr else P.cp) (if P.ps + 1 = P.L then P.ce else P.cc)
                rw [if_neg c, if_neg c]
                exact cts6
              · refine u6.trans (congrArg (fun l => some (HO.dK l)) (dicF_congr fun x _ => ?_))
                show V.int ((if y = some x then P.us x + 1 else P.us x : Nat)) = V.int ((if P.ps + 1 = P.L then 0 else if y = some x then P.us x + 1 else P.us x : Nat))
                rw [if_neg c]
end
end K25

namespace K25
open PySem PySem.Spec PyProof.Rows L2 Bk


def spShare : Sp := fun vs H Q _ => ∃ (bx : Addr) (n L free : Nat), vs = [.ref bx, .int L, .int free] ∧ Box bx n H ∧ n < 950000 ∧ 4 ≤ L ∧ L ≤ 60 ∧ free ≤ L ∧
  ∀ (t : Addr) (p c : Nat) H', H t = none → But bx H H' → Box bx (n + 4) H' → H' t = some (.tup [.int p, .int c]) → p ≤ free → p ≤ c → 1 ≤ c → c ≤ L → Q (.ref t) H'
def spLen : Sp := fun vs H Q _ => ∃ (bx : Addr) (n : Nat), vs = [.ref bx] ∧ Box bx n H ∧ n < 950000 ∧ ∀ (v : Nat) H', 4 ≤ v → v ≤ 60 → But bx H H' → Box bx (n + 2) H' → Q (.int v) H'
section
variable {P : Program} {w : World} {K : PySem.W.Frag} {mg : Str → Option Value} {base : Heap} {A : Ad}
theorem ok_share {f : Addr} {fd : FuncData} (F : Fun K "_law_share" "_law_share" s_share_L f fd) (T : Txt K mg A) (c_take_L : CalD P w K mg base CX0 1 "_law_take" spTake []) : FnOk P w K mg base CX0 2 f fd ["_law_box_here", "_law_stretch", "_law_free"] spShare := by
  refine F.ok sc_share_L (fun vs H Q E h => ?_) (fun cdv A' outer s H vs Q E hr h => have hu65 := units65 hr; have hu64 := hr.units; have hu := units1 hr; ⟨_, (pss_cons (ps_set (i := 3) sc_share_L.nd rfl (.inl rfl) (pe_ix ix_list (pe_lstB (pa_cons pe_int (pa_cons pe_int (pa_cons (pe_cal c_take_L hr (by decide) (by rfl) (pa_cons (pv 0) (pa_cons (pe_op op_add (pv 1) pe_int) pa_nil))) pa_nil)))) (pe_cal c_take_L hr (by decide) (by rfl) (pa_cons (pv 0) (pa_cons pe_int pa_nil))) (fun _ _ => rfl)))
    (pss_cons (ps_set (i := 3) sc_share_L.nd rfl (.inl rfl) (pe_callB (call_min2 rfl) (by rfl) T.m_min (by decide +kernel) (pa_cons (pv 2) (pa_cons (pv 3) pa_nil))))
    (pss_cons (ps_set (i := 4) sc_share_L.nd rfl (.inl rfl) (pe_callB (call_max2 rfl) (by rfl) T.m_max (by decide +kernel) (pa_cons pe_int (pa_cons (pv 3) pa_nil))))
    (pss_one (ps_ret (pe_tup (pa_cons (pv 3) (pa_cons (pe_ix ix_list (pe_lstB (pa_cons (pv 1) (pa_cons (pv 4) (pa_cons (pe_op op_add (pv 4) (pe_cal c_take_L hr (by decide) (by rfl) (pa_cons (pv 0) (pa_cons (pe_op op_add (pe_op op_sub (pv 1) (pv 4)) pe_int) pa_nil)))) pa_nil)))) (pe_cal c_take_L hr (by decide) (by rfl) (pa_cons (pv 0) (pa_cons pe_int pa_nil))) (fun _ _ => rfl)) pa_nil)))))))), ?_⟩)
  · obtain ⟨bx, n, L, free, rfl, _⟩ := h
    rfl
  · obtain ⟨bx, n, L, free, rfl, hB, hn, l4, l60, fL, q⟩ := h
    walk_at "go"
    refine r_take hB (fun d H1 h0 h1 hB1 b1 => ?_) (by omega) (by omega) (by omega)
    walk_at "go"
    refine newLB fun la H2 n2 g2 s2 e2 => ?_
    have hB2 := hB1.same s2
    walk_at "go"
    refine r_take hB2 (fun d2 H3 h20 h21 hB3 b3 => ?_)
    have e3 := b3 _ _ (hB1.ne n2) e2
    obtain ⟨v, hv, vl⟩ : ∃ v : Nat, atI [V.int 0, .int 1, .int d] d2 = some (.int v) ∧ v ≤ L := by
      obtain rfl | rfl | rfl : d2 = 0 ∨ d2 = 1 ∨ d2 = 2 := by omega
      · exact ⟨0, rfl, Nat.zero_le _⟩
      · exact ⟨1, rfl, by omega⟩
      · exact ⟨d.toNat, by rw [Int.toNat_of_nonneg h0]; rfl, by omega⟩
    refine r_ixL (sqL e3) (v := .int v) hv ?_
    walk_at "go"
    refine ⟨free, v, rfl, ?_⟩
    have hp : (if (free : Int) > (v : Int) then (v : Int) else free) = ((min free v : Nat) : Int) := by split <;> omega
    rw [hp]
    have pf : min free v ≤ free := Nat.min_le_left _ _
    generalize min free v = p at pf ⊢
    walk_at "go"
    refine ⟨1, p, rfl, ?_⟩
    have hl : (if (p : Int) > 1 then (p : Int) else 1) = ((max 1 p : Nat) : Int) := by split <;> omega
    rw [hl]
    have lw : 1 ≤ max 1 p ∧ p ≤ max 1 p ∧ max 1 p ≤ L := by omega
    generalize max 1 p = low at lw ⊢
    obtain ⟨lw1, lw2, lw3⟩ := lw
    walk_at "go"
    refine r_take hB3 (fun d4 H4 h40 h41 hB4 b4 => ?_) (by omega) (by omega) (by omega)
    walk_at "go"
    refine newLB fun lb H5 n5 g5 s5 e5 => ?_
    have hB5 := hB4.same s5
    walk_at "go"
    refine r_take hB5 (fun d6 H6 h60 h61 hB6 b6 => ?_)
    have e6 := b6 _ _ (hB4.ne n5) e5
    obtain ⟨c, hc, c1, c2, c3⟩ : ∃ c : Nat, atI [V.int L, .int low, .int ((low : Int) + d4)] d6 = some (.int c) ∧ p ≤ c ∧ 1 ≤ c ∧ c ≤ L := by
      obtain rfl | rfl | rfl : d6 = 0 ∨ d6 = 1 ∨ d6 = 2 := by omega
      · exact ⟨L, rfl, by omega, by omega, Nat.le_refl _⟩
      · exact ⟨low, rfl, by omega, by omega, by omega⟩
      · refine ⟨low + d4.toNat, ?_, by omega, by omega, by omega⟩
        rw [Int.natCast_add, Int.toNat_of_nonneg h40]
        rfl
    refine r_ixL (sqL e6) (v := .int c) hc ?_
    walk_at "go"
    refine newT fun t H7 n7 s7 e7 => ?_
    have bb : But bx H H7 := fun b o nb eb => s7 _ _ (b6 _ _ nb (s5 _ _ (b4 _ _ nb (b3 _ _ nb (s2 _ _ (b1 _ _ nb eb))))))
    have nt : t ≠ bx := hB6.ne n7
    refine q t p c H7 ?_ bb (hB6.same s7) e7 pf c1 c2 c3
    cases z : H t with
    | none => rfl
    | some u =>
      have w := b6 _ _ nt (s5 _ _ (b4 _ _ nt (b3 _ _ nt (s2 _ _ (b1 _ _ nt z)))))
      rw [w] at n7
      exact nomatch n7
theorem ok_length_L {f : Addr} {fd : FuncData} (F : Fun K "_law_length" "_law_length" s_length_L f fd) (T : Txt K mg A) (c_take_L : CalD P w K mg base CX0 1 "_law_take" spTake []) : FnOk P w K mg base CX0 2 f fd ["_law_box_here"] spLen := by
  refine F.ok sc_length_L (fun vs H Q E h => ?_) (fun cdv A' outer s H vs Q E hr h => have hu65 := units65 hr; have hu64 := hr.units; have hu := units1 hr; ⟨_, (pss_one (ps_ret (pe_ix ix_list (pe_lstB (pa_cons pe_int (pa_cons pe_int (pa_cons pe_int (pa_cons pe_int (pa_cons (pe_op op_add pe_int (pe_cal c_take_L hr (by decide) (by rfl) (pa_cons (pv 0) (pa_cons pe_int pa_nil)))) pa_nil)))))) (pe_cal c_take_L hr (by decide) (by rfl) (pa_cons (pv 0) (pa_cons pe_int pa_nil))) (fun _ _ => rfl)))), ?_⟩)
  · obtain ⟨bx, n, rfl, _⟩ := h
    rfl
  · obtain ⟨bx, n, rfl, hB, hn, q⟩ := h
    walk_at "go"
    refine r_take hB (fun d H1 h0 h1 hB1 b1 => ?_)
    walk_at "go"
    refine newLB fun la H2 n2 g2 s2 e2 => ?_
    have hB2 := hB1.same s2
    walk_at "go"
    refine r_take hB2 (fun d2 H3 h20 h21 hB3 b3 => ?_)
    have e3 := b3 _ _ (hB1.ne n2) e2
    obtain ⟨v, hv, v4, v60⟩ : ∃ v : Nat, atI [V.int 4, .int 5, .int 7, .int 12, .int (4 + d)] d2 = some (.int v) ∧ 4 ≤ v ∧ v ≤ 60 := by
      obtain rfl | rfl | rfl | rfl | rfl : d2 = 0 ∨ d2 = 1 ∨ d2 = 2 ∨ d2 = 3 ∨ d2 = 4 := by omega
      · exact ⟨4, rfl, by omega, by omega⟩
      · exact ⟨5, rfl, by omega, by omega⟩
      · exact ⟨7, rfl, by omega, by omega⟩
      · exact ⟨12, rfl, by omega, by omega⟩
      · exact ⟨4 + d.toNat, by rw [Int.natCast_add, Int.toNat_of_nonneg h0]; rfl, by omega, by omega⟩
    refine r_ixL (sqL e3) (v := .int v) hv ?_
    have bb : But bx H H3 := fun b o nb eb => b3 _ _ nb (s2 _ _ (b1 _ _ nb eb))
    exact q v H3 v4 v60 bb hB3
end
end K25

namespace K25
open PySem PySem.Spec PyProof.Rows L2 Bk


section
variable {K : PySem.W.Frag} {σ : L2.St} {H H0 : Hp} {Q : VK} {j : Nat} {vs : List Nat} {tt : TT} {te tl : TE} {a bx : Addr} {m : Nat}
theorem lcDrawT {s : Int} {i0 : Nat} {E : XK} (p : V → Prop) (hb : Box bx m H) (hm : m < 900000) (hs : 0 < s) (hs2 : s ≤ 1000) (hvv : σ[i0]? = some (some (.ref bx))) (hw : ∀ x, wipe ((wipe σ vs).set j (some x)) vs = wipe σ vs)
    (ht : ∀ (i k : Nat) (H' : Hp) (Q' : VK), k < 910000 → Box bx k H' → (∀ v H2, p v → Box bx (k + 1) H2 → But bx H' H2 → Q' v H2) → te ((wipe σ vs).set j (some (.int i))) H' Q')
    (hq : ∀ (D : Addr) (H' : Hp) (xs : List V), H D = none → But bx H H' → Box bx (m + s.toNat) H' → H' D = some (.lst xs) → (xs.length : Int) < s → (∀ v ∈ xs, p v) → Q (.ref D) H') : tLc (iRng1 (tCons (tCall spTake [] E (tCons (tVar i0) (tCons (tC (.int s)) tNil))) tNil)) (gName j) tYes te vs σ H Q := by
  refine ⟨_, hvv, ?_⟩
  walk_at "go"
  refine r_take hb (fun d H1 h0 h1 hB1 b1 => ?_) (by omega) hs (by omega)
  obtain ⟨n, rfl⟩ := Int.eq_ofNat_of_zero_le h0
  have z : tLc (iRng1 (tCons (tC (.int (n : Nat))) tNil)) (gName j) tYes te vs σ H1 Q := lcDraw (n := n) (m := m + 1) (bx := bx) p hB1 (by omega) hw (fun i H' Q' hi hB kk => ht i (m + 1 + i) H' Q' (by omega) hB kk) fun D H' xs nD b hB e l hp => hq D H' xs (by
    cases w : H D with
    | none => rfl
    | some u => rw [b1 _ _ (hB1.ne nD) w] at nD; exact nomatch nD) (b1.trans b) (hB.mono (by omega)) e (by omega) hp
  exact z
end
/-- a comprehension over range(i), i a variable: item k is p k -/
theorem lcRangeP {σ : L2.St} {H : Hp} {Q : VK} {j : Nat} {vs : List Nat} {te : TE} {tn : TA} {n : Nat} (p : Nat → V) (hl : n ≤ 10000) (hn : ∀ R : List V → Hp → Prop, R [.int (n : Nat)] H → tn σ H R) (hw : ∀ x, wipe ((wipe σ vs).set j (some x)) vs = wipe σ vs)
    (ht : ∀ (i : Nat) (H' : Hp) (Q' : VK), i < n → Same H H' → (∀ H2, Same H' H2 → Q' (p i) H2) → te ((wipe σ vs).set j (some (.int i))) H' Q')
    (hq : ∀ (D : Addr) (H' : Hp), H D = none → Same H H' → H' D = some (.lst ((List.range n).map p)) → Q (.ref D) H') : tLc (iRng1 tn) (gName j) tYes te vs σ H Q := by
  refine hn _ ⟨_, rfl, by omega, by omega, fun D hD => ?_⟩
  rw [Int.toNat_natCast]
  exact lc_map (j := j) (walk_range (lo := 0) (n := n)) (fun _ _ _ _ _ z => z.1) p hl (fun _ _ => trivial) hw (fun i y H1 H' Q' hi e sm k => by
    obtain ⟨_, rfl⟩ := e
    show te ((wipe σ vs).set j (some (.int (0 + (i : Int))))) _ _
    rw [Int.zero_add]
    exact ht i H' Q' hi sm k) hq hD
def letter (j : Nat) : Nat := (Str.ofString "abcdefghijklmnopqrstuvwxyz").cps.toList.getD j 0
theorem letter_at : ∀ j, j < 26 → letter j = 97 + j := by decide +kernel
def tailS (j : Nat) : Str := if j = 0 then (Str.ofString "") else if j = 1 then (Str.ofString "z") else (Str.ofString "aa")
theorem tail_ok {j : Nat} : lowS (tailS j) ∧ (tailS j).length ≤ 2 := by
  unfold tailS
  split
  · exact ⟨by unfold lowS; decide +kernel, by decide +kernel⟩
  · split
    · exact ⟨by unfold lowS; decide +kernel, by decide +kernel⟩
    · exact ⟨by unfold lowS; decide +kernel, by decide +kernel⟩
/-- the k-th name -/
def nmS (stem : Str) (pl sh k : Nat) : Str := cutS stem none (some (pl : Nat)) ++ ⟨#[letter ((sh + 7 * k) % 26)]⟩ ++ cutS stem (some (pl : Nat)) none ++ tailS ((sh + k) % 3)
theorem nm_sign {stem : Str} {pl sh k : Nat} (h : pl ≤ stem.length) : (nmS stem pl sh k).cps.toList[pl]? = some (letter ((sh + 7 * k) % 26)) := by
  have c1 := cut_pre (z := stem) (m := (pl : Nat)) (by omega)
  have c1 : (cutS stem none (some (pl : Nat))).cps.toList.length = pl := by
    rw [Array.length_toList]
    show (cutS stem none (some (pl : Nat))).length = pl
    rw [c1]
    omega
  have ap : ∀ x y : Str, (x ++ y).cps.toList = x.cps.toList ++ y.cps.toList := fun x y => Array.toList_append
  unfold nmS
  rw [ap, ap, ap, List.append_assoc, List.append_assoc, List.getElem?_append_right (by rw [c1]; exact Nat.le_refl _), c1, Nat.sub_self]
  rfl
theorem nm_ok {stem : Str} {pl sh k : Nat} (hs : lowS stem) (h5 : stem.length ≤ 5) (h : pl ≤ stem.length) : nameOk (nmS stem pl sh k) = true := by
  have c1 := cut_pre (z := stem) (m := (pl : Nat)) (by omega)
  have c2 := cut_suf (z := stem) (m := (pl : Nat)) (by omega)
  have lt := letter_at ((sh + 7 * k) % 26) (Nat.mod_lt _ (by decide))
  obtain ⟨t1, t2⟩ := tail_ok (j := (sh + k) % 3)
  have l1 : ∀ c, (⟨#[c]⟩ : Str).length = 1 := fun _ => rfl
  have hl : (nmS stem pl sh k).length = stem.length + 1 + (tailS ((sh + k) % 3)).length := by
    unfold nmS
    rw [str_len_add, str_len_add, str_len_add, c1, c2, l1]
    omega
  refine nameOk_of ?_ (by rw [hl]; omega) (by rw [hl]; omega)
  unfold nmS
  exact low_app (low_app (low_app (low_cut hs) (sign_ok (by omega)).1) (low_cut hs)) t1
theorem nm_ne {stem : Str} {pl sh i j : Nat} (h : pl ≤ stem.length) (hi : i < 8) (hj : j < 8) (n : i ≠ j) : nmS stem pl sh i ≠ nmS stem pl sh j := fun z => by
  have a := nm_sign (sh := sh) (k := i) h
  have b := nm_sign (sh := sh) (k := j) h
  rw [z, b] at a
  have a := Option.some.inj a
  rw [letter_at _ (Nat.mod_lt _ (by decide)), letter_at _ (Nat.mod_lt _ (by decide))] at a
  omega
def spNames8 : Sp := fun vs H Q _ => ∃ (bx : Addr) (n : Nat), vs = [.ref bx, .int 8] ∧ Box bx n H ∧ n < 900000 ∧
  ∀ (D : Addr) (H' : Hp) (N : List Str), H D = none → But bx H H' → Box bx (n + 8) H' → H' D = some (.lst (N.map V.str)) → N.length = 8 → (∀ x ∈ N, nameOk x = true) → N.Nodup → Q (.ref D) H'
section
variable {P : Program} {w : World} {K : PySem.W.Frag} {mg : Str → Option Value} {base : Heap} {A : Ad}
theorem ok_names_L {f : Addr} {fd : FuncData} (F : Fun K "_law_names" "_law_names" s_names_L f fd) (T : Txt K mg A) (c_take_L : CalD P w K mg base CX0 1 "_law_take" spTake []) : FnOk P w K mg base CX0 2 f fd ["_law_box_here", "_law_size"] spNames8 := by
  refine F.ok sc_names_L (fun vs H Q E h => ?_) (fun cdv A' outer s H vs Q E hr h => have hu65 := units65 hr; have hu64 := hr.units; have hu := units1 hr; ⟨_, (pss_cons (ps_set (i := 2) sc_names_L.nd rfl (.inr rfl) pe_str)
    (pss_cons (ps_set (i := 3) sc_names_L.nd rfl (.inr rfl) (pe_join pe_str (pe_lc (own := [("_law_turn", 9)]) rfl sc_names_L.nd (pi_range1 (by rfl) T.m_range (pa_cons (pe_cal c_take_L hr (by decide) (by rfl) (pa_cons (pv 0) (pa_cons pe_int pa_nil))) pa_nil)) (blkOk_by (N := ["_law_box_here", "_law_size", "_law_small", "_law_stem", "_law_place", "_law_shift", "_law_tails", "_law_some", "_law_k", "_law_turn"]) (sc := defScope s_names_L) (by decide +kernel)) (fun _ _ _ _ _ => (pg_name (i := 9) sc_names_L.nd rfl (.inl rfl))) (fun _ _ _ _ _ => pts_nil) (fun _ _ _ _ _ => (pe_ix ix_str (pv 2) (pe_cal c_take_L hr (by decide) (by rfl) (pa_cons (pv 0) (pa_cons pe_int pa_nil))) (fun _ _ => rfl))))))
    (pss_cons (ps_set (i := 4) sc_names_L.nd rfl (.inr rfl) (pe_cal c_take_L hr (by decide) (by rfl) (pa_cons (pv 0) (pa_cons (pe_op op_add (pe_callB call_len_str (by rfl) T.m_len (by decide +kernel) (pa_cons (pv 3) pa_nil)) pe_int) pa_nil))))
    (pss_cons (ps_set (i := 5) sc_names_L.nd rfl (.inr rfl) (pe_cal c_take_L hr (by decide) (by rfl) (pa_cons (pv 0) (pa_cons pe_int pa_nil))))
    (pss_cons (ps_set (i := 6) sc_names_L.nd rfl (.inr rfl) (pe_lstB (pa_cons pe_str (pa_cons pe_str (pa_cons pe_str pa_nil)))))
    (pss_cons (ps_set (i := 7) sc_names_L.nd rfl (.inr rfl) (pe_lc (own := [("_law_k", 8)]) rfl sc_names_L.nd (pi_range1 (by rfl) T.m_range (pa_cons (pv 1) pa_nil)) (blkOk_by (N := ["_law_box_here", "_law_size", "_law_small", "_law_stem", "_law_place", "_law_shift", "_law_tails", "_law_some", "_law_k", "_law_turn"]) (sc := defScope s_names_L) (by decide +kernel)) (fun _ _ _ _ _ => (pg_name (i := 8) sc_names_L.nd rfl (.inl rfl))) (fun _ _ _ _ _ => pts_nil) (fun _ _ _ _ _ => (pe_op op_add_str (pe_op op_add_str (pe_slice sl_str (pv 3) po_none (po_some (pv 4))) (pe_ix ix_str (pv 2) (pe_op op_mod (pe_op op_add (pv 5) (pe_op op_mulW pe_int (pv 8))) pe_int) (fun _ _ => rfl))) (pe_slice sl_str (pv 3) (po_some (pv 4)) po_none)))))
    (pss_one (ps_ret (pe_lc (own := [("_law_k", 8)]) rfl sc_names_L.nd (pi_range1 (by rfl) T.m_range (pa_cons (pv 1) pa_nil)) (blkOk_by (N := ["_law_box_here", "_law_size", "_law_small", "_law_stem", "_law_place", "_law_shift", "_law_tails", "_law_some", "_law_k", "_law_turn"]) (sc := defScope s_names_L) (by decide +kernel)) (fun _ _ _ _ _ => (pg_name (i := 8) sc_names_L.nd rfl (.inl rfl))) (fun _ _ _ _ _ => pts_nil) (fun _ _ _ _ _ => (pe_op op_add_str (pe_ix (ix_listK (K := K) rfl) (pv 7) (pv 8) (fun _ _ => rfl)) (pe_ix (ix_listK (K := K) rfl) (pv 6) (pe_op op_mod (pe_op op_add (pv 5) (pv 8)) pe_int) (fun _ _ => rfl))))))))))))), ?_⟩)
  · obtain ⟨bx, n, rfl, _⟩ := h
    rfl
  · obtain ⟨bx, n, rfl, hB, hn, q⟩ := h
    have hsg : (Str.ofString "abcdefghijklmnopqrstuvwxyz").length = 26 := by decide +kernel
    have hsl : ((Str.ofString "abcdefghijklmnopqrstuvwxyz").cps.toList.length : Int) = 26 := by decide +kernel
    walk_at "go"
    refine ⟨⟨_, rfl⟩, ?_⟩
    refine lcDrawT (s := 6) (fun v => ∃ y, v = .str y ∧ one1 y) hB (by omega) (by decide) (by decide) rfl (fun _ => rfl) (fun i k H1 Q' hk hB1 kk => ?_) fun D H1 xs nD b1 hB1 e1 l1 p1 => ?_
    · walk_at "go"
      refine r_take hB1 (fun d H2 h0 h1 hB2 b2 => ?_) (by omega)
      refine r_ixS h0 (by rw [hsl]; exact h1) (by rw [hsg]; decide) fun c hc => ?_
      exact kk _ H2 ⟨_, rfl, sign_ok (signs_low c (List.mem_of_getElem? hc))⟩ hB2 b2
    obtain ⟨ys, rfl, ly, hys⟩ := strs_of p1
    rw [← ly] at l1
    have he0 : (Str.ofString "").length = 0 := by decide +kernel
    refine ⟨_, D, ys, rfl, rfl, .inl (sqL e1), by rw [sum1 hys, he0]; omega, ?_⟩
    obtain ⟨jl, jn⟩ : lowS (Txt.join (Str.ofString "") ys) ∧ (Txt.join (Str.ofString "") ys).length ≤ 5 := by
      cases ys with
      | nil => exact ⟨fun c hc => (nomatch hc), Nat.zero_le _⟩
      | cons y r =>
        obtain ⟨a, b⟩ := join_low hys (by rw [List.length_cons]; omega)
        exact ⟨a, by rw [b]; omega⟩
    generalize Txt.join (Str.ofString "") ys = stem at jl jn ⊢
    walk_at "go"
    refine ⟨stem, rfl, by rw [sizeLine_eq]; omega, ?_⟩
    walk_at "go"
    refine r_take hB1 (fun d1 H2 h01 h11 hB2 b2 => ?_) (by simp; omega) (by omega) (by omega)
    obtain ⟨pl, rfl⟩ := Int.eq_ofNat_of_zero_le h01
    have pll : pl ≤ stem.length := by omega
    walk_at "go"
    refine r_take hB2 (fun d2 H3 h02 h12 hB3 b3 => ?_) (by simp; omega)
    obtain ⟨sh, rfl⟩ := Int.eq_ofNat_of_zero_le h02
    walk_at "go"
    refine newLB fun ta H4 n4 g4 s4 e4 => ?_
    walk_at "go"
    have hB4 := hB3.same s4
    refine lcRangeP (n := 8) (fun k => V.str (cutS stem none (some (pl : Nat)) ++ ⟨#[(Str.ofString "abcdefghijklmnopqrstuvwxyz").cps.toList.getD ((sh + 7 * k) % 26) 0]⟩ ++ cutS stem (some (pl : Nat)) none)) (by decide) (fun R h => ⟨_, rfl, h⟩) (fun _ => rfl) (fun k G Q' hk sG kk => ?_) fun D2 G nD2 sG eG => ?_
    · walk_at "go"
      have c1 := cut_pre (z := stem) (m := (pl : Nat)) (by omega)
      have c2 := cut_suf (z := stem) (m := (pl : Nat)) (by omega)
      refine ⟨stem, rfl, by rw [sizeLine_eq]; omega, ?_⟩
      walk_at "go"
      refine r_I (cmul (by decide) (by decide) (by omega) (by omega)) ?_
      walk_at "go"
      refine r_I (by decide) ?_
      have m0 : 0 ≤ ((sh : Int) + 7 * (k : Nat)) % 26 := Int.emod_nonneg _ (by decide)
      have m1 : ((sh : Int) + 7 * (k : Nat)) % 26 < 26 := Int.emod_lt_of_pos _ (by decide)
      have mt : (((sh : Int) + 7 * (k : Nat)) % 26).toNat = (sh + 7 * k) % 26 := by omega
      refine r_ixS m0 (by rw [hsl]; exact m1) (by rw [hsg]; decide) fun c hc => ?_
      rw [mt] at hc
      have hcd : (Str.ofString "abcdefghijklmnopqrstuvwxyz").cps.toList.getD ((sh + 7 * k) % 26) 0 = c := by
        rw [List.getD_eq_getElem?_getD, hc]
        rfl
      have hl1 : (⟨#[c]⟩ : Str).length = 1 := rfl
      refine ⟨_, _, rfl, rfl, by rw [c1, hl1, sizeLine_eq]; omega, ?_⟩
      walk_at "go"
      refine ⟨stem, rfl, by rw [sizeLine_eq]; omega, ?_⟩
      refine ⟨_, _, rfl, rfl, by rw [str_len_add, c1, c2, hl1, sizeLine_eq]; omega, ?_⟩
      have w := kk G (Same.refl _)
      rw [hcd] at w
      exact w
    · walk_at "go"
      have e4G := sG _ _ e4
      refine lcRangeP (n := 8) (fun k => V.str (nmS stem pl sh k)) (by decide) (fun R h => ⟨_, rfl, h⟩) (fun _ => rfl) (fun k G2 Q' hk sG2 kk => ?_) fun D3 G2 nD3 sG2 eG2 => ?_
      · walk_at "go"
        refine r_ixL (sqL (sG2 _ _ eG)) (v := .str (cutS stem none (some (pl : Nat)) ++ ⟨#[letter ((sh + 7 * k) % 26)]⟩ ++ cutS stem (some (pl : Nat)) none)) (atI_nat (j := k) (by rw [List.getElem?_map, List.getElem?_range hk]; rfl)) ?_
        walk_at "go"
        refine r_I (by decide) ?_
        have mt : ((sh : Int) + (k : Nat)) % 3 = (((sh + k) % 3 : Nat) : Int) := by omega
        rw [mt]
        have m3 : (sh + k) % 3 < 3 := Nat.mod_lt _ (by decide)
        have w := kk G2 (Same.refl _)
        have hnm : nmS stem pl sh k = cutS stem none (some (pl : Nat)) ++ ⟨#[letter ((sh + 7 * k) % 26)]⟩ ++ cutS stem (some (pl : Nat)) none ++ tailS ((sh + k) % 3) := rfl
        rw [hnm] at w
        have t2 := (tail_ok (j := (sh + k) % 3)).2
        generalize (sh + k) % 3 = j3 at m3 w t2 ⊢
        refine r_ixL (sqL (sG2 _ _ e4G)) (v := .str (tailS j3)) (atI_nat (j := j3) (by
          obtain rfl | rfl | rfl : j3 = 0 ∨ j3 = 1 ∨ j3 = 2 := by omega
          · rfl
          · rfl
          · rfl)) ?_
        have c1 := cut_pre (z := stem) (m := (pl : Nat)) (by omega)
        have c2 := cut_suf (z := stem) (m := (pl : Nat)) (by omega)
        have l1 : ∀ c, (⟨#[c]⟩ : Str).length = 1 := fun _ => rfl
        exact ⟨_, _, rfl, rfl, by rw [str_len_add, str_len_add, c1, c2, l1, sizeLine_eq]; omega, w⟩
      · have bb : But bx H G2 := fun b o nb eb => sG2 _ _ (sG _ _ (s4 _ _ (b3 _ _ nb (b2 _ _ nb (b1 _ _ nb eb)))))
        have hBf : Box bx (n + 8) G2 := by
          refine Box.mono ((hB4.same sG).same sG2) ?_
          simp
        have nb3 : D3 ≠ bx := (hB4.same sG).ne nD3
        refine q D3 G2 ((List.range 8).map fun i => nmS stem pl sh i) ?_ bb hBf (by rw [List.map_map]; exact eG2) rfl (fun x hx => ?_) ?_
        · cases z : H D3 with
          | none => rfl
          | some u =>
            have w := sG _ _ (s4 _ _ (b3 _ _ nb3 (b2 _ _ nb3 (b1 _ _ nb3 z))))
            rw [w] at nD3
            exact nomatch nD3
        · obtain ⟨i, _, rfl⟩ := List.mem_map.mp hx
          exact nm_ok jl jn pll
        · refine List.pairwise_map.mpr (List.pairwise_iff_getElem.mpr fun i j hi hj lt => ?_)
          rw [List.length_range] at hi hj
          rw [List.getElem_range, List.getElem_range]
          exact nm_ne pll hi hj (Nat.ne_of_lt lt)
end
end K25

namespace K25
open PySem PySem.Spec PyProof.Rows L2 Bk


theorem gen_upd {R : Hp → Prop} {H : Hp} {y : Addr} {v : HO} (h : ∀ H', But y H H' → H' y = some v → R H') : R (upd H y v) := h _ (fun b u nb eb => by rw [upd_ne nb]; exact eb) upd_same
theorem gen_new {R : Hp → Prop} {H : Hp} {y : Addr} {v : HO} (n : H y = none) (h : ∀ H', Same H H' → H' y = some v → R H') : R (upd H y v) := h _ (same_upd n) upd_same
theorem gen_newQ {R : Hp → VK → Prop} {Q : VK} {H : Hp} {y : Addr} {v : HO} (n : H y = none) (h : ∀ H', Same H H' → H' y = some v → R H' Q) : R (upd H y v) Q := h _ (same_upd n) upd_same
theorem putF_fl {f g : Str} {v : V} {fs : List (Str × V)} (h : (g == f) = false) : (putF f v fs).lookup g = fs.lookup g := by
  rw [lookup_putF, if_neg (beq_eq_false_iff_ne.mp h)]
theorem putF_fs {f : Str} {v : V} {fs : List (Str × V)} : (putF f v fs).lookup f = some v := by
  rw [lookup_putF, if_pos rfl]
section
variable {P : Program} {w : World} {K : PySem.W.Frag} {mg : Str → Option Value} {base : Heap} {A : Ad}
theorem ok_passed {f : Addr} {fd : FuncData} (F : Fun K "passed" "Shares.passed" s_Shares_passed f fd) (T : Txt K mg A) : FnOk P w K mg base CX0 1 f fd ["self"] (spPassed A) := by
  refine F.ok sc_Shares_passed (fun vs H Q E h => ?_) (fun cdv A' outer s H vs Q E hr h => have hu65 := units65 hr; have hu64 := hr.units; have hu := units1 hr; ⟨_, (pss_one (ps_ret (pe_fld (pv 0) rfl))), ?_⟩)
  · obtain ⟨S, P, rfl, _⟩ := h
    rfl
  · obtain ⟨S, P, rfl, hS, q⟩ := h
    obtain ⟨dx, fs, e, fL, fT, fC, fU, fP, fD, fn⟩ := hS.ob
    walk_at "go"
    exact ⟨_, rfl, S.o, A.CS, dx, fs, _, rfl, e, T.cl_Shares, T.na_passed, fP, q⟩
theorem ok_ceiling {f : Addr} {fd : FuncData} (F : Fun K "ceiling" "Shares.ceiling" s_Shares_ceiling f fd) (T : Txt K mg A) (c_check_guest : CalX P w K mg base 4 "check_guest" spCkGuest) : FnOk P w K mg base (L2.CX P w) 5 f fd ["self", "name"] (spCeil A) := by
  refine F.okX sc_Shares_ceiling (fun vs H Q E h => ?_) (fun cdv A' outer s H vs Q E hr h => have hu := units1 hr; ⟨_, (pss_cons (ps_expr (pe_calX c_check_guest hr (by decide) (by rfl) (takes_of rfl rfl rfl rfl) (pa_cons (pv 1) (pa_cons (pe_fld (pv 0) rfl) pa_nil))))
    (pss_one (ps_ret (pe_ix ix_tup (pe_dget hu (pe_fld (pv 0) rfl) (pv 1) (fun _ _ => rfl)) pe_int (fun _ _ => rfl))))), ?_⟩)
  · obtain ⟨S, P, x, rfl, _⟩ := h
    rfl
  · obtain ⟨S, P, x, rfl, hS, hx, q⟩ := h
    obtain ⟨dx, fs, e, fL, fT, fC, fU, fP, fD, fn⟩ := hS.ob
    obtain ⟨tt, et, ht⟩ := hS.told
    walk_at "go"
    refine ⟨_, rfl, S.o, A.CS, dx, fs, _, rfl, e, T.cl_Shares, T.na_told, fT, ?_⟩
    walk_at "go"
    refine ⟨x, S.dt, P.G, _, rfl, hS.ok.nm x hx, et, hx, fun H1 s1 => ?_⟩
    walk_at "go"
    refine ⟨_, rfl, S.o, A.CS, dx, fs, _, rfl, s1 _ _ e, T.cl_Shares, T.na_told, fT, ?_⟩
    walk_at "go"
    refine ⟨S.dt, _, rfl, .inl ⟨_, .inr x, .inl (s1 _ _ et), rfl, (by rw [dicF_get, if_pos hx])⟩, ?_⟩
    walk_at "go"
    refine r_ixT (sqT (s1 _ _ (ht x hx))) (v := .int (P.ce x)) rfl ?_
    exact q _ s1
theorem ok_used {f : Addr} {fd : FuncData} (F : Fun K "used" "Shares.used" s_Shares_used f fd) (T : Txt K mg A) (c_check_guest : CalX P w K mg base 4 "check_guest" spCkGuest) : FnOk P w K mg base (L2.CX P w) 5 f fd ["self", "name"] (spUsed A) := by
  refine F.okX sc_Shares_used (fun vs H Q E h => ?_) (fun cdv A' outer s H vs Q E hr h => have hu := units1 hr; ⟨_, (pss_cons (ps_expr (pe_calX c_check_guest hr (by decide) (by rfl) (takes_of rfl rfl rfl rfl) (pa_cons (pv 1) (pa_cons (pe_fld (pv 0) rfl) pa_nil))))
    (pss_one (ps_ret (pe_dget hu (pe_fld (pv 0) rfl) (pv 1) (fun _ _ => rfl))))), ?_⟩)
  · obtain ⟨S, P, x, rfl, _⟩ := h
    rfl
  · obtain ⟨S, P, x, rfl, hS, hx, q⟩ := h
    obtain ⟨dx, fs, e, fL, fT, fC, fU, fP, fD, fn⟩ := hS.ob
    obtain ⟨tt, et, ht⟩ := hS.told
    walk_at "go"
    refine ⟨_, rfl, S.o, A.CS, dx, fs, _, rfl, e, T.cl_Shares, T.na_told, fT, ?_⟩
    walk_at "go"
    refine ⟨x, S.dt, P.G, _, rfl, hS.ok.nm x hx, et, hx, fun H1 s1 => ?_⟩
    walk_at "go"
    refine ⟨_, rfl, S.o, A.CS, dx, fs, _, rfl, s1 _ _ e, T.cl_Shares, T.na_used, fU, ?_⟩
    walk_at "go"
    refine ⟨S.du, _, rfl, .inl ⟨_, .inr x, .inl (s1 _ _ hS.used), rfl, (by rw [dicF_get, if_pos hx])⟩, ?_⟩
    exact q _ s1
theorem ok_counting {f : Addr} {fd : FuncData} (F : Fun K "counting" "Shares.counting" s_Shares_counting f fd) (T : Txt K mg A) (c_check_guest : CalX P w K mg base 4 "check_guest" spCkGuest) : FnOk P w K mg base (L2.CX P w) 5 f fd ["self", "name"] (spCounting A) := by
  refine F.okX sc_Shares_counting (fun vs H Q E h => ?_) (fun cdv A' outer s H vs Q E hr h => have hu := units1 hr; ⟨_, (pss_cons (ps_expr (pe_calX c_check_guest hr (by decide) (by rfl) (takes_of rfl rfl rfl rfl) (pa_cons (pv 1) (pa_cons (pe_fld (pv 0) rfl) pa_nil))))
    (pss_one (ps_ret (pe_dget hu (pe_fld (pv 0) rfl) (pv 1) (fun _ _ => rfl))))), ?_⟩)
  · obtain ⟨S, P, x, rfl, _⟩ := h
    rfl
  · obtain ⟨S, P, x, rfl, hS, hx, q⟩ := h
    obtain ⟨dx, fs, e, fL, fT, fC, fU, fP, fD, fn⟩ := hS.ob
    obtain ⟨tt, et, ht⟩ := hS.told
    obtain ⟨tc, ec, hc⟩ := hS.cts
    walk_at "go"
    refine ⟨_, rfl, S.o, A.CS, dx, fs, _, rfl, e, T.cl_Shares, T.na_told, fT, ?_⟩
    walk_at "go"
    refine ⟨x, S.dt, P.G, _, rfl, hS.ok.nm x hx, et, hx, fun H1 s1 => ?_⟩
    walk_at "go"
    refine ⟨_, rfl, S.o, A.CS, dx, fs, _, rfl, s1 _ _ e, T.cl_Shares, T.na_counts, fC, ?_⟩
    walk_at "go"
    refine ⟨S.dc, _, rfl, .inl ⟨_, .inr x, .inl (s1 _ _ ec), rfl, (by rw [dicF_get, if_pos hx])⟩, ?_⟩
    exact q _ _ s1 (s1 _ _ (hc x hx))
theorem ok_twinS {f : Addr} {fd : FuncData} (F : Fun K "twin" "Shares.twin" s_Shares_twin f fd) (T : Txt K mg A) (c_Shares_init : CalC P w K mg base (L2.CX P w) 5 A.CS "Shares" (spInitS A)) : FnOk P w K mg base (L2.CX P w) 7 f fd ["self"] (spTwin A) := by
  refine F.okX sc_Shares_twin (fun vs H Q E h => ?_) (fun cdv A' outer s H vs Q E hr h => have hu65 := units65 hr; have hu64 := hr.units; have hu := units1 hr; ⟨_, (pss_cons (ps_set (i := 1) sc_Shares_twin.nd rfl (.inl rfl) (pe_mk c_Shares_init hr (by decide) (by rfl) (psX (takes_of rfl rfl rfl rfl)) (pa_cons (pe_fld (pv 0) rfl) pa_nil)))
    (pss_cons (ps_fld (pv 1) (pe_callTy call_dictD (by rfl) T.m_dict (by decide +kernel) (pa_cons (pe_fld (pv 0) rfl) pa_nil)) rfl)
    (pss_cons (ps_fld (pv 1) (pe_callTy call_dictD (by rfl) T.m_dict (by decide +kernel) (pa_cons (pe_fld (pv 0) rfl) pa_nil)) rfl)
    (pss_cons (ps_fld (pv 1) (pe_callTy call_dictD (by rfl) T.m_dict (by decide +kernel) (pa_cons (pe_fld (pv 0) rfl) pa_nil)) rfl)
    (pss_cons (ps_fld (pv 1) (pe_fld (pv 0) rfl) rfl)
    (pss_cons (ps_fld (pv 1) (pe_callTy call_list_of (by rfl) T.m_list (by decide +kernel) (pa_cons (pe_fld (pv 0) rfl) pa_nil)) rfl)
    (pss_one (ps_ret (pv 1))))))))), ?_⟩)
  · obtain ⟨S, P, rfl, _⟩ := h
    rfl
  · obtain ⟨S, P, rfl, hS, q⟩ := h
    obtain ⟨dx, fs, e, fL, fT, fC, fU, fP, fD, fn⟩ := hS.ob
    obtain ⟨tt, et, ht⟩ := hS.told
    obtain ⟨tc, ec, hc⟩ := hS.cts
    walk_at "go"
    refine ⟨_, rfl, S.o, A.CS, dx, fs, _, rfl, e, T.cl_Shares, T.na_length, fL, ?_⟩
    walk_at "go"
    intro y dy ny ndy ney
    have s0 : Same H (upd (upd H dy (.own y)) y (.ins A.CS dy [])) := fun b o e => by
      rw [upd_ne (ne_of_none e ny), upd_ne (ne_of_none e ndy)]
      exact e
    refine ⟨y, dy, P.L, rfl, hS.ok.l4, hS.ok.l60, upd_same, fun N H1 so b1 fr1 hN => ⟨rfl, ?_⟩⟩
    have s1 : Same H H1 := fun b o e => b1 _ _ (ne_of_none e ny) (s0 _ _ e)
    obtain ⟨dy1, fy, ey, gL, gT, gC, gU, gP, gD, gn⟩ := hN.ob
    rw [so] at ey
    have nyH : ∀ {b : Addr} {u : HO}, H b = some u → b ≠ y := fun eb z => by rw [z, ny] at eb; exact nomatch eb
    have st : ∀ {Ha Hb : Hp}, Same H Ha → But y Ha Hb → Same H Hb := fun s b c u e => b _ _ (nyH e) (s _ _ e)
    clear hN fr1 b1
    walk_at "go"
    refine ⟨_, rfl, S.o, A.CS, dx, fs, _, rfl, s1 _ _ e, T.cl_Shares, T.na_told, fT, ?_⟩
    walk_at "go"
    refine ⟨S.dt, _, rfl, .inl (s1 _ _ et), fun d1 n1 => ?_⟩
    refine gen_newQ n1 fun H2 s2 e1 => ?_
    walk_at "go"
    refine ⟨y, A.CS, dy1, fy, rfl, s2 _ _ ey, T.cl_Shares, T.na_told, by have := gn.1; omega, ?_⟩
    have y1 : d1 ≠ y := (ne_of_none ey n1).symm
    have m1 : H d1 = none := s1.free n1
    refine gen_upd fun H3 b3 ey3 => ?_
    have s3 := st (s1.trans s2) b3
    have e1 := b3 _ _ y1 e1
    have l3 := putF_old (v := .ref d1) gT
    have g3C := (putF_fl (v := V.ref d1) (f := ("_told" : Str)) (by decide +kernel)).trans gC
    have g3U := (putF_fl (v := V.ref d1) (f := ("_told" : Str)) (by decide +kernel)).trans gU
    have g3P := (putF_fl (v := V.ref d1) (f := ("_told" : Str)) (by decide +kernel)).trans gP
    have g3D := (putF_fl (v := V.ref d1) (f := ("_told" : Str)) (by decide +kernel)).trans gD
    walk_at "go"
    refine ⟨_, rfl, S.o, A.CS, dx, fs, _, rfl, s3 _ _ e, T.cl_Shares, T.na_counts, fC, ?_⟩
    walk_at "go"
    refine ⟨S.dc, _, rfl, .inl (s3 _ _ ec), fun d2 n2 => ?_⟩
    refine gen_newQ n2 fun H4 s4 e2 => ?_
    walk_at "go"
    refine ⟨y, A.CS, dy1, _, rfl, s4 _ _ ey3, T.cl_Shares, T.na_counts, by have := gn.1; omega, ?_⟩
    have y2 : d2 ≠ y := (ne_of_none ey3 n2).symm
    have m2 : H d2 = none := s3.free n2
    have n12 : d1 ≠ d2 := ne_of_none e1 n2
    refine gen_upd fun H5 b5 ey5 => ?_
    have s5 := st (s3.trans s4) b5
    have e1 := b5 _ _ y1 (s4 _ _ e1)
    have e2 := b5 _ _ y2 e2
    have l5 := putF_old (v := .ref d2) g3C
    have g5U := (putF_fl (v := V.ref d2) (f := ("_counts" : Str)) (by decide +kernel)).trans g3U
    have g5P := (putF_fl (v := V.ref d2) (f := ("_counts" : Str)) (by decide +kernel)).trans g3P
    have g5D := (putF_fl (v := V.ref d2) (f := ("_counts" : Str)) (by decide +kernel)).trans g3D
    walk_at "go"
    refine ⟨_, rfl, S.o, A.CS, dx, fs, _, rfl, s5 _ _ e, T.cl_Shares, T.na_used, fU, ?_⟩
    walk_at "go"
    refine ⟨S.du, _, rfl, .inl (s5 _ _ hS.used), fun d3 n3 => ?_⟩
    refine gen_newQ n3 fun H6 s6 e3 => ?_
    walk_at "go"
    refine ⟨y, A.CS, dy1, _, rfl, s6 _ _ ey5, T.cl_Shares, T.na_used, by have := gn.1; omega, ?_⟩
    have y3 : d3 ≠ y := (ne_of_none ey5 n3).symm
    have m3 : H d3 = none := s5.free n3
    have n13 : d1 ≠ d3 := ne_of_none e1 n3
    have n23 : d2 ≠ d3 := ne_of_none e2 n3
    refine gen_upd fun H7 b7 ey7 => ?_
    have s7 := st (s5.trans s6) b7
    have e1 := b7 _ _ y1 (s6 _ _ e1)
    have e2 := b7 _ _ y2 (s6 _ _ e2)
    have e3 := b7 _ _ y3 e3
    have l7 := putF_old (v := .ref d3) g5U
    have g7P := (putF_fl (v := V.ref d3) (f := ("_used" : Str)) (by decide +kernel)).trans g5P
    have g7D := (putF_fl (v := V.ref d3) (f := ("_used" : Str)) (by decide +kernel)).trans g5D
    walk_at "go"
    refine ⟨_, rfl, S.o, A.CS, dx, fs, _, rfl, s7 _ _ e, T.cl_Shares, T.na_passed, fP, ?_⟩
    walk_at "go"
    refine ⟨y, A.CS, dy1, _, rfl, ey7, T.cl_Shares, T.na_passed, by have := gn.1; omega, ?_⟩
    refine gen_upd fun H8 b8 ey8 => ?_
    have s8 := st s7 b8
    have e1 := b8 _ _ y1 e1
    have e2 := b8 _ _ y2 e2
    have e3 := b8 _ _ y3 e3
    have l8 := putF_old (v := .int P.ps) g7P
    have g8D := (putF_fl (v := V.int P.ps) (f := ("_passed" : Str)) (by decide +kernel)).trans g7D
    walk_at "go"
    refine ⟨_, rfl, S.o, A.CS, dx, fs, _, rfl, s8 _ _ e, T.cl_Shares, T.na_dealt, fD, ?_⟩
    walk_at "go"
    refine ⟨S.dl, _, rfl, .inl (sqL (s8 _ _ hS.dlt)), fun d5 n5 => ?_⟩
    refine gen_newQ n5 fun H9 s9 e5 => ?_
    walk_at "go"
    refine ⟨y, A.CS, dy1, _, rfl, s9 _ _ ey8, T.cl_Shares, T.na_dealt, by have := gn.1; omega, ?_⟩
    have y5 : d5 ≠ y := (ne_of_none ey8 n5).symm
    have m5 : H d5 = none := s8.free n5
    refine gen_upd fun HA bA eyA => ?_
    have sA := st (s8.trans s9) bA
    have e1 := bA _ _ y1 (s9 _ _ e1)
    have e2 := bA _ _ y2 (s9 _ _ e2)
    have e3 := bA _ _ y3 (s9 _ _ e3)
    have e5 := bA _ _ y5 e5
    have lA := putF_old (v := .ref d5) g8D
    walk_at "go"
    refine q ⟨y, d1, d2, d3, d5⟩ HA sA (fun b hb => ?_) ⟨⟨dy1, _, eyA, ?_, ?_, ?_, ?_, ?_, ?_, by rw [lA, l8, l7, l5, l3]; exact gn.1, fun m h1 h2 h3 h4 h5 h6 => ?_⟩, ⟨tt, e1, fun x hx => sA _ _ (ht x hx)⟩, ⟨tc, e2, fun x hx => sA _ _ (hc x hx)⟩, e3, e5, n12, n13, n23, hS.ok⟩
    · rcases hb with z | z | z | z | z <;> rw [z] <;> assumption
    · exact (putF_fl (by decide +kernel)).trans ((putF_fl (by decide +kernel)).trans ((putF_fl (by decide +kernel)).trans ((putF_fl (by decide +kernel)).trans ((putF_fl (by decide +kernel)).trans gL))))
    · exact (putF_fl (by decide +kernel)).trans ((putF_fl (by decide +kernel)).trans ((putF_fl (by decide +kernel)).trans ((putF_fl (by decide +kernel)).trans putF_fs)))
    · exact (putF_fl (by decide +kernel)).trans ((putF_fl (by decide +kernel)).trans ((putF_fl (by decide +kernel)).trans putF_fs))
    · exact (putF_fl (by decide +kernel)).trans ((putF_fl (by decide +kernel)).trans putF_fs)
    · exact (putF_fl (by decide +kernel)).trans putF_fs
    · exact putF_fs
    · exact (putF_fl h6).trans ((putF_fl h5).trans ((putF_fl h4).trans ((putF_fl h3).trans ((putF_fl h2).trans (gn.2 m h1 h2 h3 h4 h5 h6)))))
end
end K25

namespace K25
open PySem PySem.Spec PyProof.Rows L2 Bk


/-! ### moving among the heaps -/
theorem Sh.stay {C : Addr} {H H' : Hp} {S : Sa} {P : Ps} (h : Sh C H S P) (s : ∀ b u, S.own b → H b = some u → H' b = some u) (nt : ∀ a xs, H a = some (.tup xs) → H' a = some (.tup xs)) : Sh C H' S P := by
  obtain ⟨dx, fs, e, r⟩ := h.ob
  exact ⟨⟨dx, fs, s _ _ (.inl rfl) e, r⟩, h.told.keep (fun u z => s _ _ (.inr (.inl rfl)) z) nt, h.cts.keep (fun u z => s _ _ (.inr (.inr (.inl rfl))) z) nt, s _ _ (.inr (.inr (.inr (.inl rfl)))) h.used, s _ _ (.inr (.inr (.inr (.inr rfl)))) h.dlt, h.n1, h.n2, h.n3, h.ok⟩
theorem Sh.but {C : Addr} {H H' : Hp} {S : Sa} {P : Ps} {bx : Addr} {n : Nat} (h : Sh C H S P) (b : But bx H H') (hB : Box bx n H) (no : ¬ S.own bx) : Sh C H' S P := h.stay (fun c u o z => b _ _ (fun q => no (by rw [← q]; exact o)) z) fun a xs z => b _ _ (hB.ne_tup z) z
theorem Sh.upd1 {C : Addr} {H : Hp} {S : Sa} {P : Ps} {b : Addr} {u v : HO} (h : Sh C H S P) (e : H b = some u) (nt : ∀ xs, u ≠ .tup xs) (no : ¬ S.own b) : Sh C (upd H b v) S P :=
  h.stay (fun c w o z => by rw [upd_ne (fun q => no (by rw [← q]; exact o))]; exact z) fun a xs z => by rw [upd_ne (ne_ct z e (fun q => nt xs q.symm))]; exact z
theorem Sh.nown {C : Addr} {H : Hp} {S : Sa} {P : Ps} (h : Sh C H S P) {g : Addr} (n1 : H g = none) : ¬ S.own g := fun z => by
  obtain ⟨dx, fs, e, r⟩ := h.ob
  rcases z with z | z | z | z | z
  · rw [z, e] at n1; exact nomatch n1
  · obtain ⟨_, w, _⟩ := h.told; rw [z, w] at n1; exact nomatch n1
  · obtain ⟨_, w, _⟩ := h.cts; rw [z, w] at n1; exact nomatch n1
  · rw [z, h.used] at n1; exact nomatch n1
  · rw [z, h.dlt] at n1; exact nomatch n1
theorem Sh.ntup {C : Addr} {H : Hp} {S : Sa} {P : Ps} (h : Sh C H S P) {g : Addr} {xs : List V} (n1 : H g = some (.tup xs)) : ¬ S.own g := fun z => by
  obtain ⟨dx, fs, e, r⟩ := h.ob
  rcases z with z | z | z | z | z
  · rw [z, e] at n1; exact nomatch n1
  · obtain ⟨_, w, _⟩ := h.told; rw [z, w] at n1; exact nomatch n1
  · obtain ⟨_, w, _⟩ := h.cts; rw [z, w] at n1; exact nomatch n1
  · rw [z, h.used] at n1; exact nomatch n1
  · rw [z, h.dlt] at n1; exact nomatch n1
/-! ### the law's own model -/
def mdD (l : Nat) (g : Addr) (p : Nat) (d : Addr) : List (Key × V) := [((Sum.inr (Str.ofString "length") : Key), .int l), (.inr "guests", .ref g), (.inr "passed", .int p), (.inr "dealt", .ref d)]
theorem kn1 : (Sum.inr (Str.ofString "length") : Key) ≠ .inr (Str.ofString "guests") := by decide +kernel
theorem kn2 : (Sum.inr (Str.ofString "length") : Key) ≠ .inr (Str.ofString "passed") := by decide +kernel
theorem kn3 : (Sum.inr (Str.ofString "length") : Key) ≠ .inr (Str.ofString "dealt") := by decide +kernel
theorem kn4 : (Sum.inr (Str.ofString "guests") : Key) ≠ .inr (Str.ofString "passed") := by decide +kernel
theorem kn5 : (Sum.inr (Str.ofString "guests") : Key) ≠ .inr (Str.ofString "dealt") := by decide +kernel
theorem kn6 : (Sum.inr (Str.ofString "passed") : Key) ≠ .inr (Str.ofString "dealt") := by decide +kernel
section
variable {l p q : Nat} {g d : Addr}
theorem md_l : valV (mdD l g p d) (.inr "length" : Key) = some (.int l) := valV_pos rfl
theorem md_g : valV (mdD l g p d) (.inr "guests" : Key) = some (.ref g) := (valV_neg kn1).trans (valV_pos rfl)
theorem md_p : valV (mdD l g p d) (.inr "passed" : Key) = some (.int p) := (valV_neg kn2).trans ((valV_neg kn4).trans (valV_pos rfl))
theorem md_d : valV (mdD l g p d) (.inr "dealt" : Key) = some (.ref d) := (valV_neg kn3).trans ((valV_neg kn5).trans ((valV_neg kn6).trans (valV_pos rfl)))
theorem md_new : mergeK [] (mdD l g p d) = mdD l g p d := by
  show putK (putK (putK (putK ([] : List (Key × V)) (.inr (Str.ofString "length")) (.int l)) (.inr (Str.ofString "guests")) (.ref g)) (.inr (Str.ofString "passed")) (.int p)) (.inr (Str.ofString "dealt")) (.ref d) = _
  rw [putK_new (kvs := []) _ rfl, List.nil_append, putK_new _ ((valV_neg kn1).trans rfl), List.singleton_append, putK_new _ ((valV_neg kn2).trans ((valV_neg kn4).trans rfl))]
  show putK [_, _, _] _ _ = _
  rw [putK_new _ ((valV_neg kn3).trans ((valV_neg kn5).trans ((valV_neg kn6).trans rfl)))]
  rfl
theorem md_put : putK (mdD l g p d) (.inr "passed" : Key) (.int q) = mdD l g q d := by
  unfold putK mdD
  rw [if_pos (by rw [List.any_cons, List.any_cons, List.any_cons, decide_eq_true rfl]; simp)]
  show [(if (Sum.inr (Str.ofString "length") : Key) = .inr "passed" then _ else _), (if (Sum.inr (Str.ofString "guests") : Key) = .inr "passed" then _ else _), (if (Sum.inr (Str.ofString "passed") : Key) = .inr "passed" then _ else _), (if (Sum.inr (Str.ofString "dealt") : Key) = .inr "passed" then _ else _)] = _
  rw [if_neg kn2, if_neg kn4, if_pos rfl, if_neg kn6.symm]
end
theorem name_dec {x : Str} {y : Option Str} : decide (kV (.inr x : Key) = nameV y) = decide (some x = y) := by
  refine decide_eq_decide.mpr ?_
  cases y with
  | none => exact ⟨fun z => (nomatch z), fun z => (nomatch z)⟩
  | some y => exact ⟨fun z => by have z : V.str x = V.str y := z; injection z with z; rw [z], fun z => by rw [Option.some.inj z]; rfl⟩
theorem upd_upd {H : Hp} {a : Addr} {u v : HO} : upd (upd H a u) a v = upd H a v := by
  funext b
  by_cases e : b = a
  · rw [e, upd_same, upd_same]
  · rw [upd_ne e, upd_ne e, upd_ne e]
theorem total_sum {f : Str → Nat} : ∀ {G : List Str}, (G.map fun x => ((f x : Nat) : Int)).sum = ((total G f : Nat) : Int)
  | [] => rfl
  | a :: G => by
    have ih := total_sum (f := f) (G := G)
    unfold total at ih ⊢
    rw [List.map_cons, List.sum_cons, List.map_cons, List.sum_cons, ih, Int.natCast_add]
def rowL (P : Ps) (x : Str) : List V := [.int (P.pr x), .int (P.ce x), .int (P.cp x), .int (P.cc x), .int (P.us x)]
def rowO (P : Ps) (x : Str) : HO := .lst (rowL P x)
theorem rowO_come {P : Ps} {x : Str} {p c : Nat} : rowO (P.come x p c) x = .lst [.int p, .int c, .int (if P.ps = 0 then p else 0 : Nat), .int c, .int 0] := by
  show HO.lst [.int ((setF P.pr x p x : Nat)), .int ((setF P.ce x c x : Nat)), .int ((setF P.cp x (if P.ps = 0 then p else 0) x : Nat)), .int ((setF P.cc x c x : Nat)), .int ((setF P.us x 0 x : Nat))] = _
  rw [setF_same, setF_same, setF_same, setF_same, setF_same]
  rfl
structure Md (H : Hp) (m g d : Addr) (ra : Str → Addr) (P : Ps) : Prop where
  em : H m = some (.dK (mdD P.L g P.ps d))
  eg : H g = some (.dK (dicF P.G fun x => .ref (ra x)))
  ed : H d = some (.lst P.dl)
  el : ∀ x ∈ P.G, H (ra x) = some (rowO P x)
  inj : ∀ x ∈ P.G, ∀ y ∈ P.G, ra x = ra y → x = y
  mg : m ≠ g
  dr : ∀ x ∈ P.G, d ≠ ra x
def Lo (m g d : Addr) (ra : Str → Addr) (G : List Str) (b : Addr) : Prop := b = m ∨ b = g ∨ b = d ∨ ∃ x ∈ G, b = ra x
theorem Lo.sub {m g d : Addr} {ra : Str → Addr} {G G' : List Str} {b : Addr} (h : Lo m g d ra G' b) (s : ∀ y ∈ G', y ∈ G) : Lo m g d ra G b := h.imp id (Or.imp id (Or.imp id fun ⟨x, hx, e⟩ => ⟨x, s x hx, e⟩))
section
variable {H H' : Hp} {m g d : Addr} {ra : Str → Addr} {P P' : Ps}
theorem Md.keep (h : Md H m g d ra P) (s : ∀ b u, Lo m g d ra P.G b → H b = some u → H' b = some u) : Md H' m g d ra P :=
  ⟨s _ _ (.inl rfl) h.em, s _ _ (.inr (.inl rfl)) h.eg, s _ _ (.inr (.inr (.inl rfl))) h.ed, fun x hx => s _ _ (.inr (.inr (.inr ⟨x, hx, rfl⟩))) (h.el x hx), h.inj, h.mg, h.dr⟩
theorem Md.same (h : Md H m g d ra P) (s : Same H H') : Md H' m g d ra P := h.keep fun b u _ e => s _ _ e
theorem Md.md (h : Md H m g d ra P) : m ≠ d := ne_ct h.em h.ed (fun z => nomatch z)
theorem Md.gd (h : Md H m g d ra P) : g ≠ d := ne_ct h.eg h.ed (fun z => nomatch z)
theorem Md.mr (h : Md H m g d ra P) {x : Str} (hx : x ∈ P.G) : m ≠ ra x := ne_ct h.em (h.el x hx) (fun z => by unfold rowO at z; exact nomatch z)
theorem Md.gr (h : Md H m g d ra P) {x : Str} (hx : x ∈ P.G) : g ≠ ra x := ne_ct h.eg (h.el x hx) (fun z => by unfold rowO at z; exact nomatch z)
theorem Md.nlo (h : Md H m g d ra P) {b : Addr} (e : H b = none) : ¬ Lo m g d ra P.G b := fun z => by
  rcases z with z | z | z | ⟨x, hx, z⟩
  · rw [z, h.em] at e; exact nomatch e
  · rw [z, h.eg] at e; exact nomatch e
  · rw [z, h.ed] at e; exact nomatch e
  · rw [z, h.el x hx] at e; exact nomatch e
theorem Md.ntup (h : Md H m g d ra P) {b : Addr} {xs : List V} (e : H b = some (.tup xs)) : ¬ Lo m g d ra P.G b := fun z => by
  rcases z with z | z | z | ⟨x, hx, z⟩
  · rw [z, h.em] at e; exact nomatch e
  · rw [z, h.eg] at e; exact nomatch e
  · rw [z, h.ed] at e; exact nomatch e
  · rw [z, h.el x hx] at e; exact nomatch e
theorem Md.has (h : Md H m g d ra P) {b : Addr} (z : Lo m g d ra P.G b) : ∃ u, H b = some u := by
  rcases z with z | z | z | ⟨x, hx, z⟩
  · exact ⟨_, z ▸ h.em⟩
  · exact ⟨_, z ▸ h.eg⟩
  · exact ⟨_, z ▸ h.ed⟩
  · exact ⟨_, z ▸ h.el x hx⟩
theorem Md.congr (h : Md H m g d ra P) (eL : P'.L = P.L) (eG : P'.G = P.G) (ep : P'.ps = P.ps) (ed : P'.dl = P.dl) (er : ∀ x ∈ P.G, rowO P' x = rowO P x) : Md H m g d ra P' :=
  ⟨by rw [eL, ep]; exact h.em, by rw [eG]; exact h.eg, by rw [ed]; exact h.ed, fun x hx => by rw [eG] at hx; rw [er x hx]; exact h.el x hx, by rw [eG]; exact h.inj, h.mg, by rw [eG]; exact h.dr⟩
theorem Md.row (h : Md H m g d ra P) {x : Str} (hx : x ∈ P.G) (eL : P'.L = P.L) (eG : P'.G = P.G) (ep : P'.ps = P.ps) (ed : P'.dl = P.dl) (er : ∀ y ∈ P.G, y ≠ x → rowO P' y = rowO P y) : Md (upd H (ra x) (rowO P' x)) m g d ra P' := by
  refine ⟨by rw [upd_ne (h.mr hx), eL, ep]; exact h.em, by rw [upd_ne (h.gr hx), eG]; exact h.eg, by rw [upd_ne (h.dr x hx), ed]; exact h.ed, fun y hy => ?_, by rw [eG]; exact h.inj, h.mg, by rw [eG]; exact h.dr⟩
  rw [eG] at hy
  by_cases e : y = x
  · rw [e, upd_same]
  · rw [upd_ne (fun z => e (h.inj y hy x hx z)), er y hy e]
    exact h.el y hy
theorem Md.tick (h : Md H m g d ra P) {q : Nat} : Md (upd H m (.dK (mdD P.L g q d))) m g d ra { P with ps := q } :=
  ⟨upd_same, by rw [upd_ne h.mg.symm]; exact h.eg, by rw [upd_ne h.md.symm]; exact h.ed, fun x hx => by rw [upd_ne (h.mr hx).symm]; exact h.el x hx, h.inj, h.mg, h.dr⟩
theorem Md.app (h : Md H m g d ra P) {v : V} : Md (upd H d (.lst (P.dl ++ [v]))) m g d ra { P with dl := P.dl ++ [v] } :=
  ⟨by rw [upd_ne h.md]; exact h.em, by rw [upd_ne h.gd]; exact h.eg, upd_same, fun x hx => by rw [upd_ne (h.dr x hx).symm]; exact h.el x hx, h.inj, h.mg, h.dr⟩
theorem Md.pop (h : Md H m g d ra P) {x : Str} : Md (upd H g (.dK (dropK (dicF P.G fun x => .ref (ra x)) (.inr x : Key)))) m g d ra (P.go x) := by
  have sub : ∀ y ∈ P.G.filter (fun y => decide (y ≠ x)), y ∈ P.G := fun y hy => (List.mem_filter.mp hy).1
  refine ⟨by rw [upd_ne h.mg]; exact h.em, by rw [upd_same, dicF_drop]; rfl, by rw [upd_ne h.gd.symm]; exact h.ed, fun y hy => ?_, fun y hy z hz => h.inj y (sub y hy) z (sub z hz), h.mg, fun y hy => h.dr y (sub y hy)⟩
  rw [upd_ne (h.gr (sub y hy)).symm]
  exact h.el y (sub y hy)
theorem Md.put (h : Md H m g d ra P) {x : Str} (hx : x ∉ P.G) {a : Addr} {p c : Nat} (ea : H a = some (rowO (P.come x p c) x)) (na : ¬ Lo m g d ra P.G a) :
    Md (upd H g (.dK (putK (dicF P.G fun x => .ref (ra x)) (.inr x : Key) (.ref a)))) m g d (fun y => if y = x then a else ra y) (P.come x p c) := by
  have nx : ∀ {y : Str}, y ∈ P.G → y ≠ x := fun hy z => hx (by rw [← z]; exact hy)
  refine ⟨by rw [upd_ne h.mg]; exact h.em, ?_, by rw [upd_ne h.gd.symm]; exact h.ed, fun y hy => ?_, fun y hy z hz e => ?_, h.mg, fun y hy => ?_⟩
  · rw [upd_same, dicF_put, if_neg hx]
    refine congrArg (fun l => some (HO.dK l)) (dicF_congr fun y _ => ?_)
    by_cases c : y = x
    · rw [if_pos c, if_pos c]
    · rw [if_neg c, if_neg c]
  · rcases List.mem_append.mp hy with w | w
    · rw [if_neg (nx w), upd_ne (h.gr w).symm, h.el y w]
      show some (HO.lst [_, _, _, _, _]) = some (.lst [.int ((setF P.pr x p y : Nat)), .int ((setF P.ce x c y : Nat)), .int ((setF P.cp x (if P.ps = 0 then p else 0) y : Nat)), .int ((setF P.cc x c y : Nat)), .int ((setF P.us x 0 y : Nat))])
      rw [setF_ne (nx w), setF_ne (nx w), setF_ne (nx w), setF_ne (nx w), setF_ne (nx w)]
    · obtain rfl := List.mem_singleton.mp w
      rw [if_pos rfl, upd_ne (fun z => na (.inr (.inl z)))]
      exact ea
  · rcases List.mem_append.mp hy with w | w <;> rcases List.mem_append.mp hz with v | v
    · rw [if_neg (nx w), if_neg (nx v)] at e
      exact h.inj y w z v e
    · obtain rfl := List.mem_singleton.mp v
      rw [if_neg (nx w), if_pos rfl] at e
      exact absurd (.inr (.inr (.inr ⟨y, w, e.symm⟩))) na
    · obtain rfl := List.mem_singleton.mp w
      rw [if_neg (nx v), if_pos rfl] at e
      exact absurd (.inr (.inr (.inr ⟨z, v, e⟩))) na
    · rw [List.mem_singleton.mp w, List.mem_singleton.mp v]
  · rcases List.mem_append.mp hy with w | w
    · rw [if_neg (nx w)]; exact h.dr y w
    · rw [List.mem_singleton.mp w, if_pos rfl]
      exact fun z => na (.inr (.inr (.inl z.symm)))
end
theorem Lo.come {m g d : Addr} {ra : Str → Addr} {P : Ps} {x : Str} {p c : Nat} {a b : Addr} (lo : Lo m g d (fun y => if y = x then a else ra y) (P.come x p c).G b) : b = a ∨ Lo m g d ra P.G b := by
  rcases lo with z | z | z | ⟨y, hy, z⟩
  · exact .inr (.inl z)
  · exact .inr (.inr (.inl z))
  · exact .inr (.inr (.inr (.inl z)))
  · have z : b = if y = x then a else ra y := z
    by_cases e : y = x
    · rw [if_pos e] at z
      exact .inl z
    · rw [if_neg e] at z
      exact .inr (.inr (.inr (.inr ⟨y, (List.mem_append.mp hy).elim id (fun w => absurd (List.mem_singleton.mp w) e), z⟩)))
/-- promises of all but one -/
def tot (P : Ps) (but : Option Str) : Nat := total (P.G.filter fun y => decide (some y ≠ but)) P.pr
def spModel : Sp := fun vs H Q _ => ∃ l : Nat, vs = [.int l] ∧ ∀ m g d ra H', Same H H' → Md H' m g d ra ⟨l, [], fun _ => 0, fun _ => 0, fun _ => 0, fun _ => 0, fun _ => 0, 0, []⟩ → (∀ b, Lo m g d ra [] b → H b = none) → Q (.ref m) H'
def spTogether : Sp := fun vs H Q _ => ∃ (m g d : Addr) (ra : Str → Addr) (P : Ps) (but : Option Str), vs = [.ref m, nameV but] ∧ Md H m g d ra P ∧ P.G.length ≤ 6 ∧ ∀ H', Same H H' → Q (.int (tot P but)) H'
def spComes : Sp := fun vs H Q _ => ∃ (m g d : Addr) (ra : Str → Addr) (P : Ps) (x : Str) (p c : Nat), vs = [.ref m, .str x, .int p, .int c] ∧ Md H m g d ra P ∧ x ∉ P.G ∧ P.G.length ≤ 6 ∧
  ∀ a H', H a = none → Md H' m g d (fun y => if y = x then a else ra y) (P.come x p c) → (∀ b u, H b = some u → ¬ Lo m g d ra P.G b → H' b = some u) → Q .non H'
def spChanges : Sp := fun vs H Q _ => ∃ (m g d : Addr) (ra : Str → Addr) (P : Ps) (x : Str) (p c : Nat), vs = [.ref m, .str x, .int p, .int c] ∧ Md H m g d ra P ∧ x ∈ P.G ∧
  ∀ H', Md H' m g d ra (P.change x p c) → (∀ b u, H b = some u → ¬ Lo m g d ra P.G b → H' b = some u) → Q .non H'
def spGets (K : PySem.W.Frag) : Sp := fun vs H Q _ => ∃ (m g d rl : Addr) (ra : Str → Addr) (P : Ps) (R : List Str), vs = [.ref m, .ref rl] ∧ Md H m g d ra P ∧ H rl = some (.lst (R.map V.str)) ∧ R.length ≤ 12 ∧ P.G.length ≤ 6 ∧ P.Ok ∧ ∀ H', Same H H' → Q (nameV (gets P R)) H'
def spDeals (K : PySem.W.Frag) : Sp := fun vs H Q _ => ∃ (m g d rl : Addr) (ra : Str → Addr) (P : Ps) (R : List Str), vs = [.ref m, .ref rl] ∧ Md H m g d ra P ∧ H rl = some (.lst (R.map V.str)) ∧ R.length ≤ 12 ∧ P.G.length ≤ 6 ∧ P.Ok ∧ P.dl.length < 480 ∧
  ∀ H', Md H' m g d ra (P.deal (nameV (gets P R)) (gets P R)) → (∀ b u, H b = some u → ¬ Lo m g d ra P.G b → H' b = some u) → Q (nameV (gets P R)) H'
def spTwinL : Sp := fun vs H Q _ => ∃ (m g d : Addr) (ra : Str → Addr) (P : Ps), vs = [.ref m] ∧ Md H m g d ra P ∧ P.G.length ≤ 6 ∧ P.G.Nodup ∧ ∀ m' g' d' ra' H', Same H H' → Md H' m' g' d' ra' P → (∀ b, Lo m' g' d' ra' P.G b → H b = none) → Q (.ref m') H'
section
variable {P : Program} {w : World} {K : PySem.W.Frag} {mg : Str → Option Value} {base : Heap} {A : Ad}
theorem ok_model {f : Addr} {fd : FuncData} (F : Fun K "_law_model" "_law_model" s_model_L f fd) (T : Txt K mg A) : FnOk P w K mg base CX0 1 f fd ["_law_stretch"] spModel := by
  refine F.ok sc_model_L (fun vs H Q E h => ?_) (fun cdv A' outer s H vs Q E hr h => have hu65 := units65 hr; have hu64 := hr.units; have hu := units1 hr; ⟨_, (pss_one (ps_ret (pe_disp (pps_cons pe_str (pv 0) (pps_cons pe_str pe_dnewK (pps_cons pe_str pe_int (pps_cons pe_str (pe_lstB pa_nil) pps_nil)))) rfl rfl (by simp) (by decide)))), ?_⟩)
  · obtain ⟨l, rfl, _⟩ := h
    rfl
  · obtain ⟨l, rfl, q⟩ := h
    walk_at "go"
    intro m nm
    unfold tPairs
    walk_at "go"
    unfold tPairs
    walk_at "go"
    intro g ng
    unfold tPairs
    walk_at "go"
    unfold tPairs
    walk_at "go"
    refine newLB fun d H5 n5 g5 s5 e5 => ?_
    have gm : g ≠ m := fun z => by rw [z, upd_same] at ng; exact nomatch ng
    have ng0 : H g = none := by rw [upd_ne gm] at ng; exact ng
    have em := s5 _ _ ((upd_ne (H := upd H m (.dK [])) (o := .dK []) gm.symm).trans upd_same)
    have eg := s5 _ _ (upd_same (H := upd H m (.dK [])) (a := g) (o := .dK []))
    have nd : H d = none := by
      cases z : H d with
      | none => rfl
      | some u =>
        have w := s5 _ _ ((upd_ne (ne_of_none z ng0)).trans ((upd_ne (ne_of_none z nm)).trans z))
        have w2 : upd (upd H m (.dK [])) g (.dK []) d = some u := (upd_ne (ne_of_none z ng0)).trans ((upd_ne (ne_of_none z nm)).trans z)
        rw [w2] at n5
        exact nomatch n5
    unfold tPairs
    refine ⟨em, mdD l g 0 d, rfl, by show 4 ≤ 15; decide, ?_⟩
    rw [md_new]
    have md : m ≠ d := ne_ct em e5 (fun z => nomatch z)
    refine q m g d (fun _ => 0) _ (fun b u eb => ?_) ⟨upd_same, by rw [upd_ne gm]; exact eg, by rw [upd_ne md.symm]; exact e5, fun x hx => (nomatch hx), fun x hx => (nomatch hx), gm.symm, fun x hx => (nomatch hx)⟩ fun b lo => ?_
    · rw [upd_ne (ne_of_none eb nm)]
      exact s5 _ _ ((upd_ne (ne_of_none eb ng0)).trans ((upd_ne (ne_of_none eb nm)).trans eb))
    · rcases lo with z | z | z | ⟨x, hx, _⟩
      · rw [z]; exact nm
      · rw [z]; exact ng0
      · rw [z]; exact nd
      · exact nomatch hx
theorem ok_together {f : Addr} {fd : FuncData} (F : Fun K "_law_together" "_law_together" s_together_L f fd) (T : Txt K mg A) : FnOk P w K mg base CX0 1 f fd ["_law_model_here", "_law_but"] spTogether := by
  refine F.ok sc_together_L (fun vs H Q E h => ?_) (fun cdv A' outer s H vs Q E hr h => have hu65 := units65 hr; have hu64 := hr.units; have hu := units1 hr; ⟨_, (pss_one (ps_ret (pe_callB (cr_sum rfl) (by rfl) T.m_sum (by decide +kernel) (pa_cons (pe_lock (pe_lc (own := [("_law_label", 2), ("_law_row", 3)]) rfl sc_together_L.nd (pi_items (pe_dget hu (pv 0) pe_str (fun _ _ => rfl))) (blkOk_by (N := ["_law_model_here", "_law_but", "_law_label", "_law_row"]) (sc := defScope s_together_L) (by decide +kernel)) (fun _ _ _ _ _ => (pg_tupK (K := K) (n := 2) rfl rfl (pgs_cons (pg_name (i := 2) sc_together_L.nd rfl (.inl rfl)) (pgs_cons (pg_name (i := 3) sc_together_L.nd rfl (.inl rfl)) pgs_nil)))) (fun _ _ _ _ _ => pts_one (pt_cmpR op_ne (pv 2) (pv 1) (nomark _))) (fun _ _ _ _ _ => (pe_ix (ix_listK (K := K) rfl) (pv 3) pe_int (fun _ _ => rfl))))) pa_nil)))), ?_⟩)
  · obtain ⟨m, g, d, ra, P, but, rfl, _⟩ := h
    rfl
  · obtain ⟨m, g, d, ra, P, but, rfl, hM, g6, q⟩ := h
    walk_at "go"
    refine lcItems (fun i => if some (P.G.getD i "") = but then none else some (V.int (P.pr (P.G.getD i "")))) hM.eg (by rw [dicF_len]; omega) (fun od QQ z => ?_) (fun i k y T od H1 Q' R' hk eT ed fr h1 h2 => ?_) fun D H1 nD s1 e1 => ?_
    · exact r_dgT rfl (.inl (by rw [upd_ne hM.mg]; exact hM.em)) md_g z
    · have hi : i < P.G.length := by
        have z := (List.getElem?_eq_some_iff.mp hk).1
        rwa [dicF_len] at z
      unfold dicF at hk
      rw [List.getElem?_map, List.getElem?_eq_getElem hi] at hk
      obtain ⟨rfl, rfl⟩ := Prod.mk.inj (Option.some.inj hk)
      have xG := List.getElem_mem hi
      have em := fr _ _ (hM.gr xG).symm (hM.el _ xG)
      have hg : P.G.getD i "" = P.G[i] := by
        rw [List.getD_eq_getElem?_getD, List.getElem?_eq_getElem hi]
        rfl
      rw [hg] at h1 h2
      refine ⟨_, _, rfl, sqT eT, rfl, ?_⟩
      refine ⟨_, _, rfl, _, _, rfl, rfl, rfl, ?_⟩
      walk_at "go"
      refine ⟨by cases but <;> rfl, _, rfl, ?_⟩
      rw [name_dec]
      by_cases c : some P.G[i] = but
      · rw [decide_eq_true c]
        exact h2 (if_pos c) _ (Same.refl _)
      · rw [decide_eq_false c]
        walk_at "go"
        refine r_ixL (sqL em) (v := .int (P.pr P.G[i])) rfl ?_
        exact h1 _ (if_neg c) _ (Same.refl _)
    · walk_at "go"
      have hm : ((List.range (dicF P.G fun x => V.ref (ra x)).length).filterMap fun i => if some (P.G.getD i "") = but then none else some (V.int (P.pr (P.G.getD i "")))) = ((P.G.filter fun y => decide (some y ≠ but)).map fun x => ((P.pr x : Nat) : Int)).map V.int := by
        rw [dicF_len]
        refine (rng_fm (Str.ofString "") P.G (fun x => if some x = but then none else some (V.int (P.pr x)))).trans ?_
        rw [fm_flt (fun x => some x = but), List.map_map]
        rfl
      rw [hm] at e1
      refine ⟨D, _, rfl, sqL e1, ?_⟩
      rw [total_sum]
      exact q _ s1
theorem ok_comes {f : Addr} {fd : FuncData} (F : Fun K "_law_comes" "_law_comes" s_comes_L f fd) (T : Txt K mg A) : FnOk P w K mg base CX0 1 f fd ["_law_model_here", "_law_label", "_law_pledge", "_law_cap"] spComes := by
  refine F.ok sc_comes_L (fun vs H Q E h => ?_) (fun cdv A' outer s H vs Q E hr h => have hu65 := units65 hr; have hu64 := hr.units; have hu := units1 hr; ⟨_, (pss_cons (ps_set (i := 4) sc_comes_L.nd rfl (.inl rfl) (pe_ifExp (pt_cmpR op_eq (pe_dget hu (pv 0) pe_str (fun _ _ => rfl)) pe_int (nomark _)) (pv 2) pe_int))
    (pss_one (ps_asg (pe_lstB (pa_cons (pv 2) (pa_cons (pv 3) (pa_cons (pv 4) (pa_cons (pv 3) (pa_cons pe_int pa_nil)))))) (pg_sub (pe_dget hu (pv 0) pe_str (fun _ _ => rfl)) (pv 1) (set_dict hu))))), ?_⟩)
  · obtain ⟨m, g, d, ra, P, x, p, c, rfl, _⟩ := h
    rfl
  · obtain ⟨m, g, d, ra, P, x, p, c, rfl, hM, nx, g6, q⟩ := h
    have fin : ∀ (a : Addr) (H9 : Hp), H a = none → Same H H9 → H9 a = some (.lst [.int p, .int c, .int (if P.ps = 0 then p else 0 : Nat), .int c, .int 0]) → Q .non (upd H9 g (.dK (putK (dicF P.G fun x => .ref (ra x)) (.inr x) (.ref a)))) := fun a H9 n9 s9 e9 => by
      refine q a _ n9 ((hM.same s9).put nx (by rw [rowO_come]; exact e9) (hM.nlo n9)) fun b u eb l => ?_
      rw [upd_ne (fun z => l (by rw [z]; exact .inr (.inl rfl)))]
      exact s9 _ _ eb
    walk_at "go"
    refine r_dgT rfl (.inl hM.em) md_p ?_
    walk_at "go"
    by_cases hz : P.ps = 0
    · rw [decide_eq_true (by rw [hz]; rfl)]
      walk_at "go"
      refine newLB fun a H9 n9 g9 s9 e9 => ?_
      have hM9 := hM.same s9
      walk_at "go"
      refine r_dgT rfl (.inl hM9.em) md_g ?_
      walk_at "go"
      refine ⟨g, _, rfl, .inl ⟨_, .inr x, hM9.eg, rfl, by rw [dicF_len, sizeLine_eq]; omega, rfl⟩, ?_⟩
      exact fin a H9 n9 s9 (by rw [if_pos hz]; exact e9)
    · rw [decide_eq_false (fun z => hz (by injection z with z; omega))]
      walk_at "go"
      refine newLB fun a H9 n9 g9 s9 e9 => ?_
      have hM9 := hM.same s9
      walk_at "go"
      refine r_dgT rfl (.inl hM9.em) md_g ?_
      walk_at "go"
      refine ⟨g, _, rfl, .inl ⟨_, .inr x, hM9.eg, rfl, by rw [dicF_len, sizeLine_eq]; omega, rfl⟩, ?_⟩
      exact fin a H9 n9 s9 (by rw [if_neg hz]; exact e9)
theorem ok_changes {f : Addr} {fd : FuncData} (F : Fun K "_law_changes" "_law_changes" s_changes_L f fd) (T : Txt K mg A) : FnOk P w K mg base CX0 1 f fd ["_law_model_here", "_law_label", "_law_pledge", "_law_cap"] spChanges := by
  refine F.ok sc_changes_L (fun vs H Q E h => ?_) (fun cdv A' outer s H vs Q E hr h => have hu65 := units65 hr; have hu64 := hr.units; have hu := units1 hr; ⟨_, (pss_cons (ps_set (i := 4) sc_changes_L.nd rfl (.inl rfl) (pe_dget hu (pe_dget hu (pv 0) pe_str (fun _ _ => rfl)) (pv 1) (fun _ _ => rfl)))
    (pss_cons (ps_asg (pe_tup (pa_cons (pv 2) (pa_cons (pv 3) pa_nil))) (pg_tup rfl (pgs_cons (pg_sub (pv 4) pe_int set_list) (pgs_cons (pg_sub (pv 4) pe_int set_list) pgs_nil))))
    (pss_one (ps_if (pt_cmpR op_eq (pe_dget hu (pv 0) pe_str (fun _ _ => rfl)) pe_int (nomark _)) (pss_one (ps_asg (pe_tup (pa_cons (pv 2) (pa_cons (pv 3) pa_nil))) (pg_tup rfl (pgs_cons (pg_sub (pv 4) pe_int set_list) (pgs_cons (pg_sub (pv 4) pe_int set_list) pgs_nil))))) pss_nil)))), ?_⟩)
  · obtain ⟨m, g, d, ra, P, x, p, c, rfl, _⟩ := h
    rfl
  · obtain ⟨m, g, d, ra, P, x, p, c, rfl, hM, hx, q⟩ := h
    have hv : valV (dicF P.G fun x => V.ref (ra x)) (.inr x : Key) = some (.ref (ra x)) := by rw [dicF_get, if_pos hx]
    have lx : Lo m g d ra P.G (ra x) := .inr (.inr (.inr ⟨x, hx, rfl⟩))
    walk_at "go"
    refine r_dg2 rfl (.inl hM.em) md_g (.inl hM.eg) rfl hv ?_
    walk_at "go"
    refine newT fun t H1 n1 s1 e1 => ?_
    have hM1 := hM.same s1
    walk_at "go"
    refine ⟨_, _, rfl, sqT e1, rfl, ?_⟩
    refine ⟨_, _, rfl, ?_⟩
    walk_at "go"
    refine ⟨ra x, _, 0, 0, rfl, rfl, hM1.el x hx, rfl, ?_⟩
    refine ⟨_, _, rfl, ?_⟩
    walk_at "go"
    refine ⟨ra x, _, 1, 1, rfl, rfl, upd_same, rfl, ?_⟩
    rw [upd_upd]
    refine ⟨rfl, ?_⟩
    have hM2 : Md (upd H1 (ra x) (rowO { P with pr := setF P.pr x p, ce := setF P.ce x c } x)) m g d ra { P with pr := setF P.pr x p, ce := setF P.ce x c } := hM1.row hx rfl rfl rfl rfl fun y _ n => by
      show HO.lst [.int ((setF P.pr x p y : Nat)), .int ((setF P.ce x c y : Nat)), _, _, _] = _
      rw [setF_ne n, setF_ne n]
      rfl
    have er : rowO { P with pr := setF P.pr x p, ce := setF P.ce x c } x = .lst [.int p, .int c, .int (P.cp x), .int (P.cc x), .int (P.us x)] := by
      show HO.lst [.int ((setF P.pr x p x : Nat)), .int ((setF P.ce x c x : Nat)), _, _, _] = _
      rw [setF_same, setF_same]
    rw [er] at hM2
    have fr : ∀ {v : HO} b u, H b = some u → ¬ Lo m g d ra P.G b → upd H1 (ra x) v b = some u := fun b u eb l => by
      rw [upd_ne (fun z => l (by rw [z]; exact lx))]
      exact s1 _ _ eb
    walk_at "go"
    refine r_dgT rfl (.inl hM2.em) md_p ?_
    walk_at "go"
    by_cases hz : P.ps = 0
    · rw [decide_eq_true (by rw [hz]; rfl)]
      walk_at "go"
      refine newT fun t2 H4 n4 s4 e4 => ?_
      have hM4 := hM2.same s4
      walk_at "go"
      refine ⟨_, _, rfl, sqT e4, rfl, ?_⟩
      refine ⟨_, _, rfl, ?_⟩
      walk_at "go"
      refine ⟨ra x, _, 2, 2, rfl, rfl, hM4.el x hx, rfl, ?_⟩
      refine ⟨_, _, rfl, ?_⟩
      walk_at "go"
      refine ⟨ra x, _, 3, 3, rfl, rfl, upd_same, rfl, ?_⟩
      rw [upd_upd]
      refine ⟨rfl, ?_⟩
      walk_at "go"
      have hM5 : Md (upd H4 (ra x) (rowO (P.change x p c) x)) m g d ra (P.change x p c) := hM4.row hx rfl rfl rfl rfl fun y _ n => by
        show HO.lst [_, _, .int (((if P.ps = 0 then setF P.cp x p else P.cp) y : Nat)), .int (((if P.ps = 0 then setF P.cc x c else P.cc) y : Nat)), _] = _
        rw [if_pos hz, if_pos hz, setF_ne n, setF_ne n]
        rfl
      have er2 : rowO (P.change x p c) x = .lst [.int p, .int c, .int p, .int c, .int (P.us x)] := by
        show HO.lst [.int ((setF P.pr x p x : Nat)), .int ((setF P.ce x c x : Nat)), .int (((if P.ps = 0 then setF P.cp x p else P.cp) x : Nat)), .int (((if P.ps = 0 then setF P.cc x c else P.cc) x : Nat)), _] = _
        rw [if_pos hz, if_pos hz, setF_same, setF_same, setF_same, setF_same]
        rfl
      rw [er2] at hM5
      refine q _ ?_ fun b u eb l => ?_
      · rw [HO.lst.inj er]
        exact hM5
      · rw [upd_ne (fun z => l (by rw [z]; exact lx))]
        exact s4 _ _ (fr b u eb l)
    · rw [decide_eq_false (fun z => hz (by injection z with z; have z : ((P.ps : Nat) : Int) = 0 := z; omega))]
      walk_at "go"
      refine q _ (hM2.congr rfl rfl rfl rfl fun y _ => ?_) fr
      show HO.lst [_, _, .int (((if P.ps = 0 then setF P.cp x p else P.cp) y : Nat)), .int (((if P.ps = 0 then setF P.cc x c else P.cc) y : Nat)), _] = _
      rw [if_neg hz, if_neg hz]
      rfl
end
end K25

namespace K25
open PySem PySem.Spec PyProof.Rows L2 Bk


/-- the turns of this stretch that each has after the turn goes to y -/
def us1 (P : Ps) (y : Option Str) (x : Str) : Nat := if y = some x then P.us x + 1 else P.us x
theorem row_us {P : Ps} {y : Option Str} {x : Str} (h : us1 P y x = P.us x) : rowO { P with us := us1 P y } x = rowO P x := by
  show HO.lst [_, _, _, _, .int ((us1 P y x : Nat))] = _
  rw [h]
  rfl
theorem upd_comm {H : Hp} {a b : Addr} {u v : HO} (n : a ≠ b) : upd (upd H a u) b v = upd (upd H b v) a u := by
  funext c
  by_cases e : c = b
  · rw [e, upd_same, upd_ne n.symm, upd_same]
  · rw [upd_ne e]
    by_cases f : c = a
    · rw [f, upd_same, upd_same]
    · rw [upd_ne f, upd_ne f, upd_ne e]
/-- a stretch's end, the first i rows told anew -/
def Ps.fresh (P : Ps) (i : Nat) : Ps := { P with ps := 0, cp := fun x => if x ∈ P.G.take i then P.pr x else P.cp x, cc := fun x => if x ∈ P.G.take i then P.ce x else P.cc x, us := fun x => if x ∈ P.G.take i then 0 else P.us x }
theorem take_mem {G : List Str} {i : Nat} {x y : Str} (h : G[i]? = some y) : x ∈ G.take (i + 1) ↔ x ∈ G.take i ∨ x = y := by
  rw [List.take_succ, h, List.mem_append]
  exact or_congr_right List.mem_singleton
theorem not_yet {G : List Str} {i : Nat} {y : Str} (nd : G.Nodup) (h : G[i]? = some y) : y ∉ G.take i := fun z => by
  obtain ⟨hi, e⟩ := List.getElem?_eq_some_iff.mp h
  obtain ⟨k, hk3, e3⟩ := List.getElem_of_mem z
  rw [List.getElem_take] at e3
  have hk4 : k < i := by rw [List.length_take] at hk3; omega
  exact absurd ((List.getElem_inj nd).mp (e3.trans e.symm)) (Nat.ne_of_lt hk4)
/-- the best of the first k guests that are ready -/
def pk (c : Str → Bool) (lt : Str → Str → Bool) (G R : List Str) (k : Nat) : Option Str := pick c lt ((G.take k).filter fun x => decide (x ∈ R))
theorem pk_succ {c : Str → Bool} {lt : Str → Str → Bool} {G R : List Str} {k : Nat} {x : Str} (h : G[k]? = some x) : pk c lt G R (k + 1) = if x ∈ R then better c lt (pk c lt G R k) x else pk c lt G R k := by
  unfold pk
  rw [List.take_succ, h, List.filter_append]
  by_cases m : x ∈ R
  · rw [if_pos m, show (Option.toList (some x)).filter (fun x => decide (x ∈ R)) = [x] from List.filter_cons_of_pos (by exact decide_eq_true m)]
    exact pick_app
  · rw [if_neg m, show (Option.toList (some x)).filter (fun x => decide (x ∈ R)) = [] from List.filter_cons_of_neg (by simpa using m), List.append_nil]
theorem pk_mem {c : Str → Bool} {lt : Str → Str → Bool} {G R : List Str} {k : Nat} {y : Str} (h : pk c lt G R k = some y) : y ∈ G := List.mem_of_mem_take (List.mem_filter.mp (pick_mem h).1).1
theorem pk_all {c : Str → Bool} {lt : Str → Str → Bool} {G R : List Str} {n : Nat} (h : n = G.length) : pk c lt G R n = pick c lt (G.filter fun x => decide (x ∈ R)) := by
  unfold pk
  rw [h, List.take_length]
section
variable {P : Program} {w : World} {K : PySem.W.Frag} {mg : Str → Option Value} {base : Heap} {A : Ad}
theorem ok_gets {f : Addr} {fd : FuncData} (F : Fun K "_law_gets" "_law_gets" s_gets_L f fd) (T : Txt K mg A) : FnOk P w K mg base CX0 1 f fd ["_law_model_here", "_law_those"] (spGets K) := by
  refine F.ok sc_gets_L (fun vs H Q E h => ?_) (fun cdv A' outer s H vs Q E hr h => have hu65 := units65 hr; have hu64 := hr.units; have hu := units1 hr; ⟨_, (pss_cons (ps_set (i := 2) sc_gets_L.nd rfl (.inl rfl) pe_non)
    (pss_cons (ps_lock (ps_for PassesOwn.never rfl (pi_items (pe_dget hu (pv 0) pe_str (fun _ _ => rfl))) (pg_tup rfl (pgs_cons (pg_name (i := 3) sc_gets_L.nd rfl (.inl rfl)) (pgs_cons (pg_name (i := 4) sc_gets_L.nd rfl (.inl rfl)) pgs_nil)))
      (pss_one (ps_if (PW.pt (pw_and (pt_cmpR op_in_seq (pv 3) (pv 1) (by rfl)) (pw_and1 (pt_cmpR op_lt (pe_ix ix_list (pv 4) pe_int (fun _ _ => rfl)) (pe_ix ix_list (pv 4) pe_int (fun _ _ => rfl)) (nomark _))))) (pss_cons (ps_set (i := 5) sc_gets_L.nd rfl (.inl rfl) (pe_ifExp (pt_cmpR op_isN (pv 2) pe_non (nomark _)) (pv 4) (pe_dget hu (pe_dget hu (pv 0) pe_str (fun _ _ => rfl)) (pv 2) (fun _ _ => rfl))))
    (pss_one (ps_if (PW.pt (pw_or (pt_cmpR op_isN (pv 2) pe_non (nomark _)) (pw_or1 (pt_cmpR op_lt (pe_op op_mulW (pe_ix ix_list (pv 4) pe_int (fun _ _ => rfl)) (pe_ix ix_list (pv 5) pe_int (fun _ _ => rfl))) (pe_op op_mulW (pe_ix ix_list (pv 5) pe_int (fun _ _ => rfl)) (pe_ix ix_list (pv 4) pe_int (fun _ _ => rfl))) (nomark _))))) (pss_one (ps_set (i := 2) sc_gets_L.nd rfl (.inl rfl) (pv 3))) pss_nil))) pss_nil))))
    (pss_cons (ps_if (pt_cmpR op_notN (pv 2) pe_non (nomark _)) (pss_one (ps_ret (pv 2))) pss_nil)
    (pss_cons (ps_lock (ps_for PassesOwn.never rfl (pi_items (pe_dget hu (pv 0) pe_str (fun _ _ => rfl))) (pg_tup rfl (pgs_cons (pg_name (i := 3) sc_gets_L.nd rfl (.inl rfl)) (pgs_cons (pg_name (i := 4) sc_gets_L.nd rfl (.inl rfl)) pgs_nil)))
      (pss_one (ps_if (PW.pt (pw_and (pt_cmpR op_in_seq (pv 3) (pv 1) (by rfl)) (pw_and (pt_cmpR op_lt (pe_ix ix_list (pv 4) pe_int (fun _ _ => rfl)) (pe_ix ix_list (pv 4) pe_int (fun _ _ => rfl)) (nomark _)) (pw_and1 (PW.pt (pw_or (pt_cmpR op_isN (pv 2) pe_non (nomark _)) (pw_or1 (pt_cmpR op_lt (pe_ix ix_list (pv 4) pe_int (fun _ _ => rfl)) (pe_ix ix_list (pe_dget hu (pe_dget hu (pv 0) pe_str (fun _ _ => rfl)) (pv 2) (fun _ _ => rfl)) pe_int (fun _ _ => rfl)) (nomark _))))))))) (pss_one (ps_set (i := 2) sc_gets_L.nd rfl (.inl rfl) (pv 3))) pss_nil))))
    (pss_one (ps_ret (pv 2))))))), ?_⟩)
  · obtain ⟨m, g, d, rl, ra, P, R, rfl, _⟩ := h
    rfl
  · obtain ⟨m, g, d, rl, ra, P, R, rfl, hM, er, R12, g6, ok, q⟩ := h
    have hv : ∀ {x : Str}, x ∈ P.G → valV (dicF P.G fun x => V.ref (ra x)) (.inr x : Key) = some (.ref (ra x)) := fun {x} hx => by rw [dicF_get, if_pos hx]
    walk_at "go"
    refine ⟨g, .dK (dicF P.G fun x => .ref (ra x)), hM.eg, trivial, fun od => ?_⟩
    have lk : ∀ b u, b ≠ g → H b = some u → upd H g (.frz od (.dK (dicF P.G fun x => .ref (ra x)))) b = some u := fun b u nb eb => by rw [upd_ne nb]; exact eb
    have eL : upd H g (.frz od (.dK (dicF P.G fun x => .ref (ra x)))) g = some (.frz od (.dK (dicF P.G fun x => .ref (ra x)))) := upd_same
    refine r_dgT rfl (.inl (lk _ _ hM.mg hM.em)) md_g ?_
    generalize hHL : upd H g (.frz od (.dK (dicF P.G fun x => .ref (ra x)))) = HL at lk eL ⊢
    refine ⟨g, od, _, rfl, eL, for_it walk_items (fun i σ G => Same HL G ∧ ∃ x3 x4 x5, σ = [some (.ref m), some (.ref rl), some (nameV (pk (okP P) (ltP P) P.G R i)), x3, x4, x5]) ⟨Same.refl _, _, _, _, rfl⟩ (fun i σ G _ h => h.1 _ _ eL) (fun i yv σ G G2 hi hP hY => ?_) (fun σ G hP => ?_)⟩
    · obtain ⟨sG, x3, x4, x5, rfl⟩ := hP
      obtain ⟨T, a, b, rfl, nT, rfl, ha, hb⟩ := hY
      rw [dicF_len] at hi
      have ha : (P.G.map fun x => ((Sum.inr x : Key), V.ref (ra x)))[i]?.map (fun kv => kV kv.1) = some a := ha
      have hb : (P.G.map fun x => ((Sum.inr x : Key), V.ref (ra x)))[i]?.map Prod.snd = some b := hb
      rw [List.getElem?_map, List.getElem?_eq_getElem hi] at ha hb
      obtain rfl := Option.some.inj ha
      obtain rfl := Option.some.inj hb
      have xG : P.G[i] ∈ P.G := List.getElem_mem hi
      have pks := pk_succ (c := okP P) (lt := ltP P) (R := R) (List.getElem?_eq_getElem hi)
      generalize P.G[i] = x at xG pks ⊢
      have pkm : ∀ {y}, pk (okP P) (ltP P) P.G R i = some y → y ∈ P.G := pk_mem
      generalize pk (okP P) (ltP P) P.G R i = ch at pks pkm ⊢
      have sT : Same G (upd G T (.tup [V.str x, V.ref (ra x)])) := same_upd nT
      have eT : upd G T (.tup [V.str x, V.ref (ra x)]) T = some (.tup [V.str x, V.ref (ra x)]) := upd_same
      show gTup _ _ _ _ _ (upd G T (.tup [V.str x, V.ref (ra x)])) _
      generalize upd G T (.tup [V.str x, V.ref (ra x)]) = G2 at sT eT ⊢
      have s2 : Same HL G2 := Same.trans sG sT
      have el2 : ∀ {z}, z ∈ P.G → G2 (ra z) = some (.lst (rowL P z)) := fun {z} hz => s2 _ _ (lk _ _ (hM.gr hz).symm (hM.el z hz))
      have er2 : SqL K G2 rl (R.map V.str) := sqL (s2 _ _ (lk _ _ (ne_ct er hM.eg (fun w => nomatch w)) er))
      have em2 := s2 _ _ (lk _ _ hM.mg hM.em)
      have eg2 := s2 _ _ eL
      refine ⟨_, _, rfl, sqT eT, rfl, ?_⟩
      refine ⟨_, _, rfl, _, _, rfl, rfl, ?_⟩
      walk_at "go"
      refine ⟨rl, _, rfl, .inl er2, rfl, List.all_eq_true.mpr fun v hv => ?_, ?_⟩
      · obtain ⟨z, _, rfl⟩ := List.mem_map.mp hv
        rfl
      rw [if_neg Bool.false_ne_true, inV_str]
      refine ⟨_, rfl, ?_⟩
      by_cases mR : x ∈ R
      · rw [decide_eq_true mR]
        walk_at "go"
        refine r_ixL (sqL (el2 xG)) (v := .int (P.us x)) rfl ?_
        walk_at "go"
        refine r_ixL (sqL (el2 xG)) (v := .int (P.cp x)) rfl ?_
        walk_at "go"
        by_cases c : P.us x < P.cp x
        · rw [decide_eq_true (by omega : (P.us x : Int) < P.cp x)]
          have kx : okP P x = true := decide_eq_true c
          rw [if_pos mR] at pks
          have pn : pk (okP P) (ltP P) P.G R (i + 1) = over (ltP P) ch x := by rw [pks]; unfold better; rw [if_pos kx]
          walk_at "go"
          refine ⟨rfl, ?_⟩
          cases ch with
          | none =>
            rw [show (decide (nameV none = V.non)) = true from decide_eq_true rfl]
            walk_at "go"
            refine ⟨rfl, _, rfl, ?_⟩
            rw [show (decide (nameV none = V.non)) = true from decide_eq_true rfl]
            walk_at "go"
            exact ⟨s2, _, _, _, by rw [pn]; rfl⟩
          | some y =>
            have hy := pkm rfl
            rw [show (decide (nameV (some y) = V.non)) = false from decide_eq_false (fun z => nomatch z)]
            walk_at "go"
            refine r_dg2 rfl (.inl em2) md_g (.inr ⟨od, eg2⟩) rfl (hv hy) ?_
            walk_at "go"
            refine ⟨rfl, _, rfl, ?_⟩
            rw [show (decide (nameV (some y) = V.non)) = false from decide_eq_false (fun z => nomatch z)]
            walk_at "go"
            refine r_ixL (sqL (el2 xG)) (v := .int (P.us x)) rfl ?_
            walk_at "go"
            refine r_ixL (sqL (el2 hy)) (v := .int (P.cp y)) rfl ?_
            have ux := ok.u60 x xG
            have uy := ok.u60 y hy
            have cx := ok.cl x xG
            have cy := ok.cl y hy
            have L60 := ok.l60
            have psl := ok.ps
            have wm : ∀ {a b : Nat}, a ≤ 60 → b ≤ 60 → CMulW (a : Int) (b : Int) := fun {a b} ha hb => wide_mul (a := 8) (b := 8) (by rw [Int.natAbs_natCast]; omega) (by rw [Int.natAbs_natCast]; omega) (by decide) (by decide) (by decide)
            refine ⟨_, _, rfl, rfl, wm (by omega) (by omega), ?_⟩
            walk_at "go"
            refine r_ixL (sqL (el2 hy)) (v := .int (P.us y)) rfl ?_
            walk_at "go"
            refine r_ixL (sqL (el2 xG)) (v := .int (P.cp x)) rfl ?_
            refine ⟨_, _, rfl, rfl, wm (by omega) (by omega), ?_⟩
            walk_at "go"
            by_cases l : ltP P x y = true
            · have l2 : (P.us x : Int) * P.cp y < P.us y * P.cp x := by have l := of_decide_eq_true l; exact_mod_cast l
              rw [decide_eq_true l2]
              walk_at "go"
              exact ⟨s2, _, _, _, by rw [pn, over_pos l]; rfl⟩
            · have l2 : ¬ (P.us x : Int) * P.cp y < P.us y * P.cp x := fun z => l (decide_eq_true (by exact_mod_cast z))
              rw [decide_eq_false l2]
              walk_at "go"
              exact ⟨s2, _, _, _, by rw [pn, over_neg l]; rfl⟩
        · rw [decide_eq_false (by omega : ¬ (P.us x : Int) < P.cp x)]
          walk_at "go"
          have pn : pk (okP P) (ltP P) P.G R (i + 1) = ch := by
            rw [pks, if_pos mR]
            unfold better
            rw [if_neg (by rw [show okP P x = false from decide_eq_false c]; exact Bool.false_ne_true)]
          exact ⟨s2, _, _, _, by rw [pn]; rfl⟩
      · rw [decide_eq_false mR]
        walk_at "go"
        exact ⟨s2, _, _, _, by rw [pks, if_neg mR]; rfl⟩
    · obtain ⟨s, x3, x4, x5, rfl⟩ := hP
      rw [pk_all dicF_len]
      refine ⟨s _ _ eL, ?_⟩
      have sH : Same H (upd G g (.dK (dicF P.G fun x => .ref (ra x)))) := unlock_same hM.eg (by rw [hHL]; exact s)
      generalize upd G g (.dK (dicF P.G fun x => .ref (ra x))) = H1 at sH ⊢
      clear s lk eL hHL
      have hg : gets P R = (match pick (okP P) (ltP P) (P.G.filter fun x => decide (x ∈ R)) with | some y => some y | none => pick (okC P) (ltC P) (P.G.filter fun x => decide (x ∈ R))) := rfl
      walk_at "go"
      refine ⟨rfl, _, rfl, ?_⟩
      cases e1 : pick (okP P) (ltP P) (P.G.filter fun x => decide (x ∈ R)) with
      | some y =>
        rw [e1] at hg
        rw [show (decide (nameV (some y) = V.non)) = false from decide_eq_false (fun z => nomatch z)]
        walk_at "go"
        have w := q H1 sH
        rw [hg] at w
        exact w
      | none =>
        rw [e1] at hg
        rw [show (decide (nameV none = V.non)) = true from decide_eq_true rfl]
        have q2 := fun H' s' => q H' (Same.trans sH s')
        rw [hg] at q2
        have hM := hM.same sH
        have er := sH _ _ er
        clear q sH hg e1
        generalize H1 = H at *
        walk_at "go"
        refine ⟨g, .dK (dicF P.G fun x => .ref (ra x)), hM.eg, trivial, fun od => ?_⟩
        have lk : ∀ b u, b ≠ g → H b = some u → upd H g (.frz od (.dK (dicF P.G fun x => .ref (ra x)))) b = some u := fun b u nb eb => by rw [upd_ne nb]; exact eb
        have eL : upd H g (.frz od (.dK (dicF P.G fun x => .ref (ra x)))) g = some (.frz od (.dK (dicF P.G fun x => .ref (ra x)))) := upd_same
        refine r_dgT rfl (.inl (lk _ _ hM.mg hM.em)) md_g ?_
        generalize hHL : upd H g (.frz od (.dK (dicF P.G fun x => .ref (ra x)))) = HL at lk eL ⊢
        refine ⟨g, od, _, rfl, eL, for_it walk_items (fun i σ G => Same HL G ∧ ∃ x3 x4 x5, σ = [some (.ref m), some (.ref rl), some (nameV (pk (okC P) (ltC P) P.G R i)), x3, x4, x5]) ⟨Same.refl _, _, _, _, rfl⟩ (fun i σ G _ h => h.1 _ _ eL) (fun i yv σ G G2 hi hP hY => ?_) (fun σ G hP => ?_)⟩
        · obtain ⟨sG, x3, x4, x5, rfl⟩ := hP
          obtain ⟨T, a, b, rfl, nT, rfl, ha, hb⟩ := hY
          rw [dicF_len] at hi
          have ha : (P.G.map fun x => ((Sum.inr x : Key), V.ref (ra x)))[i]?.map (fun kv => kV kv.1) = some a := ha
          have hb : (P.G.map fun x => ((Sum.inr x : Key), V.ref (ra x)))[i]?.map Prod.snd = some b := hb
          rw [List.getElem?_map, List.getElem?_eq_getElem hi] at ha hb
          obtain rfl := Option.some.inj ha
          obtain rfl := Option.some.inj hb
          have xG : P.G[i] ∈ P.G := List.getElem_mem hi
          have pks := pk_succ (c := okC P) (lt := ltC P) (R := R) (List.getElem?_eq_getElem hi)
          generalize P.G[i] = x at xG pks ⊢
          have pkm : ∀ {y}, pk (okC P) (ltC P) P.G R i = some y → y ∈ P.G := pk_mem
          generalize pk (okC P) (ltC P) P.G R i = ch at pks pkm ⊢
          have sT : Same G (upd G T (.tup [V.str x, V.ref (ra x)])) := same_upd nT
          have eT : upd G T (.tup [V.str x, V.ref (ra x)]) T = some (.tup [V.str x, V.ref (ra x)]) := upd_same
          show gTup _ _ _ _ _ (upd G T (.tup [V.str x, V.ref (ra x)])) _
          generalize upd G T (.tup [V.str x, V.ref (ra x)]) = G2 at sT eT ⊢
          have s2 : Same HL G2 := Same.trans sG sT
          have el2 : ∀ {z}, z ∈ P.G → G2 (ra z) = some (.lst (rowL P z)) := fun {z} hz => s2 _ _ (lk _ _ (hM.gr hz).symm (hM.el z hz))
          have er2 : SqL K G2 rl (R.map V.str) := sqL (s2 _ _ (lk _ _ (ne_ct er hM.eg (fun w => nomatch w)) er))
          have em2 := s2 _ _ (lk _ _ hM.mg hM.em)
          have eg2 := s2 _ _ eL
          refine ⟨_, _, rfl, sqT eT, rfl, ?_⟩
          refine ⟨_, _, rfl, _, _, rfl, rfl, ?_⟩
          walk_at "go"
          refine ⟨rl, _, rfl, .inl er2, rfl, List.all_eq_true.mpr fun v hv => ?_, ?_⟩
          · obtain ⟨z, _, rfl⟩ := List.mem_map.mp hv
            rfl
          rw [if_neg Bool.false_ne_true, inV_str]
          refine ⟨_, rfl, ?_⟩
          by_cases mR : x ∈ R
          · rw [decide_eq_true mR]
            walk_at "go"
            refine r_ixL (sqL (el2 xG)) (v := .int (P.us x)) rfl ?_
            walk_at "go"
            refine r_ixL (sqL (el2 xG)) (v := .int (P.cc x)) rfl ?_
            walk_at "go"
            by_cases c : P.us x < P.cc x
            · rw [decide_eq_true (by omega : (P.us x : Int) < P.cc x)]
              have kx : okC P x = true := decide_eq_true c
              rw [if_pos mR] at pks
              have pn : pk (okC P) (ltC P) P.G R (i + 1) = over (ltC P) ch x := by rw [pks]; unfold better; rw [if_pos kx]
              walk_at "go"
              refine ⟨rfl, _, rfl, ?_⟩
              cases ch with
              | none =>
                rw [show (decide (nameV none = V.non)) = true from decide_eq_true rfl]
                walk_at "go"
                exact ⟨s2, _, _, _, by rw [pn]; rfl⟩
              | some y =>
                have hy := pkm rfl
                rw [show (decide (nameV (some y) = V.non)) = false from decide_eq_false (fun z => nomatch z)]
                walk_at "go"
                refine r_ixL (sqL (el2 xG)) (v := .int (P.us x)) rfl ?_
                walk_at "go"
                refine r_dg2 rfl (.inl em2) md_g (.inr ⟨od, eg2⟩) rfl (hv hy) ?_
                walk_at "go"
                refine r_ixL (sqL (el2 hy)) (v := .int (P.us y)) rfl ?_
                walk_at "go"
                by_cases l : ltC P x y = true
                · have l2 : (P.us x : Int) < P.us y := by have l := of_decide_eq_true l; omega
                  rw [decide_eq_true l2]
                  walk_at "go"
                  exact ⟨s2, _, _, _, by rw [pn, over_pos l]; rfl⟩
                · have l2 : ¬ (P.us x : Int) < P.us y := fun z => l (decide_eq_true (by omega))
                  rw [decide_eq_false l2]
                  walk_at "go"
                  exact ⟨s2, _, _, _, by rw [pn, over_neg l]; rfl⟩
            · rw [decide_eq_false (by omega : ¬ (P.us x : Int) < P.cc x)]
              walk_at "go"
              have pn : pk (okC P) (ltC P) P.G R (i + 1) = ch := by
                rw [pks, if_pos mR]
                unfold better
                rw [if_neg (by rw [show okC P x = false from decide_eq_false c]; exact Bool.false_ne_true)]
              exact ⟨s2, _, _, _, by rw [pn]; rfl⟩
          · rw [decide_eq_false mR]
            walk_at "go"
            exact ⟨s2, _, _, _, by rw [pks, if_neg mR]; rfl⟩
        · obtain ⟨s, x3, x4, x5, rfl⟩ := hP
          rw [pk_all dicF_len]
          refine ⟨s _ _ eL, ?_⟩
          have sH : Same H (upd G g (.dK (dicF P.G fun x => .ref (ra x)))) := unlock_same hM.eg (by rw [hHL]; exact s)
          generalize upd G g (.dK (dicF P.G fun x => .ref (ra x))) = H1 at sH ⊢
          walk_at "go"
          exact q2 H1 sH
theorem ok_deals {f : Addr} {fd : FuncData} (F : Fun K "_law_deals" "_law_deals" s_deals_L f fd) (T : Txt K mg A) (c_gets_L : CalD P w K mg base CX0 1 "_law_gets" (spGets K) []) : FnOk P w K mg base CX0 2 f fd ["_law_model_here", "_law_those"] (spDeals K) := by
  refine F.ok sc_deals_L (fun vs H Q E h => ?_) (fun cdv A' outer s H vs Q E hr h => have hu65 := units65 hr; have hu64 := hr.units; have hu := units1 hr; ⟨_, (pss_cons (ps_set (i := 2) sc_deals_L.nd rfl (.inl rfl) (pe_cal c_gets_L hr (by decide) (by rfl) (pa_cons (pv 0) (pa_cons (pv 1) pa_nil))))
    (C8.pss_cut (ps_if (pt_cmpR op_notN (pv 2) pe_non (nomark _)) (pss_one (ps_asg (pe_op op_add (pe_ix ix_list (pe_dget hu (pe_dget hu (pv 0) pe_str (fun _ _ => rfl)) (pv 2) (fun _ _ => rfl)) pe_int (fun _ _ => rfl)) pe_int) (pg_sub (pe_dget hu (pe_dget hu (pv 0) pe_str (fun _ _ => rfl)) (pv 2) (fun _ _ => rfl)) pe_int set_list))) pss_nil)
    (pss_cons (ps_expr (pe_bm PySem.F.plainAttrs_list PySem.F.slot_list_append PySem.F.type_list_append mt_append (pe_dget hu (pv 0) pe_str (fun _ _ => rfl)) (pa_cons (pv 2) pa_nil)))
    (pss_cons (ps_asg (pe_op op_add (pe_dget hu (pv 0) pe_str (fun _ _ => rfl)) pe_int) (pg_sub (pv 0) pe_str (set_dict hu)))
    (C8.pss_cut (ps_if (pt_cmpR op_eq (pe_dget hu (pv 0) pe_str (fun _ _ => rfl)) (pe_dget hu (pv 0) pe_str (fun _ _ => rfl)) (nomark _)) (pss_cons (ps_asg pe_int (pg_sub (pv 0) pe_str (set_dict hu)))
    (pss_one (ps_lock (ps_for PassesOwn.never rfl (pi_values (pe_dget hu (pv 0) pe_str (fun _ _ => rfl))) (pg_name (i := 3) sc_deals_L.nd rfl (.inl rfl))
      (pss_one (ps_asg (pe_tup (pa_cons (pe_ix ix_list (pv 3) pe_int (fun _ _ => rfl)) (pa_cons (pe_ix ix_list (pv 3) pe_int (fun _ _ => rfl)) (pa_cons pe_int pa_nil)))) (pg_tup rfl (pgs_cons (pg_sub (pv 3) pe_int set_list) (pgs_cons (pg_sub (pv 3) pe_int set_list) (pgs_cons (pg_sub (pv 3) pe_int set_list) pgs_nil)))))))))) pss_nil)
    (pss_one (ps_ret (pv 2)))))))), ?_⟩)
  · obtain ⟨m, g, d, rl, ra, P, R, rfl, _⟩ := h
    rfl
  · obtain ⟨m, g, d, rl, ra, P, R, rfl, hM, er, R12, g6, ok, l480, q⟩ := h
    have hv : ∀ {x : Str}, x ∈ P.G → valV (dicF P.G fun x => V.ref (ra x)) (.inr x : Key) = some (.ref (ra x)) := fun {x} hx => by rw [dicF_get, if_pos hx]
    walk_at "go"
    refine ⟨m, g, d, rl, ra, P, R, rfl, hM, er, R12, g6, ok, fun H1 s1 => ?_⟩
    have hyG : ∀ {y}, gets P R = some y → y ∈ P.G := fun h => (gets_mem h).1
    have hM1 := hM.same s1
    generalize gets P R = y at hyG q ⊢
    have fr0 : ∀ b u, H b = some u → ¬ Lo m g d ra P.G b → H1 b = some u := fun b u eb _ => s1 _ _ eb
    clear s1 hM er
    walk_at "go"
    show C8.tCut _ _ _ _ _
    refine r_cut (fun σ G => σ = [some (.ref m), some (.ref rl), some (nameV y), none] ∧ Md G m g d ra { P with us := us1 P y } ∧ ∀ b u, H1 b = some u → ¬ Lo m g d ra P.G b → G b = some u) ?_ ?_
    · walk_at "go"
      refine ⟨rfl, _, rfl, ?_⟩
      cases y with
      | none =>
        rw [show (decide (nameV none = V.non)) = true from decide_eq_true rfl]
        walk_at "go"
        exact ⟨rfl, hM1.congr rfl rfl rfl rfl fun x _ => row_us (if_neg fun z => nomatch z), fun b u eb _ => eb⟩
      | some z =>
        have zG := hyG rfl
        rw [show (decide (nameV (some z) = V.non)) = false from decide_eq_false (fun z => nomatch z)]
        walk_at "go"
        refine r_dg2 rfl (.inl hM1.em) md_g (.inl hM1.eg) rfl (hv zG) ?_
        walk_at "go"
        refine r_ixL (sqL (hM1.el z zG)) (v := .int (P.us z)) rfl ?_
        walk_at "go"
        refine r_dg2 rfl (.inl hM1.em) md_g (.inl hM1.eg) rfl (hv zG) ?_
        walk_at "go"
        refine ⟨ra z, _, 4, 4, rfl, rfl, hM1.el z zG, rfl, ?_⟩
        have w := hM1.row (P' := { P with us := us1 P (some z) }) zG rfl rfl rfl rfl fun x _ n => row_us (if_neg fun w => n (Option.some.inj w).symm)
        have e : rowO { P with us := us1 P (some z) } z = .lst ((rowL P z).set 4 (.int ((P.us z : Nat) + 1))) := by
          show HO.lst [_, _, _, _, .int ((us1 P (some z) z : Nat))] = _
          unfold us1
          rw [if_pos rfl]
          rfl
        rw [e] at w
        refine ⟨rfl, w, fun b u eb l => ?_⟩
        rw [upd_ne (fun w => l (by rw [w]; exact .inr (.inr (.inr ⟨z, zG, rfl⟩))))]
        exact eb
    · rintro σ G ⟨rfl, hM2, fr2⟩
      have lm : Lo m g d ra P.G m := .inl rfl
      have ld : Lo m g d ra P.G d := .inr (.inr (.inl rfl))
      walk_at "go"
      refine r_dgT rfl (.inl hM2.em) md_d ?_
      refine ⟨.inl ⟨rfl, _, sqL hM2.ed⟩, ?_⟩
      walk_at "go"
      refine ⟨d, _, _, rfl, rfl, hM2.ed, by rw [sizeLine_eq]; show P.dl.length < _; omega, ?_⟩
      have hM3 : Md (upd G d (.lst (P.dl ++ [nameV y]))) m g d ra { P with us := us1 P y, dl := P.dl ++ [nameV y] } := hM2.app
      have fr3 : ∀ b u, H1 b = some u → ¬ Lo m g d ra P.G b → upd G d (.lst (P.dl ++ [nameV y])) b = some u := fun b u eb l => by
        rw [upd_ne (fun w => l (by rw [w]; exact ld))]
        exact fr2 b u eb l
      generalize upd G d (.lst (P.dl ++ [nameV y])) = G3 at hM3 fr3 ⊢
      clear hM2 fr2
      walk_at "go"
      refine r_dgT rfl (.inl hM3.em) md_p ?_
      walk_at "go"
      refine ⟨m, upd G3 m (.dK (mdD P.L g (P.ps + 1) d)), rfl, .inl ⟨_, .inr (Str.ofString "passed"), hM3.em, rfl, by rw [sizeLine_eq]; show 4 < _; decide, by
        show _ = upd G3 m (.dK (putK (mdD P.L g P.ps d) (.inr (Str.ofString "passed")) (.int ((P.ps + 1 : Nat) : Int))))
        rw [md_put]⟩, ?_⟩
      have hM4 : Md (upd G3 m (.dK (mdD P.L g (P.ps + 1) d))) m g d ra { P with us := us1 P y, dl := P.dl ++ [nameV y], ps := P.ps + 1 } := hM3.tick
      have fr4 : ∀ b u, H1 b = some u → ¬ Lo m g d ra P.G b → upd G3 m (.dK (mdD P.L g (P.ps + 1) d)) b = some u := fun b u eb l => by
        rw [upd_ne (fun w => l (by rw [w]; exact lm))]
        exact fr3 b u eb l
      generalize upd G3 m (.dK (mdD P.L g (P.ps + 1) d)) = G4 at hM4 fr4 ⊢
      clear hM3 fr3
      show C8.tCut _ _ _ _ _
      refine r_cut (fun σ G => (∃ x3, σ = [some (.ref m), some (.ref rl), some (nameV y), x3]) ∧ Md G m g d ra (P.deal (nameV y) y) ∧ ∀ b u, H1 b = some u → ¬ Lo m g d ra P.G b → G b = some u) ?_ ?_
      · walk_at "go"
        refine r_dgT rfl (.inl hM4.em) md_p ?_
        walk_at "go"
        refine r_dgT rfl (.inl hM4.em) md_l ?_
        walk_at "go"
        by_cases c : P.ps + 1 = P.L
        · rw [decide_eq_true (show V.int ((P.ps + 1 : Nat) : Int) = V.int (P.L : Nat) by rw [c])]
          walk_at "go"
          refine ⟨m, upd G4 m (.dK (mdD P.L g 0 d)), rfl, .inl ⟨_, .inr (Str.ofString "passed"), hM4.em, rfl, by rw [sizeLine_eq]; show 4 < _; decide, by
            show _ = upd G4 m (.dK (putK (mdD P.L g (P.ps + 1) d) (.inr (Str.ofString "passed")) (.int ((0 : Nat) : Int))))
            rw [md_put]⟩, ?_⟩
          have hM5 : Md (upd G4 m (.dK (mdD P.L g 0 d))) m g d ra { P with us := us1 P y, dl := P.dl ++ [nameV y], ps := 0 } := hM4.tick
          have fr5 : ∀ b u, H1 b = some u → ¬ Lo m g d ra P.G b → upd G4 m (.dK (mdD P.L g 0 d)) b = some u := fun b u eb l => by
            rw [upd_ne (fun w => l (by rw [w]; exact lm))]
            exact fr4 b u eb l
          generalize upd G4 m (.dK (mdD P.L g 0 d)) = G5 at hM5 fr5 ⊢
          clear hM4 fr4
          obtain ⟨P5, hP5⟩ : ∃ P5 : Ps, P5 = { P with us := us1 P y, dl := P.dl ++ [nameV y], ps := 0 } := ⟨_, rfl⟩
          have g5 : P5.G = P.G := by rw [hP5]
          have nd := ok.nd
          rw [← hP5] at hM5
          refine ⟨g, .dK (dicF P.G fun x => .ref (ra x)), by rw [← g5]; exact hM5.eg, trivial, fun od => ?_⟩
          have lk : ∀ b u, b ≠ g → G5 b = some u → upd G5 g (.frz od (.dK (dicF P.G fun x => .ref (ra x)))) b = some u := fun b u nb eb => by rw [upd_ne nb]; exact eb
          have eL : upd G5 g (.frz od (.dK (dicF P.G fun x => .ref (ra x)))) g = some (.frz od (.dK (dicF P.G fun x => .ref (ra x)))) := upd_same
          refine r_dgT rfl (.inl (lk _ _ hM5.mg hM5.em)) md_g ?_
          have un : upd (upd G5 g (.frz od (.dK (dicF P.G fun x => .ref (ra x))))) g (.dK (dicF P.G fun x => .ref (ra x))) = G5 := by
            rw [upd_upd]
            funext b
            by_cases e : b = g
            · rw [e, upd_same, hM5.eg, g5]
            · rw [upd_ne e]
          have hM6 : Md (upd (upd G5 g (.frz od (.dK (dicF P.G fun x => .ref (ra x))))) g (.dK (dicF P.G fun x => .ref (ra x)))) m g d ra P5 := by rw [un]; exact hM5
          have fr6 : ∀ b u, H1 b = some u → ¬ Lo m g d ra P.G b → upd G5 g (.frz od (.dK (dicF P.G fun x => .ref (ra x)))) b = some u := fun b u eb l => by
            rw [upd_ne (fun w => l (by rw [w]; exact .inr (.inl rfl)))]
            exact fr5 b u eb l
          generalize upd G5 g (.frz od (.dK (dicF P.G fun x => .ref (ra x)))) = GL at lk eL un hM6 fr6 ⊢
          clear un lk hM5 fr5
          refine ⟨g, od, _, rfl, eL, for_it walk_values (fun i σ G => (∃ x3, σ = [some (.ref m), some (.ref rl), some (nameV y), x3]) ∧ G g = some (.frz od (.dK (dicF P.G fun x => .ref (ra x)))) ∧ Md (upd G g (.dK (dicF P.G fun x => .ref (ra x)))) m g d ra (P5.fresh i) ∧ ∀ b u, H1 b = some u → ¬ Lo m g d ra P.G b → G b = some u)
            ⟨⟨_, rfl⟩, eL, hM6.congr rfl rfl (by rw [hP5]; rfl) rfl (fun x _ => by
              have n0 : x ∉ P5.G.take 0 := fun z => nomatch z
              show HO.lst [_, _, .int ((if x ∈ P5.G.take 0 then P5.pr x else P5.cp x : Nat)), .int ((if x ∈ P5.G.take 0 then P5.ce x else P5.cc x : Nat)), .int ((if x ∈ P5.G.take 0 then 0 else P5.us x : Nat))] = _
              rw [if_neg n0, if_neg n0, if_neg n0]
              rfl), fr6⟩ (fun i σ G _ h => h.2.1) (fun i yv σ G G2 hi hP hY => ?_) (fun σ G hP => ?_)⟩
          · obtain ⟨⟨x3, rfl⟩, eg, hM, fr⟩ := hP
            obtain ⟨rfl, key, hkk⟩ := hY
            rw [dicF_len] at hi
            unfold dicF at hkk
            rw [List.getElem?_map, List.getElem?_eq_getElem hi] at hkk
            obtain ⟨_, rfl⟩ := Prod.mk.inj (Option.some.inj hkk)
            have hx := List.getElem?_eq_getElem hi
            have xG : P.G[i] ∈ P.G := List.getElem_mem hi
            generalize P.G[i] = x at hx xG ⊢
            have x5 : x ∈ (P5.fresh i).G := by show x ∈ P5.G; rw [g5]; exact xG
            have gx := hM.gr x5
            have ny : x ∉ P5.G.take i := by rw [g5]; exact not_yet nd hx
            have ex : G2 (ra x) = some (.lst [.int (P5.pr x), .int (P5.ce x), .int (P5.cp x), .int (P5.cc x), .int (P5.us x)]) := by
              have w := hM.el x x5
              rw [upd_ne gx.symm] at w
              rw [w]
              show some (HO.lst [_, _, .int ((if x ∈ P5.G.take i then _ else P5.cp x : Nat)), .int ((if x ∈ P5.G.take i then _ else P5.cc x : Nat)), .int ((if x ∈ P5.G.take i then _ else P5.us x : Nat))]) = _
              rw [if_neg ny, if_neg ny, if_neg ny]
              rfl
            walk_at "go"
            refine r_ixL (sqL ex) (v := .int (P5.pr x)) rfl ?_
            walk_at "go"
            refine r_ixL (sqL ex) (v := .int (P5.ce x)) rfl ?_
            walk_at "go"
            refine newT fun t G3 n3 s3 e3 => ?_
            walk_at "go"
            refine ⟨_, _, rfl, sqT e3, rfl, ?_⟩
            refine ⟨_, _, rfl, ?_⟩
            walk_at "go"
            refine ⟨ra x, _, 2, 2, rfl, rfl, s3 _ _ ex, rfl, ?_⟩
            refine ⟨_, _, rfl, ?_⟩
            walk_at "go"
            refine ⟨ra x, _, 3, 3, rfl, rfl, upd_same, rfl, ?_⟩
            rw [upd_upd]
            refine ⟨_, _, rfl, ?_⟩
            walk_at "go"
            refine ⟨ra x, _, 4, 4, rfl, rfl, upd_same, rfl, ?_⟩
            rw [upd_upd]
            refine ⟨rfl, ?_⟩
            have tg : t ≠ g := ne_of_none eg n3 |>.symm
            have sU : Same (upd G2 g (.dK (dicF P.G fun x => .ref (ra x)))) (upd G3 g (.dK (dicF P.G fun x => .ref (ra x)))) := fun b u eb => by
              by_cases e : b = g
              · rw [e, upd_same] at eb ⊢; exact eb
              · rw [upd_ne e] at eb ⊢; exact s3 _ _ eb
            have hM7 := (hM.same sU).row (P' := P5.fresh (i + 1)) x5 rfl rfl rfl rfl fun z zG n => by
              have zi : z ∈ P5.G.take (i + 1) ↔ z ∈ P5.G.take i := by
                rw [g5, take_mem hx]
                exact ⟨fun w => w.elim id (fun w => absurd w n), .inl⟩
              show HO.lst [_, _, .int ((if z ∈ P5.G.take (i + 1) then P5.pr z else P5.cp z : Nat)), .int ((if z ∈ P5.G.take (i + 1) then P5.ce z else P5.cc z : Nat)), .int ((if z ∈ P5.G.take (i + 1) then 0 else P5.us z : Nat))] = HO.lst [_, _, .int ((if z ∈ P5.G.take i then P5.pr z else P5.cp z : Nat)), .int ((if z ∈ P5.G.take i then P5.ce z else P5.cc z : Nat)), .int ((if z ∈ P5.G.take i then 0 else P5.us z : Nat))]
              by_cases w : z ∈ P5.G.take i
              · rw [if_pos w, if_pos w, if_pos w, if_pos (zi.mpr w), if_pos (zi.mpr w), if_pos (zi.mpr w)]; rfl
              · rw [if_neg w, if_neg w, if_neg w, if_neg (fun v => w (zi.mp v)), if_neg (fun v => w (zi.mp v)), if_neg (fun v => w (zi.mp v))]; rfl
            have xi : x ∈ P5.G.take (i + 1) := by rw [g5, take_mem hx]; exact .inr rfl
            have e7 : rowO (P5.fresh (i + 1)) x = .lst [.int (P5.pr x), .int (P5.ce x), .int (P5.pr x), .int (P5.ce x), .int 0] := by
              show HO.lst [_, _, .int ((if x ∈ P5.G.take (i + 1) then P5.pr x else P5.cp x : Nat)), .int ((if x ∈ P5.G.take (i + 1) then P5.ce x else P5.cc x : Nat)), .int ((if x ∈ P5.G.take (i + 1) then 0 else P5.us x : Nat))] = _
              rw [if_pos xi, if_pos xi, if_pos xi]
              rfl
            rw [e7, upd_comm gx] at hM7
            refine ⟨⟨_, rfl⟩, ?_, hM7, fun b u eb l => ?_⟩
            · rw [upd_ne gx]
              exact s3 _ _ eg
            · rw [upd_ne (fun w => l (by rw [w]; exact .inr (.inr (.inr ⟨x, xG, rfl⟩))))]
              exact s3 _ _ (fr b u eb l)
          · obtain ⟨⟨x3, rfl⟩, eg, hM, fr⟩ := hP
            refine ⟨eg, ⟨_, rfl⟩, hM.congr (by rw [hP5]; rfl) (by rw [hP5]; rfl) ?_ (by rw [hP5]; rfl) fun x hx => ?_, fun b u eb l => ?_⟩
            · show (if P.ps + 1 = P.L then 0 else P.ps + 1) = 0
              rw [if_pos c]
            · have xn : x ∈ P5.G.take (dicF P.G fun x => V.ref (ra x)).length := by
                rw [dicF_len, ← g5, List.take_length]
                exact hx
              show HO.lst [_, _, .int (((if P.ps + 1 = P.L then P.pr else P.cp) x : Nat)), .int (((if P.ps + 1 = P.L then P.ce else P.cc) x : Nat)), .int ((if P.ps + 1 = P.L then 0 else _ : Nat))] = HO.lst [_, _, .int ((if x ∈ P5.G.take _ then P5.pr x else P5.cp x : Nat)), .int ((if x ∈ P5.G.take _ then P5.ce x else P5.cc x : Nat)), .int ((if x ∈ P5.G.take _ then 0 else P5.us x : Nat))]
              rw [if_pos xn, if_pos xn, if_pos xn, if_pos c, if_pos c, if_pos c, hP5]
              rfl
            · rw [upd_ne (fun w => l (by rw [w]; exact .inr (.inl rfl)))]
              exact fr b u eb l
        · rw [decide_eq_false (show ¬ V.int ((P.ps + 1 : Nat) : Int) = V.int (P.L : Nat) from fun z => c (by injection z with z; omega))]
          walk_at "go"
          refine ⟨⟨_, rfl⟩, hM4.congr rfl rfl (if_neg c) rfl fun x _ => ?_, fr4⟩
          show HO.lst [_, _, .int (((if P.ps + 1 = P.L then P.pr else P.cp) x : Nat)), .int (((if P.ps + 1 = P.L then P.ce else P.cc) x : Nat)), .int ((if P.ps + 1 = P.L then 0 else _ : Nat))] = _
          rw [if_neg c, if_neg c, if_neg c]
          rfl
      · rintro σ G5 ⟨⟨x3, rfl⟩, hM5, fr5⟩
        walk_at "go"
        exact q G5 hM5 fun b u eb l => fr5 b u (fr0 b u eb l) l
theorem ok_twinL {f : Addr} {fd : FuncData} (F : Fun K "_law_twin" "_law_twin" s_twin_L f fd) (T : Txt K mg A) : FnOk P w K mg base CX0 1 f fd ["_law_model_here"] spTwinL := by
  refine F.ok sc_twin_L (fun vs H Q E h => ?_) (fun cdv A' outer s H vs Q E hr h => have hu65 := units65 hr; have hu64 := hr.units; have hu := units1 hr; ⟨_, (pss_cons (ps_set (i := 1) sc_twin_L.nd rfl (.inl rfl) (pe_callTy (call_dictP rfl) (by rfl) T.m_dict (by decide +kernel) (pa_cons (pe_lock (pe_lc (own := [("_law_label", 2), ("_law_row", 3)]) rfl sc_twin_L.nd (pi_items (pe_dget hu (pv 0) pe_str (fun _ _ => rfl))) (blkOk_by (N := ["_law_model_here", "_law_guests", "_law_label", "_law_row"]) (sc := defScope s_twin_L) (by decide +kernel)) (fun _ _ _ _ _ => (pg_tupK (K := K) (n := 2) rfl rfl (pgs_cons (pg_name (i := 2) sc_twin_L.nd rfl (.inl rfl)) (pgs_cons (pg_name (i := 3) sc_twin_L.nd rfl (.inl rfl)) pgs_nil)))) (fun _ _ _ _ _ => pts_nil) (fun _ _ _ _ _ => (pe_tup (pa_cons (pv 2) (pa_cons (pe_callTy (call_list_ofK (K := K) rfl) (by rfl) T.m_list (by decide +kernel) (pa_cons (pv 3) pa_nil)) pa_nil)))))) pa_nil)))
    (pss_one (ps_ret (pe_disp (pps_cons pe_str (pe_dget hu (pv 0) pe_str (fun _ _ => rfl)) (pps_cons pe_str (pv 1) (pps_cons pe_str (pe_dget hu (pv 0) pe_str (fun _ _ => rfl)) (pps_cons pe_str (pe_callTy call_list_of (by rfl) T.m_list (by decide +kernel) (pa_cons (pe_dget hu (pv 0) pe_str (fun _ _ => rfl)) pa_nil)) pps_nil)))) rfl rfl (by simp) (by decide))))), ?_⟩)
  · obtain ⟨m, g, d, ra, P, rfl, _⟩ := h
    rfl
  · obtain ⟨m, g, d, ra, P, rfl, hM, g6, nd, q⟩ := h
    walk_at "go"
    refine lcPrsI (M := P.G) (fun z => rowO P z) (by omega) hM.eg (fun od QQ z => ?_) (fun z T od H1 Q' R' hz eT ed fr kk => ?_) fun D H1 ts cs nD s1 eD l1 l2 all cn frs => ?_
    · exact r_dgT rfl (.inl (by rw [upd_ne hM.mg]; exact hM.em)) md_g z
    · have ez := fr _ _ (hM.gr hz).symm (hM.el z hz)
      refine ⟨_, _, rfl, sqT eT, rfl, ?_⟩
      refine ⟨_, _, rfl, _, _, rfl, rfl, rfl, r_yes ?_⟩
      walk_at "go"
      refine ⟨ra z, _, rfl, .inl (sqL ez), fun c nc => ?_⟩
      walk_at "go"
      refine newT fun t H3 nt s3 e3 => ?_
      have ec := s3 _ _ (upd_same (H := H1) (a := c) (o := .lst (rowL P z)))
      have s4 : Same H1 (upd H1 c (.lst (rowL P z))) := same_upd nc
      exact kk t c H3 (s4.free nt) nc (fun w => by rw [w, upd_same] at nt; exact nomatch nt) (s4.trans s3) e3 ec
    · walk_at "go"
      refine r_dictP (Q := fun x H' => gName 1 x _ H' _) nd eD l1 l2 all cn fun p f H3 np s3 ep ho inj => ?_
      walk_at "go"
      intro m' nm
      have s13 := s1.trans s3
      have s4 : Same H3 (upd H3 m' (.dK [])) := same_upd nm
      have em4 : upd H3 m' (.dK []) m' = some (.dK []) := upd_same
      have hM4 := (hM.same s13).same s4
      have s14 := s13.trans s4
      generalize upd H3 m' (.dK []) = H4 at s4 em4 hM4 s14 ⊢
      unfold tPairs
      walk_at "go"
      refine r_dgT rfl (.inl hM4.em) md_l ?_
      unfold tPairs
      walk_at "go"
      unfold tPairs
      walk_at "go"
      refine r_dgT rfl (.inl hM4.em) md_p ?_
      unfold tPairs
      walk_at "go"
      refine r_dgT rfl (.inl hM4.em) md_d ?_
      walk_at "go"
      refine ⟨d, _, rfl, .inl (sqL hM4.ed), fun d' nd' => ?_⟩
      have s5 : Same H4 (upd H4 d' (.lst P.dl)) := same_upd nd'
      have ed5 : upd H4 d' (.lst P.dl) d' = some (.lst P.dl) := upd_same
      have em5 := s5 _ _ em4
      have md : d' ≠ m' := (ne_of_none em4 nd').symm
      generalize upd H4 d' (.lst P.dl) = H5 at s5 ed5 em5 ⊢
      unfold tPairs
      refine ⟨em5, mdD P.L p P.ps d', rfl, by show 4 ≤ 15; decide, ?_⟩
      rw [md_new]
      have nmH : H m' = none := s13.free nm
      have kp : ∀ b u, H3 b = some u → upd H5 m' (.dK (mdD P.L p P.ps d')) b = some u := fun b u eb => by
        rw [upd_ne (ne_of_none eb nm)]
        exact s5 _ _ (s4 _ _ eb)
      refine q m' p d' f _ (fun b u eb => kp _ _ (s13 _ _ eb)) ⟨upd_same, kp _ _ ep, by rw [upd_ne md]; exact ed5, fun x hx => kp _ _ (ho x hx).1, inj, (ne_of_none ep nm).symm, fun x hx z => ?_⟩ fun b lo => ?_
      · have w := s4 _ _ (ho x hx).1
        rw [← z, nd'] at w
        exact nomatch w
      · rcases lo with z | z | z | ⟨x, hx, z⟩
        · rw [z]; exact nmH
        · rw [z]; exact s1.free np
        · rw [z]; exact s14.free nd'
        · rw [z]; exact frs _ (ho x hx).2
end
end K25

namespace K25
open PySem PySem.Spec PyProof.Rows L2 Bk


/-- what was dealt is told by names and None -/
def DlOk (P : Ps) : Prop := P.dl.all smS = true
theorem r_eqSame {K : PySem.W.Frag} {H : Hp} {x y : V} {Q : VK} {d : PyData} (h1 : Dp K H x d) (h2 : Dp K H y d) (s : SeqAt.shaped d = true) (q : Q (.bl true) H) : rEqD K x y H Q :=
  ⟨d, d, h1, h2, s, s, by rw [SeqAt.eqv_refl d (SeqAt.canLay_of_shaped s)]; exact q⟩
theorem dq_rows {b : Bool} {K : PySem.W.Frag} {H : Hp} {f : Str → PyData} : ∀ {G : List Str} {xs : List V}, xs.length = G.length → (∀ (k : Nat) v x, xs[k]? = some v → G[k]? = some x → Dq b K H v (f x)) → DqAll b K H xs (G.map f)
  | [], [], _, _ => .nil
  | x :: G, v :: xs, l, h => .cons (h 0 v x rfl rfl) (dq_rows (Nat.succ.inj l) fun k v x a c => h (k + 1) v x a c)
theorem small_rows {f : Str → PyData} {M : Nat} : ∀ {G : List Str}, (∀ x ∈ G, smQ (f x) = true ∧ (f x).bulk ≤ M ∧ (f x).depth ≤ 20) → smQL (G.map f) = true ∧ PyData.bulkAll (G.map f) ≤ (M + 1) * G.length ∧ PyData.depthAll (G.map f) ≤ 20
  | [], _ => ⟨rfl, Nat.le_refl _, Nat.zero_le _⟩
  | x :: G, h => by
    obtain ⟨h1, h2, h3⟩ := h x List.mem_cons_self
    obtain ⟨g1, g2, g3⟩ := small_rows (G := G) fun y hy => h y (List.mem_cons_of_mem _ hy)
    refine ⟨by simp only [List.map_cons, smQL, h1, g1, Bool.and_true], ?_, ?_⟩
    · simp only [List.map_cons, PyData.bulkAll, List.length_cons, Nat.mul_succ]
      omega
    · simp only [List.map_cons, PyData.depthAll]
      omega
/-- the text of a list of rows -/
theorem shq_rows {K : PySem.W.Frag} {H : Hp} {a : Addr} {f : Str → PyData} {G : List Str} {xs : List V} (h : SqL K H a xs) (l : xs.length = G.length) (i : ∀ (k : Nat) v x, xs[k]? = some v → G[k]? = some x → Dq false K H v (f x)) (s : ∀ x ∈ G, smQ (f x) = true ∧ (f x).bulk ≤ 10 ∧ (f x).depth ≤ 20) (g6 : G.length ≤ 6) : Shq K H (.ref a) (PyData.list (G.map f)).shown := by
  obtain ⟨s1, s2, s3⟩ := small_rows s
  exact shq_of (b := false) (.lst (fun z => (nomatch z)) h (dq_rows l i)) (by simpa only [smQ] using s1) (by simp only [PyData.bulk]; omega) (by simp only [PyData.depth]; omega)
theorem sm_int {n : Nat} (h : n ≤ 100000) : smQ (.int (n : Nat)) = true := by
  simp only [smQ, decide_eq_true_eq, Int.natAbs_natCast]
  omega
def rowD1 (P : Ps) (x : Str) : PyData := .list [.int (P.pr x : Nat), .int (P.ce x : Nat)]
def rowD2 (P : Ps) (x : Str) : PyData := .tuple [.tuple [.int (P.cp x : Nat), .int (P.cc x : Nat)], .int (P.us x : Nat)]
theorem rowD1_ok {P : Ps} (ok : P.Ok) {x : Str} (h : x ∈ P.G) : smQ (rowD1 P x) = true ∧ (rowD1 P x).bulk ≤ 10 ∧ (rowD1 P x).depth ≤ 20 := by
  have a := ok.pc x h
  have b := ok.l60
  refine ⟨?_, ?_, ?_⟩
  · simp only [rowD1, smQ, smQL, Bool.and_true, Bool.and_eq_true, decide_eq_true_eq, Int.natAbs_natCast]
    omega
  · simp only [rowD1, PyData.bulk, PyData.bulkAll]; decide
  · simp only [rowD1, PyData.depth, PyData.depthAll]; decide
theorem rowD2_ok {P : Ps} (ok : P.Ok) {x : Str} (h : x ∈ P.G) : smQ (rowD2 P x) = true ∧ (rowD2 P x).bulk ≤ 10 ∧ (rowD2 P x).depth ≤ 20 := by
  have a := ok.cl x h
  have b := ok.l60
  have c := ok.u60 x h
  have d := ok.ps
  refine ⟨?_, ?_, ?_⟩
  · simp only [rowD2, smQ, smQL, Bool.and_true, Bool.and_eq_true, decide_eq_true_eq, Int.natAbs_natCast]
    omega
  · simp only [rowD2, PyData.bulk, PyData.bulkAll]; decide
  · simp only [rowD2, PyData.depth, PyData.depthAll]; decide
theorem dq_row1 {K : PySem.W.Frag} {H : Hp} {P : Ps} {x : Str} {t : Addr} (e : H t = some (.lst [.int (P.pr x : Nat), .int (P.ce x : Nat)])) : Dq false K H (.ref t) (rowD1 P x) := .lst (fun z => nomatch z) (sqL e) (.cons (.int _) (.cons (.int _) .nil))
/-- a row of way 2 -/
def Row2 (P : Ps) (x : Str) (v : V) (H : Hp) : Prop := ∃ t c : Addr, v = .ref t ∧ H t = some (.tup [.ref c, .int (P.us x : Nat)]) ∧ H c = some (.tup [.int (P.cp x : Nat), .int (P.cc x : Nat)])
theorem Row2.ts {P : Ps} {x : Str} {v : V} {H H' : Hp} (s : TS H H') (h : Row2 P x v H) : Row2 P x v H' := by
  obtain ⟨t, c, e, h1, h2⟩ := h
  exact ⟨t, c, e, s _ _ h1, s _ _ h2⟩
theorem Row2.dq {K : PySem.W.Frag} {P : Ps} {x : Str} {v : V} {H : Hp} (h : Row2 P x v H) : Dq false K H v (rowD2 P x) := by
  obtain ⟨t, c, rfl, h1, h2⟩ := h
  exact .tup (sqT h1) (.cons (.tup (sqT h2) (.cons (.int _) (.cons (.int _) .nil))) (.cons (.int _) .nil))
theorem Sh.lock {C : Addr} {H H' : Hp} {S : Sa} {P : Ps} {g : Addr} {kvs : List (Key × V)} (h : Sh C H S P) (eg : H g = some (.dK kvs)) (no : ¬ S.own g) (fr : ∀ b u, b ≠ g → H b = some u → H' b = some u) : Sh C H' S P :=
  h.stay (fun b u o e => fr _ _ (fun z => no (by rw [← z]; exact o)) e) fun a xs e => fr _ _ (ne_ct e eg (fun z => nomatch z)) e
theorem dic_at {G : List Str} {f : Str → V} {i : Nat} {k : Key} {y : V} (hk : (dicF G f)[i]? = some (k, y)) : ∃ x, G[i]? = some x ∧ x ∈ G ∧ k = .inr x ∧ y = f x ∧ G.getD i "" = x := by
  unfold dicF at hk
  rw [List.getElem?_map] at hk
  cases h : G[i]? with
  | none => rw [h] at hk; exact nomatch hk
  | some x =>
    rw [h] at hk
    obtain ⟨rfl, rfl⟩ := Prod.mk.inj (Option.some.inj hk)
    exact ⟨x, rfl, List.mem_of_getElem? h, rfl, rfl, by rw [List.getD_eq_getElem?_getD, h]; rfl⟩
theorem getD_at {G : List Str} {i : Nat} {x : Str} (h : G[i]? = some x) : G.getD i "" = x := by rw [List.getD_eq_getElem?_getD, h]; rfl
def spAsked (A : Ad) : Sp := fun vs H Q _ => ∃ (S : Sa) (P : Ps) (m g d : Addr) (ra : Str → Addr) (way : Int), vs = [.ref S.o, .ref m, .int way] ∧ Sh A.CS H S P ∧ Md H m g d ra P ∧ DlOk P ∧ (∀ b, Lo m g d ra P.G b → ¬ S.own b) ∧ 0 ≤ way ∧ way < 5 ∧ ∀ H', Same H H' → Q (.bl true) H'
def spStands (A : Ad) : Sp := fun vs H Q _ => ∃ (S : Sa) (P : Ps) (m g d : Addr) (ra : Str → Addr) (ask : Int), vs = [.ref S.o, .ref m, .int ask] ∧ Sh A.CS H S P ∧ Md H m g d ra P ∧ DlOk P ∧ (∀ b, Lo m g d ra P.G b → ¬ S.own b) ∧ 0 ≤ ask ∧ ask < 6 ∧ ∀ H', Same H H' → Q (.bl true) H'
section
variable {P : Program} {w : World} {K : PySem.W.Frag} {mg : Str → Option Value} {base : Heap} {A : Ad}
theorem ok_asked {f : Addr} {fd : FuncData} (F : Fun K "_law_asked" "_law_asked" s_asked_L f fd) (T : Txt K mg A) (c_together_L : CalD P w K mg base CX0 1 "_law_together" spTogether [])
    (c_Shares_names : CalM P w K mg base CX0 1 A.CS "names" (spNames A)) (c_Shares_length : CalM P w K mg base CX0 1 A.CS "length" (spLength A)) (c_Shares_promised : CalM P w K mg base CX0 1 A.CS "promised" (spPromised A)) (c_Shares_passed : CalM P w K mg base CX0 1 A.CS "passed" (spPassed A)) (c_Shares_dealt : CalM P w K mg base CX0 1 A.CS "dealt" (spDealt A))
    (k_Shares_promise_name : CalMK P w K mg base (L2.CX P w) 5 0 ["name"] A.CS "promise" (spPromise A) (fun vs zs => vs ++ zs)) (k_Shares_ceiling_name : CalMK P w K mg base (L2.CX P w) 5 0 ["name"] A.CS "ceiling" (spCeil A) (fun vs zs => vs ++ zs)) (k_Shares_counting_name : CalMK P w K mg base (L2.CX P w) 5 0 ["name"] A.CS "counting" (spCounting A) (fun vs zs => vs ++ zs)) (k_Shares_used_name : CalMK P w K mg base (L2.CX P w) 5 0 ["name"] A.CS "used" (spUsed A) (fun vs zs => vs ++ zs)) : FnG P w K mg base CX0 6 f fd ["_law_shares", "_law_model_here", "_law_way"] (spAsked A) := by
  refine fun_okG F sc_asked_L (fun vs H Q E h => ?_) (fun cdv A' outer s H vs Q E ga hr h => have hu65 := units65 hr; have hu64 := hr.units; have hu := units1 hr; ⟨_, (pss_cons (ps_if (pt_cmpR op_eq (pv 2) pe_int (nomark _)) (pss_one (ps_ret (pe_cmpR (op_eqD hu64) (pe_mth0 (pv 0) T.cl_Shares c_Shares_names hr (by decide) ps0) (pe_callTy (call_listD rfl) (by rfl) T.m_list (by decide +kernel) (pa_cons (pe_dget hu (pv 1) pe_str (fun _ _ => rfl)) pa_nil)) (nomark _)))) pss_nil)
    (pss_cons (ps_if (pt_cmpR op_eq (pv 2) pe_int (nomark _)) (pss_cons (ps_lock (ps_setLc (i := 3) (own := [("_law_label", 5)]) rfl sc_asked_L.nd rfl rfl (sw_true rfl rfl rfl (by decide +kernel)) (pi_keys (pe_dget hu (pv 1) pe_str (fun _ _ => rfl))) (blkOk_by (N := ["_law_shares", "_law_model_here", "_law_way", "_law_rows", "_law_told", "_law_label", "_law_row"]) (sc := defScope s_asked_L) (by decide +kernel)) (fun _ _ _ _ _ => (pg_name (i := 5) sc_asked_L.nd rfl (.inl rfl))) (fun _ _ _ _ _ => pts_nil) (fun _ _ _ _ _ => (pe_lstB (pa_cons (pe_mthK (pv 0) T.cl_Shares k_Shares_promise_name hr (by decide) psY (pk_cons (pv 5) pk_nil)) (pa_cons (pe_mthK (pv 0) T.cl_Shares k_Shares_ceiling_name hr (by decide) psY (pk_cons (pv 5) pk_nil)) pa_nil))))))
    (pss_one (ps_ret (pe_cmpR op_eq (pe_callB (call_repr_shq ga hr) (by rfl) T.m_repr (by decide +kernel) (pa_cons (pv 3) pa_nil)) (pe_callB (call_repr_shq ga hr) (by rfl) T.m_repr (by decide +kernel) (pa_cons (pe_lock (pe_lc (own := [("_law_row", 6)]) rfl sc_asked_L.nd (pi_values (pe_dget hu (pv 1) pe_str (fun _ _ => rfl))) (blkOk_by (N := ["_law_shares", "_law_model_here", "_law_way", "_law_rows", "_law_told", "_law_label", "_law_row"]) (sc := defScope s_asked_L) (by decide +kernel)) (fun _ _ _ _ _ => (pg_name (i := 6) sc_asked_L.nd rfl (.inl rfl))) (fun _ _ _ _ _ => pts_nil) (fun _ _ _ _ _ => (pe_slice (sl_listK (K := K) rfl) (pv 6) po_none (po_some pe_int))))) pa_nil)) (nomark _))))) pss_nil)
    (pss_cons (ps_if (pt_cmpR op_eq (pv 2) pe_int (nomark _)) (pss_cons (ps_lock (ps_setLc (i := 3) (own := [("_law_label", 5)]) rfl sc_asked_L.nd rfl rfl (sw_true rfl rfl rfl (by decide +kernel)) (pi_keys (pe_dget hu (pv 1) pe_str (fun _ _ => rfl))) (blkOk_by (N := ["_law_shares", "_law_model_here", "_law_way", "_law_rows", "_law_told", "_law_label", "_law_row"]) (sc := defScope s_asked_L) (by decide +kernel)) (fun _ _ _ _ _ => (pg_name (i := 5) sc_asked_L.nd rfl (.inl rfl))) (fun _ _ _ _ _ => pts_nil) (fun _ _ _ _ _ => (pe_tup (pa_cons (pe_mthK (pv 0) T.cl_Shares k_Shares_counting_name hr (by decide) psY (pk_cons (pv 5) pk_nil)) (pa_cons (pe_mthK (pv 0) T.cl_Shares k_Shares_used_name hr (by decide) psY (pk_cons (pv 5) pk_nil)) pa_nil))))))
    (pss_one (ps_ret (pe_cmpR op_eq (pe_callB (call_repr_shq ga hr) (by rfl) T.m_repr (by decide +kernel) (pa_cons (pv 3) pa_nil)) (pe_callB (call_repr_shq ga hr) (by rfl) T.m_repr (by decide +kernel) (pa_cons (pe_lock (pe_lc (own := [("_law_row", 6)]) rfl sc_asked_L.nd (pi_values (pe_dget hu (pv 1) pe_str (fun _ _ => rfl))) (blkOk_by (N := ["_law_shares", "_law_model_here", "_law_way", "_law_rows", "_law_told", "_law_label", "_law_row"]) (sc := defScope s_asked_L) (by decide +kernel)) (fun _ _ _ _ _ => (pg_name (i := 6) sc_asked_L.nd rfl (.inl rfl))) (fun _ _ _ _ _ => pts_nil) (fun _ _ _ _ _ => (pe_tup (pa_cons (pe_tup (pa_cons (pe_ix (ix_listK (K := K) rfl) (pv 6) pe_int (fun _ _ => rfl)) (pa_cons (pe_ix (ix_listK (K := K) rfl) (pv 6) pe_int (fun _ _ => rfl)) pa_nil))) (pa_cons (pe_ix (ix_listK (K := K) rfl) (pv 6) pe_int (fun _ _ => rfl)) pa_nil)))))) pa_nil)) (nomark _))))) pss_nil)
    (pss_cons (ps_if (pt_cmpR op_eq (pv 2) pe_int (nomark _)) (pss_cons (ps_set (i := 4) sc_asked_L.nd rfl (.inl rfl) (pe_lstB (pa_cons (pe_mth0 (pv 0) T.cl_Shares c_Shares_passed hr (by decide) ps0) (pa_cons (pe_mth0 (pv 0) T.cl_Shares c_Shares_promised hr (by decide) ps0) (pa_cons (pe_mth0 (pv 0) T.cl_Shares c_Shares_length hr (by decide) ps0) pa_nil)))))
    (pss_one (ps_ret (pe_cmpR op_eq (pe_callB (call_repr_shq ga hr) (by rfl) T.m_repr (by decide +kernel) (pa_cons (pv 4) pa_nil)) (pe_callB (call_repr_shq ga hr) (by rfl) T.m_repr (by decide +kernel) (pa_cons (pe_lstB (pa_cons (pe_dget hu (pv 1) pe_str (fun _ _ => rfl)) (pa_cons (pe_cal c_together_L hr (by decide) (by rfl) (pa_cons (pv 1) (pa_cons pe_non pa_nil))) (pa_cons (pe_dget hu (pv 1) pe_str (fun _ _ => rfl)) pa_nil)))) pa_nil)) (nomark _))))) pss_nil)
    (pss_cons (ps_set (i := 4) sc_asked_L.nd rfl (.inl rfl) (pe_mth0 (pv 0) T.cl_Shares c_Shares_dealt hr (by decide) ps0))
    (pss_cons (ps_if (pt_cmpR op_ne (pe_callB (call_repr_shq ga hr) (by rfl) T.m_repr (by decide +kernel) (pa_cons (pv 4) pa_nil)) (pe_callB (call_repr_shq ga hr) (by rfl) T.m_repr (by decide +kernel) (pa_cons (pe_dget hu (pv 1) pe_str (fun _ _ => rfl)) pa_nil)) (nomark _)) (pss_one (ps_ret pe_bl)) pss_nil)
    (pss_cons (ps_expr (pe_bm PySem.F.plainAttrs_list PySem.F.slot_list_append PySem.F.type_list_append mt_append (pv 4) (pa_cons pe_str pa_nil)))
    (pss_cons (ps_expr (pe_bm PySem.F.plainAttrs_list PySem.F.slot_list_append PySem.F.type_list_append mt_append (pe_mth0 (pv 0) T.cl_Shares c_Shares_names hr (by decide) ps0) (pa_cons pe_str pa_nil)))
    (pss_one (ps_ret (pe_and (pe_cmpR op_eq (pe_callB (call_repr_shq ga hr) (by rfl) T.m_repr (by decide +kernel) (pa_cons (pe_mth0 (pv 0) T.cl_Shares c_Shares_dealt hr (by decide) ps0) pa_nil)) (pe_callB (call_repr_shq ga hr) (by rfl) T.m_repr (by decide +kernel) (pa_cons (pe_dget hu (pv 1) pe_str (fun _ _ => rfl)) pa_nil)) (nomark _)) (pe_one (pe_cmpR op_notIn_seq pe_str (pe_mth0 (pv 0) T.cl_Shares c_Shares_names hr (by decide) ps0) (by rfl)))))))))))))), ?_⟩)
  · obtain ⟨S, P, m, g, d, ra, way, rfl, _⟩ := h
    rfl
  · obtain ⟨S, P, m, g, d, ra, way, rfl, hS, hM, dlo, sep, w0, w5, q⟩ := h
    obtain ⟨dx, fs, e, fL, fT, fC, fU, fP, fD, fn⟩ := hS.ob
    have nof : ∀ m : Str, (m == ("_length" : Str)) = false → (m == ("_told" : Str)) = false → (m == ("_counts" : Str)) = false → (m == ("_used" : Str)) = false → (m == ("_passed" : Str)) = false → (m == ("_dealt" : Str)) = false → fs.lookup m = none := fn.2
    have six := hS.ok.six
    have nog : ¬ S.own g := sep g (.inr (.inl rfl))
    have eog : S.o ≠ g := fun z => nog (.inl z.symm)
    walk_at "go"
    by_cases h0 : way = 0
    · rw [decide_eq_true (by rw [h0])]
      walk_at "go"
      refine ⟨S.o, dx, fs, rfl, e, nof _ (by decide +kernel) (by decide +kernel) (by decide +kernel) (by decide +kernel) (by decide +kernel) (by decide +kernel), ?_⟩
      walk_at "go"
      refine ⟨S, P, rfl, hS, fun p H1 np s1 ep => ?_⟩
      walk_at "go"
      have hM1 := hM.same s1
      refine r_dgT rfl (.inl hM1.em) md_g ?_
      walk_at "go"
      refine ⟨g, _, rfl, .inl hM1.eg, fun p2 np2 => ?_⟩
      have hm : (dicF P.G fun x => V.ref (ra x)).map (fun kv => kV kv.1) = P.G.map V.str := by
        unfold dicF
        rw [List.map_map]
        rfl
      rw [hm]
      have s2 := same_upd (o := .lst (P.G.map V.str)) np2
      exact r_eqSame (dp_strs (sqL (s2 _ _ ep))) (dp_strs (sqL upd_same)) (sh_strs fun x hx => str_of_name (hS.ok.nm x hx)) (q _ (s1.trans s2))
    · rw [decide_eq_false (fun z => h0 (by injection z))]
      walk_at "go"
      by_cases h1 : way = 1
      · rw [decide_eq_true (by rw [h1])]
        walk_at "go"
        refine lockS ?_
        refine lcNewK (fun i => .lst [.int (P.pr (P.G.getD i "")), .int (P.ce (P.G.getD i ""))]) hM.eg (by rw [dicF_len]; omega) (fun _ => rfl) (fun od QQ z => ?_) (fun i k y od H1 Q' hk ed fr kk => ?_) fun D H1 ts nD s1 eD l1 all => ?_
        · exact r_dgT rfl (.inl (by rw [upd_ne hM.mg]; exact hM.em)) md_g z
        · obtain ⟨x, hx, xG, rfl, rfl, gx⟩ := dic_at hk
          rw [gx] at kk
          have hS1 := hS.lock hM.eg nog fr
          have e1 := fr _ _ eog e
          walk_at "go"
          refine ⟨S.o, dx, fs, rfl, e1, nof _ (by decide +kernel) (by decide +kernel) (by decide +kernel) (by decide +kernel) (by decide +kernel) (by decide +kernel), ?_⟩
          walk_at "go"
          refine ⟨rfl, S, P, x, rfl, hS1, xG, fun H2 s2 => ?_⟩
          walk_at "go"
          refine ⟨S.o, dx, fs, rfl, s2 _ _ e1, nof _ (by decide +kernel) (by decide +kernel) (by decide +kernel) (by decide +kernel) (by decide +kernel) (by decide +kernel), ?_⟩
          walk_at "go"
          refine ⟨rfl, S, P, x, rfl, hS1.same s2, xG, fun H3 s3 => ?_⟩
          walk_at "go"
          refine newLB fun t H4 n4 g4 s4 e4 => ?_
          exact kk t H4 (s2.free (s3.free n4)) (s2.trans (s3.trans s4)) e4
        · rw [dicF_len] at l1
          walk_at "go"
          refine ⟨.ref D, _, rfl, shq_rows (f := rowD1 P) (G := P.G) (sqL eD) (by rw [List.length_map, l1]) (fun k v x hv hx => ?_) (fun x hx => rowD1_ok hS.ok hx) six, ?_⟩
          · rw [List.getElem?_map] at hv
            cases ht : ts[k]? with
            | none => rw [ht] at hv; exact nomatch hv
            | some t =>
              rw [ht] at hv
              obtain rfl := Option.some.inj hv
              have w := all k t ht
              rw [getD_at hx] at w
              exact dq_row1 w
          have hM1 := hM.same s1
          walk_at "go"
          refine lcNewV (fun i => .lst [.int (P.pr (P.G.getD i "")), .int (P.ce (P.G.getD i ""))]) hM1.eg (by rw [dicF_len]; omega) (fun _ => rfl) (fun od QQ z => ?_) (fun i k y od H2 Q' hk ed fr kk => ?_) fun D2 H2 ts2 nD2 s2 eD2 l2 all2 => ?_
          · exact r_dgT rfl (.inl (by rw [upd_ne hM1.mg]; exact hM1.em)) md_g z
          · obtain ⟨x, hx, xG, rfl, rfl, gx⟩ := dic_at hk
            rw [gx] at kk
            have ex := fr _ _ (hM1.gr xG).symm (hM1.el x xG)
            walk_at "go"
            refine r_slL (sqL ex) rfl (fun o H6 n6 s6 e6 => ?_)
            exact kk o H6 n6 s6 e6
          · rw [dicF_len] at l2
            walk_at "go"
            refine ⟨.ref D2, _, rfl, shq_rows (f := rowD1 P) (G := P.G) (sqL eD2) (by rw [List.length_map, l2]) (fun k v x hv hx => ?_) (fun x hx => rowD1_ok hS.ok hx) six, ?_⟩
            · rw [List.getElem?_map] at hv
              cases ht : ts2[k]? with
              | none => rw [ht] at hv; exact nomatch hv
              | some t =>
                rw [ht] at hv
                obtain rfl := Option.some.inj hv
                have w := all2 k t ht
                rw [getD_at hx] at w
                exact dq_row1 w
            walk_at "go"
            rw [decide_eq_true rfl]
            exact q _ (s1.trans s2)
      · rw [decide_eq_false (fun z => h1 (by injection z))]
        walk_at "go"
        by_cases h2 : way = 2
        · rw [decide_eq_true (by rw [h2])]
          walk_at "go"
          refine lockS ?_
          refine lcAnyK (fun i v H => Row2 P (P.G.getD i "") v H) (fun i v H1 H2 s h => h.ts s) hM.eg (by rw [dicF_len]; omega) (fun _ => rfl) (fun od QQ z => ?_) (fun i k y od H1 Q' hk ed fr kk => ?_) fun D H1 xs nD s1 eD l1 all => ?_
          · exact r_dgT rfl (.inl (by rw [upd_ne hM.mg]; exact hM.em)) md_g z
          · obtain ⟨x, hx, xG, rfl, rfl, gx⟩ := dic_at hk
            rw [gx] at kk
            have hS1 := hS.lock hM.eg nog fr
            have e1 := fr _ _ eog e
            walk_at "go"
            refine ⟨S.o, dx, fs, rfl, e1, nof _ (by decide +kernel) (by decide +kernel) (by decide +kernel) (by decide +kernel) (by decide +kernel) (by decide +kernel), ?_⟩
            walk_at "go"
            refine ⟨rfl, S, P, x, rfl, hS1, xG, fun c H2 s2 ec => ?_⟩
            walk_at "go"
            refine ⟨S.o, dx, fs, rfl, s2 _ _ e1, nof _ (by decide +kernel) (by decide +kernel) (by decide +kernel) (by decide +kernel) (by decide +kernel) (by decide +kernel), ?_⟩
            walk_at "go"
            refine ⟨rfl, S, P, x, rfl, hS1.same s2, xG, fun H3 s3 => ?_⟩
            walk_at "go"
            refine newT fun t H4 n4 s4 e4 => ?_
            exact kk _ H4 (s2.trans (s3.trans s4)) ⟨t, c, rfl, e4, s4 _ _ (s3 _ _ ec)⟩
          · rw [dicF_len] at l1
            walk_at "go"
            refine ⟨.ref D, _, rfl, shq_rows (f := rowD2 P) (G := P.G) (sqL eD) l1 (fun k v x hv hx => ?_) (fun x hx => rowD2_ok hS.ok hx) six, ?_⟩
            · have w := all k v hv
              rw [getD_at hx] at w
              exact w.dq
            have hM1 := hM.same s1
            walk_at "go"
            refine lcAnyV (fun i v H => Row2 P (P.G.getD i "") v H) (fun i v H1 H2 s h => h.ts s) hM1.eg (by rw [dicF_len]; omega) (fun _ => rfl) (fun od QQ z => ?_) (fun i k y od H2 Q' hk ed fr kk => ?_) fun D2 H2 xs2 nD2 s2 eD2 l2 all2 => ?_
            · exact r_dgT rfl (.inl (by rw [upd_ne hM1.mg]; exact hM1.em)) md_g z
            · obtain ⟨x, hx, xG, rfl, rfl, gx⟩ := dic_at hk
              rw [gx] at kk
              have ex := fr _ _ (hM1.gr xG).symm (hM1.el x xG)
              walk_at "go"
              refine r_ixL (sqL ex) (v := .int (P.cp x)) rfl ?_
              walk_at "go"
              refine r_ixL (sqL ex) (v := .int (P.cc x)) rfl ?_
              walk_at "go"
              refine newT fun c H3 n3 s3 e3 => ?_
              walk_at "go"
              refine r_ixL (sqL (s3 _ _ ex)) (v := .int (P.us x)) rfl ?_
              walk_at "go"
              refine newT fun t H4 n4 s4 e4 => ?_
              exact kk _ H4 (s3.trans s4) ⟨t, c, rfl, e4, s4 _ _ e3⟩
            · rw [dicF_len] at l2
              walk_at "go"
              refine ⟨.ref D2, _, rfl, shq_rows (f := rowD2 P) (G := P.G) (sqL eD2) l2 (fun k v x hv hx => ?_) (fun x hx => rowD2_ok hS.ok hx) six, ?_⟩
              · have w := all2 k v hv
                rw [getD_at hx] at w
                exact w.dq
              walk_at "go"
              rw [decide_eq_true rfl]
              exact q _ (s1.trans s2)
        · rw [decide_eq_false (fun z => h2 (by injection z))]
          walk_at "go"
          by_cases h3 : way = 3
          · rw [decide_eq_true (by rw [h3])]
            walk_at "go"
            refine ⟨S.o, dx, fs, rfl, e, nof _ (by decide +kernel) (by decide +kernel) (by decide +kernel) (by decide +kernel) (by decide +kernel) (by decide +kernel), ?_⟩
            walk_at "go"
            refine ⟨S, P, rfl, hS, ?_⟩
            walk_at "go"
            refine ⟨S.o, dx, fs, rfl, e, nof _ (by decide +kernel) (by decide +kernel) (by decide +kernel) (by decide +kernel) (by decide +kernel) (by decide +kernel), ?_⟩
            walk_at "go"
            refine ⟨S, P, rfl, hS, fun H1 s1 => ?_⟩
            walk_at "go"
            refine ⟨S.o, dx, fs, rfl, s1 _ _ e, nof _ (by decide +kernel) (by decide +kernel) (by decide +kernel) (by decide +kernel) (by decide +kernel) (by decide +kernel), ?_⟩
            walk_at "go"
            refine ⟨S, P, rfl, hS.same s1, ?_⟩
            walk_at "go"
            refine newLB fun p H2 n2 g2 s2 e2 => ?_
            walk_at "go"
            have sm : [V.int (P.ps : Nat), .int (total P.G P.pr : Nat), .int (P.L : Nat)].all smS = true := by
              have a := hS.ok.l60
              have b := hS.ok.ps
              have c := hS.ok.fit
              simp only [List.all_cons, List.all_nil, smS, Bool.and_true, Bool.and_eq_true, decide_eq_true_eq, Int.natAbs_natCast]
              omega
            refine ⟨.ref p, _, rfl, shq_lsc (sqL e2) sm (by show 3 ≤ 3000; decide), ?_⟩
            have s12 := s1.trans s2
            have hM2 := hM.same s12
            walk_at "go"
            refine r_dgT rfl (.inl hM2.em) md_p ?_
            walk_at "go"
            refine ⟨m, g, d, ra, P, none, rfl, hM2, six, fun H3 s3 => ?_⟩
            have ht : tot P none = total P.G P.pr := by
              unfold tot
              rw [List.filter_eq_self.mpr (fun _ _ => by exact decide_eq_true (fun z => nomatch z))]
            rw [ht]
            walk_at "go"
            refine r_dgT rfl (.inl (s3 _ _ hM2.em)) md_l ?_
            walk_at "go"
            refine newLB fun p4 H4 n4 g4 s4 e4 => ?_
            walk_at "go"
            refine ⟨.ref p4, _, rfl, shq_lsc (sqL e4) sm (by show 3 ≤ 3000; decide), ?_⟩
            walk_at "go"
            rw [decide_eq_true rfl]
            exact q _ (s12.trans (s3.trans s4))
          · rw [decide_eq_false (fun z => h3 (by injection z))]
            have d480 := hS.ok.d480
            walk_at "go"
            refine ⟨S.o, dx, fs, rfl, e, nof _ (by decide +kernel) (by decide +kernel) (by decide +kernel) (by decide +kernel) (by decide +kernel) (by decide +kernel), ?_⟩
            walk_at "go"
            refine ⟨S, P, rfl, hS, fun p H1 np s1 ep => ?_⟩
            walk_at "go"
            refine ⟨.ref p, _, rfl, shq_lsc (sqL ep) dlo (by omega), ?_⟩
            have hM1 := hM.same s1
            walk_at "go"
            refine r_dgT rfl (.inl hM1.em) md_d ?_
            walk_at "go"
            refine ⟨.ref d, _, rfl, shq_lsc (sqL hM1.ed) dlo (by omega), ?_⟩
            walk_at "go"
            rw [decide_eq_true rfl]
            walk_at "go"
            refine ⟨.inl ⟨rfl, _, sqL ep⟩, ?_⟩
            walk_at "go"
            refine ⟨p, _, _, rfl, rfl, ep, by rw [sizeLine_eq]; omega, ?_⟩
            have s2 : Same H (upd H1 p (.lst (P.dl ++ [.str (Str.ofString "Late")]))) := fun b u eb => by
              rw [upd_ne (ne_of_none eb np)]
              exact s1 _ _ eb
            generalize upd H1 p (.lst (P.dl ++ [.str (Str.ofString "Late")])) = H2 at s2 ⊢
            walk_at "go"
            refine ⟨S.o, dx, fs, rfl, s2 _ _ e, nof _ (by decide +kernel) (by decide +kernel) (by decide +kernel) (by decide +kernel) (by decide +kernel) (by decide +kernel), ?_⟩
            walk_at "go"
            refine ⟨S, P, rfl, hS.same s2, fun p3 H3 np3 s3 ep3 => ?_⟩
            refine ⟨.inl ⟨rfl, _, sqL ep3⟩, ?_⟩
            walk_at "go"
            refine ⟨p3, _, _, rfl, rfl, ep3, by rw [List.length_map, sizeLine_eq]; omega, ?_⟩
            have s4 : Same H (upd H3 p3 (.lst (P.G.map V.str ++ [.str (Str.ofString "Late")]))) := fun b u eb => by
              rw [upd_ne (ne_of_none (s2 _ _ eb) np3)]
              exact s3 _ _ (s2 _ _ eb)
            generalize upd H3 p3 (.lst (P.G.map V.str ++ [.str (Str.ofString "Late")])) = H4 at s4 ⊢
            walk_at "go"
            refine ⟨S.o, dx, fs, rfl, s4 _ _ e, nof _ (by decide +kernel) (by decide +kernel) (by decide +kernel) (by decide +kernel) (by decide +kernel) (by decide +kernel), ?_⟩
            walk_at "go"
            refine ⟨S, P, rfl, hS.same s4, fun p5 H5 np5 s5 ep5 => ?_⟩
            walk_at "go"
            refine ⟨.ref p5, _, rfl, shq_lsc (sqL ep5) dlo (by omega), ?_⟩
            have s15 := Same.trans s4 s5
            have hM5 := hM.same s15
            walk_at "go"
            refine r_dgT rfl (.inl hM5.em) md_d ?_
            walk_at "go"
            refine ⟨.ref d, _, rfl, shq_lsc (sqL hM5.ed) dlo (by omega), ?_⟩
            walk_at "go"
            rw [if_pos (decide_eq_true rfl)]
            walk_at "go"
            refine ⟨S.o, dx, fs, rfl, s15 _ _ e, nof _ (by decide +kernel) (by decide +kernel) (by decide +kernel) (by decide +kernel) (by decide +kernel) (by decide +kernel), ?_⟩
            walk_at "go"
            refine ⟨S, P, rfl, hS.same s15, fun p6 H6 np6 s6 ep6 => ?_⟩
            refine ⟨p6, _, rfl, .inl (sqL ep6), rfl, List.all_eq_true.mpr fun v hv => ?_, ?_⟩
            · obtain ⟨z, _, rfl⟩ := List.mem_map.mp hv
              rfl
            rw [if_pos rfl, inV_str, decide_eq_false (fun z => ?_)]
            · exact q _ (s15.trans s6)
            · have w := hS.ok.nm _ z
              exact absurd w (by decide +kernel)
theorem ok_stands {f : Addr} {fd : FuncData} (F : Fun K "_law_stands" "_law_stands" s_stands_L f fd) (T : Txt K mg A) (c_asked_L : CalG P w K mg base CX0 6 "_law_asked" (spAsked A)) : FnG P w K mg base CX0 7 f fd ["_law_shares", "_law_model_here", "_law_ask"] (spStands A) := by
  refine fun_okG F sc_stands_L (fun vs H Q E h => ?_) (fun cdv A' outer s H vs Q E ga hr h => have hu65 := units65 hr; have hu64 := hr.units; have hu := units1 hr; ⟨_, (pss_cons (ps_if (pt_cmpR op_eq (pv 2) pe_int (nomark _)) (pss_one (ps_ret pe_bl)) pss_nil)
    (pss_one (ps_ret (pe_callB (cr_all rfl) (by rfl) T.m_all (by decide +kernel) (pa_cons (pe_lc (own := [("_law_turn", 3)]) rfl sc_stands_L.nd (pi_range1 (by rfl) T.m_range (pa_cons pe_int pa_nil)) (blkOk_by (N := ["_law_shares", "_law_model_here", "_law_ask", "_law_turn"]) (sc := defScope s_stands_L) (by decide +kernel)) (fun _ _ _ _ _ => (pg_name (i := 3) sc_stands_L.nd rfl (.inl rfl))) (fun _ _ _ _ _ => pts_nil) (fun _ _ _ _ _ => (pe_calG c_asked_L ga hr (by decide) (by rfl) (pa_cons (pv 0) (pa_cons (pv 1) (pa_cons (pe_op op_mod (pe_op op_add (pv 2) (pv 3)) pe_int) pa_nil)))))) pa_nil))))), ?_⟩)
  · obtain ⟨S, P, m, g, d, ra, ask, rfl, _⟩ := h
    rfl
  · obtain ⟨S, P, m, g, d, ra, ask, rfl, hS, hM, dlo, sep, w0, w5, q⟩ := h
    walk_at "go"
    by_cases h5 : ask = 5
    · rw [decide_eq_true (by rw [h5])]
      walk_at "go"
      exact q H (Same.refl _)
    · rw [decide_eq_false (fun z => h5 (by injection z))]
      walk_at "go"
      refine lcRangeP (n := 5) (fun _ => V.bl true) (by decide) (fun R h => h) (fun _ => rfl) (fun k G Q' hk sG kk => ?_) fun D G nD sG eG => ?_
      · walk_at "go"
        refine r_I (by decide) ?_
        walk_at "go"
        exact ⟨S, P, m, g, d, ra, (ask + k) % 5, rfl, hS.same sG, hM.same sG, dlo, sep, Int.emod_nonneg _ (by decide), Int.emod_lt_of_pos _ (by decide), fun H' s' => kk H' s'⟩
      · walk_at "go"
        exact ⟨D, [true, true, true, true, true], rfl, sqL eG, q G sG⟩
end
end K25

namespace K25
open PySem PySem.Spec PyProof.Rows L2 Bk


theorem gets_congr {P : Ps} {R R' : List Str} (h : ∀ x, x ∈ R ↔ x ∈ R') : gets P R = gets P R' := by
  have e : (fun x => decide (x ∈ R)) = fun x => decide (x ∈ R') := funext fun x => decide_eq_decide.mpr (h x)
  unfold gets
  rw [e]
structure Ls (A : Ad) (H : Hp) (S : Sa) (P : Ps) (m g d : Addr) (ra : Str → Addr) : Prop where
  sh : Sh A.CS H S P
  md : Md H m g d ra P
  no : ∀ b, Lo m g d ra P.G b → ¬ S.own b
  dl : DlOk P
/-- what is none of the law's moving things stays, and stays none -/
def Fw (bx : Addr) (S : Sa) (m g d : Addr) (ra : Str → Addr) (G : List Str) (H : Hp) (S' : Sa) (ra' : Str → Addr) (G' : List Str) (H' : Hp) : Prop := ∀ b u, H b = some u → b ≠ bx → ¬ S.own b → ¬ Lo m g d ra G b → H' b = some u ∧ ¬ S'.own b ∧ ¬ Lo m g d ra' G' b
theorem Ls.same {A : Ad} {H H' : Hp} {S : Sa} {P : Ps} {m g d : Addr} {ra : Str → Addr} (h : Ls A H S P m g d ra) (s : Same H H') : Ls A H' S P m g d ra := ⟨h.sh.same s, h.md.same s, h.no, h.dl⟩
theorem Ls.but {A : Ad} {H H' : Hp} {S : Sa} {P : Ps} {m g d bx : Addr} {ra : Str → Addr} {n : Nat} (h : Ls A H S P m g d ra) (b : But bx H H') (hB : Box bx n H) (o : ¬ S.own bx) (l : ¬ Lo m g d ra P.G bx) : Ls A H' S P m g d ra :=
  ⟨h.sh.but b hB o, h.md.keep fun c u lo e => b _ _ (fun z => l (by rw [← z]; exact lo)) e, h.no, h.dl⟩
def spDealtL (A : Ad) : Sp := fun vs H Q _ => ∃ (bx nl : Addr) (n : Nat) (S : Sa) (P : Ps) (m g d : Addr) (ra : Str → Addr), vs = [.ref bx, .ref S.o, .ref m, .ref nl] ∧ Box bx n H ∧ n < 900000 ∧ Ls A H S P m g d ra ∧ ¬ S.own bx ∧ ¬ Lo m g d ra P.G bx ∧ P.dl.length + 9 ≤ 480 ∧
  ∀ (S' : Sa) (P' : Ps) (H' : Hp), S'.o = S.o → P'.G = P.G → P'.dl.length ≤ P.dl.length + 9 → Ls A H' S' P' m g d ra → Box bx (n + 100) H' → ¬ S'.own bx → Fw bx S m g d ra P.G H S' ra P'.G H' → Q (.bl true) H'
/-- the moving state while turns are dealt -/
structure St (A : Ad) (bx m g d : Addr) (ra : Str → Addr) (S : Sa) (P : Ps) (H : Hp) (t k : Nat) (S' : Sa) (P' : Ps) (G : Hp) : Prop where
  so : S'.o = S.o
  eG : P'.G = P.G
  dl : P'.dl.length ≤ P.dl.length + t
  ls : Ls A G S' P' m g d ra
  hB : Box bx k G
  no : ¬ S'.own bx
  fw : Fw bx S m g d ra P.G H S' ra P'.G G
/-- a list of names beside it -/
structure Li (bx m g d : Addr) (ra : Str → Addr) (S' : Sa) (GG : List Str) (a : Addr) : Prop where
  no : ¬ S'.own a
  nl : ¬ Lo m g d ra GG a
  nb : a ≠ bx
section
variable {A : Ad} {bx m g d : Addr} {ra : Str → Addr} {S S' : Sa} {P P' : Ps} {H G G' : Hp} {t k k' : Nat}
theorem St.but (h : St A bx m g d ra S P H t k S' P' G) (nlo : ¬ Lo m g d ra P.G bx) (b : But bx G G') (hB : Box bx k' G') : St A bx m g d ra S P H t k' S' P' G' :=
  ⟨h.so, h.eG, h.dl, h.ls.but b h.hB h.no (by rw [h.eG]; exact nlo), hB, h.no, fun c u e nb o l => ⟨b _ _ nb (h.fw c u e nb o l).1, (h.fw c u e nb o l).2⟩⟩
theorem St.same (h : St A bx m g d ra S P H t k S' P' G) (nlo : ¬ Lo m g d ra P.G bx) (s : Same G G') : St A bx m g d ra S P H t k S' P' G' := h.but nlo (.of s) (h.hB.same s)
/-- a new thing stands beside -/
theorem St.new (h : St A bx m g d ra S P H t k S' P' G) {a : Addr} (n : G a = none) : Li bx m g d ra S' P.G a :=
  ⟨h.ls.sh.nown n, by rw [← h.eG]; exact h.ls.md.nlo n, h.hB.ne n⟩
end
theorem smS_name {x : Str} (h : nameOk x = true) : smS (.str x) = true := by
  have l := len_of_name h
  have c := low_of h
  unfold smS
  refine Bool.and_eq_true_iff.mpr ⟨decide_eq_true (by omega), List.all_eq_true.mpr fun a ha => decide_eq_true ?_⟩
  have := c a ha
  omega
theorem smS_nameV {G : List Str} (h : ∀ x ∈ G, nameOk x = true) : ∀ {y : Option Str}, (∀ z, y = some z → z ∈ G) → smS (nameV y) = true
  | none, _ => rfl
  | some z, k => smS_name (h z (k z rfl))
theorem smS_names {R : List Str} (h : ∀ x ∈ R, nameOk x = true) : (R.map V.str).all smS = true := List.all_eq_true.mpr fun v hv => by
  obtain ⟨z, hz, rfl⟩ := List.mem_map.mp hv
  exact smS_name (h z hz)
/-- the text of what is handed in, a list or a tuple of names -/
theorem shq_handed {K : PySem.W.Frag} {a : Addr} {R : List Str} {tup : Bool} (h : ∀ x ∈ R, nameOk x = true) (l : R.length ≤ 12) : ∃ z, ∀ H : Hp, H a = some (if tup = true then .tup (R.map V.str) else .lst (R.map V.str)) → Shq K H (.ref a) z := by
  cases tup with
  | true => exact ⟨_, fun H e => shq_tsc (sqT e) (smS_names h) (by rw [List.length_map]; omega)⟩
  | false => exact ⟨_, fun H e => shq_lsc (sqL e) (smS_names h) (by rw [List.length_map]; omega)⟩
section
variable {P : Program} {w : World} {K : PySem.W.Frag} {mg : Str → Option Value} {base : Heap} {A : Ad}
theorem ok_dealtL {f : Addr} {fd : FuncData} (F : Fun K "_law_dealt" "_law_dealt" s_dealt_L f fd) (T : Txt K mg A) (c_take_L : CalD P w K mg base CX0 1 "_law_take" spTake []) (c_deals_L : CalD P w K mg base CX0 2 "_law_deals" (spDeals K) [])
    (c_Shares_deal : CalM P w K mg base (L2.CX P w) 5 A.CS "deal" (spDeal A)) (k_Shares_deal_ready : CalMK P w K mg base (L2.CX P w) 5 0 ["ready"] A.CS "deal" (spDeal A) (fun vs zs => vs ++ zs)) : FnG P w K mg base CX0 6 f fd ["_law_box_here", "_law_shares", "_law_model_here", "_law_names_here"] (spDealtL A) := by
  refine fun_okG F sc_dealt_L (fun vs H Q E h => ?_) (fun cdv A' outer s H vs Q E ga hr h => have hu65 := units65 hr; have hu64 := hr.units; have hu := units1 hr; ⟨_, (pss_cons (ps_lock (ps_setLc (i := 4) (own := [("_law_label", 9)]) rfl sc_dealt_L.nd rfl rfl (sw_true rfl rfl rfl (by decide +kernel)) (pi_keys (pe_dget hu (pv 2) pe_str (fun _ _ => rfl))) (blkOk_by (N := ["_law_box_here", "_law_shares", "_law_model_here", "_law_names_here", "_law_those", "_law_turn", "_law_handed", "_law_kept", "_law_told", "_law_label"]) (sc := defScope s_dealt_L) (by decide +kernel)) (fun _ _ _ _ _ => (pg_name (i := 9) sc_dealt_L.nd rfl (.inl rfl))) (fun _ _ _ _ _ => pts_one (pt_cmpR op_gt (pe_cal c_take_L hr (by decide) (by rfl) (pa_cons (pv 0) (pa_cons pe_int pa_nil))) pe_int (nomark _))) (fun _ _ _ _ _ => (pv 9))))
    (pss_cons (ps_for PassesOwn.never rfl (pi_range1 (by rfl) T.m_range (pa_cons (pe_op op_add pe_int (pe_cal c_take_L hr (by decide) (by rfl) (pa_cons (pv 0) (pa_cons pe_int pa_nil)))) pa_nil)) (pg_name (i := 5) sc_dealt_L.nd rfl (.inl rfl))
      (C8.pss_cut (ps_if (pt_cmpR op_eq (pe_cal c_take_L hr (by decide) (by rfl) (pa_cons (pv 0) (pa_cons pe_int pa_nil))) pe_int (nomark _)) (pss_one (ps_lock (ps_setLc (i := 4) (own := [("_law_label", 9)]) rfl sc_dealt_L.nd rfl rfl (sw_true rfl rfl rfl (by decide +kernel)) (pi_keys (pe_dget hu (pv 2) pe_str (fun _ _ => rfl))) (blkOk_by (N := ["_law_box_here", "_law_shares", "_law_model_here", "_law_names_here", "_law_those", "_law_turn", "_law_handed", "_law_kept", "_law_told", "_law_label"]) (sc := defScope s_dealt_L) (by decide +kernel)) (fun _ _ _ _ _ => (pg_name (i := 9) sc_dealt_L.nd rfl (.inl rfl))) (fun _ _ _ _ _ => pts_one (pt_cmpR op_gt (pe_cal c_take_L hr (by decide) (by rfl) (pa_cons (pv 0) (pa_cons pe_int pa_nil))) pe_int (nomark _))) (fun _ _ _ _ _ => (pv 9))))) pss_nil)
    (C8.pss_cut (ps_set (i := 6) sc_dealt_L.nd rfl (.inl rfl) (pe_ix ix_list (pe_lstB (pa_cons (pv 4) (pa_cons (pe_callTy call_tuple_of (by rfl) T.m_tuple (by decide +kernel) (pa_cons (pe_revL (pv 4)) pa_nil)) (pa_cons (pe_op op_cat (pv 4) (pv 4)) pa_nil)))) (pe_cal c_take_L hr (by decide) (by rfl) (pa_cons (pv 0) (pa_cons pe_int pa_nil))) (fun _ _ => rfl)))
    (pss_cons (ps_set (i := 7) sc_dealt_L.nd rfl (.inl rfl) (pe_callB (call_repr_shq ga hr) (by rfl) T.m_repr (by decide +kernel) (pa_cons (pv 6) pa_nil)))
    (C8.pss_cut (ps_set (i := 8) sc_dealt_L.nd rfl (.inl rfl) (pe_ifExp (pt_cmpR op_eq (pe_op op_mod (pv 5) pe_int) pe_int (nomark _)) (pe_mth (pv 1) T.cl_Shares c_Shares_deal hr (by decide) psY (pa_cons (pv 6) pa_nil)) (pe_mthK (pv 1) T.cl_Shares k_Shares_deal_ready hr (by decide) psY (pk_cons (pv 6) pk_nil))))
    (pss_one (ps_if (PW.pt (pw_or (pt_cmpR op_ne (pe_callB (call_repr_shq ga hr) (by rfl) T.m_repr (by decide +kernel) (pa_cons (pv 8) pa_nil)) (pe_callB (call_repr_shq ga hr) (by rfl) T.m_repr (by decide +kernel) (pa_cons (pe_cal c_deals_L hr (by decide) (by rfl) (pa_cons (pv 2) (pa_cons (pv 4) pa_nil))) pa_nil)) (nomark _)) (pw_or1 (pt_cmpR op_ne (pe_callB (call_repr_shq ga hr) (by rfl) T.m_repr (by decide +kernel) (pa_cons (pv 6) pa_nil)) (pv 7) (nomark _))))) (pss_one (ps_ret pe_bl)) pss_nil)))))))
    (pss_one (ps_ret pe_bl)))), ?_⟩)
  · obtain ⟨bx, nl, n, S, P, m, g, d, ra, rfl, _⟩ := h
    rfl
  · obtain ⟨bx, nl, n, S, P, m, g, d, ra, rfl, hB, hn, hL, no, nlo, d480, q⟩ := h
    have hM := hL.md
    have six := hL.sh.ok.six
    have okn := hL.sh.ok.nm
    have st0 : St A bx m g d ra S P H 0 n S P H := ⟨rfl, rfl, Nat.le_refl _, hL, hB, no, fun b u e nb o l => ⟨e, o, l⟩⟩
    walk_at "go"
    refine lockS ?_
    refine lcFltK hB (by omega) (fun _ => rfl) hM.eg (fun od QQ z => ?_) (fun x H1 QQ z => ?_) (fun x k H1 Q' hx hk hB1 kk => ?_) fun rl H1 R nrl b1 hB1 erl R6 RG => ?_
    · exact r_dgT rfl (.inl (by rw [upd_ne hM.mg]; exact hM.em)) md_g z
    · exact ⟨_, rfl, z⟩
    · walk_at "go"
      refine r_take hB1 (fun d H2 h0 h1 hB2 b2 => ?_) (by omega)
      walk_at "go"
      exact kk _ H2 hB2 b2
    have st1 := st0.but nlo b1 (hB1.mono (m := n + 6) (by omega))
    have li1 := st0.new nrl
    walk_at "go"
    refine r_take st1.hB (fun dn H2 h0 h1 hB2 b2 => ?_) (by omega)
    have st2 := st1.but nlo b2 hB2
    have erl2 := b2 _ _ li1.nb erl
    obtain ⟨dn, rfl⟩ := Int.eq_ofNat_of_zero_le h0
    clear st1 st0 hB1 hB2 b1 b2 erl nrl
    walk_at "go"
    refine ⟨((1 + dn : Nat) : Int), by rw [Int.natCast_add]; rfl, by omega, by omega, ?_⟩
    rw [Int.toNat_natCast]
    refine for_range (fun t σ G => ∃ (S' : Sa) (P' : Ps) (rl : Addr) (R : List Str) (x5 x6 x7 x8 : Option V), σ = [some (.ref bx), some (.ref S.o), some (.ref m), some (.ref nl), some (.ref rl), x5, x6, x7, x8, none] ∧ St A bx m g d ra S P H t (n + 7 + 8 * t) S' P' G ∧ Li bx m g d ra S' P.G rl ∧ G rl = some (.lst (R.map V.str)) ∧ R.length ≤ 6 ∧ ∀ x ∈ R, x ∈ P.G)
      ⟨S, P, rl, R, none, none, none, none, rfl, st2, li1, erl2, by omega, RG⟩ ?_ ?_
    · clear st2 li1 erl2 RG R6
      rintro t σ G ht ⟨S', P', rl, R, x5, x6, x7, x8, rfl, st, li, erl, R6, RG⟩
      have hM' := st.ls.md
      have eG := st.eG
      walk_at "go"
      show C8.tCut _ _ _ _ _
      refine r_cut (fun σ G1 => ∃ (rl : Addr) (R : List Str), σ = [some (.ref bx), some (.ref S.o), some (.ref m), some (.ref nl), some (.ref rl), some (.int t), x6, x7, x8, none] ∧ St A bx m g d ra S P H t (n + 14 + 8 * t) S' P' G1 ∧ Li bx m g d ra S' P.G rl ∧ G1 rl = some (.lst (R.map V.str)) ∧ R.length ≤ 6 ∧ ∀ x ∈ R, x ∈ P.G) ?_ ?_
      · walk_at "go"
        refine r_take st.hB (fun d3 H3 h30 h31 hB3 b3 => ?_) (by omega)
        have st3 := st.but nlo b3 hB3
        have hM3 := st3.ls.md
        walk_at "go"
        by_cases c : d3 = 0
        · rw [decide_eq_true (by rw [c])]
          walk_at "go"
          refine lockS ?_
          refine lcFltK hB3 (by rw [eG]; omega) (fun _ => rfl) hM3.eg (fun od QQ z => ?_) (fun x H1 QQ z => ?_) (fun x k H1 Q' hx hk hB1 kk => ?_) fun rl2 H4 R2 nrl2 b4 hB4 erl4 R26 R2G => ?_
          · exact r_dgT rfl (.inl (by rw [upd_ne hM3.mg]; exact hM3.em)) md_g z
          · exact ⟨_, rfl, z⟩
          · walk_at "go"
            refine r_take hB1 (fun d H2 h0 h1 hB2 b2 => ?_) (by rw [eG] at hk; omega)
            walk_at "go"
            exact kk _ H2 hB2 b2
          · refine ⟨rl2, R2, ?_, st3.but nlo b4 (hB4.mono (by rw [eG]; omega)), st3.new nrl2, erl4, by rw [eG] at R26; omega, by rw [← eG]; exact R2G⟩
            rw [Int.zero_add]
            rfl
        · rw [decide_eq_false (fun z => c (by injection z))]
          walk_at "go"
          refine ⟨rl, R, ?_, st3.but nlo (fun _ _ _ e => e) (hB3.mono (by omega)), li, b3 _ _ li.nb erl, R6, RG⟩
          rw [Int.zero_add]
          rfl
      · clear st li erl R6 RG hM'
        rintro σ G1 ⟨rl, R, rfl, st, li, erl, R6, RG⟩
        walk_at "go"
        show C8.tCut _ _ _ _ _
        refine r_cut (fun σ G2 => ∃ (hd : Addr) (R' : List Str) (tp : Bool), σ = [some (.ref bx), some (.ref S.o), some (.ref m), some (.ref nl), some (.ref rl), some (.int t), some (.ref hd), x7, x8, none] ∧ St A bx m g d ra S P H t (n + 15 + 8 * t) S' P' G2 ∧ Li bx m g d ra S' P.G hd ∧ G2 rl = some (.lst (R.map V.str)) ∧ G2 hd = some (if tp = true then .tup (R'.map V.str) else .lst (R'.map V.str)) ∧ R'.length ≤ 12 ∧ ∀ x, x ∈ R ↔ x ∈ R') ?_ ?_
        · walk_at "go"
          refine ⟨_, rfl, rl, _, rfl, sqL erl, fun r1 n1 => ?_⟩
          rw [← List.map_reverse]
          have s1 : Same G1 (upd G1 r1 (.lst (R.reverse.map V.str))) := same_upd n1
          have e1 : upd G1 r1 (.lst (R.reverse.map V.str)) r1 = some (.lst (R.reverse.map V.str)) := upd_same
          generalize upd G1 r1 (.lst (R.reverse.map V.str)) = G2 at s1 e1 ⊢
          walk_at "go"
          refine ⟨r1, _, rfl, .inl ⟨sqL e1, fun tp ntp => ?_⟩⟩
          have s2 : Same G2 (upd G2 tp (.tup (R.reverse.map V.str))) := same_upd ntp
          have e2 : upd G2 tp (.tup (R.reverse.map V.str)) tp = some (.tup (R.reverse.map V.str)) := upd_same
          generalize upd G2 tp (.tup (R.reverse.map V.str)) = G3 at s2 e2 ⊢
          have s12 := Same.trans s1 s2
          have erl3 := s12 _ _ erl
          walk_at "go"
          refine r_cat erl3 erl3 (fun cp G4 ncp s3 e3 => ?_) (by rw [List.length_map]; omega)
          rw [← List.map_append] at e3
          walk_at "go"
          refine newLB fun la G5 n5 g5 s4 e4 => ?_
          have s15 := s12.trans (s3.trans s4)
          have st5 := st.same nlo s15
          walk_at "go"
          refine r_take st5.hB (fun d6 G6 h60 h61 hB6 b6 => ?_) (by omega)
          have st6 := st5.but nlo b6 hB6
          have nla : la ≠ bx := (st.same nlo (s12.trans s3)).hB.ne n5
          have e6 := b6 _ _ nla e4
          have ltp := st.new (s1.free ntp)
          have lcp := st.new (s12.free ncp)
          obtain rfl | rfl | rfl : d6 = 0 ∨ d6 = 1 ∨ d6 = 2 := by omega
          · refine r_ixL (sqL e6) (v := .ref rl) rfl ?_
            exact ⟨rl, R, false, rfl, st6.but nlo (fun _ _ _ e => e) (st6.hB.mono (by omega)), li, b6 _ _ li.nb (s15 _ _ erl), b6 _ _ li.nb (s15 _ _ erl), by omega, fun x => Iff.rfl⟩
          · refine r_ixL (sqL e6) (v := .ref tp) rfl ?_
            exact ⟨tp, R.reverse, true, rfl, st6.but nlo (fun _ _ _ e => e) (st6.hB.mono (by omega)), ltp, b6 _ _ li.nb (s15 _ _ erl), b6 _ _ ltp.nb (s4 _ _ (s3 _ _ e2)), by rw [List.length_reverse]; omega, fun x => List.mem_reverse.symm⟩
          · refine r_ixL (sqL e6) (v := .ref cp) rfl ?_
            exact ⟨cp, R ++ R, false, rfl, st6.but nlo (fun _ _ _ e => e) (st6.hB.mono (by omega)), lcp, b6 _ _ li.nb (s15 _ _ erl), b6 _ _ lcp.nb (s4 _ _ e3), by rw [List.length_append]; omega, fun x => by rw [List.mem_append, or_self]⟩
        · clear st erl
          rintro σ G2 ⟨hd, R', tp, rfl, st, lh, erl, ehd, R12, hRR⟩
          obtain ⟨z, hz⟩ := shq_handed (K := K) (a := hd) (R := R') (tup := tp) (fun x hx => okn x (RG x ((hRR x).mpr hx))) R12
          have l480 : P'.dl.length < 480 := by have := st.dl; omega
          have eg := gets_congr (P := P') hRR
          have R'G : ∀ x ∈ R', x ∈ P'.G := fun x hx => by rw [eG]; exact RG x ((hRR x).mpr hx)
          have eh2 : G2 hd = some (.lst (R'.map V.str)) ∨ G2 hd = some (.tup (R'.map V.str)) := by
            cases tp with
            | true => exact .inr ehd
            | false => exact .inl ehd
          obtain ⟨dx, fs, e, fL, fT, fC, fU, fP, fD, fn⟩ := st.ls.sh.ob
          rw [st.so] at e
          have nof : ∀ m : Str, (m == ("_length" : Str)) = false → (m == ("_told" : Str)) = false → (m == ("_counts" : Str)) = false → (m == ("_used" : Str)) = false → (m == ("_passed" : Str)) = false → (m == ("_dealt" : Str)) = false → fs.lookup m = none := fn.2
          walk_at "go"
          refine ⟨.ref hd, z, rfl, hz _ ehd, ?_⟩
          walk_at "go"
          show C8.tCut _ _ _ _ _
          refine r_cut (fun σ G3 => ∃ S2 : Sa, σ = [some (.ref bx), some (.ref S.o), some (.ref m), some (.ref nl), some (.ref rl), some (.int t), some (.ref hd), some (.str z), some (nameV (gets P' R)), none] ∧ S2.o = S.o ∧ Keep S' G2 S2 G3 ∧ Sh A.CS G3 S2 (P'.deal (nameV (gets P' R)) (gets P' R))) ?_ ?_
          · walk_at "go"
            refine r_I (by decide) ?_
            walk_at "go"
            by_cases c : (t : Int) % 2 = 0
            · rw [decide_eq_true (by rw [c])]
              walk_at "go"
              refine ⟨S.o, dx, fs, rfl, e, nof _ (by decide +kernel) (by decide +kernel) (by decide +kernel) (by decide +kernel) (by decide +kernel) (by decide +kernel), ?_⟩
              walk_at "go"
              refine ⟨S', P', hd, R', by rw [st.so], st.ls.sh, eh2, R12, R'G, l480, fun S2 G3 so2 k2 sh2 => ?_⟩
              rw [← eg] at sh2 ⊢
              exact ⟨S2, rfl, so2.trans st.so, k2, sh2⟩
            · rw [decide_eq_false (fun z => c (by injection z))]
              walk_at "go"
              refine ⟨S.o, dx, fs, rfl, e, nof _ (by decide +kernel) (by decide +kernel) (by decide +kernel) (by decide +kernel) (by decide +kernel) (by decide +kernel), ?_⟩
              walk_at "go"
              refine ⟨rfl, S', P', hd, R', by rw [st.so]; rfl, st.ls.sh, eh2, R12, R'G, l480, fun S2 G3 so2 k2 sh2 => ?_⟩
              rw [← eg] at sh2 ⊢
              exact ⟨S2, rfl, so2.trans st.so, k2, sh2⟩
          · clear e fL fT fC fU fP fD fn nof
            rintro σ G3 ⟨S2, rfl, so2, k2, sh2⟩
            walk_at "go"
            have hM3 : Md G3 m g d ra P' := st.ls.md.keep fun b u lo e => (k2 b u e (st.ls.no b lo)).1
            obtain ⟨erl3, nrl2⟩ := k2 _ _ erl li.no
            obtain ⟨ehd3, nhd2⟩ := k2 _ _ ehd lh.no
            have yok : smS (nameV (gets P' R)) = true := smS_nameV (G := P.G) okn fun z hz => by
              have w := (gets_mem hz).1
              rw [eG] at w
              exact w
            have no2 : ∀ b, Lo m g d ra P'.G b → ¬ S2.own b := fun b lo => by
              obtain ⟨u, e⟩ := st.ls.md.has lo
              exact (k2 b u e (st.ls.no b lo)).2
            refine ⟨nameV (gets P' R), _, rfl, shq_sc yok, ?_⟩
            walk_at "go"
            refine ⟨m, g, d, rl, ra, P', R, rfl, hM3, erl3, by omega, by rw [eG]; omega, st.ls.sh.ok, l480, fun H4 hM4 fr4 => ?_⟩
            have nlb : ¬ Lo m g d ra P'.G bx := by rw [eG]; exact nlo
            have ehd4 := fr4 _ _ ehd3 (by rw [eG]; exact lh.nl)
            have hB4 : Box bx (n + 15 + 8 * t) H4 ∧ ¬ S2.own bx := by
              obtain ⟨a1, b1, c1, e1, rr⟩ := st.hB
              obtain ⟨w1, w2⟩ := k2 _ _ e1 st.no
              exact ⟨⟨a1, b1, c1, fr4 _ _ w1 nlb, rr⟩, w2⟩
            walk_at "go"
            refine ⟨nameV (gets P' R), _, rfl, shq_sc yok, ?_⟩
            walk_at "go"
            rw [decide_eq_true rfl]
            walk_at "go"
            refine ⟨.ref hd, z, rfl, hz _ ehd4, ?_⟩
            walk_at "go"
            rw [decide_eq_true rfl]
            walk_at "go"
            refine ⟨S2, P'.deal (nameV (gets P' R)) (gets P' R), rl, R, _, _, _, _, rfl, ⟨so2, eG, ?_, ⟨?_, hM4, no2, ?_⟩, hB4.1.mono (by omega), hB4.2, fun b u e nb o l => ?_⟩, ⟨nrl2, li.nl, li.nb⟩, fr4 _ _ erl3 (by rw [eG]; exact li.nl), R6, RG⟩
            · show (P'.dl ++ [_]).length ≤ _
              rw [List.length_append]
              exact Nat.succ_le_succ st.dl
            · exact sh2.stay (fun b u o e => fr4 b u e fun lo => no2 b lo o) fun a xs e => fr4 _ _ e (hM3.ntup e)
            · show (P'.dl ++ [_]).all smS = true
              rw [List.all_append, Bool.and_eq_true]
              exact ⟨st.ls.dl, by rw [List.all_cons, yok]; rfl⟩
            · obtain ⟨w1, w2, w3⟩ := st.fw b u e nb o l
              obtain ⟨v1, v2⟩ := k2 _ _ w1 w2
              exact ⟨fr4 _ _ v1 w3, v2, w3⟩
    · rintro σ G ⟨S', P', rl, R, x5, x6, x7, x8, rfl, st, li, erl, R6, RG⟩
      walk_at "go"
      exact q S' P' G st.so st.eG (Nat.le_trans st.dl (by omega)) st.ls (st.hB.mono (by omega)) st.no st.fw
end
end K25

namespace K25
open PySem PySem.Spec PyProof.Rows L2 Bk


theorem tot_out {P : Ps} {x : Str} (h : x ∉ P.G) : tot P (some x) = total P.G P.pr := by
  unfold tot
  refine congrArg (fun l => total l P.pr) (List.filter_eq_self.mpr fun y hy => ?_)
  exact decide_eq_true (fun z : some y = some x => h (by rw [← Option.some.inj z]; exact hy))
theorem tot_le {P : Ps} {y : Option Str} : tot P y ≤ total P.G P.pr := total_drop
theorem total_but {f : Str → Nat} {x : Str} : ∀ {G : List Str}, G.Nodup → x ∈ G → total (G.filter fun y => decide (some y ≠ some x)) f + f x = total G f
  | a :: G, nd, h => by
    obtain ⟨na, nd⟩ := List.nodup_cons.mp nd
    by_cases e : a = x
    · subst e
      have w : (a :: G).filter (fun y => decide (some y ≠ some a)) = G := by
        rw [List.filter_cons_of_neg (by simp)]
        refine List.filter_eq_self.mpr fun y hy => ?_
        exact decide_eq_true (fun z : some y = some a => na (by rw [← Option.some.inj z]; exact hy))
      rw [w]
      unfold total
      rw [List.map_cons, List.sum_cons]
      omega
    · have hG : x ∈ G := (List.mem_cons.mp h).elim (fun z => absurd z.symm e) id
      have ih := total_but (f := f) nd hG
      have w : (a :: G).filter (fun y => decide (some y ≠ some x)) = a :: G.filter (fun y => decide (some y ≠ some x)) := List.filter_cons_of_pos (by exact decide_eq_true (fun z : some a = some x => e (Option.some.inj z)))
      rw [w]
      unfold total at ih ⊢
      rw [List.map_cons, List.sum_cons, List.map_cons, List.sum_cons]
      omega
theorem r_din {σ : L2.St} {i j : Nat} {a : Addr} {x : Str} {G : List Str} {f : Str → V} {Q : VK} {H : Hp} (hx : σ[i]? = some (some (.str x))) (hd : σ[j]? = some (some (.ref a))) (e : H a = some (.dK (dicF G f))) (q : Q (.bl (decide (x ∈ G))) H) : tDIn (tVar i) (tVar j) σ H Q :=
  ⟨_, hx, _, hd, a, _, rfl, .inl ⟨_, .inr x, .inl e, rfl, rfl⟩, by
    rw [dicF_get]
    by_cases h : x ∈ G
    · rw [if_pos h]; rw [decide_eq_true h] at q; exact q
    · rw [if_neg h]; rw [decide_eq_false h] at q; exact q⟩
theorem r_dnin {σ : L2.St} {i j : Nat} {a : Addr} {x : Str} {G : List Str} {f : Str → V} {Q : VK} {H : Hp} (hx : σ[i]? = some (some (.str x))) (hd : σ[j]? = some (some (.ref a))) (e : H a = some (.dK (dicF G f))) (q : Q (.bl (!decide (x ∈ G))) H) : tDNotIn (tVar i) (tVar j) σ H Q :=
  ⟨_, hx, _, hd, a, _, rfl, .inl ⟨_, .inr x, .inl e, rfl, rfl⟩, by
    rw [dicF_get]
    by_cases h : x ∈ G
    · rw [if_pos h]; rw [decide_eq_true h] at q; exact q
    · rw [if_neg h]; rw [decide_eq_false h] at q; exact q⟩
def rotV {α : Type} (k : Nat) (vs zs : List α) : List α := vs ++ (zs.drop k ++ zs.take k)
theorem vals_drop : ∀ (k : Nat) {zs : List V} {ws : List Value}, Vals zs ws → Vals (zs.drop k) (ws.drop k)
  | 0, _, _, h => h
  | _ + 1, _, _, .nil => .nil
  | k + 1, _, _, .cons _ t => vals_drop k t
theorem vals_take : ∀ (k : Nat) {zs : List V} {ws : List Value}, Vals zs ws → Vals (zs.take k) (ws.take k)
  | 0, _, _, _ => .nil
  | _ + 1, _, _, .nil => .nil
  | k + 1, _, _, .cons r t => .cons r (vals_take k t)
theorem vals_rot {k : Nat} {vs zs : List V} {us ws : List Value} (h : Vals vs us) (h2 : Vals zs ws) : Vals (rotV k vs zs) (rotV k us ws) := h.append ((vals_drop k h2).append (vals_take k h2))
def spDone (A : Ad) : Sp := fun vs H Q _ => ∃ (bx nl : Addr) (n : Nat) (S : Sa) (P : Ps) (m g d : Addr) (ra : Str → Addr) (N : List Str), vs = [.ref bx, .ref S.o, .ref m, .ref nl] ∧ Box bx n H ∧ n < 800000 ∧ Ls A H S P m g d ra ∧ ¬ S.own bx ∧ ¬ Lo m g d ra P.G bx ∧ P.dl.length + 9 ≤ 480 ∧ H nl = some (.lst (N.map V.str)) ∧ N.length = 8 ∧ (∀ x ∈ N, nameOk x = true) ∧
  ∀ (S' : Sa) (P' : Ps) (ra' : Str → Addr) (H' : Hp), S'.o = S.o → P'.dl.length ≤ P.dl.length + 9 → Ls A H' S' P' m g d ra' → Fw bx S m g d ra P.G H S' ra' P'.G H' → Q (.bl true) H'
section
variable {P : Program} {w : World} {K : PySem.W.Frag} {mg : Str → Option Value} {base : Heap} {A : Ad}
theorem ok_done {f : Addr} {fd : FuncData} (F : Fun K "_law_done" "_law_done" s_done_L f fd) (T : Txt K mg A) (c_take_L : CalD P w K mg base CX0 1 "_law_take" spTake []) (c_share_L : CalD P w K mg base CX0 2 "_law_share" spShare []) (c_together_L : CalD P w K mg base CX0 1 "_law_together" spTogether []) (c_comes_L : CalD P w K mg base CX0 1 "_law_comes" spComes []) (c_changes_L : CalD P w K mg base CX0 1 "_law_changes" spChanges [])
    (c_dealt_L : CalG P w K mg base CX0 6 "_law_dealt" (spDealtL A)) (c_Shares_come : CalM P w K mg base (L2.CX P w) 6 A.CS "come" (spCome A)) (c_Shares_change : CalM P w K mg base (L2.CX P w) 6 A.CS "change" (spChange A))
    (k_Shares_come_ceiling_name_promise : CalMK P w K mg base (L2.CX P w) 6 0 ["ceiling", "name", "promise"] A.CS "come" (spCome A) (rotV 1)) (k_Shares_go_name : CalMK P w K mg base (L2.CX P w) 5 0 ["name"] A.CS "go" (spGo A) (fun vs zs => vs ++ zs)) (k_Shares_change_promise_ceiling_name : CalMK P w K mg base (L2.CX P w) 6 0 ["promise", "ceiling", "name"] A.CS "change" (spChange A) (rotV 2)) : FnG P w K mg base CX0 7 f fd ["_law_box_here", "_law_shares", "_law_model_here", "_law_names_here"] (spDone A) := by
  refine fun_okG F sc_done_L (fun vs H Q E h => ?_) (fun cdv A' outer s H vs Q E ga hr h => have hu65 := units65 hr; have hu64 := hr.units; have hu := units1 hr; ⟨_, (pss_cons (ps_set (i := 4) sc_done_L.nd rfl (.inl rfl) (pe_cal c_take_L hr (by decide) (by rfl) (pa_cons (pv 0) (pa_cons pe_int pa_nil))))
    (pss_cons (ps_set (i := 5) sc_done_L.nd rfl (.inl rfl) (pe_ix ix_list (pv 3) (pe_cal c_take_L hr (by decide) (by rfl) (pa_cons (pv 0) (pa_cons (pe_callB call_len_seq (by rfl) T.m_len (by decide +kernel) (pa_cons (pv 3) pa_nil)) pa_nil))) (fun _ _ => rfl)))
    (pss_cons (ps_par (i := 6) (j := 7) rfl sc_done_L.nd rfl rfl (by decide) rfl rfl (pa_cons (pe_dget hu (pv 2) pe_str (fun _ _ => rfl)) (pa_cons (pe_dget hu (pv 2) pe_str (fun _ _ => rfl)) pa_nil)) (by rfl))
    (pss_cons (ps_asg (pe_cal c_share_L hr (by decide) (by rfl) (pa_cons (pv 0) (pa_cons (pv 6) (pa_cons (pe_op op_sub (pv 6) (pe_cal c_together_L hr (by decide) (by rfl) (pa_cons (pv 2) (pa_cons (pv 5) pa_nil)))) pa_nil)))) (pg_tup rfl (pgs_cons (pg_name (i := 8) sc_done_L.nd rfl (.inl rfl)) (pgs_cons (pg_name (i := 9) sc_done_L.nd rfl (.inl rfl)) pgs_nil))))
    (C8.pss_cut (ps_if (PW.pt (pw_and (pt_cmpR op_lt (pv 4) pe_int (nomark _)) (pw_and (pt_cmp (pc_dnotin hu (pv 5) (pv 7))) (pw_and1 (pt_cmpR op_lt (pe_callB call_lenD (by rfl) T.m_len (by decide +kernel) (pa_cons (pv 7) pa_nil)) pe_int (nomark _)))))) (pss_cons (ps_expr (pe_cal c_comes_L hr (by decide) (by rfl) (pa_cons (pv 2) (pa_cons (pv 5) (pa_cons (pv 8) (pa_cons (pv 9) pa_nil))))))
    (pss_cons (ps_if (pt_cmpR op_eq (pe_op op_mod (pe_callB call_len_str (by rfl) T.m_len (by decide +kernel) (pa_cons (pv 5) pa_nil)) pe_int) pe_int (nomark _)) (pss_one (ps_ret (pe_cmpR op_isN (pe_mthK (pv 1) T.cl_Shares k_Shares_come_ceiling_name_promise hr (by decide) psY (pk_cons (pv 9) (pk_cons (pv 5) (pk_cons (pv 8) pk_nil)))) pe_non (nomark _)))) pss_nil)
    (pss_one (ps_ret (pe_cmpR op_isN (pe_mth (pv 1) T.cl_Shares c_Shares_come hr (by decide) psY (pa_cons (pv 5) (pa_cons (pv 8) (pa_cons (pv 9) pa_nil)))) pe_non (nomark _)))))) pss_nil)
    (C8.pss_cut (ps_if (PW.pt (pw_and (pt_cmpR op_eq (pv 4) pe_int (nomark _)) (pw_and1 (pt_cmp (pc_din hu (pv 5) (pv 7)))))) (pss_cons (ps_expr (pe_dpop1 (pv 7) (pv 5) ⟨rfl, rfl, rfl, rfl⟩))
    (pss_one (ps_ret (pe_cmpR op_isN (pe_mthK (pv 1) T.cl_Shares k_Shares_go_name hr (by decide) psY (pk_cons (pv 5) pk_nil)) pe_non (nomark _))))) pss_nil)
    (C8.pss_cut (ps_if (PW.pt (pw_and (pt_cmpR op_lt (pv 4) pe_int (nomark _)) (pw_and1 (pt_cmp (pc_din hu (pv 5) (pv 7)))))) (pss_cons (ps_expr (pe_cal c_changes_L hr (by decide) (by rfl) (pa_cons (pv 2) (pa_cons (pv 5) (pa_cons (pv 8) (pa_cons (pv 9) pa_nil))))))
    (pss_cons (ps_if (pt_cmpR op_eq (pe_op op_mod (pv 9) pe_int) pe_int (nomark _)) (pss_one (ps_ret (pe_cmpR op_isN (pe_mthK (pv 1) T.cl_Shares k_Shares_change_promise_ceiling_name hr (by decide) psY (pk_cons (pv 8) (pk_cons (pv 9) (pk_cons (pv 5) pk_nil)))) pe_non (nomark _)))) pss_nil)
    (pss_one (ps_ret (pe_cmpR op_isN (pe_mth (pv 1) T.cl_Shares c_Shares_change hr (by decide) psY (pa_cons (pv 5) (pa_cons (pv 8) (pa_cons (pv 9) pa_nil)))) pe_non (nomark _)))))) pss_nil)
    (pss_one (ps_ret (pe_calG c_dealt_L ga hr (by decide) (by rfl) (pa_cons (pv 0) (pa_cons (pv 1) (pa_cons (pv 2) (pa_cons (pv 3) pa_nil)))))))))))))), ?_⟩)
  · obtain ⟨bx, nl, n, S, P, m, g, d, ra, N, rfl, _⟩ := h
    rfl
  · obtain ⟨bx, nl, n, S, P, m, g, d, ra, N, rfl, hB, hn, hL, no, nlo, d480, en, N8, hN, q⟩ := h
    have nb : nl ≠ bx := by
      rintro rfl
      obtain ⟨x, y, z, e, _⟩ := hB
      rw [en] at e
      have e := HO.lst.inj (Option.some.inj e)
      have l := congrArg List.length e
      rw [List.length_map, N8] at l
      exact nomatch l
    walk_at "go"
    refine r_take hB (fun way H1 w0 w1 hB1 b1 => ?_)
    have hL1 := hL.but b1 hB no nlo
    walk_at "go"
    refine ⟨nl, _, rfl, .inl (sqL (b1 _ _ nb en)), ?_⟩
    rw [List.length_map, N8]
    walk_at "go"
    refine r_take hB1 (fun dj H2 h0 h1 hB2 b2 => ?_)
    obtain ⟨j, rfl⟩ := Int.eq_ofNat_of_zero_le h0
    have hj : j < N.length := by omega
    have hL2 := hL1.but b2 hB1 no nlo
    have b12 : But bx H H2 := b1.trans b2
    refine r_ixL (sqL (b12 _ _ nb en)) (v := .str N[j]) (atI_nat (j := j) (by rw [List.getElem?_map, List.getElem?_eq_getElem hj]; rfl)) ?_
    have hxN : N[j] ∈ N := List.getElem_mem hj
    generalize N[j] = x at hxN ⊢
    have hnx := hN x hxN
    have hM2 := hL2.md
    have six := hL.sh.ok.six
    clear hL1 hB1
    walk_at "go"
    refine r_dgT rfl (.inl hM2.em) md_l ?_
    walk_at "go"
    refine r_dgT rfl (.inl hM2.em) md_g ?_
    walk_at "go"
    refine ⟨_, _, rfl, ?_⟩
    walk_at "go"
    refine ⟨m, g, d, ra, P, some x, rfl, hM2, six, fun H3 s3 => ?_⟩
    have fit := hL.sh.ok.fit
    have tl := tot_le (P := P) (y := some x)
    have hL3 := hL2.same s3
    have hB3 := hB2.same s3
    walk_at "go"
    rw [show ((P.L : Int) - (tot P (some x) : Nat)) = ((P.L - tot P (some x) : Nat) : Int) by omega]
    have frL : P.L - tot P (some x) ≤ P.L ∧ tot P (some x) + (P.L - tot P (some x)) = P.L := by omega
    generalize P.L - tot P (some x) = free at frL ⊢
    refine ⟨bx, _, P.L, free, rfl, hB3, by omega, hL.sh.ok.l4, hL.sh.ok.l60, frL.1, fun t p c H4 nt b4 hB4 et pf pc c1 cl => ?_⟩
    refine ⟨_, _, rfl, sqT et, rfl, ?_⟩
    refine ⟨_, _, rfl, _, _, rfl, rfl, ?_⟩
    have hL4 := hL3.but b4 hB3 no nlo
    have b14 : But bx H H4 := (b12.same s3).trans b4
    have hM4 := hL4.md
    have cL60 := hL.sh.ok.l60
    obtain ⟨dx, fs, e, fL, fT, fC, fU, fP, fD, fn⟩ := hL4.sh.ob
    have nof : ∀ m : Str, (m == ("_length" : Str)) = false → (m == ("_told" : Str)) = false → (m == ("_counts" : Str)) = false → (m == ("_used" : Str)) = false → (m == ("_passed" : Str)) = false → (m == ("_dealt" : Str)) = false → fs.lookup m = none := fn.2
    have fw4 : ∀ b u, H b = some u → b ≠ bx → H4 b = some u := fun b u eb nb => b14 _ _ nb eb
    clear hL2 hL3 hB2 hB3 hM2 et nt s3 b4 b12 b1 b2
    walk_at "go"
    show C8.tCut _ _ _ _ _
    refine r_cut (fun σ G => σ = [some (.ref bx), some (.ref S.o), some (.ref m), some (.ref nl), some (.int way), some (.str x), some (.int P.L), some (.ref g), some (.int p), some (.int c)] ∧ G = H4) ?_ ?_
    · walk_at "go"
      by_cases w2 : way < 2
      · rw [decide_eq_true w2]
        walk_at "go"
        refine r_dnin rfl rfl hM4.eg ?_
        walk_at "go"
        by_cases mx : x ∈ P.G
        · rw [decide_eq_true mx]
          walk_at "go"
          exact ⟨rfl, rfl⟩
        · rw [decide_eq_false mx]
          walk_at "go"
          refine ⟨g, _, rfl, hM4.eg, ?_⟩
          rw [dicF_len]
          walk_at "go"
          by_cases l6 : P.G.length < 6
          · rw [decide_eq_true (by omega : (P.G.length : Int) < 6)]
            walk_at "go"
            refine ⟨m, g, d, ra, P, x, p, c, rfl, hM4, mx, six, fun a H5 na hM5 fr5 => ?_⟩
            have hS5 := hL4.sh.stay (fun b u o e => fr5 b u e fun lo => hL4.no b lo o) fun a xs e => fr5 _ _ e (hM4.ntup e)
            have e5 := fr5 _ _ e fun lo => hL4.no _ lo (.inl rfl)
            have noa : ¬ S.own a := hL4.sh.nown na
            have no5 : ∀ b, Lo m g d (fun y => if y = x then a else ra y) (P.come x p c).G b → ¬ S.own b := fun b lo => by
              rcases Lo.come lo with z | z
              · rw [z]; exact noa
              · exact hL4.no b z
            have tt := tot_out mx
            have fin : ∀ H6, Keep S H5 S H6 → Sh A.CS H6 S (P.come x p c) → Q (.bl true) H6 := fun H6 k6 sh6 => by
              refine q S (P.come x p c) _ H6 rfl (Nat.le_add_right _ _) ⟨sh6, hM5.keep fun b u lo e => (k6 b u e (no5 b lo)).1, no5, hL4.dl⟩ fun b u eb nb o l => ?_
              have w := fw4 b u eb nb
              refine ⟨(k6 b u (fr5 b u w l) o).1, o, fun lo => ?_⟩
              rcases Lo.come lo with z | z
              · rw [z, na] at w; exact nomatch w
              · exact l z
            have lx : x.length ≤ sizeLine := by have := len_of_name hnx; rw [sizeLine_eq]; omega
            walk_at "go"
            refine ⟨x, rfl, lx, ?_⟩
            walk_at "go"
            refine r_I (by decide) ?_
            walk_at "go"
            by_cases ev : (x.length : Int) % 2 = 0
            · rw [decide_eq_true (by rw [ev])]
              walk_at "go"
              refine ⟨S.o, dx, fs, rfl, e5, nof _ (by decide +kernel) (by decide +kernel) (by decide +kernel) (by decide +kernel) (by decide +kernel) (by decide +kernel), ?_⟩
              walk_at "go"
              refine ⟨rfl, S, P, x, p, c, rfl, hS5, hnx, mx, l6, pc, c1, cl, by omega, fun H6 k6 sh6 => ?_⟩
              walk_at "go"
              refine ⟨rfl, ?_⟩
              rw [decide_eq_true rfl]
              exact fin H6 k6 sh6
            · rw [decide_eq_false (fun z => ev (by injection z))]
              walk_at "go"
              refine ⟨S.o, dx, fs, rfl, e5, nof _ (by decide +kernel) (by decide +kernel) (by decide +kernel) (by decide +kernel) (by decide +kernel) (by decide +kernel), ?_⟩
              walk_at "go"
              refine ⟨S, P, x, p, c, rfl, hS5, hnx, mx, l6, pc, c1, cl, by omega, fun H6 k6 sh6 => ?_⟩
              walk_at "go"
              refine ⟨rfl, ?_⟩
              rw [decide_eq_true rfl]
              exact fin H6 k6 sh6
          · rw [decide_eq_false (by omega : ¬ (P.G.length : Int) < 6)]
            walk_at "go"
            exact ⟨rfl, rfl⟩
      · rw [decide_eq_false w2]
        walk_at "go"
        exact ⟨rfl, rfl⟩
    · rintro σ G ⟨rfl, rfl⟩
      walk_at "go"
      show C8.tCut _ _ _ _ _
      refine r_cut (fun σ G' => σ = [some (.ref bx), some (.ref S.o), some (.ref m), some (.ref nl), some (.int way), some (.str x), some (.int P.L), some (.ref g), some (.int p), some (.int c)] ∧ G' = G) ?_ ?_
      · walk_at "go"
        by_cases w2 : way = 2
        · rw [decide_eq_true (by rw [w2])]
          walk_at "go"
          refine r_din rfl rfl hM4.eg ?_
          walk_at "go"
          by_cases mx : x ∈ P.G
          · rw [decide_eq_true mx]
            walk_at "go"
            refine ⟨_, rfl, g, rfl, .inl ⟨_, .inl hM4.eg⟩, _, rfl, _, .inr x, _, hM4.eg, rfl, (by rw [dicF_get, if_pos mx]), ?_⟩
            have hM5 := hM4.pop (x := x)
            have lg : Lo m g d ra P.G g := .inr (.inl rfl)
            have fr5 : ∀ b u, G b = some u → ¬ Lo m g d ra P.G b → upd G g (.dK (dropK (dicF P.G fun x => .ref (ra x)) (.inr x : Key))) b = some u := fun b u eb l => by
              rw [upd_ne (fun z => l (by rw [z]; exact lg))]
              exact eb
            generalize upd G g (.dK (dropK (dicF P.G fun x => .ref (ra x)) (.inr x : Key))) = H5 at hM5 fr5 ⊢
            have hS5 := hL4.sh.stay (fun b u o e => fr5 b u e fun lo => hL4.no b lo o) fun a xs e => fr5 _ _ e (hM4.ntup e)
            have e5 := fr5 _ _ e fun lo => hL4.no _ lo (.inl rfl)
            have sub : ∀ y ∈ (P.go x).G, y ∈ P.G := fun y hy => (List.mem_filter.mp hy).1
            walk_at "go"
            refine ⟨S.o, dx, fs, rfl, e5, nof _ (by decide +kernel) (by decide +kernel) (by decide +kernel) (by decide +kernel) (by decide +kernel) (by decide +kernel), ?_⟩
            walk_at "go"
            refine ⟨rfl, S, P, x, rfl, hS5, mx, fun H6 k6 sh6 => ?_⟩
            walk_at "go"
            refine ⟨rfl, ?_⟩
            rw [decide_eq_true rfl]
            exact q S (P.go x) ra H6 rfl (Nat.le_add_right _ _) ⟨sh6, hM5.keep fun b u lo e => (k6 b u e (hL4.no b (lo.sub sub))).1, fun b lo => hL4.no b (lo.sub sub), hL4.dl⟩ fun b u eb nb o l => ⟨(k6 b u (fr5 b u (fw4 b u eb nb) l) o).1, o, fun lo => l (lo.sub sub)⟩
          · rw [decide_eq_false mx]
            walk_at "go"
            exact ⟨rfl, rfl⟩
        · rw [decide_eq_false (fun z => w2 (by injection z))]
          walk_at "go"
          exact ⟨rfl, rfl⟩
      · rintro σ G' ⟨rfl, rfl⟩
        walk_at "go"
        show C8.tCut _ _ _ _ _
        refine r_cut (fun σ G => σ = [some (.ref bx), some (.ref S.o), some (.ref m), some (.ref nl), some (.int way), some (.str x), some (.int P.L), some (.ref g), some (.int p), some (.int c)] ∧ G = G') ?_ ?_
        · walk_at "go"
          by_cases w4 : way < 4
          · rw [decide_eq_true w4]
            walk_at "go"
            refine r_din rfl rfl hM4.eg ?_
            walk_at "go"
            by_cases mx : x ∈ P.G
            · rw [decide_eq_true mx]
              walk_at "go"
              refine ⟨m, g, d, ra, P, x, p, c, rfl, hM4, mx, fun H5 hM5 fr5 => ?_⟩
              have hS5 := hL4.sh.stay (fun b u o e => fr5 b u e fun lo => hL4.no b lo o) fun a xs e => fr5 _ _ e (hM4.ntup e)
              have e5 := fr5 _ _ e fun lo => hL4.no _ lo (.inl rfl)
              have tt := total_but (f := P.pr) hL4.sh.ok.nd mx
              have tt : tot P (some x) + P.pr x = total P.G P.pr := tt
              have fin : ∀ H6, Keep S H5 S H6 → Sh A.CS H6 S (P.change x p c) → Q (.bl true) H6 := fun H6 k6 sh6 =>
                q S (P.change x p c) ra H6 rfl (Nat.le_add_right _ _) ⟨sh6, hM5.keep fun b u lo e => (k6 b u e (hL4.no b lo)).1, hL4.no, hL4.dl⟩ fun b u eb nb o l => ⟨(k6 b u (fr5 b u (fw4 b u eb nb) l) o).1, o, l⟩
              walk_at "go"
              refine r_I (by decide) ?_
              walk_at "go"
              by_cases ev : (c : Int) % 2 = 0
              · rw [decide_eq_true (by rw [ev])]
                walk_at "go"
                refine ⟨S.o, dx, fs, rfl, e5, nof _ (by decide +kernel) (by decide +kernel) (by decide +kernel) (by decide +kernel) (by decide +kernel) (by decide +kernel), ?_⟩
                walk_at "go"
                refine ⟨rfl, S, P, x, p, c, rfl, hS5, mx, pc, c1, cl, by omega, fun H6 k6 sh6 => ?_⟩
                walk_at "go"
                refine ⟨rfl, ?_⟩
                rw [decide_eq_true rfl]
                exact fin H6 k6 sh6
              · rw [decide_eq_false (fun z => ev (by injection z))]
                walk_at "go"
                refine ⟨S.o, dx, fs, rfl, e5, nof _ (by decide +kernel) (by decide +kernel) (by decide +kernel) (by decide +kernel) (by decide +kernel) (by decide +kernel), ?_⟩
                walk_at "go"
                refine ⟨S, P, x, p, c, rfl, hS5, mx, pc, c1, cl, by omega, fun H6 k6 sh6 => ?_⟩
                walk_at "go"
                refine ⟨rfl, ?_⟩
                rw [decide_eq_true rfl]
                exact fin H6 k6 sh6
            · rw [decide_eq_false mx]
              walk_at "go"
              exact ⟨rfl, rfl⟩
          · rw [decide_eq_false w4]
            walk_at "go"
            exact ⟨rfl, rfl⟩
        · rintro σ G ⟨rfl, rfl⟩
          walk_at "go"
          exact ⟨bx, nl, _, S, P, m, g, d, ra, rfl, hB4, by omega, hL4, no, nlo, d480, fun S' P' H5 so eG dl ls bx5 no5 fw5 => q S' P' ra H5 so dl ls fun b u e nb o l => fw5 b u (fw4 b u e nb) nb o l⟩
end
end K25

namespace K25
open PySem PySem.Spec PyProof.Rows L2 Bk


/-! ### both sides -/
structure Sd where
  S : Sa
  P : Ps
  m : Addr
  g : Addr
  d : Addr
  ra : Str → Addr
def Sd.mine (s : Sd) (b : Addr) : Prop := s.S.own b ∨ Lo s.m s.g s.d s.ra s.P.G b
def Sd.ls (A : Ad) (H : Hp) (s : Sd) : Prop := Ls A H s.S s.P s.m s.g s.d s.ra
/-- x at side d, y at the other -/
def pr (d : Nat) (x y : V) : List V := if d = 0 then [x, y] else [y, x]
theorem pr_flip {d : Nat} (h : d < 2) {x y : V} : pr (1 - d) y x = pr d x y := by
  obtain rfl | rfl : d = 0 ∨ d = 1 := by omega
  · rfl
  · rfl
theorem pr_at {d : Nat} (h : d < 2) {x y : V} : atI (pr d x y) ((d : Nat) : Int) = some x := by
  obtain rfl | rfl : d = 0 ∨ d = 1 := by omega
  · rfl
  · rfl
theorem pr_at2 {d : Nat} (h : d < 2) {x y : V} : atI (pr d x y) (1 - (d : Nat) : Int) = some y := by
  obtain rfl | rfl : d = 0 ∨ d = 1 := by omega
  · rfl
  · rfl
theorem pr_set {d : Nat} (h : d < 2) {x y z : V} : ∃ j, ixN (pr d x y).length (1 - (d : Nat) : Int) = some j ∧ (pr d x y).set j z = pr d x z := by
  obtain rfl | rfl : d = 0 ∨ d = 1 := by omega
  · exact ⟨1, rfl, rfl⟩
  · exact ⟨0, rfl, rfl⟩
theorem Ls.stay {A : Ad} {H H' : Hp} {s : Sd} (h : s.ls A H) (k : ∀ b u, s.mine b → H b = some u → H' b = some u) (t : ∀ a xs, H a = some (.tup xs) → H' a = some (.tup xs)) : s.ls A H' :=
  ⟨h.sh.stay (fun b u o e => k b u (.inl o) e) t, h.md.keep fun b u o e => k b u (.inr o) e, h.no, h.dl⟩
theorem Sd.free {A : Ad} {H : Hp} {s : Sd} (h : s.ls A H) {b : Addr} (e : H b = none) : ¬ s.mine b := fun z => z.elim (h.sh.nown e) (h.md.nlo e)
theorem Sd.ntup {A : Ad} {H : Hp} {s : Sd} (h : s.ls A H) {b : Addr} {xs : List V} (e : H b = some (.tup xs)) : ¬ s.mine b := fun z => z.elim (h.sh.ntup e) (h.md.ntup e)
structure Two (A : Ad) (Hb : Hp) (ml sl : Addr) (k d : Nat) (s r : Sd) (H : Hp) : Prop where
  l0 : s.ls A H
  l1 : r.ls A H
  ap : ∀ b, s.mine b → ¬ r.mine b
  em : H ml = some (.lst (pr d (.ref s.m) (.ref r.m)))
  es : H sl = some (.lst (pr d (.ref s.S.o) (.ref r.S.o)))
  fx : ∀ b u, Hb b = some u → H b = some u ∧ ¬ s.mine b ∧ ¬ r.mine b ∧ b ≠ ml ∧ b ≠ sl
  nm : ¬ s.mine ml ∧ ¬ r.mine ml
  ns : ¬ s.mine sl ∧ ¬ r.mine sl
  ne : ml ≠ sl
  n0 : s.P.dl.length ≤ k
  n1 : r.P.dl.length ≤ k
/-- b is none of theirs -/
structure Off (Hb : Hp) (ml sl : Addr) (s r : Sd) (b : Addr) : Prop where
  s : ¬ s.mine b
  r : ¬ r.mine b
  m : b ≠ ml
  l : b ≠ sl
  h : Hb b = none
section
variable {A : Ad} {Hb H H' : Hp} {ml sl bx b : Addr} {k d n : Nat} {s r : Sd}
theorem Two.flip (hd : d < 2) (h : Two A Hb ml sl k d s r H) : Two A Hb ml sl k (1 - d) r s H :=
  ⟨h.l1, h.l0, fun b o z => h.ap b z o, by rw [pr_flip hd]; exact h.em, by rw [pr_flip hd]; exact h.es, fun b u e => by obtain ⟨a, b, c, d⟩ := h.fx b u e; exact ⟨a, c, b, d⟩, ⟨h.nm.2, h.nm.1⟩, ⟨h.ns.2, h.ns.1⟩, h.ne, h.n1, h.n0⟩
theorem Two.off (h : Two A Hb ml sl k d s r H) (e : H b = none) : Off Hb ml sl s r b :=
  ⟨Sd.free h.l0 e, Sd.free h.l1 e, fun z => by rw [z, h.em] at e; exact (nomatch e), fun z => by rw [z, h.es] at e; exact (nomatch e), by
    cases w : Hb b with
    | none => rfl
    | some u => rw [(h.fx b u w).1] at e; exact nomatch e⟩
theorem Off.flip (h : Off Hb ml sl s r b) : Off Hb ml sl r s b := ⟨h.r, h.s, h.m, h.l, h.h⟩
theorem Two.but (h : Two A Hb ml sl k d s r H) (o : Off Hb ml sl s r bx) (hB : Box bx n H) (c : But bx H H') : Two A Hb ml sl k d s r H' := by
  have ts : ∀ a xs, H a = some (.tup xs) → H' a = some (.tup xs) := fun a xs z => c _ _ (hB.ne_tup z) z
  exact ⟨Ls.stay h.l0 (fun b u m e => c _ _ (fun z => o.s (by rw [← z]; exact m)) e) ts, Ls.stay h.l1 (fun b u m e => c _ _ (fun z => o.r (by rw [← z]; exact m)) e) ts, h.ap, c _ _ o.m.symm h.em, c _ _ o.l.symm h.es,
    fun b u e => ⟨c _ _ (fun z => by rw [z, o.h] at e; exact nomatch e) (h.fx b u e).1, (h.fx b u e).2⟩, h.nm, h.ns, h.ne, h.n0, h.n1⟩
theorem Two.same (h : Two A Hb ml sl k d s r H) (c : Same H H') : Two A Hb ml sl k d s r H' :=
  ⟨Ls.same h.l0 c, Ls.same h.l1 c, h.ap, c _ _ h.em, c _ _ h.es, fun b u e => ⟨c _ _ (h.fx b u e).1, (h.fx b u e).2⟩, h.nm, h.ns, h.ne, h.n0, h.n1⟩
end
def spLaw (K : PySem.W.Frag) : Sp := fun vs H Q _ => ∃ (sc : Addr) (ns : List Int), vs = [.ref sc] ∧ SqL K H sc (ns.map V.int) ∧ ns.length ≤ 63 ∧ ∀ H', Q (.bl true) H'
section
variable {P : Program} {w : World} {K : PySem.W.Frag} {mg : Str → Option Value} {base : Heap} {A : Ad}
theorem ok_law {f : Addr} {fd : FuncData} (F : Fun K "law" "law" s_law f fd) (T : Txt K mg A) (c_cell_L : CalD P w K mg base CX0 1 "_law_cell" (Bk.spCell K) []) (c_box_L : CalD P w K mg base CX0 1 "_law_box" spBox []) (c_take_L : CalD P w K mg base CX0 1 "_law_take" spTake [])
    (c_names_L : CalD P w K mg base CX0 2 "_law_names" spNames8 []) (c_length_L : CalD P w K mg base CX0 2 "_law_length" spLen []) (c_model_L : CalD P w K mg base CX0 1 "_law_model" spModel []) (c_Shares_init : CalC P w K mg base (L2.CX P w) 5 A.CS "Shares" (spInitS A)) (k_Shares_init_length : CalCK P w K mg base (L2.CX P w) 5 ["length"] A.CS "Shares" (spInitS A) (fun vs zs => vs ++ zs))
    (c_Shares_twin : CalM P w K mg base (L2.CX P w) 7 A.CS "twin" (spTwin A)) (c_twin_L : CalD P w K mg base CX0 1 "_law_twin" spTwinL []) (c_done_L : CalG P w K mg base CX0 7 "_law_done" (spDone A)) (c_stands_L : CalG P w K mg base CX0 7 "_law_stands" (spStands A)) : FnG P w K mg base CX0 8 f fd ["_law_script"] (spLaw K) := by
  refine fun_okG F sc_law (fun vs H Q E h => ?_) (fun cdv A' outer s H vs Q E ga hr h => have hu65 := units65 hr; have hu64 := hr.units; have hu := units1 hr; ⟨_, (pss_cons (ps_set (i := 1) sc_law.nd rfl (.inl rfl) (pe_cal c_box_L hr (by decide) (by rfl) (pa_cons (pe_cal c_cell_L hr (by decide) (by rfl) (pa_cons (pv 0) (pa_cons pe_int pa_nil))) pa_nil)))
    (pss_cons (ps_set (i := 2) sc_law.nd rfl (.inl rfl) (pe_cal c_names_L hr (by decide) (by rfl) (pa_cons (pv 1) (pa_cons pe_int pa_nil))))
    (pss_cons (ps_set (i := 3) sc_law.nd rfl (.inl rfl) (pe_lstB (pa_cons (pe_cal c_model_L hr (by decide) (by rfl) (pa_cons (pe_cal c_length_L hr (by decide) (by rfl) (pa_cons (pv 1) pa_nil)) pa_nil)) (pa_cons (pe_cal c_model_L hr (by decide) (by rfl) (pa_cons (pe_cal c_length_L hr (by decide) (by rfl) (pa_cons (pv 1) pa_nil)) pa_nil)) pa_nil))))
    (pss_cons (ps_set (i := 4) sc_law.nd rfl (.inl rfl) (pe_lstB (pa_cons (pe_mk c_Shares_init hr (by decide) (by rfl) psY (pa_cons (pe_dget hu (pe_ix ix_list (pv 3) pe_int (fun _ _ => rfl)) pe_str (fun _ _ => rfl)) pa_nil)) (pa_cons (pe_mkK k_Shares_init_length hr (by decide) (by rfl) psY (pk_cons (pe_dget hu (pe_ix ix_list (pv 3) pe_int (fun _ _ => rfl)) pe_str (fun _ _ => rfl)) pk_nil)) pa_nil))))
    (pss_cons (ps_for PassesOwn.never rfl (pi_range1 (by rfl) T.m_range (pa_cons (pe_callB (call_max2 rfl) (by rfl) T.m_max (by decide +kernel) (pa_cons pe_int (pa_cons (pe_callB (call_min2 rfl) (by rfl) T.m_min (by decide +kernel) (pa_cons pe_int (pa_cons (pe_callB call_len_seq (by rfl) T.m_len (by decide +kernel) (pa_cons (pv 0) pa_nil)) pa_nil))) pa_nil))) pa_nil)) (pg_name (i := 5) sc_law.nd rfl (.inl rfl))
      (pss_cons (ps_set (i := 1) sc_law.nd rfl (.inl rfl) (pe_cal c_box_L hr (by decide) (by rfl) (pa_cons (pe_cal c_cell_L hr (by decide) (by rfl) (pa_cons (pv 0) (pa_cons (pv 5) pa_nil))) pa_nil)))
    (pss_cons (ps_set (i := 6) sc_law.nd rfl (.inl rfl) (pe_cal c_take_L hr (by decide) (by rfl) (pa_cons (pv 1) (pa_cons pe_int pa_nil))))
    (pss_cons (ps_set (i := 7) sc_law.nd rfl (.inl rfl) (pe_cal c_take_L hr (by decide) (by rfl) (pa_cons (pv 1) (pa_cons pe_int pa_nil))))
    (pss_cons (ps_set (i := 8) sc_law.nd rfl (.inl rfl) (pe_cal c_take_L hr (by decide) (by rfl) (pa_cons (pv 1) (pa_cons pe_int pa_nil))))
    (C8.pss_cut (ps_if (pt_cmpR op_eq (pv 7) pe_int (nomark _)) (pss_cons (ps_asg (pe_mth0 (pe_ix ix_list (pv 4) (pv 6) (fun _ _ => rfl)) T.cl_Shares c_Shares_twin hr (by decide) psY) (pg_sub (pv 4) (pe_op op_sub pe_int (pv 6)) set_list))
    (pss_one (ps_asg (pe_cal c_twin_L hr (by decide) (by rfl) (pa_cons (pe_ix ix_list (pv 3) (pv 6) (fun _ _ => rfl)) pa_nil)) (pg_sub (pv 3) (pe_op op_sub pe_int (pv 6)) set_list)))) pss_nil)
    (pss_cons (ps_if (pt_not (pt_val (pe_calG c_done_L ga hr (by decide) (by rfl) (pa_cons (pv 1) (pa_cons (pe_ix ix_list (pv 4) (pv 6) (fun _ _ => rfl)) (pa_cons (pe_ix ix_list (pv 3) (pv 6) (fun _ _ => rfl)) (pa_cons (pv 2) pa_nil))))))) (pss_one (ps_ret pe_bl)) pss_nil)
    (pss_one (ps_for PassesOwn.never rfl (pi_list (pe_lstB (pa_cons (pv 6) (pa_cons (pe_op op_sub pe_int (pv 6)) pa_nil)))) (pg_name (i := 9) sc_law.nd rfl (.inl rfl))
      (pss_one (ps_if (pt_not (pt_val (pe_calG c_stands_L ga hr (by decide) (by rfl) (pa_cons (pe_ix ix_list (pv 4) (pv 9) (fun _ _ => rfl)) (pa_cons (pe_ix ix_list (pv 3) (pv 9) (fun _ _ => rfl)) (pa_cons (pv 8) pa_nil)))))) (pss_one (ps_ret pe_bl)) pss_nil)))))))))))
    (pss_one (ps_ret (pe_and (pe_calG c_stands_L ga hr (by decide) (by rfl) (pa_cons (pe_ix ix_list (pv 4) pe_int (fun _ _ => rfl)) (pa_cons (pe_ix ix_list (pv 3) pe_int (fun _ _ => rfl)) (pa_cons pe_int pa_nil)))) (pe_one (pe_calG c_stands_L ga hr (by decide) (by rfl) (pa_cons (pe_ix ix_list (pv 4) pe_int (fun _ _ => rfl)) (pa_cons (pe_ix ix_list (pv 3) pe_int (fun _ _ => rfl)) (pa_cons pe_int pa_nil))))))))))))), ?_⟩)
  · obtain ⟨sc, ns, rfl, _⟩ := h
    rfl
  · obtain ⟨sc, ns, rfl, hs, hl, q⟩ := h
    walk_at "go"
    refine ⟨sc, ns, 0, rfl, hs, by omega, fun ce => ?_⟩
    walk_at "go"
    refine ⟨ce, rfl, fun bx H1 nbx s1 hB => ?_⟩
    walk_at "go"
    refine ⟨bx, 0, rfl, hB, by decide, fun D H2 N nD b2 hB2 eD lN hN ndN => ?_⟩
    have nbD : D ≠ bx := hB.ne nD
    walk_at "go"
    refine ⟨bx, _, rfl, hB2, by decide, fun L0 H3 L04 L060 b3 hB3 => ?_⟩
    walk_at "go"
    refine ⟨L0, rfl, fun m0 g0 d0 ra0 H4 s4 hM0 f0 => ?_⟩
    walk_at "go"
    refine ⟨bx, _, rfl, hB3.same s4, by decide, fun L1 H5 L14 L160 b5 hB5 => ?_⟩
    walk_at "go"
    refine ⟨L1, rfl, fun m1 g1 d1 ra1 H6 s6 hM1 f1 => ?_⟩
    walk_at "go"
    refine newLB fun ml H7 n7 gm7 s7 e7 => ?_
    obtain ⟨P0, hP0⟩ : ∃ P0 : Ps, P0 = ⟨L0, [], fun _ => 0, fun _ => 0, fun _ => 0, fun _ => 0, fun _ => 0, 0, []⟩ := ⟨_, rfl⟩
    obtain ⟨P1, hP1⟩ : ∃ P1 : Ps, P1 = ⟨L1, [], fun _ => 0, fun _ => 0, fun _ => 0, fun _ => 0, fun _ => 0, 0, []⟩ := ⟨_, rfl⟩
    rw [← hP0] at hM0
    rw [← hP1] at hM1
    have G0 : P0.G = [] := by rw [hP0]
    have G1 : P1.G = [] := by rw [hP1]
    rw [← G0] at f0
    rw [← G1] at f1
    have ebx : ∃ u, H3 bx = some u := by
      obtain ⟨a, b, c, e, _⟩ := hB3
      exact ⟨_, e⟩
    have s35 : ∀ b u, H3 b = some u → b ≠ bx → H5 b = some u := fun b u e n => b5 _ _ n (s4 _ _ e)
    have hM05 : Md H5 m0 g0 d0 ra0 P0 := hM0.keep fun b u lo e => b5 _ _ (fun z => by
      obtain ⟨u2, e2⟩ := ebx
      rw [← z, f0 b lo] at e2
      exact nomatch e2) e
    have hM07 := (hM05.same s6).same s7
    have hM17 := hM1.same s7
    walk_at "go"
    refine r_dget ?_
    walk_at "go"
    refine r_ixL (sqL e7) (v := .ref m0) rfl ?_
    walk_at "go"
    refine ⟨m0, _, rfl, .inl ⟨_, .inr (Str.ofString "length"), .inl hM07.em, rfl, md_l.symm⟩, ?_⟩
    have PL0 : P0.L = L0 := by rw [hP0]
    have PL1 : P1.L = L1 := by rw [hP1]
    rw [PL0]
    walk_at "go"
    intro x dx nx ndx nex
    have t8 : Same H7 (upd (upd H7 dx (.own x)) x (.ins A.CS dx [])) := fun b o e => by
      rw [upd_ne (ne_of_none e nx), upd_ne (ne_of_none e ndx)]
      exact e
    refine ⟨x, dx, L0, rfl, L04, L060, upd_same, fun S0 H8 so0 b8 fr8 hS0 => ⟨rfl, ?_⟩⟩
    rw [← hP0] at hS0
    have s8 : Same H7 H8 := fun b o e => b8 _ _ (ne_of_none e nx) (t8 _ _ e)
    have own0 : ∀ b, S0.own b → H7 b = none := fun b o => by
      rcases fr8 b o with z | z
      · rw [z]; exact nx
      · cases w : H7 b with
        | none => rfl
        | some u => rw [t8 _ _ w] at z; exact nomatch z
    subst so0
    clear t8 fr8 b8 nx
    walk_at "go"
    refine r_dget ?_
    walk_at "go"
    refine r_ixL (sqL (s8 _ _ e7)) (v := .ref m1) rfl ?_
    walk_at "go"
    refine ⟨m1, _, rfl, .inl ⟨_, .inr (Str.ofString "length"), .inl (hM17.same s8).em, rfl, md_l.symm⟩, ?_⟩
    rw [PL1]
    walk_at "go"
    refine ⟨rfl, ?_⟩
    intro y dy ny ndy ney
    have t9 : Same H8 (upd (upd H8 dy (.own y)) y (.ins A.CS dy [])) := fun b o e => by
      rw [upd_ne (ne_of_none e ny), upd_ne (ne_of_none e ndy)]
      exact e
    refine ⟨y, dy, L1, rfl, L14, L160, upd_same, fun S1 H9 so1 b9 fr9 hS1 => ⟨rfl, ?_⟩⟩
    rw [← hP1] at hS1
    have s9 : Same H8 H9 := fun b o e => b9 _ _ (ne_of_none e ny) (t9 _ _ e)
    have own1 : ∀ b, S1.own b → H8 b = none := fun b o => by
      rcases fr9 b o with z | z
      · rw [z]; exact ny
      · cases w : H8 b with
        | none => rfl
        | some u => rw [t9 _ _ w] at z; exact nomatch z
    subst so1
    clear t9 fr9 b9 ny
    walk_at "go"
    refine newLB fun sl H10 n10 gm10 s10 e10 => ?_
    have s710 := s8.trans (s9.trans s10)
    obtain ⟨Hb, hHb⟩ : ∃ Hb : Hp, Hb = fun b => if b = bx then none else H3 b := ⟨_, rfl⟩
    have hbI : ∀ {b u}, H3 b = some u → b ≠ bx → Hb b = some u := fun e n => by rw [hHb]; exact (if_neg n).trans e
    have hbE : ∀ {b u}, Hb b = some u → H3 b = some u ∧ b ≠ bx := fun {b u} e => by
      rw [hHb] at e
      have e : (if b = bx then none else H3 b) = some u := e
      by_cases n : b = bx
      · rw [if_pos n] at e; exact nomatch e
      · rw [if_neg n] at e; exact ⟨e, n⟩
    have sHb : Same H Hb := fun b u e => hbI (b3 _ _ (ne_of_none e nbx) (b2 _ _ (ne_of_none e nbx) (s1 _ _ e))) (ne_of_none e nbx)
    have eDb : Hb D = some (.lst (N.map V.str)) := hbI (b3 _ _ nbD eD) nbD
    have some_ne : ∀ {G : Hp} {b : Addr} {u : HO}, G b = some u → G b = none → False := fun e n => by rw [e] at n; exact nomatch n
    have tw0 : Two A Hb ml sl (9 * 0) 0 ⟨S0, P0, m0, g0, d0, ra0⟩ ⟨S1, P1, m1, g1, d1, ra1⟩ H10 := by
      have lo07 : ∀ b, Lo m0 g0 d0 ra0 P0.G b → ∃ u, H7 b = some u := fun b lo => hM07.has lo
      have lo17 : ∀ b, Lo m1 g1 d1 ra1 P1.G b → ∃ u, H7 b = some u := fun b lo => hM17.has lo
      have hS08 : ∀ b, S0.own b → ∃ u, H8 b = some u := fun b o => by
        cases w : H8 b with
        | none => exact absurd o (hS0.nown w)
        | some u => exact ⟨u, rfl⟩
      refine ⟨⟨(hS0.same s9).same s10, hM07.same s710, fun b lo o => ?_, by show P0.dl.all smS = true; rw [hP0]; rfl⟩, ⟨hS1.same s10, hM17.same s710, fun b lo o => ?_, by show P1.dl.all smS = true; rw [hP1]; rfl⟩, fun b o1 o2 => ?_, s710 _ _ e7, e10, fun b u e => ⟨s710 _ _ (s7 _ _ (s6 _ _ (s35 _ _ (hbE e).1 (hbE e).2))), fun o => ?_, fun o => ?_, fun z => ?_, fun z => ?_⟩, ⟨fun o => ?_, fun o => ?_⟩, ⟨fun o => ?_, fun o => ?_⟩, fun z => ?_, by rw [hP0]; exact Nat.zero_le _, by rw [hP1]; exact Nat.zero_le _⟩
      · obtain ⟨u, e⟩ := lo07 b lo
        exact some_ne e (own0 b o)
      · obtain ⟨u, e⟩ := lo17 b lo
        exact some_ne (s8 _ _ e) (own1 b o)
      · rcases o1 with o1 | o1 <;> rcases o2 with o2 | o2
        · obtain ⟨u, e⟩ := hS08 b o1
          exact some_ne e (own1 b o2)
        · obtain ⟨u, e⟩ := lo17 b o2
          exact some_ne e (own0 b o1)
        · obtain ⟨u, e⟩ := lo07 b o1
          exact some_ne (s8 _ _ e) (own1 b o2)
        · obtain ⟨u, e⟩ := hM05.has o1
          exact some_ne e (f1 b o2)
      · have e3 := (hbE e).1
        rcases o with o | o
        · exact some_ne (s7 _ _ (s6 _ _ (s35 _ _ e3 (hbE e).2))) (own0 b o)
        · exact some_ne e3 (f0 b o)
      · have e5 := s35 _ _ (hbE e).1 (hbE e).2
        rcases o with o | o
        · exact some_ne (s8 _ _ (s7 _ _ (s6 _ _ e5))) (own1 b o)
        · exact some_ne e5 (f1 b o)
      · have e6 := s6 _ _ (s35 _ _ (hbE e).1 (hbE e).2)
        rw [z] at e6
        exact some_ne e6 n7
      · have e9 := s9 _ _ (s8 _ _ (s7 _ _ (s6 _ _ (s35 _ _ (hbE e).1 (hbE e).2))))
        rw [z] at e9
        exact some_ne e9 n10
      · rcases o with o | o
        · exact some_ne e7 (own0 _ o)
        · obtain ⟨u, e⟩ := (hM05.same s6).has o
          exact some_ne e n7
      · rcases o with o | o
        · exact some_ne (s8 _ _ e7) (own1 _ o)
        · obtain ⟨u, e⟩ := hM1.has o
          exact some_ne e n7
      · rcases o with o | o
        · obtain ⟨u, e⟩ := hS08 _ o
          exact some_ne (s9 _ _ e) n10
        · obtain ⟨u, e⟩ := lo07 _ o
          exact some_ne (s9 _ _ (s8 _ _ e)) n10
      · rcases o with o | o
        · exact hS1.nown n10 o
        · obtain ⟨u, e⟩ := lo17 _ o
          exact some_ne (s9 _ _ (s8 _ _ e)) n10
      · have e9 := s9 _ _ (s8 _ _ e7)
        rw [z] at e9
        exact some_ne e9 n10
    clear own0 own1 hS0 hS1 hM07 hM17 hM05 hM0 hM1 f0 f1 s35 s8 s9 s10 s710 hB hB2 hB3 hB5 ebx e10 e7 hP0 hP1 G0 G1 PL0 PL1
    walk_at "go"
    refine ⟨sc, _, rfl, .inl (Same.seq (fun b u e => (tw0.fx b u (sHb b u e)).1) hs), ?_⟩
    rw [List.length_map]
    walk_at "go"
    refine ⟨24, ns.length, rfl, ?_⟩
    walk_at "go"
    refine ⟨2, _, rfl, ?_⟩
    walk_at "go"
    obtain ⟨mm, hm, m24⟩ : ∃ m : Nat, (if (if (24 : Int) > (ns.length : Nat) then ((ns.length : Nat) : Int) else 24) > 2 then (if (24 : Int) > (ns.length : Nat) then ((ns.length : Nat) : Int) else 24) else 2) = (m : Nat) ∧ m ≤ 24 := ⟨max 2 (min 24 ns.length), by split <;> split <;> omega, by omega⟩
    rw [hm]
    refine ⟨mm, rfl, by omega, by omega, ?_⟩
    rw [Int.toNat_natCast]
    refine for_range (fun i σ G => ∃ (s r : Sd) (x1 x5 x6 x7 x8 x9 : Option V), σ = [some (.ref sc), x1, some (.ref D), some (.ref ml), some (.ref sl), x5, x6, x7, x8, x9] ∧ Two A Hb ml sl (9 * i) 0 s r G)
      ⟨_, _, _, _, _, _, _, _, rfl, tw0⟩ ?_ ?_
    · clear tw0
      rintro i σ G hi ⟨s, r, x1, x5, x6, x7, x8, x9, rfl, tw⟩
      walk_at "go"
      rw [Int.zero_add]
      refine ⟨sc, ns, i, rfl, Same.seq (fun b u e => (tw.fx b u (sHb b u e)).1) hs, by omega, fun ce => ?_⟩
      walk_at "go"
      refine ⟨ce, rfl, fun by1 G1 nby sg1 hB1 => ?_⟩
      have tw1 := tw.same sg1
      have off1 := tw.off nby
      walk_at "go"
      refine r_take hB1 (fun dz G2 h0 h1 hB2 b2 => ?_)
      obtain ⟨dz, rfl⟩ := Int.eq_ofNat_of_zero_le h0
      have hd : dz < 2 := by omega
      obtain ⟨s, r, tw2, off2⟩ : ∃ s' r', Two A Hb ml sl (9 * i) dz s' r' G2 ∧ Off Hb ml sl s' r' by1 := by
        have tw2 := tw1.but off1 hB1 b2
        obtain rfl | rfl : dz = 0 ∨ dz = 1 := by omega
        · exact ⟨s, r, tw2, off1⟩
        · exact ⟨r, s, tw2.flip (by decide), off1.flip⟩
      clear tw tw1 off1
      walk_at "go"
      refine r_take hB2 (fun th G3 h30 h31 hB3 b3 => ?_)
      have tw3 := tw2.but off2 hB2 b3
      walk_at "go"
      refine r_take hB3 (fun ask G4 h40 h41 hB4 b4 => ?_)
      have tw4 := tw3.but off2 hB3 b4
      clear tw2 tw3 hB1 hB2 hB3 b2 b3 b4
      walk_at "go"
      show C8.tCut _ _ _ _ _
      refine r_cut (fun σ G => σ = [some (.ref sc), some (.ref by1), some (.ref D), some (.ref ml), some (.ref sl), some (.int i), some (.int dz), some (.int th), some (.int ask), x9] ∧ ∃ s r, Two A Hb ml sl (9 * i) dz s r G ∧ Off Hb ml sl s r by1 ∧ Box by1 10 G) ?_ ?_
      · walk_at "go"
        by_cases c1 : th = 1
        · rw [decide_eq_true (by rw [c1])]
          walk_at "go"
          refine r_ixL (sqL tw4.es) (pr_at hd) ?_
          obtain ⟨dx, fs, e, fL, fT, fC, fU, fP, fD, fn⟩ := tw4.l0.sh.ob
          have nof : ∀ m : Str, (m == ("_length" : Str)) = false → (m == ("_told" : Str)) = false → (m == ("_counts" : Str)) = false → (m == ("_used" : Str)) = false → (m == ("_passed" : Str)) = false → (m == ("_dealt" : Str)) = false → fs.lookup m = none := fn.2
          refine ⟨s.S.o, dx, fs, rfl, e, nof _ (by decide +kernel) (by decide +kernel) (by decide +kernel) (by decide +kernel) (by decide +kernel) (by decide +kernel), ?_⟩
          walk_at "go"
          refine ⟨s.S, s.P, rfl, tw4.l0.sh, fun S' G5 s5 own5 sh5 => ?_⟩
          clear e fL fT fC fU fP fD fn nof
          walk_at "go"
          obtain ⟨j, hj, hset⟩ := pr_set hd (x := .ref s.S.o) (y := .ref r.S.o) (z := .ref S'.o)
          refine ⟨sl, _, _, j, rfl, rfl, s5 _ _ tw4.es, hj, ?_⟩
          rw [hset]
          have nsl : ∀ b, G4 b = none → b ≠ sl := fun b n z => by rw [z, tw4.es] at n; exact nomatch n
          have nml : ∀ b, G4 b = none → b ≠ ml := fun b n z => by rw [z, tw4.em] at n; exact nomatch n
          have k6 : ∀ b u, G5 b = some u → b ≠ sl → upd G5 sl (.lst (pr dz (.ref s.S.o) (.ref S'.o))) b = some u := fun b u e n => by rw [upd_ne n]; exact e
          have e6 : upd G5 sl (.lst (pr dz (.ref s.S.o) (.ref S'.o))) sl = some (.lst (pr dz (.ref s.S.o) (.ref S'.o))) := upd_same
          generalize upd G5 sl (.lst (pr dz (.ref s.S.o) (.ref S'.o))) = G6 at k6 e6 ⊢
          have em6 := k6 _ _ (s5 _ _ tw4.em) tw4.ne
          have ne_sl : ∀ {b}, s.mine b → b ≠ sl := fun o z => tw4.ns.1 (by rw [← z]; exact o)
          have hM6 : Md G6 s.m s.g s.d s.ra s.P := tw4.l0.md.keep fun b u lo e => k6 _ _ (s5 _ _ e) (ne_sl (.inr lo))
          walk_at "go"
          refine r_ixL (sqL em6) (pr_at hd) ?_
          walk_at "go"
          refine ⟨s.m, s.g, s.d, s.ra, s.P, rfl, hM6, tw4.l0.sh.ok.six, tw4.l0.sh.ok.nd, fun m' g' d' ra' G7 s7 hM7 f7 => ?_⟩
          walk_at "go"
          obtain ⟨j2, hj2, hset2⟩ := pr_set hd (x := .ref s.m) (y := .ref r.m) (z := .ref m')
          refine ⟨ml, _, _, j2, rfl, rfl, s7 _ _ em6, hj2, ?_⟩
          rw [hset2]
          have k8 : ∀ b u, G7 b = some u → b ≠ ml → upd G7 ml (.lst (pr dz (.ref s.m) (.ref m'))) b = some u := fun b u e n => by rw [upd_ne n]; exact e
          have e8 : upd G7 ml (.lst (pr dz (.ref s.m) (.ref m'))) ml = some (.lst (pr dz (.ref s.m) (.ref m'))) := upd_same
          generalize upd G7 ml (.lst (pr dz (.ref s.m) (.ref m'))) = G8 at k8 e8 ⊢
          have kk : ∀ b u, G4 b = some u → b ≠ sl → b ≠ ml → G8 b = some u := fun b u e n1 n2 => k8 _ _ (s7 _ _ (k6 _ _ (s5 _ _ e) n1)) n2
          have lo4 : ∀ b, Lo m' g' d' ra' s.P.G b → G4 b = none := fun b lo => by
            have n6 := f7 b lo
            cases w : G4 b with
            | none => rfl
            | some u =>
              by_cases z : b = sl
              · rw [z, e6] at n6; exact nomatch n6
              · rw [k6 _ _ (s5 _ _ w) z] at n6; exact nomatch n6
          have own6 : ∀ b, S'.own b → ∃ u, G6 b = some u := fun b o => by
            cases w : G5 b with
            | none => exact absurd o (sh5.nown w)
            | some u => exact ⟨u, k6 _ _ w (nsl b (own5 b o))⟩
          have mine4 : ∀ b, Sd.mine ⟨S', s.P, m', g', d', ra'⟩ b → G4 b = none := fun b o => o.elim (own5 b) (lo4 b)
          have tup8 : ∀ a xs, G5 a = some (.tup xs) → G8 a = some (.tup xs) := fun a xs e5 => by
            have n1 : a ≠ sl := fun z => by rw [z, s5 _ _ tw4.es] at e5; exact nomatch e5
            have n2 : a ≠ ml := fun z => by rw [z, s5 _ _ tw4.em] at e5; exact nomatch e5
            exact k8 _ _ (s7 _ _ (k6 _ _ e5 n1)) n2
          have tup4 : ∀ a xs, G4 a = some (.tup xs) → G8 a = some (.tup xs) := fun a xs e4 => tup8 a xs (s5 _ _ e4)
          have hB8 : Box by1 10 G8 := by
            obtain ⟨a, b, c, e, rr⟩ := hB4.mono (m := 10) (by omega)
            exact ⟨a, b, c, kk _ _ e off2.l off2.m, rr⟩
          refine ⟨rfl, s, ⟨S', s.P, m', g', d', ra'⟩, ⟨Ls.stay tw4.l0 (fun b u o e => kk _ _ e (ne_sl o) (fun z => tw4.nm.1 (by rw [← z]; exact o))) tup4, ⟨sh5.stay (fun b u o e => k8 _ _ (s7 _ _ (k6 _ _ e (nsl b (own5 b o)))) (nml b (own5 b o))) tup8, hM7.keep fun b u lo e => k8 _ _ e (nml b (lo4 b lo)), fun b lo o => ?_, tw4.l0.dl⟩, fun b o1 o2 => ?_, e8, ?_, fun b u e => ?_, ⟨tw4.nm.1, fun o => nml ml (mine4 ml o) rfl⟩, ⟨tw4.ns.1, fun o => nsl sl (mine4 sl o) rfl⟩, tw4.ne, tw4.n0, tw4.n0⟩, ⟨off2.s, fun o => ?_, off2.m, off2.l, off2.h⟩, hB8⟩
          · obtain ⟨u, e⟩ := own6 b o
            rw [f7 b lo] at e
            exact nomatch e
          · exact absurd o1 (Sd.free tw4.l0 (mine4 b o2))
          · exact k8 _ _ (s7 _ _ e6) tw4.ne.symm
          · obtain ⟨a1, a2, a3, a4, a5⟩ := tw4.fx b u e
            exact ⟨kk _ _ a1 a5 a4, a2, fun o => (by rw [mine4 b o] at a1; exact nomatch a1), a4, a5⟩
          · have n4 := mine4 _ o
            obtain ⟨a, b, c, e, rr⟩ := hB4
            rw [e] at n4
            exact nomatch n4
        · rw [decide_eq_false (fun z => c1 (by injection z))]
          walk_at "go"
          exact ⟨rfl, s, r, tw4, off2, hB4.mono (by omega)⟩
      · clear tw4 off2 hB4
        rintro σ G ⟨rfl, s, r, tw, off, hB⟩
        have eD := (tw.fx _ _ eDb).1
        have l216 : s.P.dl.length + 9 ≤ 480 := by have := tw.n0; omega
        walk_at "go"
        refine r_ixL (sqL tw.es) (pr_at hd) ?_
        walk_at "go"
        refine r_ixL (sqL tw.em) (pr_at hd) ?_
        walk_at "go"
        refine ⟨by1, D, 10, s.S, s.P, s.m, s.g, s.d, s.ra, N, rfl, hB, by decide, tw.l0, fun z => off.s (.inl z), fun z => off.s (.inr z), l216, eD, lN, hN, fun S' P' ra' G5 so dl ls fw => ?_⟩
        have fw2 : ∀ b u, G b = some u → b ≠ by1 → ¬ s.mine b → G5 b = some u ∧ ¬ Sd.mine ⟨S', P', s.m, s.g, s.d, ra'⟩ b := fun b u e n o => by
          obtain ⟨a1, a2, a3⟩ := fw b u e n (fun z => o (.inl z)) fun z => o (.inr z)
          exact ⟨a1, fun z => z.elim a2 a3⟩
        have tw5 : Two A Hb ml sl (9 * (i + 1)) dz ⟨S', P', s.m, s.g, s.d, ra'⟩ r G5 := by
          obtain ⟨m1, m2⟩ := fw2 _ _ tw.em off.m.symm tw.nm.1
          obtain ⟨l1, l2⟩ := fw2 _ _ tw.es off.l.symm tw.ns.1
          refine ⟨ls, Ls.stay tw.l1 (fun b u o e => (fw2 b u e (fun z => off.r (by rw [← z]; exact o)) fun z => tw.ap b z o).1) (fun a xs e => (fw2 a _ e (hB.ne_tup e) (Sd.ntup tw.l0 e)).1), fun b o1 o2 => ?_, m1, by rw [so]; exact l1, fun b u e => ?_, ⟨m2, tw.nm.2⟩, ⟨l2, tw.ns.2⟩, tw.ne, by have := tw.n0; show P'.dl.length ≤ _; omega, by have := tw.n1; omega⟩
          · cases w : G b with
            | none => exact Sd.free tw.l1 w o2
            | some u => exact (fw2 b u w (fun z => off.r (by rw [← z]; exact o2)) fun z => tw.ap b z o2).2 o1
          · obtain ⟨a1, a2, a3, a4, a5⟩ := tw.fx b u e
            obtain ⟨b1, b2⟩ := fw2 b u a1 (fun z => by rw [z, off.h] at e; exact nomatch e) a2
            exact ⟨b1, b2, a3, a4, a5⟩
        clear tw off hB eD l216 fw fw2 ls dl so
        generalize (⟨S', P', s.m, s.g, s.d, ra'⟩ : Sd) = s2 at tw5 ⊢
        walk_at "go"
        refine newLB fun wl G6 n6 gm6 s6 e6 => ?_
        have tw6 := tw5.same s6
        have l0 := tw6.l0
        have l1 := tw6.l1
        refine ⟨wl, rfl, ⟨_, sqL e6⟩, for_list (K := K) (a := wl) (xs := [.int dz, .int (1 - (dz : Int))]) (fun t σ G => (∃ x9, σ = [some (.ref sc), some (.ref by1), some (.ref D), some (.ref ml), some (.ref sl), some (.int i), some (.int dz), some (.int th), some (.int ask), x9]) ∧ Same G6 G) ⟨⟨_, rfl⟩, Same.refl _⟩ (fun t σ G _ h => sqL (h.2 _ _ e6)) ?_ ?_⟩
        · rintro t yv σ G ht ⟨⟨x9, rfl⟩, sG⟩
          have cs : yv = .int dz ∨ yv = .int (1 - (dz : Int)) := by
            match t, ht with
            | 0, ht => exact .inl (Option.some.inj ht).symm
            | 1, ht => exact .inr (Option.some.inj ht).symm
          walk_at "go"
          rcases cs with rfl | rfl
          · refine r_ixL (sqL (sG _ _ tw6.es)) (pr_at hd) ?_
            walk_at "go"
            refine r_ixL (sqL (sG _ _ tw6.em)) (pr_at hd) ?_
            walk_at "go"
            refine ⟨s2.S, s2.P, s2.m, s2.g, s2.d, s2.ra, ask, rfl, l0.sh.same sG, l0.md.same sG, l0.dl, l0.no, h40, h41, fun H' s' => ?_⟩
            walk_at "go"
            exact ⟨⟨_, rfl⟩, sG.trans s'⟩
          · refine r_ixL (sqL (sG _ _ tw6.es)) (pr_at2 hd) ?_
            walk_at "go"
            refine r_ixL (sqL (sG _ _ tw6.em)) (pr_at2 hd) ?_
            walk_at "go"
            refine ⟨r.S, r.P, r.m, r.g, r.d, r.ra, ask, rfl, l1.sh.same sG, l1.md.same sG, l1.dl, l1.no, h40, h41, fun H' s' => ?_⟩
            walk_at "go"
            exact ⟨⟨_, rfl⟩, sG.trans s'⟩
        · rintro σ G ⟨⟨x9, rfl⟩, sG⟩
          have tw7 := tw6.same sG
          walk_at "go"
          obtain rfl | rfl : dz = 0 ∨ dz = 1 := by omega
          · exact ⟨s2, r, _, _, _, _, _, _, rfl, tw7⟩
          · exact ⟨r, s2, _, _, _, _, _, _, rfl, tw7.flip (by decide)⟩
    · rintro σ G ⟨s, r, x1, x5, x6, x7, x8, x9, rfl, tw⟩
      walk_at "go"
      have l0 := tw.l0
      have l1 := tw.l1
      refine r_ixL (sqL tw.es) (pr_at (d := 0) (by decide)) ?_
      walk_at "go"
      refine r_ixL (sqL tw.em) (pr_at (d := 0) (by decide)) ?_
      walk_at "go"
      refine ⟨s.S, s.P, s.m, s.g, s.d, s.ra, 0, rfl, l0.sh, l0.md, l0.dl, l0.no, by decide, by decide, fun H' s' => ?_⟩
      walk_at "go"
      refine r_ixL (sqL (s' _ _ tw.es)) (pr_at2 (d := 0) (by decide)) ?_
      walk_at "go"
      refine r_ixL (sqL (s' _ _ tw.em)) (pr_at2 (d := 0) (by decide)) ?_
      walk_at "go"
      exact ⟨r.S, r.P, r.m, r.g, r.d, r.ra, 3, rfl, l1.sh.same s', l1.md.same s', l1.dl, l1.no, by decide, by decide, fun H2 s2 => q H2⟩
end
end K25

namespace K25
open PySem PySem.Spec PyProof.Rows L2 Bk


section
variable {P : Program} {w : World} {K : PySem.W.Frag} {mg : Str → Option Value} {base : Heap} {A : Ad}
theorem ok_cell {f : Addr} {fd : FuncData} (F : Fun K "_law_cell" "_law_cell" s_cell_L f fd) (T : Txt K mg A) : FnOk P w K mg base CX0 1 f fd ["_law_script", "_law_k"] (Bk.spCell K) := by
  refine F.ok sc_cell_L (fun vs H Q E h => ?_) (fun cdv A' outer s H vs Q E hr h => ⟨_, (pss_cons (ps_if (pt_cmpR op_lt (pv 1) (pe_callB call_len_seq (by rfl) T.m_len (by decide +kernel) (pa_cons (pv 0) pa_nil)) (nomark _)) (pss_one (ps_ret (pe_ix ix_list (pv 0) (pv 1) (fun _ _ => rfl)))) pss_nil)
    (pss_one (ps_ret (pe_op op_add (pe_op op_mulW pe_int (pv 1)) pe_int)))), ?_⟩)
  · obtain ⟨a, ns, k, rfl, _⟩ := h
    rfl
  · obtain ⟨a, ns, k, rfl, hS, hk, q⟩ := h
    walk_at "go"
    refine ⟨a, _, rfl, .inl hS, ?_⟩
    walk_at "go"
    refine ite2 (fun e => ?_) (fun e => ?_)
    · walk_at "go"
      have hl : k < ns.length := by
        have z := of_decide_eq_true e
        rw [List.length_map] at z
        omega
      exact r_ixL hS (at_map hl) (q _)
    · walk_at "go"
      refine r_I (cmul (by decide) (by decide) (by omega) (by omega)) ?_
      walk_at "go"
      exact q _
theorem ok_box {f : Addr} {fd : FuncData} (F : Fun K "_law_box" "_law_box" s_box_L f fd) (T : Txt K mg A) : FnOk P w K mg base CX0 1 f fd ["_law_cell_here"] spBox := by
  refine F.ok sc_box_L (fun vs H Q E h => ?_) (fun cdv A' outer s H vs Q E hr h => ⟨_, (pss_one (ps_ret (pe_lstB (pa_cons (pe_callB (call_max2 rfl) (by rfl) T.m_max (by decide +kernel) (pa_cons pe_int (pa_cons (pe_op op_sub (pv 0) (pe_op op_pow pe_int pe_int)) pa_nil))) (pa_cons (pe_op op_mod (pv 0) pe_int) (pa_cons pe_int pa_nil)))))), ?_⟩)
  · obtain ⟨c, rfl, _⟩ := h
    rfl
  · obtain ⟨c, rfl, q⟩ := h
    walk_at "go"
    refine r_I ⟨by decide, by decide, by decide⟩ ?_
    walk_at "go"
    refine ⟨_, _, rfl, ?_⟩
    walk_at "go"
    refine r_I (by decide) ?_
    walk_at "go"
    refine newLB fun p H' np ns sm e => q p H' np sm ⟨_, _, _, e, ?_, ?_, ?_, ?_, ?_⟩ <;> first | omega | (split <;> omega)
theorem ok_take {f : Addr} {fd : FuncData} (F : Fun K "_law_take" "_law_take" s_take_L f fd) (T : Txt K mg A) : FnOk P w K mg base CX0 1 f fd ["_law_box_here", "_law_size"] spTake := by
  refine F.ok sc_take_L (fun vs H Q E h => ?_) (fun cdv A' outer s H vs Q E hr h => ⟨_, (pss_cons (ps_if (pt_cmpR op_gt (pe_ix ix_list (pv 0) pe_int (fun _ _ => rfl)) pe_int (nomark _)) (pss_cons (ps_set (i := 2) sc_take_L.nd rfl (.inl rfl) (pe_op op_mod (pe_ix ix_list (pv 0) pe_int (fun _ _ => rfl)) (pv 1)))
    (pss_cons (ps_asg (pe_op op_fdivW (pe_ix ix_list (pv 0) pe_int (fun _ _ => rfl)) (pv 1)) (pg_sub (pv 0) pe_int set_list))
    (pss_one (ps_ret (pv 2))))) pss_nil)
    (pss_cons (ps_asg (pe_op op_add (pe_ix ix_list (pv 0) pe_int (fun _ _ => rfl)) pe_int) (pg_sub (pv 0) pe_int set_list))
    (pss_cons (ps_set (i := 3) sc_take_L.nd rfl (.inl rfl) (pe_op op_mod (pe_op op_pow (pe_op op_add (pe_op op_add (pe_ix ix_list (pv 0) pe_int (fun _ _ => rfl)) (pe_op op_mulW pe_int (pe_ix ix_list (pv 0) pe_int (fun _ _ => rfl)))) pe_int) pe_int) pe_int))
    (pss_cons (ps_set (i := 4) sc_take_L.nd rfl (.inl rfl) (pe_op op_mod (pe_op op_pow (pe_op op_add (pe_op op_add (pe_op op_fdivW (pv 3) pe_int) (pe_op op_mulW pe_int (pe_ix ix_list (pv 0) pe_int (fun _ _ => rfl)))) pe_int) pe_int) pe_int))
    (pss_one (ps_ret (pe_op op_mod (pe_op op_add (pe_op op_fdivW (pv 3) pe_int) (pe_op op_mulW pe_int (pe_op op_fdivW (pv 4) pe_int))) (pv 1)))))))), ?_⟩)
  · obtain ⟨a, n, size, rfl, _⟩ := h
    rfl
  · obtain ⟨a, n, size, rfl, ⟨x, y, z, e, hx, hy, hy2, hz, hz2⟩, hn, h0, h1, q⟩ := h
    have i0 : SqL K H a [.int x, .int y, .int z] := sqL e
    walk_at "go"
    refine r_ixL i0 (v := .int x) rfl ?_
    walk_at "go"
    refine ite2 (fun hp => ?_) (fun hp => ?_)
    · walk_at "go"
      refine r_ixL i0 (v := .int x) rfl ?_
      walk_at "go"
      refine r_I h0 ?_
      walk_at "go"
      refine r_ixL i0 (v := .int x) rfl ?_
      walk_at "go"
      refine r_I (cdiv h0 h1) ?_
      walk_at "go"
      refine ⟨a, _, 0, 0, rfl, rfl, e, rfl, ?_⟩
      walk_at "go"
      exact q _ _ (Int.emod_nonneg _ (by omega)) (Int.emod_lt_of_pos _ h0) ⟨x / size, y, z, upd_same, Int.ediv_nonneg hx (by omega), hy, hy2, hz, by omega⟩ But.upd
    · walk_at "go"
      refine r_ixL i0 (v := .int z) rfl ?_
      walk_at "go"
      refine ⟨a, _, 2, 2, rfl, rfl, e, rfl, ?_⟩
      have i1 : SqL K (upd H a (.lst [.int x, .int y, .int (z + 1)])) a [.int x, .int y, .int (z + 1)] := sqL upd_same
      walk_at "go"
      refine r_ixL i1 (v := .int y) rfl ?_
      walk_at "go"
      refine r_ixL i1 (v := .int (z + 1)) rfl ?_
      refine r_I (cmul (by decide) (by decide) (by omega) (by omega)) ?_
      walk_at "go"
      have g1 : (y + 7919 * (z + 1) + 29).natAbs < 2 ^ 64 := by omega
      refine r_I ⟨by decide, by decide, g1⟩ ?_
      walk_at "go"
      refine r_I (by decide) ?_
      walk_at "go"
      generalize hone : (y + 7919 * (z + 1) + 29) ^ (Int.toNat 5) % 2147483647 = one
      have o1 : 0 ≤ one := by rw [← hone]; exact Int.emod_nonneg _ (by decide)
      have o2 : one < 2147483647 := by rw [← hone]; exact Int.emod_lt_of_pos _ (by decide)
      refine r_I (cdiv (by decide) (by decide)) ?_
      walk_at "go"
      refine r_ixL i1 (v := .int (z + 1)) rfl ?_
      refine r_I (cmul (by decide) (by decide) (by omega) (by omega)) ?_
      walk_at "go"
      have g2 : (one / 8 + 104729 * (z + 1) + 11).natAbs < 2 ^ 64 := by omega
      refine r_I ⟨by decide, by decide, g2⟩ ?_
      walk_at "go"
      refine r_I (by decide) ?_
      walk_at "go"
      generalize htwo : (one / 8 + 104729 * (z + 1) + 11) ^ (Int.toNat 3) % 2147483629 = two
      have t1 : 0 ≤ two := by rw [← htwo]; exact Int.emod_nonneg _ (by decide)
      have t2 : two < 2147483629 := by rw [← htwo]; exact Int.emod_lt_of_pos _ (by decide)
      refine r_I (cdiv (by decide) (by decide)) ?_
      walk_at "go"
      refine r_I (cdiv (by decide) (by decide)) ?_
      refine r_I (cmul (by decide) (by decide) (by omega) (by omega)) ?_
      walk_at "go"
      refine r_I h0 ?_
      exact q _ _ (Int.emod_nonneg _ (by omega)) (Int.emod_lt_of_pos _ h0) ⟨x, y, z + 1, upd_same, hx, hy, hy2, by omega, by omega⟩ But.upd

theorem ok_GE {f : Addr} {fd : FuncData} (F : Fun K "__init__" "GuestError.__init__" s_GuestError_init f fd) (T : Txt K mg A) : FnOk P w K mg base CX0 1 f fd ["self", "text"] (spGT K .ve) := by
  refine F.ok sc_GuestError_init (fun vs H Q E h => ?_) (fun cdv A' outer s H vs Q E hr h => ⟨_, (pss_one (ps_expr (pe_veI (by rfl) T.m_ValueError T.vV (pa_cons (pv 0) (pa_cons (pv 1) pa_nil))))), ?_⟩)
  · obtain ⟨a, C, x, rfl, _⟩ := h
    rfl
  · obtain ⟨a, C, x, rfl, hC, e, q⟩ := h
    exact ⟨_, rfl, _, rfl, a, C, [x], rfl, Nat.le_of_ble_eq_true rfl, hC, e, q⟩
theorem ok_KE {f : Addr} {fd : FuncData} (F : Fun K "__init__" "Missing.__init__" s_Missing_init f fd) (T : Txt K mg A) : FnOk P w K mg base CX0 1 f fd ["self", "text"] (spGT K .ke) := by
  refine F.ok sc_Missing_init (fun vs H Q E h => ?_) (fun cdv A' outer s H vs Q E hr h => ⟨_, (pss_one (ps_expr (pe_keI (by rfl) T.m_KeyError T.vK (pa_cons (pv 0) (pa_cons (pv 1) pa_nil))))), ?_⟩)
  · obtain ⟨a, C, x, rfl, _⟩ := h
    rfl
  · obtain ⟨a, C, x, rfl, hC, e, q⟩ := h
    exact ⟨_, rfl, _, rfl, a, C, [x], rfl, Nat.le_of_ble_eq_true rfl, hC, e, q⟩
theorem ok_BB {f : Addr} {fd : FuncData} (F : Fun K "__init__" "Barred.__init__" s_Barred_init f fd) (T : Txt K mg A) : FnOk P w K mg base CX0 1 f fd ["self", "text"] (spGT K .le) := by
  refine F.ok sc_Barred_init (fun vs H Q E h => ?_) (fun cdv A' outer s H vs Q E hr h => ⟨_, (pss_one (ps_expr (pe_leI (by rfl) T.m_LookupError T.vL (pa_cons (pv 0) (pa_cons (pv 1) pa_nil))))), ?_⟩)
  · obtain ⟨a, C, x, rfl, _⟩ := h
    rfl
  · obtain ⟨a, C, x, rfl, hC, e, q⟩ := h
    exact ⟨_, rfl, _, rfl, a, C, [x], rfl, Nat.le_of_ble_eq_true rfl, hC, e, q⟩
theorem ok_iM {f : Addr} {fd fdG : FuncData} (F : Fun K "__init__" "NoNumber.__init__" s_NoNumber_init f fd) (T : Txt K mg A) (c_GuestError_init : Own P w K mg base CX0 1 A.fG fdG ["self", "text"] (spGT K .ve)) : FnOk P w K mg base CX0 2 f fd ["self", "found"] (spInitN "found" A.CM) := by
  refine F.ok sc_NoNumber_init (fun vs H Q E h => ?_) (fun cdv A' outer s H vs Q E hr h => ⟨_, (pss_cons (ps_expr (pe_cdef c_GuestError_init.ok hr (by rfl) T.g_GuestError T.rd_GuestError T.ga_GuestError T.at_GuestError c_GuestError_init.kp c_GuestError_init.bd .nil pass0 (pa_cons (pv 0) (pa_cons pe_str pa_nil))))
    (pss_one (ps_osN (pv 0) (pv 1)))), ?_⟩)
  · obtain ⟨a, x, rfl, _⟩ := h
    rfl
  · obtain ⟨a, x, rfl, e, q⟩ := h
    walk_at "go"
    exact ⟨a, A.CM, _, rfl, T.ox_NoNumber, e, x, rfl, .ref a, rfl, .ve, a, A.CM, rfl, T.ox_NoNumber, T.nf_NoNumber, e, q⟩
theorem ok_iN {f : Addr} {fd fdG : FuncData} (F : Fun K "__init__" "NoName.__init__" s_NoName_init f fd) (T : Txt K mg A) (c_GuestError_init : Own P w K mg base CX0 1 A.fG fdG ["self", "text"] (spGT K .ve)) : FnOk P w K mg base CX0 2 f fd ["self", "found"] (spInitN "found" A.CN) := by
  refine F.ok sc_NoName_init (fun vs H Q E h => ?_) (fun cdv A' outer s H vs Q E hr h => ⟨_, (pss_cons (ps_expr (pe_cdef c_GuestError_init.ok hr (by rfl) T.g_GuestError T.rd_GuestError T.ga_GuestError T.at_GuestError c_GuestError_init.kp c_GuestError_init.bd .nil pass0 (pa_cons (pv 0) (pa_cons pe_str pa_nil))))
    (pss_one (ps_osN (pv 0) (pv 1)))), ?_⟩)
  · obtain ⟨a, x, rfl, _⟩ := h
    rfl
  · obtain ⟨a, x, rfl, e, q⟩ := h
    walk_at "go"
    exact ⟨a, A.CN, _, rfl, T.ox_NoName, e, x, rfl, .ref a, rfl, .ve, a, A.CN, rfl, T.ox_NoName, T.nf_NoName, e, q⟩
theorem ok_iD {f : Addr} {fd fdG : FuncData} (F : Fun K "__init__" "Doubled.__init__" s_Doubled_init f fd) (T : Txt K mg A) (c_GuestError_init : Own P w K mg base CX0 1 A.fG fdG ["self", "text"] (spGT K .ve)) : FnOk P w K mg base CX0 2 f fd ["self", "found"] (spInitN "found" A.CD) := by
  refine F.ok sc_Doubled_init (fun vs H Q E h => ?_) (fun cdv A' outer s H vs Q E hr h => ⟨_, (pss_cons (ps_expr (pe_cdef c_GuestError_init.ok hr (by rfl) T.g_GuestError T.rd_GuestError T.ga_GuestError T.at_GuestError c_GuestError_init.kp c_GuestError_init.bd .nil pass0 (pa_cons (pv 0) (pa_cons pe_str pa_nil))))
    (pss_one (ps_osN (pv 0) (pv 1)))), ?_⟩)
  · obtain ⟨a, x, rfl, _⟩ := h
    rfl
  · obtain ⟨a, x, rfl, e, q⟩ := h
    walk_at "go"
    exact ⟨a, A.CD, _, rfl, T.ox_Doubled, e, x, rfl, .ref a, rfl, .ve, a, A.CD, rfl, T.ox_Doubled, T.nf_Doubled, e, q⟩
theorem ok_iA {f : Addr} {fd fdG : FuncData} (F : Fun K "__init__" "NoGuest.__init__" s_NoGuest_init f fd) (T : Txt K mg A) (c_Missing_init : Own P w K mg base CX0 1 A.fK fdG ["self", "text"] (spGT K .ke)) : FnOk P w K mg base CX0 2 f fd ["self", "found"] (spInitN "found" A.CA) := by
  refine F.ok sc_NoGuest_init (fun vs H Q E h => ?_) (fun cdv A' outer s H vs Q E hr h => ⟨_, (pss_cons (ps_expr (pe_cdef c_Missing_init.ok hr (by rfl) T.g_Missing T.rd_Missing T.ga_Missing T.at_Missing c_Missing_init.kp c_Missing_init.bd .nil pass0 (pa_cons (pv 0) (pa_cons pe_str pa_nil))))
    (pss_one (ps_osN (pv 0) (pv 1)))), ?_⟩)
  · obtain ⟨a, x, rfl, _⟩ := h
    rfl
  · obtain ⟨a, x, rfl, e, q⟩ := h
    walk_at "go"
    exact ⟨a, A.CA, _, rfl, T.ox_NoGuest, e, x, rfl, .ref a, rfl, .ke, a, A.CA, rfl, T.ox_NoGuest, T.nf_NoGuest, e, q⟩
theorem ok_iT {f : Addr} {fd fdG : FuncData} (F : Fun K "__init__" "TooMuch.__init__" s_TooMuch_init f fd) (T : Txt K mg A) (c_GuestError_init : Own P w K mg base CX0 1 A.fG fdG ["self", "text"] (spGT K .ve)) : FnOk P w K mg base CX0 2 f fd ["self", "many"] (spInitN "many" A.CT) := by
  refine F.ok sc_TooMuch_init (fun vs H Q E h => ?_) (fun cdv A' outer s H vs Q E hr h => ⟨_, (pss_cons (ps_expr (pe_cdef c_GuestError_init.ok hr (by rfl) T.g_GuestError T.rd_GuestError T.ga_GuestError T.at_GuestError c_GuestError_init.kp c_GuestError_init.bd .nil pass0 (pa_cons (pv 0) (pa_cons pe_str pa_nil))))
    (pss_one (ps_osN (pv 0) (pv 1)))), ?_⟩)
  · obtain ⟨a, x, rfl, _⟩ := h
    rfl
  · obtain ⟨a, x, rfl, e, q⟩ := h
    walk_at "go"
    exact ⟨a, A.CT, _, rfl, T.ox_TooMuch, e, x, rfl, .ref a, rfl, .ve, a, A.CT, rfl, T.ox_TooMuch, T.nf_TooMuch, e, q⟩
theorem ok_iF {f : Addr} {fd fdG : FuncData} (F : Fun K "__init__" "Full.__init__" s_Full_init f fd) (T : Txt K mg A) (c_Barred_init : Own P w K mg base CX0 1 A.fB fdG ["self", "text"] (spGT K .le)) : FnOk P w K mg base CX0 2 f fd ["self", "many"] (spInitN "many" A.CF) := by
  refine F.ok sc_Full_init (fun vs H Q E h => ?_) (fun cdv A' outer s H vs Q E hr h => ⟨_, (pss_cons (ps_expr (pe_cdef c_Barred_init.ok hr (by rfl) T.g_Barred T.rd_Barred T.ga_Barred T.at_Barred c_Barred_init.kp c_Barred_init.bd .nil pass0 (pa_cons (pv 0) (pa_cons pe_str pa_nil))))
    (pss_one (ps_osN (pv 0) (pv 1)))), ?_⟩)
  · obtain ⟨a, x, rfl, _⟩ := h
    rfl
  · obtain ⟨a, x, rfl, e, q⟩ := h
    walk_at "go"
    exact ⟨a, A.CF, _, rfl, T.ox_Full, e, x, rfl, .ref a, rfl, .le, a, A.CF, rfl, T.ox_Full, T.nf_Full, e, q⟩
end
end K25

namespace K25
open PySem PySem.Spec PyProof.Rows L2 Bk
theorem all_mk {l : PySem.W.OpenLaw} {w : World} {K : PySem.W.Frag} {h : Heap} {mg : Str → Option Value} {fa C_GuestError C_Missing C_Barred C_NoNumber C_NoName C_Doubled C_TooMuch C_NoGuest C_Full C_Shares f_GuestError_init f_Missing_init f_Barred_init f_NoNumber_init f_NoName_init f_Doubled_init f_TooMuch_init f_NoGuest_init f_Full_init f_is_whole f_is_name f_all_within f_check_number f_check_name f_check_guest f_Shares_init f_Shares_come f_Shares_go f_Shares_change f_Shares_deal f_Shares_length f_Shares_names f_Shares_promise f_Shares_ceiling f_Shares_counting f_Shares_used f_Shares_passed f_Shares_promised f_Shares_dealt f_Shares_twin f_Shares_check_share f_Shares_check_promised f_Shares_by_promise f_Shares_by_ceiling f_Shares_begin_stretch f_cell_L f_box_L f_take_L f_names_L f_model_L f_together_L f_comes_L f_changes_L f_gets_L f_deals_L f_length_L f_share_L f_asked_L f_stands_L f_dealt_L f_done_L f_twin_L f_law : Addr} (X : K.In h) (G : h.Ns mainGlobals mg) (hfa : mg "law" = some (.ref fa))
    {od_GuestError_init an_GuestError_init : Option Addr} {sl_GuestError_init : Array (Option Value)} {oc_GuestError_init kV_GuestError_init dc_GuestError_init pm_GuestError_init cd_GuestError_init ct_GuestError_init : Value}
    {od_Missing_init an_Missing_init : Option Addr} {sl_Missing_init : Array (Option Value)} {oc_Missing_init kV_Missing_init dc_Missing_init pm_Missing_init cd_Missing_init ct_Missing_init : Value}
    {od_Barred_init an_Barred_init : Option Addr} {sl_Barred_init : Array (Option Value)} {oc_Barred_init kV_Barred_init dc_Barred_init pm_Barred_init cd_Barred_init ct_Barred_init : Value}
    {od_NoNumber_init an_NoNumber_init : Option Addr} {sl_NoNumber_init : Array (Option Value)} {oc_NoNumber_init kV_NoNumber_init dc_NoNumber_init pm_NoNumber_init cd_NoNumber_init ct_NoNumber_init : Value}
    {od_NoName_init an_NoName_init : Option Addr} {sl_NoName_init : Array (Option Value)} {oc_NoName_init kV_NoName_init dc_NoName_init pm_NoName_init cd_NoName_init ct_NoName_init : Value}
    {od_Doubled_init an_Doubled_init : Option Addr} {sl_Doubled_init : Array (Option Value)} {oc_Doubled_init kV_Doubled_init dc_Doubled_init pm_Doubled_init cd_Doubled_init ct_Doubled_init : Value}
    {od_TooMuch_init an_TooMuch_init : Option Addr} {sl_TooMuch_init : Array (Option Value)} {oc_TooMuch_init kV_TooMuch_init dc_TooMuch_init pm_TooMuch_init cd_TooMuch_init ct_TooMuch_init : Value}
    {od_NoGuest_init an_NoGuest_init : Option Addr} {sl_NoGuest_init : Array (Option Value)} {oc_NoGuest_init kV_NoGuest_init dc_NoGuest_init pm_NoGuest_init cd_NoGuest_init ct_NoGuest_init : Value}
    {od_Full_init an_Full_init : Option Addr} {sl_Full_init : Array (Option Value)} {oc_Full_init kV_Full_init dc_Full_init pm_Full_init cd_Full_init ct_Full_init : Value}
    {od_is_whole an_is_whole : Option Addr} {sl_is_whole : Array (Option Value)} {oc_is_whole kV_is_whole dc_is_whole pm_is_whole cd_is_whole ct_is_whole : Value}
    {od_is_name an_is_name : Option Addr} {sl_is_name : Array (Option Value)} {oc_is_name kV_is_name dc_is_name pm_is_name cd_is_name ct_is_name : Value}
    {od_all_within an_all_within : Option Addr} {sl_all_within : Array (Option Value)} {oc_all_within kV_all_within dc_all_within pm_all_within cd_all_within ct_all_within : Value}
    {od_check_number an_check_number : Option Addr} {sl_check_number : Array (Option Value)} {oc_check_number kV_check_number dc_check_number pm_check_number cd_check_number ct_check_number : Value}
    {od_check_name an_check_name : Option Addr} {sl_check_name : Array (Option Value)} {oc_check_name kV_check_name dc_check_name pm_check_name cd_check_name ct_check_name : Value}
    {od_check_guest an_check_guest : Option Addr} {sl_check_guest : Array (Option Value)} {oc_check_guest kV_check_guest dc_check_guest pm_check_guest cd_check_guest ct_check_guest : Value}
    {od_Shares_init an_Shares_init : Option Addr} {sl_Shares_init : Array (Option Value)} {oc_Shares_init kV_Shares_init dc_Shares_init pm_Shares_init cd_Shares_init ct_Shares_init : Value}
    {od_Shares_come an_Shares_come : Option Addr} {sl_Shares_come : Array (Option Value)} {oc_Shares_come kV_Shares_come dc_Shares_come pm_Shares_come cd_Shares_come ct_Shares_come : Value}
    {od_Shares_go an_Shares_go : Option Addr} {sl_Shares_go : Array (Option Value)} {oc_Shares_go kV_Shares_go dc_Shares_go pm_Shares_go cd_Shares_go ct_Shares_go : Value}
    {od_Shares_change an_Shares_change : Option Addr} {sl_Shares_change : Array (Option Value)} {oc_Shares_change kV_Shares_change dc_Shares_change pm_Shares_change cd_Shares_change ct_Shares_change : Value}
    {od_Shares_deal an_Shares_deal : Option Addr} {sl_Shares_deal : Array (Option Value)} {oc_Shares_deal kV_Shares_deal dc_Shares_deal pm_Shares_deal cd_Shares_deal ct_Shares_deal : Value}
    {od_Shares_length an_Shares_length : Option Addr} {sl_Shares_length : Array (Option Value)} {oc_Shares_length kV_Shares_length dc_Shares_length pm_Shares_length cd_Shares_length ct_Shares_length : Value}
    {od_Shares_names an_Shares_names : Option Addr} {sl_Shares_names : Array (Option Value)} {oc_Shares_names kV_Shares_names dc_Shares_names pm_Shares_names cd_Shares_names ct_Shares_names : Value}
    {od_Shares_promise an_Shares_promise : Option Addr} {sl_Shares_promise : Array (Option Value)} {oc_Shares_promise kV_Shares_promise dc_Shares_promise pm_Shares_promise cd_Shares_promise ct_Shares_promise : Value}
    {od_Shares_ceiling an_Shares_ceiling : Option Addr} {sl_Shares_ceiling : Array (Option Value)} {oc_Shares_ceiling kV_Shares_ceiling dc_Shares_ceiling pm_Shares_ceiling cd_Shares_ceiling ct_Shares_ceiling : Value}
    {od_Shares_counting an_Shares_counting : Option Addr} {sl_Shares_counting : Array (Option Value)} {oc_Shares_counting kV_Shares_counting dc_Shares_counting pm_Shares_counting cd_Shares_counting ct_Shares_counting : Value}
    {od_Shares_used an_Shares_used : Option Addr} {sl_Shares_used : Array (Option Value)} {oc_Shares_used kV_Shares_used dc_Shares_used pm_Shares_used cd_Shares_used ct_Shares_used : Value}
    {od_Shares_passed an_Shares_passed : Option Addr} {sl_Shares_passed : Array (Option Value)} {oc_Shares_passed kV_Shares_passed dc_Shares_passed pm_Shares_passed cd_Shares_passed ct_Shares_passed : Value}
    {od_Shares_promised an_Shares_promised : Option Addr} {sl_Shares_promised : Array (Option Value)} {oc_Shares_promised kV_Shares_promised dc_Shares_promised pm_Shares_promised cd_Shares_promised ct_Shares_promised : Value}
    {od_Shares_dealt an_Shares_dealt : Option Addr} {sl_Shares_dealt : Array (Option Value)} {oc_Shares_dealt kV_Shares_dealt dc_Shares_dealt pm_Shares_dealt cd_Shares_dealt ct_Shares_dealt : Value}
    {od_Shares_twin an_Shares_twin : Option Addr} {sl_Shares_twin : Array (Option Value)} {oc_Shares_twin kV_Shares_twin dc_Shares_twin pm_Shares_twin cd_Shares_twin ct_Shares_twin : Value}
    {od_Shares_check_share an_Shares_check_share : Option Addr} {sl_Shares_check_share : Array (Option Value)} {oc_Shares_check_share kV_Shares_check_share dc_Shares_check_share pm_Shares_check_share cd_Shares_check_share ct_Shares_check_share : Value}
    {od_Shares_check_promised an_Shares_check_promised : Option Addr} {sl_Shares_check_promised : Array (Option Value)} {oc_Shares_check_promised kV_Shares_check_promised dc_Shares_check_promised pm_Shares_check_promised cd_Shares_check_promised ct_Shares_check_promised : Value}
    {od_Shares_by_promise an_Shares_by_promise : Option Addr} {sl_Shares_by_promise : Array (Option Value)} {oc_Shares_by_promise kV_Shares_by_promise dc_Shares_by_promise pm_Shares_by_promise cd_Shares_by_promise ct_Shares_by_promise : Value}
    {od_Shares_by_ceiling an_Shares_by_ceiling : Option Addr} {sl_Shares_by_ceiling : Array (Option Value)} {oc_Shares_by_ceiling kV_Shares_by_ceiling dc_Shares_by_ceiling pm_Shares_by_ceiling cd_Shares_by_ceiling ct_Shares_by_ceiling : Value}
    {od_Shares_begin_stretch an_Shares_begin_stretch : Option Addr} {sl_Shares_begin_stretch : Array (Option Value)} {oc_Shares_begin_stretch kV_Shares_begin_stretch dc_Shares_begin_stretch pm_Shares_begin_stretch cd_Shares_begin_stretch ct_Shares_begin_stretch : Value}
    {od_cell_L an_cell_L : Option Addr} {sl_cell_L : Array (Option Value)} {oc_cell_L kV_cell_L dc_cell_L pm_cell_L cd_cell_L ct_cell_L : Value}
    {od_box_L an_box_L : Option Addr} {sl_box_L : Array (Option Value)} {oc_box_L kV_box_L dc_box_L pm_box_L cd_box_L ct_box_L : Value}
    {od_take_L an_take_L : Option Addr} {sl_take_L : Array (Option Value)} {oc_take_L kV_take_L dc_take_L pm_take_L cd_take_L ct_take_L : Value}
    {od_names_L an_names_L : Option Addr} {sl_names_L : Array (Option Value)} {oc_names_L kV_names_L dc_names_L pm_names_L cd_names_L ct_names_L : Value}
    {od_model_L an_model_L : Option Addr} {sl_model_L : Array (Option Value)} {oc_model_L kV_model_L dc_model_L pm_model_L cd_model_L ct_model_L : Value}
    {od_together_L an_together_L : Option Addr} {sl_together_L : Array (Option Value)} {oc_together_L kV_together_L dc_together_L pm_together_L cd_together_L ct_together_L : Value}
    {od_comes_L an_comes_L : Option Addr} {sl_comes_L : Array (Option Value)} {oc_comes_L kV_comes_L dc_comes_L pm_comes_L cd_comes_L ct_comes_L : Value}
    {od_changes_L an_changes_L : Option Addr} {sl_changes_L : Array (Option Value)} {oc_changes_L kV_changes_L dc_changes_L pm_changes_L cd_changes_L ct_changes_L : Value}
    {od_gets_L an_gets_L : Option Addr} {sl_gets_L : Array (Option Value)} {oc_gets_L kV_gets_L dc_gets_L pm_gets_L cd_gets_L ct_gets_L : Value}
    {od_deals_L an_deals_L : Option Addr} {sl_deals_L : Array (Option Value)} {oc_deals_L kV_deals_L dc_deals_L pm_deals_L cd_deals_L ct_deals_L : Value}
    {od_length_L an_length_L : Option Addr} {sl_length_L : Array (Option Value)} {oc_length_L kV_length_L dc_length_L pm_length_L cd_length_L ct_length_L : Value}
    {od_share_L an_share_L : Option Addr} {sl_share_L : Array (Option Value)} {oc_share_L kV_share_L dc_share_L pm_share_L cd_share_L ct_share_L : Value}
    {od_asked_L an_asked_L : Option Addr} {sl_asked_L : Array (Option Value)} {oc_asked_L kV_asked_L dc_asked_L pm_asked_L cd_asked_L ct_asked_L : Value}
    {od_stands_L an_stands_L : Option Addr} {sl_stands_L : Array (Option Value)} {oc_stands_L kV_stands_L dc_stands_L pm_stands_L cd_stands_L ct_stands_L : Value}
    {od_dealt_L an_dealt_L : Option Addr} {sl_dealt_L : Array (Option Value)} {oc_dealt_L kV_dealt_L dc_dealt_L pm_dealt_L cd_dealt_L ct_dealt_L : Value}
    {od_done_L an_done_L : Option Addr} {sl_done_L : Array (Option Value)} {oc_done_L kV_done_L dc_done_L pm_done_L cd_done_L ct_done_L : Value}
    {od_twin_L an_twin_L : Option Addr} {sl_twin_L : Array (Option Value)} {oc_twin_L kV_twin_L dc_twin_L pm_twin_L cd_twin_L ct_twin_L : Value}
    {od_law an_law : Option Addr} {sl_law : Array (Option Value)} {oc_law kV_law dc_law pm_law cd_law ct_law : Value}
    {t_mg t_sh t_lo : Tok}
    {nmM qM : Str} {NM : Addr} {bsM : List Value} {snM : List Str} {subM : List Value} {abM : Bool} {colM : Option Bool} {ddM : Option Addr} {wM0 wM1 wM2 wM3 wM5 : Option Value}
    {nmN qN : Str} {NN : Addr} {bsN : List Value} {snN : List Str} {subN : List Value} {abN : Bool} {colN : Option Bool} {ddN : Option Addr} {wN0 wN1 wN2 wN3 wN5 : Option Value}
    {nmD qD : Str} {ND : Addr} {bsD : List Value} {snD : List Str} {subD : List Value} {abD : Bool} {colD : Option Bool} {ddD : Option Addr} {wD0 wD1 wD2 wD3 wD5 : Option Value}
    {nmT qT : Str} {NT : Addr} {bsT : List Value} {snT : List Str} {subT : List Value} {abT : Bool} {colT : Option Bool} {ddT : Option Addr} {wT0 wT1 wT2 wT3 wT5 : Option Value}
    {nmA qA : Str} {NA : Addr} {bsA : List Value} {snA : List Str} {subA : List Value} {abA : Bool} {colA : Option Bool} {ddA : Option Addr} {wA0 wA1 wA2 wA3 wA5 : Option Value}
    {nmF qF : Str} {NF : Addr} {bsF : List Value} {snF : List Str} {subF : List Value} {abF : Bool} {colF : Option Bool} {ddF : Option Addr} {wF0 wF1 wF2 wF3 wF5 : Option Value}
    (aC_GuestError : PySem.W.nsIn K mainGlobals "GuestError" = some (some (.ref C_GuestError)))
    (aC_Missing : PySem.W.nsIn K mainGlobals "Missing" = some (some (.ref C_Missing)))
    (aC_Barred : PySem.W.nsIn K mainGlobals "Barred" = some (some (.ref C_Barred)))
    (aC_NoNumber : PySem.W.nsIn K mainGlobals "NoNumber" = some (some (.ref C_NoNumber)))
    (aC_NoName : PySem.W.nsIn K mainGlobals "NoName" = some (some (.ref C_NoName)))
    (aC_Doubled : PySem.W.nsIn K mainGlobals "Doubled" = some (some (.ref C_Doubled)))
    (aC_TooMuch : PySem.W.nsIn K mainGlobals "TooMuch" = some (some (.ref C_TooMuch)))
    (aC_NoGuest : PySem.W.nsIn K mainGlobals "NoGuest" = some (some (.ref C_NoGuest)))
    (aC_Full : PySem.W.nsIn K mainGlobals "Full" = some (some (.ref C_Full)))
    (aC_Shares : PySem.W.nsIn K mainGlobals "Shares" = some (some (.ref C_Shares)))
    (a_GuestError_init : PySem.W.findIn K (.ref C_GuestError) "__init__" = some (some (.ref f_GuestError_init)))
    (l_GuestError_init : K.lookup f_GuestError_init = some ⟨oc_GuestError_init, od_GuestError_init, .func (PySem.W.fnOf "__init__" "GuestError.__init__" (defArgs s_GuestError_init) (defBody s_GuestError_init) (defScope s_GuestError_init) .none kV_GuestError_init dc_GuestError_init pm_GuestError_init an_GuestError_init cd_GuestError_init ct_GuestError_init), sl_GuestError_init⟩)
    (c_GuestError_init : PySem.W.codeIn K cd_GuestError_init "GuestError.__init__" = true)
    (k_GuestError_init : PySem.W.keepIn K (.ref f_GuestError_init) = true)
    (a_Missing_init : PySem.W.findIn K (.ref C_Missing) "__init__" = some (some (.ref f_Missing_init)))
    (l_Missing_init : K.lookup f_Missing_init = some ⟨oc_Missing_init, od_Missing_init, .func (PySem.W.fnOf "__init__" "Missing.__init__" (defArgs s_Missing_init) (defBody s_Missing_init) (defScope s_Missing_init) .none kV_Missing_init dc_Missing_init pm_Missing_init an_Missing_init cd_Missing_init ct_Missing_init), sl_Missing_init⟩)
    (c_Missing_init : PySem.W.codeIn K cd_Missing_init "Missing.__init__" = true)
    (k_Missing_init : PySem.W.keepIn K (.ref f_Missing_init) = true)
    (a_Barred_init : PySem.W.findIn K (.ref C_Barred) "__init__" = some (some (.ref f_Barred_init)))
    (l_Barred_init : K.lookup f_Barred_init = some ⟨oc_Barred_init, od_Barred_init, .func (PySem.W.fnOf "__init__" "Barred.__init__" (defArgs s_Barred_init) (defBody s_Barred_init) (defScope s_Barred_init) .none kV_Barred_init dc_Barred_init pm_Barred_init an_Barred_init cd_Barred_init ct_Barred_init), sl_Barred_init⟩)
    (c_Barred_init : PySem.W.codeIn K cd_Barred_init "Barred.__init__" = true)
    (k_Barred_init : PySem.W.keepIn K (.ref f_Barred_init) = true)
    (a_NoNumber_init : PySem.W.findIn K (.ref C_NoNumber) "__init__" = some (some (.ref f_NoNumber_init)))
    (l_NoNumber_init : K.lookup f_NoNumber_init = some ⟨oc_NoNumber_init, od_NoNumber_init, .func (PySem.W.fnOf "__init__" "NoNumber.__init__" (defArgs s_NoNumber_init) (defBody s_NoNumber_init) (defScope s_NoNumber_init) .none kV_NoNumber_init dc_NoNumber_init pm_NoNumber_init an_NoNumber_init cd_NoNumber_init ct_NoNumber_init), sl_NoNumber_init⟩)
    (c_NoNumber_init : PySem.W.codeIn K cd_NoNumber_init "NoNumber.__init__" = true)
    (k_NoNumber_init : PySem.W.keepIn K (.ref f_NoNumber_init) = true)
    (a_NoName_init : PySem.W.findIn K (.ref C_NoName) "__init__" = some (some (.ref f_NoName_init)))
    (l_NoName_init : K.lookup f_NoName_init = some ⟨oc_NoName_init, od_NoName_init, .func (PySem.W.fnOf "__init__" "NoName.__init__" (defArgs s_NoName_init) (defBody s_NoName_init) (defScope s_NoName_init) .none kV_NoName_init dc_NoName_init pm_NoName_init an_NoName_init cd_NoName_init ct_NoName_init), sl_NoName_init⟩)
    (c_NoName_init : PySem.W.codeIn K cd_NoName_init "NoName.__init__" = true)
    (k_NoName_init : PySem.W.keepIn K (.ref f_NoName_init) = true)
    (a_Doubled_init : PySem.W.findIn K (.ref C_Doubled) "__init__" = some (some (.ref f_Doubled_init)))
    (l_Doubled_init : K.lookup f_Doubled_init = some ⟨oc_Doubled_init, od_Doubled_init, .func (PySem.W.fnOf "__init__" "Doubled.__init__" (defArgs s_Doubled_init) (defBody s_Doubled_init) (defScope s_Doubled_init) .none kV_Doubled_init dc_Doubled_init pm_Doubled_init an_Doubled_init cd_Doubled_init ct_Doubled_init), sl_Doubled_init⟩)
    (c_Doubled_init : PySem.W.codeIn K cd_Doubled_init "Doubled.__init__" = true)
    (k_Doubled_init : PySem.W.keepIn K (.ref f_Doubled_init) = true)
    (a_TooMuch_init : PySem.W.findIn K (.ref C_TooMuch) "__init__" = some (some (.ref f_TooMuch_init)))
    (l_TooMuch_init : K.lookup f_TooMuch_init = some ⟨oc_TooMuch_init, od_TooMuch_init, .func (PySem.W.fnOf "__init__" "TooMuch.__init__" (defArgs s_TooMuch_init) (defBody s_TooMuch_init) (defScope s_TooMuch_init) .none kV_TooMuch_init dc_TooMuch_init pm_TooMuch_init an_TooMuch_init cd_TooMuch_init ct_TooMuch_init), sl_TooMuch_init⟩)
    (c_TooMuch_init : PySem.W.codeIn K cd_TooMuch_init "TooMuch.__init__" = true)
    (k_TooMuch_init : PySem.W.keepIn K (.ref f_TooMuch_init) = true)
    (a_NoGuest_init : PySem.W.findIn K (.ref C_NoGuest) "__init__" = some (some (.ref f_NoGuest_init)))
    (l_NoGuest_init : K.lookup f_NoGuest_init = some ⟨oc_NoGuest_init, od_NoGuest_init, .func (PySem.W.fnOf "__init__" "NoGuest.__init__" (defArgs s_NoGuest_init) (defBody s_NoGuest_init) (defScope s_NoGuest_init) .none kV_NoGuest_init dc_NoGuest_init pm_NoGuest_init an_NoGuest_init cd_NoGuest_init ct_NoGuest_init), sl_NoGuest_init⟩)
    (c_NoGuest_init : PySem.W.codeIn K cd_NoGuest_init "NoGuest.__init__" = true)
    (k_NoGuest_init : PySem.W.keepIn K (.ref f_NoGuest_init) = true)
    (a_Full_init : PySem.W.findIn K (.ref C_Full) "__init__" = some (some (.ref f_Full_init)))
    (l_Full_init : K.lookup f_Full_init = some ⟨oc_Full_init, od_Full_init, .func (PySem.W.fnOf "__init__" "Full.__init__" (defArgs s_Full_init) (defBody s_Full_init) (defScope s_Full_init) .none kV_Full_init dc_Full_init pm_Full_init an_Full_init cd_Full_init ct_Full_init), sl_Full_init⟩)
    (c_Full_init : PySem.W.codeIn K cd_Full_init "Full.__init__" = true)
    (k_Full_init : PySem.W.keepIn K (.ref f_Full_init) = true)
    (a_is_whole : PySem.W.nsIn K mainGlobals "is_whole" = some (some (.ref f_is_whole)))
    (l_is_whole : K.lookup f_is_whole = some ⟨oc_is_whole, od_is_whole, .func (PySem.W.fnOf "is_whole" "is_whole" (defArgs s_is_whole) (defBody s_is_whole) (defScope s_is_whole) .none kV_is_whole dc_is_whole pm_is_whole an_is_whole cd_is_whole ct_is_whole), sl_is_whole⟩)
    (c_is_whole : PySem.W.codeIn K cd_is_whole "is_whole" = true)
    (k_is_whole : PySem.W.keepIn K (.ref f_is_whole) = true)
    (a_is_name : PySem.W.nsIn K mainGlobals "is_name" = some (some (.ref f_is_name)))
    (l_is_name : K.lookup f_is_name = some ⟨oc_is_name, od_is_name, .func (PySem.W.fnOf "is_name" "is_name" (defArgs s_is_name) (defBody s_is_name) (defScope s_is_name) .none kV_is_name dc_is_name pm_is_name an_is_name cd_is_name ct_is_name), sl_is_name⟩)
    (c_is_name : PySem.W.codeIn K cd_is_name "is_name" = true)
    (k_is_name : PySem.W.keepIn K (.ref f_is_name) = true)
    (a_all_within : PySem.W.nsIn K mainGlobals "_all_within" = some (some (.ref f_all_within)))
    (l_all_within : K.lookup f_all_within = some ⟨oc_all_within, od_all_within, .func (PySem.W.fnOf "_all_within" "_all_within" (defArgs s_all_within) (defBody s_all_within) (defScope s_all_within) .none kV_all_within dc_all_within pm_all_within an_all_within cd_all_within ct_all_within), sl_all_within⟩)
    (c_all_within : PySem.W.codeIn K cd_all_within "_all_within" = true)
    (k_all_within : PySem.W.keepIn K (.ref f_all_within) = true)
    (a_check_number : PySem.W.nsIn K mainGlobals "check_number" = some (some (.ref f_check_number)))
    (l_check_number : K.lookup f_check_number = some ⟨oc_check_number, od_check_number, .func (PySem.W.fnOf "check_number" "check_number" (defArgs s_check_number) (defBody s_check_number) (defScope s_check_number) .none kV_check_number dc_check_number pm_check_number an_check_number cd_check_number ct_check_number), sl_check_number⟩)
    (c_check_number : PySem.W.codeIn K cd_check_number "check_number" = true)
    (k_check_number : PySem.W.keepIn K (.ref f_check_number) = true)
    (a_check_name : PySem.W.nsIn K mainGlobals "check_name" = some (some (.ref f_check_name)))
    (l_check_name : K.lookup f_check_name = some ⟨oc_check_name, od_check_name, .func (PySem.W.fnOf "check_name" "check_name" (defArgs s_check_name) (defBody s_check_name) (defScope s_check_name) .none kV_check_name dc_check_name pm_check_name an_check_name cd_check_name ct_check_name), sl_check_name⟩)
    (c_check_name : PySem.W.codeIn K cd_check_name "check_name" = true)
    (k_check_name : PySem.W.keepIn K (.ref f_check_name) = true)
    (a_check_guest : PySem.W.nsIn K mainGlobals "check_guest" = some (some (.ref f_check_guest)))
    (l_check_guest : K.lookup f_check_guest = some ⟨oc_check_guest, od_check_guest, .func (PySem.W.fnOf "check_guest" "check_guest" (defArgs s_check_guest) (defBody s_check_guest) (defScope s_check_guest) .none kV_check_guest dc_check_guest pm_check_guest an_check_guest cd_check_guest ct_check_guest), sl_check_guest⟩)
    (c_check_guest : PySem.W.codeIn K cd_check_guest "check_guest" = true)
    (k_check_guest : PySem.W.keepIn K (.ref f_check_guest) = true)
    (a_Shares_init : PySem.W.findIn K (.ref C_Shares) "__init__" = some (some (.ref f_Shares_init)))
    (l_Shares_init : K.lookup f_Shares_init = some ⟨oc_Shares_init, od_Shares_init, .func (PySem.W.fnOf "__init__" "Shares.__init__" (defArgs s_Shares_init) (defBody s_Shares_init) (defScope s_Shares_init) .none kV_Shares_init dc_Shares_init pm_Shares_init an_Shares_init cd_Shares_init ct_Shares_init), sl_Shares_init⟩)
    (c_Shares_init : PySem.W.codeIn K cd_Shares_init "Shares.__init__" = true)
    (k_Shares_init : PySem.W.keepIn K (.ref f_Shares_init) = true)
    (a_Shares_come : PySem.W.findIn K (.ref C_Shares) "come" = some (some (.ref f_Shares_come)))
    (l_Shares_come : K.lookup f_Shares_come = some ⟨oc_Shares_come, od_Shares_come, .func (PySem.W.fnOf "come" "Shares.come" (defArgs s_Shares_come) (defBody s_Shares_come) (defScope s_Shares_come) .none kV_Shares_come dc_Shares_come pm_Shares_come an_Shares_come cd_Shares_come ct_Shares_come), sl_Shares_come⟩)
    (c_Shares_come : PySem.W.codeIn K cd_Shares_come "Shares.come" = true)
    (k_Shares_come : PySem.W.keepIn K (.ref f_Shares_come) = true)
    (a_Shares_go : PySem.W.findIn K (.ref C_Shares) "go" = some (some (.ref f_Shares_go)))
    (l_Shares_go : K.lookup f_Shares_go = some ⟨oc_Shares_go, od_Shares_go, .func (PySem.W.fnOf "go" "Shares.go" (defArgs s_Shares_go) (defBody s_Shares_go) (defScope s_Shares_go) .none kV_Shares_go dc_Shares_go pm_Shares_go an_Shares_go cd_Shares_go ct_Shares_go), sl_Shares_go⟩)
    (c_Shares_go : PySem.W.codeIn K cd_Shares_go "Shares.go" = true)
    (k_Shares_go : PySem.W.keepIn K (.ref f_Shares_go) = true)
    (a_Shares_change : PySem.W.findIn K (.ref C_Shares) "change" = some (some (.ref f_Shares_change)))
    (l_Shares_change : K.lookup f_Shares_change = some ⟨oc_Shares_change, od_Shares_change, .func (PySem.W.fnOf "change" "Shares.change" (defArgs s_Shares_change) (defBody s_Shares_change) (defScope s_Shares_change) .none kV_Shares_change dc_Shares_change pm_Shares_change an_Shares_change cd_Shares_change ct_Shares_change), sl_Shares_change⟩)
    (c_Shares_change : PySem.W.codeIn K cd_Shares_change "Shares.change" = true)
    (k_Shares_change : PySem.W.keepIn K (.ref f_Shares_change) = true)
    (a_Shares_deal : PySem.W.findIn K (.ref C_Shares) "deal" = some (some (.ref f_Shares_deal)))
    (l_Shares_deal : K.lookup f_Shares_deal = some ⟨oc_Shares_deal, od_Shares_deal, .func (PySem.W.fnOf "deal" "Shares.deal" (defArgs s_Shares_deal) (defBody s_Shares_deal) (defScope s_Shares_deal) .none kV_Shares_deal dc_Shares_deal pm_Shares_deal an_Shares_deal cd_Shares_deal ct_Shares_deal), sl_Shares_deal⟩)
    (c_Shares_deal : PySem.W.codeIn K cd_Shares_deal "Shares.deal" = true)
    (k_Shares_deal : PySem.W.keepIn K (.ref f_Shares_deal) = true)
    (a_Shares_length : PySem.W.findIn K (.ref C_Shares) "length" = some (some (.ref f_Shares_length)))
    (l_Shares_length : K.lookup f_Shares_length = some ⟨oc_Shares_length, od_Shares_length, .func (PySem.W.fnOf "length" "Shares.length" (defArgs s_Shares_length) (defBody s_Shares_length) (defScope s_Shares_length) .none kV_Shares_length dc_Shares_length pm_Shares_length an_Shares_length cd_Shares_length ct_Shares_length), sl_Shares_length⟩)
    (c_Shares_length : PySem.W.codeIn K cd_Shares_length "Shares.length" = true)
    (k_Shares_length : PySem.W.keepIn K (.ref f_Shares_length) = true)
    (a_Shares_names : PySem.W.findIn K (.ref C_Shares) "names" = some (some (.ref f_Shares_names)))
    (l_Shares_names : K.lookup f_Shares_names = some ⟨oc_Shares_names, od_Shares_names, .func (PySem.W.fnOf "names" "Shares.names" (defArgs s_Shares_names) (defBody s_Shares_names) (defScope s_Shares_names) .none kV_Shares_names dc_Shares_names pm_Shares_names an_Shares_names cd_Shares_names ct_Shares_names), sl_Shares_names⟩)
    (c_Shares_names : PySem.W.codeIn K cd_Shares_names "Shares.names" = true)
    (k_Shares_names : PySem.W.keepIn K (.ref f_Shares_names) = true)
    (a_Shares_promise : PySem.W.findIn K (.ref C_Shares) "promise" = some (some (.ref f_Shares_promise)))
    (l_Shares_promise : K.lookup f_Shares_promise = some ⟨oc_Shares_promise, od_Shares_promise, .func (PySem.W.fnOf "promise" "Shares.promise" (defArgs s_Shares_promise) (defBody s_Shares_promise) (defScope s_Shares_promise) .none kV_Shares_promise dc_Shares_promise pm_Shares_promise an_Shares_promise cd_Shares_promise ct_Shares_promise), sl_Shares_promise⟩)
    (c_Shares_promise : PySem.W.codeIn K cd_Shares_promise "Shares.promise" = true)
    (k_Shares_promise : PySem.W.keepIn K (.ref f_Shares_promise) = true)
    (a_Shares_ceiling : PySem.W.findIn K (.ref C_Shares) "ceiling" = some (some (.ref f_Shares_ceiling)))
    (l_Shares_ceiling : K.lookup f_Shares_ceiling = some ⟨oc_Shares_ceiling, od_Shares_ceiling, .func (PySem.W.fnOf "ceiling" "Shares.ceiling" (defArgs s_Shares_ceiling) (defBody s_Shares_ceiling) (defScope s_Shares_ceiling) .none kV_Shares_ceiling dc_Shares_ceiling pm_Shares_ceiling an_Shares_ceiling cd_Shares_ceiling ct_Shares_ceiling), sl_Shares_ceiling⟩)
    (c_Shares_ceiling : PySem.W.codeIn K cd_Shares_ceiling "Shares.ceiling" = true)
    (k_Shares_ceiling : PySem.W.keepIn K (.ref f_Shares_ceiling) = true)
    (a_Shares_counting : PySem.W.findIn K (.ref C_Shares) "counting" = some (some (.ref f_Shares_counting)))
    (l_Shares_counting : K.lookup f_Shares_counting = some ⟨oc_Shares_counting, od_Shares_counting, .func (PySem.W.fnOf "counting" "Shares.counting" (defArgs s_Shares_counting) (defBody s_Shares_counting) (defScope s_Shares_counting) .none kV_Shares_counting dc_Shares_counting pm_Shares_counting an_Shares_counting cd_Shares_counting ct_Shares_counting), sl_Shares_counting⟩)
    (c_Shares_counting : PySem.W.codeIn K cd_Shares_counting "Shares.counting" = true)
    (k_Shares_counting : PySem.W.keepIn K (.ref f_Shares_counting) = true)
    (a_Shares_used : PySem.W.findIn K (.ref C_Shares) "used" = some (some (.ref f_Shares_used)))
    (l_Shares_used : K.lookup f_Shares_used = some ⟨oc_Shares_used, od_Shares_used, .func (PySem.W.fnOf "used" "Shares.used" (defArgs s_Shares_used) (defBody s_Shares_used) (defScope s_Shares_used) .none kV_Shares_used dc_Shares_used pm_Shares_used an_Shares_used cd_Shares_used ct_Shares_used), sl_Shares_used⟩)
    (c_Shares_used : PySem.W.codeIn K cd_Shares_used "Shares.used" = true)
    (k_Shares_used : PySem.W.keepIn K (.ref f_Shares_used) = true)
    (a_Shares_passed : PySem.W.findIn K (.ref C_Shares) "passed" = some (some (.ref f_Shares_passed)))
    (l_Shares_passed : K.lookup f_Shares_passed = some ⟨oc_Shares_passed, od_Shares_passed, .func (PySem.W.fnOf "passed" "Shares.passed" (defArgs s_Shares_passed) (defBody s_Shares_passed) (defScope s_Shares_passed) .none kV_Shares_passed dc_Shares_passed pm_Shares_passed an_Shares_passed cd_Shares_passed ct_Shares_passed), sl_Shares_passed⟩)
    (c_Shares_passed : PySem.W.codeIn K cd_Shares_passed "Shares.passed" = true)
    (k_Shares_passed : PySem.W.keepIn K (.ref f_Shares_passed) = true)
    (a_Shares_promised : PySem.W.findIn K (.ref C_Shares) "promised" = some (some (.ref f_Shares_promised)))
    (l_Shares_promised : K.lookup f_Shares_promised = some ⟨oc_Shares_promised, od_Shares_promised, .func (PySem.W.fnOf "promised" "Shares.promised" (defArgs s_Shares_promised) (defBody s_Shares_promised) (defScope s_Shares_promised) .none kV_Shares_promised dc_Shares_promised pm_Shares_promised an_Shares_promised cd_Shares_promised ct_Shares_promised), sl_Shares_promised⟩)
    (c_Shares_promised : PySem.W.codeIn K cd_Shares_promised "Shares.promised" = true)
    (k_Shares_promised : PySem.W.keepIn K (.ref f_Shares_promised) = true)
    (a_Shares_dealt : PySem.W.findIn K (.ref C_Shares) "dealt" = some (some (.ref f_Shares_dealt)))
    (l_Shares_dealt : K.lookup f_Shares_dealt = some ⟨oc_Shares_dealt, od_Shares_dealt, .func (PySem.W.fnOf "dealt" "Shares.dealt" (defArgs s_Shares_dealt) (defBody s_Shares_dealt) (defScope s_Shares_dealt) .none kV_Shares_dealt dc_Shares_dealt pm_Shares_dealt an_Shares_dealt cd_Shares_dealt ct_Shares_dealt), sl_Shares_dealt⟩)
    (c_Shares_dealt : PySem.W.codeIn K cd_Shares_dealt "Shares.dealt" = true)
    (k_Shares_dealt : PySem.W.keepIn K (.ref f_Shares_dealt) = true)
    (a_Shares_twin : PySem.W.findIn K (.ref C_Shares) "twin" = some (some (.ref f_Shares_twin)))
    (l_Shares_twin : K.lookup f_Shares_twin = some ⟨oc_Shares_twin, od_Shares_twin, .func (PySem.W.fnOf "twin" "Shares.twin" (defArgs s_Shares_twin) (defBody s_Shares_twin) (defScope s_Shares_twin) .none kV_Shares_twin dc_Shares_twin pm_Shares_twin an_Shares_twin cd_Shares_twin ct_Shares_twin), sl_Shares_twin⟩)
    (c_Shares_twin : PySem.W.codeIn K cd_Shares_twin "Shares.twin" = true)
    (k_Shares_twin : PySem.W.keepIn K (.ref f_Shares_twin) = true)
    (a_Shares_check_share : PySem.W.findIn K (.ref C_Shares) "_check_share" = some (some (.ref f_Shares_check_share)))
    (l_Shares_check_share : K.lookup f_Shares_check_share = some ⟨oc_Shares_check_share, od_Shares_check_share, .func (PySem.W.fnOf "_check_share" "Shares._check_share" (defArgs s_Shares_check_share) (defBody s_Shares_check_share) (defScope s_Shares_check_share) .none kV_Shares_check_share dc_Shares_check_share pm_Shares_check_share an_Shares_check_share cd_Shares_check_share ct_Shares_check_share), sl_Shares_check_share⟩)
    (c_Shares_check_share : PySem.W.codeIn K cd_Shares_check_share "Shares._check_share" = true)
    (k_Shares_check_share : PySem.W.keepIn K (.ref f_Shares_check_share) = true)
    (a_Shares_check_promised : PySem.W.findIn K (.ref C_Shares) "_check_promised" = some (some (.ref f_Shares_check_promised)))
    (l_Shares_check_promised : K.lookup f_Shares_check_promised = some ⟨oc_Shares_check_promised, od_Shares_check_promised, .func (PySem.W.fnOf "_check_promised" "Shares._check_promised" (defArgs s_Shares_check_promised) (defBody s_Shares_check_promised) (defScope s_Shares_check_promised) .none kV_Shares_check_promised dc_Shares_check_promised pm_Shares_check_promised an_Shares_check_promised cd_Shares_check_promised ct_Shares_check_promised), sl_Shares_check_promised⟩)
    (c_Shares_check_promised : PySem.W.codeIn K cd_Shares_check_promised "Shares._check_promised" = true)
    (k_Shares_check_promised : PySem.W.keepIn K (.ref f_Shares_check_promised) = true)
    (a_Shares_by_promise : PySem.W.findIn K (.ref C_Shares) "_by_promise" = some (some (.ref f_Shares_by_promise)))
    (l_Shares_by_promise : K.lookup f_Shares_by_promise = some ⟨oc_Shares_by_promise, od_Shares_by_promise, .func (PySem.W.fnOf "_by_promise" "Shares._by_promise" (defArgs s_Shares_by_promise) (defBody s_Shares_by_promise) (defScope s_Shares_by_promise) .none kV_Shares_by_promise dc_Shares_by_promise pm_Shares_by_promise an_Shares_by_promise cd_Shares_by_promise ct_Shares_by_promise), sl_Shares_by_promise⟩)
    (c_Shares_by_promise : PySem.W.codeIn K cd_Shares_by_promise "Shares._by_promise" = true)
    (k_Shares_by_promise : PySem.W.keepIn K (.ref f_Shares_by_promise) = true)
    (a_Shares_by_ceiling : PySem.W.findIn K (.ref C_Shares) "_by_ceiling" = some (some (.ref f_Shares_by_ceiling)))
    (l_Shares_by_ceiling : K.lookup f_Shares_by_ceiling = some ⟨oc_Shares_by_ceiling, od_Shares_by_ceiling, .func (PySem.W.fnOf "_by_ceiling" "Shares._by_ceiling" (defArgs s_Shares_by_ceiling) (defBody s_Shares_by_ceiling) (defScope s_Shares_by_ceiling) .none kV_Shares_by_ceiling dc_Shares_by_ceiling pm_Shares_by_ceiling an_Shares_by_ceiling cd_Shares_by_ceiling ct_Shares_by_ceiling), sl_Shares_by_ceiling⟩)
    (c_Shares_by_ceiling : PySem.W.codeIn K cd_Shares_by_ceiling "Shares._by_ceiling" = true)
    (k_Shares_by_ceiling : PySem.W.keepIn K (.ref f_Shares_by_ceiling) = true)
    (a_Shares_begin_stretch : PySem.W.findIn K (.ref C_Shares) "_begin_stretch" = some (some (.ref f_Shares_begin_stretch)))
    (l_Shares_begin_stretch : K.lookup f_Shares_begin_stretch = some ⟨oc_Shares_begin_stretch, od_Shares_begin_stretch, .func (PySem.W.fnOf "_begin_stretch" "Shares._begin_stretch" (defArgs s_Shares_begin_stretch) (defBody s_Shares_begin_stretch) (defScope s_Shares_begin_stretch) .none kV_Shares_begin_stretch dc_Shares_begin_stretch pm_Shares_begin_stretch an_Shares_begin_stretch cd_Shares_begin_stretch ct_Shares_begin_stretch), sl_Shares_begin_stretch⟩)
    (c_Shares_begin_stretch : PySem.W.codeIn K cd_Shares_begin_stretch "Shares._begin_stretch" = true)
    (k_Shares_begin_stretch : PySem.W.keepIn K (.ref f_Shares_begin_stretch) = true)
    (a_cell_L : PySem.W.nsIn K mainGlobals "_law_cell" = some (some (.ref f_cell_L)))
    (l_cell_L : K.lookup f_cell_L = some ⟨oc_cell_L, od_cell_L, .func (PySem.W.fnOf "_law_cell" "_law_cell" (defArgs s_cell_L) (defBody s_cell_L) (defScope s_cell_L) .none kV_cell_L dc_cell_L pm_cell_L an_cell_L cd_cell_L ct_cell_L), sl_cell_L⟩)
    (c_cell_L : PySem.W.codeIn K cd_cell_L "_law_cell" = true)
    (k_cell_L : PySem.W.keepIn K (.ref f_cell_L) = true)
    (a_box_L : PySem.W.nsIn K mainGlobals "_law_box" = some (some (.ref f_box_L)))
    (l_box_L : K.lookup f_box_L = some ⟨oc_box_L, od_box_L, .func (PySem.W.fnOf "_law_box" "_law_box" (defArgs s_box_L) (defBody s_box_L) (defScope s_box_L) .none kV_box_L dc_box_L pm_box_L an_box_L cd_box_L ct_box_L), sl_box_L⟩)
    (c_box_L : PySem.W.codeIn K cd_box_L "_law_box" = true)
    (k_box_L : PySem.W.keepIn K (.ref f_box_L) = true)
    (a_take_L : PySem.W.nsIn K mainGlobals "_law_take" = some (some (.ref f_take_L)))
    (l_take_L : K.lookup f_take_L = some ⟨oc_take_L, od_take_L, .func (PySem.W.fnOf "_law_take" "_law_take" (defArgs s_take_L) (defBody s_take_L) (defScope s_take_L) .none kV_take_L dc_take_L pm_take_L an_take_L cd_take_L ct_take_L), sl_take_L⟩)
    (c_take_L : PySem.W.codeIn K cd_take_L "_law_take" = true)
    (k_take_L : PySem.W.keepIn K (.ref f_take_L) = true)
    (a_names_L : PySem.W.nsIn K mainGlobals "_law_names" = some (some (.ref f_names_L)))
    (l_names_L : K.lookup f_names_L = some ⟨oc_names_L, od_names_L, .func (PySem.W.fnOf "_law_names" "_law_names" (defArgs s_names_L) (defBody s_names_L) (defScope s_names_L) .none kV_names_L dc_names_L pm_names_L an_names_L cd_names_L ct_names_L), sl_names_L⟩)
    (c_names_L : PySem.W.codeIn K cd_names_L "_law_names" = true)
    (k_names_L : PySem.W.keepIn K (.ref f_names_L) = true)
    (a_model_L : PySem.W.nsIn K mainGlobals "_law_model" = some (some (.ref f_model_L)))
    (l_model_L : K.lookup f_model_L = some ⟨oc_model_L, od_model_L, .func (PySem.W.fnOf "_law_model" "_law_model" (defArgs s_model_L) (defBody s_model_L) (defScope s_model_L) .none kV_model_L dc_model_L pm_model_L an_model_L cd_model_L ct_model_L), sl_model_L⟩)
    (c_model_L : PySem.W.codeIn K cd_model_L "_law_model" = true)
    (k_model_L : PySem.W.keepIn K (.ref f_model_L) = true)
    (a_together_L : PySem.W.nsIn K mainGlobals "_law_together" = some (some (.ref f_together_L)))
    (l_together_L : K.lookup f_together_L = some ⟨oc_together_L, od_together_L, .func (PySem.W.fnOf "_law_together" "_law_together" (defArgs s_together_L) (defBody s_together_L) (defScope s_together_L) .none kV_together_L dc_together_L pm_together_L an_together_L cd_together_L ct_together_L), sl_together_L⟩)
    (c_together_L : PySem.W.codeIn K cd_together_L "_law_together" = true)
    (k_together_L : PySem.W.keepIn K (.ref f_together_L) = true)
    (a_comes_L : PySem.W.nsIn K mainGlobals "_law_comes" = some (some (.ref f_comes_L)))
    (l_comes_L : K.lookup f_comes_L = some ⟨oc_comes_L, od_comes_L, .func (PySem.W.fnOf "_law_comes" "_law_comes" (defArgs s_comes_L) (defBody s_comes_L) (defScope s_comes_L) .none kV_comes_L dc_comes_L pm_comes_L an_comes_L cd_comes_L ct_comes_L), sl_comes_L⟩)
    (c_comes_L : PySem.W.codeIn K cd_comes_L "_law_comes" = true)
    (k_comes_L : PySem.W.keepIn K (.ref f_comes_L) = true)
    (a_changes_L : PySem.W.nsIn K mainGlobals "_law_changes" = some (some (.ref f_changes_L)))
    (l_changes_L : K.lookup f_changes_L = some ⟨oc_changes_L, od_changes_L, .func (PySem.W.fnOf "_law_changes" "_law_changes" (defArgs s_changes_L) (defBody s_changes_L) (defScope s_changes_L) .none kV_changes_L dc_changes_L pm_changes_L an_changes_L cd_changes_L ct_changes_L), sl_changes_L⟩)
    (c_changes_L : PySem.W.codeIn K cd_changes_L "_law_changes" = true)
    (k_changes_L : PySem.W.keepIn K (.ref f_changes_L) = true)
    (a_gets_L : PySem.W.nsIn K mainGlobals "_law_gets" = some (some (.ref f_gets_L)))
    (l_gets_L : K.lookup f_gets_L = some ⟨oc_gets_L, od_gets_L, .func (PySem.W.fnOf "_law_gets" "_law_gets" (defArgs s_gets_L) (defBody s_gets_L) (defScope s_gets_L) .none kV_gets_L dc_gets_L pm_gets_L an_gets_L cd_gets_L ct_gets_L), sl_gets_L⟩)
    (c_gets_L : PySem.W.codeIn K cd_gets_L "_law_gets" = true)
    (k_gets_L : PySem.W.keepIn K (.ref f_gets_L) = true)
    (a_deals_L : PySem.W.nsIn K mainGlobals "_law_deals" = some (some (.ref f_deals_L)))
    (l_deals_L : K.lookup f_deals_L = some ⟨oc_deals_L, od_deals_L, .func (PySem.W.fnOf "_law_deals" "_law_deals" (defArgs s_deals_L) (defBody s_deals_L) (defScope s_deals_L) .none kV_deals_L dc_deals_L pm_deals_L an_deals_L cd_deals_L ct_deals_L), sl_deals_L⟩)
    (c_deals_L : PySem.W.codeIn K cd_deals_L "_law_deals" = true)
    (k_deals_L : PySem.W.keepIn K (.ref f_deals_L) = true)
    (a_length_L : PySem.W.nsIn K mainGlobals "_law_length" = some (some (.ref f_length_L)))
    (l_length_L : K.lookup f_length_L = some ⟨oc_length_L, od_length_L, .func (PySem.W.fnOf "_law_length" "_law_length" (defArgs s_length_L) (defBody s_length_L) (defScope s_length_L) .none kV_length_L dc_length_L pm_length_L an_length_L cd_length_L ct_length_L), sl_length_L⟩)
    (c_length_L : PySem.W.codeIn K cd_length_L "_law_length" = true)
    (k_length_L : PySem.W.keepIn K (.ref f_length_L) = true)
    (a_share_L : PySem.W.nsIn K mainGlobals "_law_share" = some (some (.ref f_share_L)))
    (l_share_L : K.lookup f_share_L = some ⟨oc_share_L, od_share_L, .func (PySem.W.fnOf "_law_share" "_law_share" (defArgs s_share_L) (defBody s_share_L) (defScope s_share_L) .none kV_share_L dc_share_L pm_share_L an_share_L cd_share_L ct_share_L), sl_share_L⟩)
    (c_share_L : PySem.W.codeIn K cd_share_L "_law_share" = true)
    (k_share_L : PySem.W.keepIn K (.ref f_share_L) = true)
    (a_asked_L : PySem.W.nsIn K mainGlobals "_law_asked" = some (some (.ref f_asked_L)))
    (l_asked_L : K.lookup f_asked_L = some ⟨oc_asked_L, od_asked_L, .func (PySem.W.fnOf "_law_asked" "_law_asked" (defArgs s_asked_L) (defBody s_asked_L) (defScope s_asked_L) .none kV_asked_L dc_asked_L pm_asked_L an_asked_L cd_asked_L ct_asked_L), sl_asked_L⟩)
    (c_asked_L : PySem.W.codeIn K cd_asked_L "_law_asked" = true)
    (k_asked_L : PySem.W.keepIn K (.ref f_asked_L) = true)
    (a_stands_L : PySem.W.nsIn K mainGlobals "_law_stands" = some (some (.ref f_stands_L)))
    (l_stands_L : K.lookup f_stands_L = some ⟨oc_stands_L, od_stands_L, .func (PySem.W.fnOf "_law_stands" "_law_stands" (defArgs s_stands_L) (defBody s_stands_L) (defScope s_stands_L) .none kV_stands_L dc_stands_L pm_stands_L an_stands_L cd_stands_L ct_stands_L), sl_stands_L⟩)
    (c_stands_L : PySem.W.codeIn K cd_stands_L "_law_stands" = true)
    (k_stands_L : PySem.W.keepIn K (.ref f_stands_L) = true)
    (a_dealt_L : PySem.W.nsIn K mainGlobals "_law_dealt" = some (some (.ref f_dealt_L)))
    (l_dealt_L : K.lookup f_dealt_L = some ⟨oc_dealt_L, od_dealt_L, .func (PySem.W.fnOf "_law_dealt" "_law_dealt" (defArgs s_dealt_L) (defBody s_dealt_L) (defScope s_dealt_L) .none kV_dealt_L dc_dealt_L pm_dealt_L an_dealt_L cd_dealt_L ct_dealt_L), sl_dealt_L⟩)
    (c_dealt_L : PySem.W.codeIn K cd_dealt_L "_law_dealt" = true)
    (k_dealt_L : PySem.W.keepIn K (.ref f_dealt_L) = true)
    (a_done_L : PySem.W.nsIn K mainGlobals "_law_done" = some (some (.ref f_done_L)))
    (l_done_L : K.lookup f_done_L = some ⟨oc_done_L, od_done_L, .func (PySem.W.fnOf "_law_done" "_law_done" (defArgs s_done_L) (defBody s_done_L) (defScope s_done_L) .none kV_done_L dc_done_L pm_done_L an_done_L cd_done_L ct_done_L), sl_done_L⟩)
    (c_done_L : PySem.W.codeIn K cd_done_L "_law_done" = true)
    (k_done_L : PySem.W.keepIn K (.ref f_done_L) = true)
    (a_twin_L : PySem.W.nsIn K mainGlobals "_law_twin" = some (some (.ref f_twin_L)))
    (l_twin_L : K.lookup f_twin_L = some ⟨oc_twin_L, od_twin_L, .func (PySem.W.fnOf "_law_twin" "_law_twin" (defArgs s_twin_L) (defBody s_twin_L) (defScope s_twin_L) .none kV_twin_L dc_twin_L pm_twin_L an_twin_L cd_twin_L ct_twin_L), sl_twin_L⟩)
    (c_twin_L : PySem.W.codeIn K cd_twin_L "_law_twin" = true)
    (k_twin_L : PySem.W.keepIn K (.ref f_twin_L) = true)
    (a_law : PySem.W.nsIn K mainGlobals "law" = some (some (.ref f_law)))
    (l_law : K.lookup f_law = some ⟨oc_law, od_law, .func (PySem.W.fnOf "law" "law" (defArgs s_law) (defBody s_law) (defScope s_law) .none kV_law dc_law pm_law an_law cd_law ct_law), sl_law⟩)
    (c_law : PySem.W.codeIn K cd_law "law" = true)
    (k_law : PySem.W.keepIn K (.ref f_law) = true)
    (cMG : PySem.W.nsIn K mainGlobals "MOST_GUESTS" = some (some (.int 6 t_mg)))
    (cSH : PySem.W.nsIn K mainGlobals "SHORTEST" = some (some (.int 4 t_sh)))
    (cLO : PySem.W.nsIn K mainGlobals "LONGEST" = some (some (.int 60 t_lo)))
    (rd_GuestError : PySem.W.readsIn K C_GuestError (.type "type") = true)
    (ga_GuestError : PySem.W.specialIn K (.ref C_GuestError) "__getattribute__" = some (some (.builtin "type.__getattribute__")))
    (at_GuestError : PySem.W.findCls K (.ref C_GuestError) (.type "type") "__init__" = some (.val (.ref f_GuestError_init)))
    (v_ValueError : PySem.W.findCls K (.type "ValueError") (.type "type") "__init__" = some (.val (.builtin "ValueError.__init__")))
    (rd_Missing : PySem.W.readsIn K C_Missing (.type "type") = true)
    (ga_Missing : PySem.W.specialIn K (.ref C_Missing) "__getattribute__" = some (some (.builtin "type.__getattribute__")))
    (at_Missing : PySem.W.findCls K (.ref C_Missing) (.type "type") "__init__" = some (.val (.ref f_Missing_init)))
    (v_KeyError : PySem.W.findCls K (.type "KeyError") (.type "type") "__init__" = some (.val (.builtin "KeyError.__init__")))
    (rd_Barred : PySem.W.readsIn K C_Barred (.type "type") = true)
    (ga_Barred : PySem.W.specialIn K (.ref C_Barred) "__getattribute__" = some (some (.builtin "type.__getattribute__")))
    (at_Barred : PySem.W.findCls K (.ref C_Barred) (.type "type") "__init__" = some (.val (.ref f_Barred_init)))
    (v_LookupError : PySem.W.findCls K (.type "LookupError") (.type "type") "__init__" = some (.val (.builtin "LookupError.__init__")))
    (xL_M : K.lookup C_NoNumber = some (excClassObj nmM qM C_NoNumber NM bsM [.ref C_GuestError, .type "ValueError", .type "Exception", .type "BaseException", .type "object"] true snM subM abM colM ddM wM0 wM1 wM2 wM3 wM5 "ValueError.__new__"))
    (sa_M : PySem.W.findIn K (.ref C_NoNumber) "__setattr__" = some (some (.builtin "object.__setattr__")))
    (ex_M : PySem.W.subIn K (.ref C_NoNumber) (.type "BaseException") = some true)
    (ty_M : PySem.W.typeIn K (.ref C_NoNumber) = some (.type "type"))
    (kp_M : PySem.W.keepIn K (.ref C_NoNumber) = true)
    (tf_M : PySem.W.typeIn K (.ref f_NoNumber_init) = some (.type "function"))
    (nf_M : PySem.W.findIn K (.ref C_NoNumber) "found" = some none)
    (hg_M : PySem.W.findIn K (.ref C_NoNumber) "__getattribute__" = some (some (.builtin "BaseException.__getattribute__")))
    (hk_M : PySem.W.findIn K (.ref C_NoNumber) "__getattr__" = some none)
    (hd_M : PySem.W.hasDictIn K C_NoNumber = true)
    (ha_M : PySem.W.findIn K (.ref C_NoNumber) "__class__" = some (some (.builtin "object.__class__")))
    (hm_M : PySem.W.mroIn K C_NoNumber (.type "object") = some true)
    (xL_N : K.lookup C_NoName = some (excClassObj nmN qN C_NoName NN bsN [.ref C_GuestError, .type "ValueError", .type "Exception", .type "BaseException", .type "object"] true snN subN abN colN ddN wN0 wN1 wN2 wN3 wN5 "ValueError.__new__"))
    (sa_N : PySem.W.findIn K (.ref C_NoName) "__setattr__" = some (some (.builtin "object.__setattr__")))
    (ex_N : PySem.W.subIn K (.ref C_NoName) (.type "BaseException") = some true)
    (ty_N : PySem.W.typeIn K (.ref C_NoName) = some (.type "type"))
    (kp_N : PySem.W.keepIn K (.ref C_NoName) = true)
    (tf_N : PySem.W.typeIn K (.ref f_NoName_init) = some (.type "function"))
    (nf_N : PySem.W.findIn K (.ref C_NoName) "found" = some none)
    (hg_N : PySem.W.findIn K (.ref C_NoName) "__getattribute__" = some (some (.builtin "BaseException.__getattribute__")))
    (hk_N : PySem.W.findIn K (.ref C_NoName) "__getattr__" = some none)
    (hd_N : PySem.W.hasDictIn K C_NoName = true)
    (ha_N : PySem.W.findIn K (.ref C_NoName) "__class__" = some (some (.builtin "object.__class__")))
    (hm_N : PySem.W.mroIn K C_NoName (.type "object") = some true)
    (xL_D : K.lookup C_Doubled = some (excClassObj nmD qD C_Doubled ND bsD [.ref C_GuestError, .type "ValueError", .type "Exception", .type "BaseException", .type "object"] true snD subD abD colD ddD wD0 wD1 wD2 wD3 wD5 "ValueError.__new__"))
    (sa_D : PySem.W.findIn K (.ref C_Doubled) "__setattr__" = some (some (.builtin "object.__setattr__")))
    (ex_D : PySem.W.subIn K (.ref C_Doubled) (.type "BaseException") = some true)
    (ty_D : PySem.W.typeIn K (.ref C_Doubled) = some (.type "type"))
    (kp_D : PySem.W.keepIn K (.ref C_Doubled) = true)
    (tf_D : PySem.W.typeIn K (.ref f_Doubled_init) = some (.type "function"))
    (nf_D : PySem.W.findIn K (.ref C_Doubled) "found" = some none)
    (hg_D : PySem.W.findIn K (.ref C_Doubled) "__getattribute__" = some (some (.builtin "BaseException.__getattribute__")))
    (hk_D : PySem.W.findIn K (.ref C_Doubled) "__getattr__" = some none)
    (hd_D : PySem.W.hasDictIn K C_Doubled = true)
    (ha_D : PySem.W.findIn K (.ref C_Doubled) "__class__" = some (some (.builtin "object.__class__")))
    (hm_D : PySem.W.mroIn K C_Doubled (.type "object") = some true)
    (xL_T : K.lookup C_TooMuch = some (excClassObj nmT qT C_TooMuch NT bsT [.ref C_GuestError, .type "ValueError", .type "Exception", .type "BaseException", .type "object"] true snT subT abT colT ddT wT0 wT1 wT2 wT3 wT5 "ValueError.__new__"))
    (sa_T : PySem.W.findIn K (.ref C_TooMuch) "__setattr__" = some (some (.builtin "object.__setattr__")))
    (ex_T : PySem.W.subIn K (.ref C_TooMuch) (.type "BaseException") = some true)
    (ty_T : PySem.W.typeIn K (.ref C_TooMuch) = some (.type "type"))
    (kp_T : PySem.W.keepIn K (.ref C_TooMuch) = true)
    (tf_T : PySem.W.typeIn K (.ref f_TooMuch_init) = some (.type "function"))
    (nf_T : PySem.W.findIn K (.ref C_TooMuch) "many" = some none)
    (hg_T : PySem.W.findIn K (.ref C_TooMuch) "__getattribute__" = some (some (.builtin "BaseException.__getattribute__")))
    (hk_T : PySem.W.findIn K (.ref C_TooMuch) "__getattr__" = some none)
    (hd_T : PySem.W.hasDictIn K C_TooMuch = true)
    (ha_T : PySem.W.findIn K (.ref C_TooMuch) "__class__" = some (some (.builtin "object.__class__")))
    (hm_T : PySem.W.mroIn K C_TooMuch (.type "object") = some true)
    (xL_A : K.lookup C_NoGuest = some (excClassObj nmA qA C_NoGuest NA bsA [.ref C_Missing, .type "KeyError", .type "LookupError", .type "Exception", .type "BaseException", .type "object"] true snA subA abA colA ddA wA0 wA1 wA2 wA3 wA5 "LookupError.__new__"))
    (sa_A : PySem.W.findIn K (.ref C_NoGuest) "__setattr__" = some (some (.builtin "object.__setattr__")))
    (ex_A : PySem.W.subIn K (.ref C_NoGuest) (.type "BaseException") = some true)
    (ty_A : PySem.W.typeIn K (.ref C_NoGuest) = some (.type "type"))
    (kp_A : PySem.W.keepIn K (.ref C_NoGuest) = true)
    (tf_A : PySem.W.typeIn K (.ref f_NoGuest_init) = some (.type "function"))
    (nf_A : PySem.W.findIn K (.ref C_NoGuest) "found" = some none)
    (hg_A : PySem.W.findIn K (.ref C_NoGuest) "__getattribute__" = some (some (.builtin "BaseException.__getattribute__")))
    (hk_A : PySem.W.findIn K (.ref C_NoGuest) "__getattr__" = some none)
    (hd_A : PySem.W.hasDictIn K C_NoGuest = true)
    (ha_A : PySem.W.findIn K (.ref C_NoGuest) "__class__" = some (some (.builtin "object.__class__")))
    (hm_A : PySem.W.mroIn K C_NoGuest (.type "object") = some true)
    (xL_F : K.lookup C_Full = some (excClassObj nmF qF C_Full NF bsF [.ref C_Barred, .type "LookupError", .type "Exception", .type "BaseException", .type "object"] true snF subF abF colF ddF wF0 wF1 wF2 wF3 wF5 "LookupError.__new__"))
    (sa_F : PySem.W.findIn K (.ref C_Full) "__setattr__" = some (some (.builtin "object.__setattr__")))
    (ex_F : PySem.W.subIn K (.ref C_Full) (.type "BaseException") = some true)
    (ty_F : PySem.W.typeIn K (.ref C_Full) = some (.type "type"))
    (kp_F : PySem.W.keepIn K (.ref C_Full) = true)
    (tf_F : PySem.W.typeIn K (.ref f_Full_init) = some (.type "function"))
    (nf_F : PySem.W.findIn K (.ref C_Full) "many" = some none)
    (hg_F : PySem.W.findIn K (.ref C_Full) "__getattribute__" = some (some (.builtin "BaseException.__getattribute__")))
    (hk_F : PySem.W.findIn K (.ref C_Full) "__getattr__" = some none)
    (hd_F : PySem.W.hasDictIn K C_Full = true)
    (ha_F : PySem.W.findIn K (.ref C_Full) "__class__" = some (some (.builtin "object.__class__")))
    (hm_F : PySem.W.mroIn K C_Full (.type "object") = some true)
    (s_M_M : PySem.W.subIn K (.ref C_NoNumber) (.ref C_NoNumber) = some true)
    (s_N_M : PySem.W.subIn K (.ref C_NoName) (.ref C_NoNumber) = some false)
    (s_N_N : PySem.W.subIn K (.ref C_NoName) (.ref C_NoName) = some true)
    (s_D_M : PySem.W.subIn K (.ref C_Doubled) (.ref C_NoNumber) = some false)
    (s_D_N : PySem.W.subIn K (.ref C_Doubled) (.ref C_NoName) = some false)
    (s_D_D : PySem.W.subIn K (.ref C_Doubled) (.ref C_Doubled) = some true)
    (s_T_M : PySem.W.subIn K (.ref C_TooMuch) (.ref C_NoNumber) = some false)
    (s_T_N : PySem.W.subIn K (.ref C_TooMuch) (.ref C_NoName) = some false)
    (s_T_D : PySem.W.subIn K (.ref C_TooMuch) (.ref C_Doubled) = some false)
    (s_T_T : PySem.W.subIn K (.ref C_TooMuch) (.ref C_TooMuch) = some true)
    (s_A_M : PySem.W.subIn K (.ref C_NoGuest) (.ref C_NoNumber) = some false)
    (s_A_N : PySem.W.subIn K (.ref C_NoGuest) (.ref C_NoName) = some false)
    (s_A_D : PySem.W.subIn K (.ref C_NoGuest) (.ref C_Doubled) = some false)
    (s_A_T : PySem.W.subIn K (.ref C_NoGuest) (.ref C_TooMuch) = some false)
    (s_A_A : PySem.W.subIn K (.ref C_NoGuest) (.ref C_NoGuest) = some true)
    (s_F_M : PySem.W.subIn K (.ref C_Full) (.ref C_NoNumber) = some false)
    (s_F_N : PySem.W.subIn K (.ref C_Full) (.ref C_NoName) = some false)
    (s_F_D : PySem.W.subIn K (.ref C_Full) (.ref C_Doubled) = some false)
    (s_F_T : PySem.W.subIn K (.ref C_Full) (.ref C_TooMuch) = some false)
    (s_F_A : PySem.W.subIn K (.ref C_Full) (.ref C_NoGuest) = some false)
    (s_F_F : PySem.W.subIn K (.ref C_Full) (.ref C_Full) = some true)
    (hn : PySem.W.specialIn K (.builtin "object.__class__") "__get__" = some (some (.builtin "getset_descriptor.__get__")))
    (htk : PySem.W.takesIn K (.builtin "object.__class__") = some true)
    (pg_Shares : PySem.W.plainGet K C_Shares Str.empty = true)
    (hdd_Shares : PySem.W.hasDictIn K C_Shares = true)
    (po_Shares : PySem.W.plainOver K C_Shares = true)
    (saa_Shares : PySem.W.findIn K (.ref C_Shares) "__setattr__" = some (some (.builtin "object.__setattr__")))
    (mk_Shares : PySem.W.makesIn K C_Shares = true)
    (kc_Shares : PySem.W.keepIn K (.ref C_Shares) = true)
    (na_Shares_length : PySem.W.findIn K (.ref C_Shares) "_length" = some none)
    (na_Shares_told : PySem.W.findIn K (.ref C_Shares) "_told" = some none)
    (na_Shares_counts : PySem.W.findIn K (.ref C_Shares) "_counts" = some none)
    (na_Shares_used : PySem.W.findIn K (.ref C_Shares) "_used" = some none)
    (na_Shares_passed : PySem.W.findIn K (.ref C_Shares) "_passed" = some none)
    (na_Shares_dealt : PySem.W.findIn K (.ref C_Shares) "_dealt" = some none)
    (fn_Shares_init : PySem.W.isFn K (.ref f_Shares_init) = true)
    (fn_Shares_come : PySem.W.isFn K (.ref f_Shares_come) = true)
    (fn_Shares_go : PySem.W.isFn K (.ref f_Shares_go) = true)
    (fn_Shares_change : PySem.W.isFn K (.ref f_Shares_change) = true)
    (fn_Shares_deal : PySem.W.isFn K (.ref f_Shares_deal) = true)
    (fn_Shares_length : PySem.W.isFn K (.ref f_Shares_length) = true)
    (fn_Shares_names : PySem.W.isFn K (.ref f_Shares_names) = true)
    (fn_Shares_promise : PySem.W.isFn K (.ref f_Shares_promise) = true)
    (fn_Shares_ceiling : PySem.W.isFn K (.ref f_Shares_ceiling) = true)
    (fn_Shares_counting : PySem.W.isFn K (.ref f_Shares_counting) = true)
    (fn_Shares_used : PySem.W.isFn K (.ref f_Shares_used) = true)
    (fn_Shares_passed : PySem.W.isFn K (.ref f_Shares_passed) = true)
    (fn_Shares_dealt : PySem.W.isFn K (.ref f_Shares_dealt) = true)
    (fn_Shares_twin : PySem.W.isFn K (.ref f_Shares_twin) = true)
    (fn_Shares_promised : PySem.W.isFn K (.ref f_Shares_promised) = true)
    (fn_Shares_check_share : PySem.W.isFn K (.ref f_Shares_check_share) = true)
    (fn_Shares_check_promised : PySem.W.isFn K (.ref f_Shares_check_promised) = true)
    (fn_Shares_by_promise : PySem.W.isFn K (.ref f_Shares_by_promise) = true)
    (fn_Shares_by_ceiling : PySem.W.isFn K (.ref f_Shares_by_ceiling) = true)
    (fn_Shares_begin_stretch : PySem.W.isFn K (.ref f_Shares_begin_stretch) = true)
    (z_isinstance : PySem.W.nsIn K mainGlobals "isinstance" = some none)
    (z_int : PySem.W.nsIn K mainGlobals "int" = some none)
    (z_bool : PySem.W.nsIn K mainGlobals "bool" = some none)
    (z_str : PySem.W.nsIn K mainGlobals "str" = some none)
    (z_list : PySem.W.nsIn K mainGlobals "list" = some none)
    (z_tuple : PySem.W.nsIn K mainGlobals "tuple" = some none)
    (z_dict : PySem.W.nsIn K mainGlobals "dict" = some none)
    (z_len : PySem.W.nsIn K mainGlobals "len" = some none)
    (z_max : PySem.W.nsIn K mainGlobals "max" = some none)
    (z_min : PySem.W.nsIn K mainGlobals "min" = some none)
    (z_range : PySem.W.nsIn K mainGlobals "range" = some none)
    (z_all : PySem.W.nsIn K mainGlobals "all" = some none)
    (z_sum : PySem.W.nsIn K mainGlobals "sum" = some none)
    (z_repr : PySem.W.nsIn K mainGlobals "repr" = some none)
    (z_ValueError : PySem.W.nsIn K mainGlobals "ValueError" = some none)
    (z_LookupError : PySem.W.nsIn K mainGlobals "LookupError" = some none)
    (z_KeyError : PySem.W.nsIn K mainGlobals "KeyError" = some none) :
    ∃ fd : FuncData, (∀ (s : Shared) (v : Value), BindsTo s fd ⟨[v], []⟩ [("_law_script", v)]) ∧ ∀ base : Heap, K.In base → base.Ns mainGlobals mg → FnG l.prog w K mg base CX0 8 fa fd ["_law_script"] (spLaw K) := by
  have e := hfa.symm.trans (PySem.W.mg_of X G a_law)
  cases e
  have mo : ∀ {x : Str} {u : Value}, PySem.W.nsIn K mainGlobals x = some (some u) → mg x = some u := fun q => PySem.W.mg_of X G q
  have mz : ∀ {x : Str}, PySem.W.nsIn K mainGlobals x = some none → mg x = none := fun q => PySem.W.mg_none_of X G q
  have F_GuestError_init := fun_mk (st := s_GuestError_init) l_GuestError_init c_GuestError_init k_GuestError_init
  have b_GuestError_init := F_GuestError_init.binds (ps := ["self", "text"]) fun _ _ _ _ _ _ us hl => match us, hl with | [_, _], _ => rfl
  have F_Missing_init := fun_mk (st := s_Missing_init) l_Missing_init c_Missing_init k_Missing_init
  have b_Missing_init := F_Missing_init.binds (ps := ["self", "text"]) fun _ _ _ _ _ _ us hl => match us, hl with | [_, _], _ => rfl
  have F_Barred_init := fun_mk (st := s_Barred_init) l_Barred_init c_Barred_init k_Barred_init
  have b_Barred_init := F_Barred_init.binds (ps := ["self", "text"]) fun _ _ _ _ _ _ us hl => match us, hl with | [_, _], _ => rfl
  have F_NoNumber_init := fun_mk (st := s_NoNumber_init) l_NoNumber_init c_NoNumber_init k_NoNumber_init
  have b_NoNumber_init := F_NoNumber_init.binds (ps := ["self", "found"]) fun _ _ _ _ _ _ us hl => match us, hl with | [_, _], _ => rfl
  have F_NoName_init := fun_mk (st := s_NoName_init) l_NoName_init c_NoName_init k_NoName_init
  have b_NoName_init := F_NoName_init.binds (ps := ["self", "found"]) fun _ _ _ _ _ _ us hl => match us, hl with | [_, _], _ => rfl
  have F_Doubled_init := fun_mk (st := s_Doubled_init) l_Doubled_init c_Doubled_init k_Doubled_init
  have b_Doubled_init := F_Doubled_init.binds (ps := ["self", "found"]) fun _ _ _ _ _ _ us hl => match us, hl with | [_, _], _ => rfl
  have F_TooMuch_init := fun_mk (st := s_TooMuch_init) l_TooMuch_init c_TooMuch_init k_TooMuch_init
  have b_TooMuch_init := F_TooMuch_init.binds (ps := ["self", "many"]) fun _ _ _ _ _ _ us hl => match us, hl with | [_, _], _ => rfl
  have F_NoGuest_init := fun_mk (st := s_NoGuest_init) l_NoGuest_init c_NoGuest_init k_NoGuest_init
  have b_NoGuest_init := F_NoGuest_init.binds (ps := ["self", "found"]) fun _ _ _ _ _ _ us hl => match us, hl with | [_, _], _ => rfl
  have F_Full_init := fun_mk (st := s_Full_init) l_Full_init c_Full_init k_Full_init
  have b_Full_init := F_Full_init.binds (ps := ["self", "many"]) fun _ _ _ _ _ _ us hl => match us, hl with | [_, _], _ => rfl
  have F_is_whole := fun_mk (st := s_is_whole) l_is_whole c_is_whole k_is_whole
  have b_is_whole := F_is_whole.binds (ps := ["thing", "low", "high"]) fun _ _ _ _ _ _ us hl => match us, hl with | [_, _, _], _ => rfl
  have F_is_name := fun_mk (st := s_is_name) l_is_name c_is_name k_is_name
  have b_is_name := F_is_name.binds (ps := ["thing"]) fun _ _ _ _ _ _ us hl => match us, hl with | [_], _ => rfl
  have F_all_within := fun_mk (st := s_all_within) l_all_within c_all_within k_all_within
  have b_all_within := F_all_within.binds (ps := ["text", "first", "last"]) fun _ _ _ _ _ _ us hl => match us, hl with | [_, _, _], _ => rfl
  have F_check_number := fun_mk (st := s_check_number) l_check_number c_check_number k_check_number
  have b_check_number := F_check_number.binds (ps := ["thing", "low", "high"]) fun _ _ _ _ _ _ us hl => match us, hl with | [_, _, _], _ => rfl
  have F_check_name := fun_mk (st := s_check_name) l_check_name c_check_name k_check_name
  have b_check_name := F_check_name.binds (ps := ["thing"]) fun _ _ _ _ _ _ us hl => match us, hl with | [_], _ => rfl
  have F_check_guest := fun_mk (st := s_check_guest) l_check_guest c_check_guest k_check_guest
  have b_check_guest := F_check_guest.binds (ps := ["thing", "guests"]) fun _ _ _ _ _ _ us hl => match us, hl with | [_, _], _ => rfl
  have F_Shares_init := fun_mk (st := s_Shares_init) l_Shares_init c_Shares_init k_Shares_init
  have b_Shares_init := F_Shares_init.binds (ps := ["self", "length"]) fun _ _ _ _ _ _ us hl => match us, hl with | [_, _], _ => rfl
  have F_Shares_come := fun_mk (st := s_Shares_come) l_Shares_come c_Shares_come k_Shares_come
  have b_Shares_come := F_Shares_come.binds (ps := ["self", "name", "promise", "ceiling"]) fun _ _ _ _ _ _ us hl => match us, hl with | [_, _, _, _], _ => rfl
  have F_Shares_go := fun_mk (st := s_Shares_go) l_Shares_go c_Shares_go k_Shares_go
  have b_Shares_go := F_Shares_go.binds (ps := ["self", "name"]) fun _ _ _ _ _ _ us hl => match us, hl with | [_, _], _ => rfl
  have F_Shares_change := fun_mk (st := s_Shares_change) l_Shares_change c_Shares_change k_Shares_change
  have b_Shares_change := F_Shares_change.binds (ps := ["self", "name", "promise", "ceiling"]) fun _ _ _ _ _ _ us hl => match us, hl with | [_, _, _, _], _ => rfl
  have F_Shares_deal := fun_mk (st := s_Shares_deal) l_Shares_deal c_Shares_deal k_Shares_deal
  have b_Shares_deal := F_Shares_deal.binds (ps := ["self", "ready"]) fun _ _ _ _ _ _ us hl => match us, hl with | [_, _], _ => rfl
  have F_Shares_length := fun_mk (st := s_Shares_length) l_Shares_length c_Shares_length k_Shares_length
  have b_Shares_length := F_Shares_length.binds (ps := ["self"]) fun _ _ _ _ _ _ us hl => match us, hl with | [_], _ => rfl
  have F_Shares_names := fun_mk (st := s_Shares_names) l_Shares_names c_Shares_names k_Shares_names
  have b_Shares_names := F_Shares_names.binds (ps := ["self"]) fun _ _ _ _ _ _ us hl => match us, hl with | [_], _ => rfl
  have F_Shares_promise := fun_mk (st := s_Shares_promise) l_Shares_promise c_Shares_promise k_Shares_promise
  have b_Shares_promise := F_Shares_promise.binds (ps := ["self", "name"]) fun _ _ _ _ _ _ us hl => match us, hl with | [_, _], _ => rfl
  have F_Shares_ceiling := fun_mk (st := s_Shares_ceiling) l_Shares_ceiling c_Shares_ceiling k_Shares_ceiling
  have b_Shares_ceiling := F_Shares_ceiling.binds (ps := ["self", "name"]) fun _ _ _ _ _ _ us hl => match us, hl with | [_, _], _ => rfl
  have F_Shares_counting := fun_mk (st := s_Shares_counting) l_Shares_counting c_Shares_counting k_Shares_counting
  have b_Shares_counting := F_Shares_counting.binds (ps := ["self", "name"]) fun _ _ _ _ _ _ us hl => match us, hl with | [_, _], _ => rfl
  have F_Shares_used := fun_mk (st := s_Shares_used) l_Shares_used c_Shares_used k_Shares_used
  have b_Shares_used := F_Shares_used.binds (ps := ["self", "name"]) fun _ _ _ _ _ _ us hl => match us, hl with | [_, _], _ => rfl
  have F_Shares_passed := fun_mk (st := s_Shares_passed) l_Shares_passed c_Shares_passed k_Shares_passed
  have b_Shares_passed := F_Shares_passed.binds (ps := ["self"]) fun _ _ _ _ _ _ us hl => match us, hl with | [_], _ => rfl
  have F_Shares_promised := fun_mk (st := s_Shares_promised) l_Shares_promised c_Shares_promised k_Shares_promised
  have b_Shares_promised := F_Shares_promised.binds (ps := ["self"]) fun _ _ _ _ _ _ us hl => match us, hl with | [_], _ => rfl
  have F_Shares_dealt := fun_mk (st := s_Shares_dealt) l_Shares_dealt c_Shares_dealt k_Shares_dealt
  have b_Shares_dealt := F_Shares_dealt.binds (ps := ["self"]) fun _ _ _ _ _ _ us hl => match us, hl with | [_], _ => rfl
  have F_Shares_twin := fun_mk (st := s_Shares_twin) l_Shares_twin c_Shares_twin k_Shares_twin
  have b_Shares_twin := F_Shares_twin.binds (ps := ["self"]) fun _ _ _ _ _ _ us hl => match us, hl with | [_], _ => rfl
  have F_Shares_check_share := fun_mk (st := s_Shares_check_share) l_Shares_check_share c_Shares_check_share k_Shares_check_share
  have b_Shares_check_share := F_Shares_check_share.binds (ps := ["self", "promise", "ceiling"]) fun _ _ _ _ _ _ us hl => match us, hl with | [_, _, _], _ => rfl
  have F_Shares_check_promised := fun_mk (st := s_Shares_check_promised) l_Shares_check_promised c_Shares_check_promised k_Shares_check_promised
  have b_Shares_check_promised := F_Shares_check_promised.binds (ps := ["self", "many"]) fun _ _ _ _ _ _ us hl => match us, hl with | [_, _], _ => rfl
  have F_Shares_by_promise := fun_mk (st := s_Shares_by_promise) l_Shares_by_promise c_Shares_by_promise k_Shares_by_promise
  have b_Shares_by_promise := F_Shares_by_promise.binds (ps := ["self", "among"]) fun _ _ _ _ _ _ us hl => match us, hl with | [_, _], _ => rfl
  have F_Shares_by_ceiling := fun_mk (st := s_Shares_by_ceiling) l_Shares_by_ceiling c_Shares_by_ceiling k_Shares_by_ceiling
  have b_Shares_by_ceiling := F_Shares_by_ceiling.binds (ps := ["self", "among"]) fun _ _ _ _ _ _ us hl => match us, hl with | [_, _], _ => rfl
  have F_Shares_begin_stretch := fun_mk (st := s_Shares_begin_stretch) l_Shares_begin_stretch c_Shares_begin_stretch k_Shares_begin_stretch
  have b_Shares_begin_stretch := F_Shares_begin_stretch.binds (ps := ["self"]) fun _ _ _ _ _ _ us hl => match us, hl with | [_], _ => rfl
  have F_cell_L := fun_mk (st := s_cell_L) l_cell_L c_cell_L k_cell_L
  have b_cell_L := F_cell_L.binds (ps := ["_law_script", "_law_k"]) fun _ _ _ _ _ _ us hl => match us, hl with | [_, _], _ => rfl
  have F_box_L := fun_mk (st := s_box_L) l_box_L c_box_L k_box_L
  have b_box_L := F_box_L.binds (ps := ["_law_cell_here"]) fun _ _ _ _ _ _ us hl => match us, hl with | [_], _ => rfl
  have F_take_L := fun_mk (st := s_take_L) l_take_L c_take_L k_take_L
  have b_take_L := F_take_L.binds (ps := ["_law_box_here", "_law_size"]) fun _ _ _ _ _ _ us hl => match us, hl with | [_, _], _ => rfl
  have F_names_L := fun_mk (st := s_names_L) l_names_L c_names_L k_names_L
  have b_names_L := F_names_L.binds (ps := ["_law_box_here", "_law_size"]) fun _ _ _ _ _ _ us hl => match us, hl with | [_, _], _ => rfl
  have F_model_L := fun_mk (st := s_model_L) l_model_L c_model_L k_model_L
  have b_model_L := F_model_L.binds (ps := ["_law_stretch"]) fun _ _ _ _ _ _ us hl => match us, hl with | [_], _ => rfl
  have F_together_L := fun_mk (st := s_together_L) l_together_L c_together_L k_together_L
  have b_together_L := F_together_L.binds (ps := ["_law_model_here", "_law_but"]) fun _ _ _ _ _ _ us hl => match us, hl with | [_, _], _ => rfl
  have F_comes_L := fun_mk (st := s_comes_L) l_comes_L c_comes_L k_comes_L
  have b_comes_L := F_comes_L.binds (ps := ["_law_model_here", "_law_label", "_law_pledge", "_law_cap"]) fun _ _ _ _ _ _ us hl => match us, hl with | [_, _, _, _], _ => rfl
  have F_changes_L := fun_mk (st := s_changes_L) l_changes_L c_changes_L k_changes_L
  have b_changes_L := F_changes_L.binds (ps := ["_law_model_here", "_law_label", "_law_pledge", "_law_cap"]) fun _ _ _ _ _ _ us hl => match us, hl with | [_, _, _, _], _ => rfl
  have F_gets_L := fun_mk (st := s_gets_L) l_gets_L c_gets_L k_gets_L
  have b_gets_L := F_gets_L.binds (ps := ["_law_model_here", "_law_those"]) fun _ _ _ _ _ _ us hl => match us, hl with | [_, _], _ => rfl
  have F_deals_L := fun_mk (st := s_deals_L) l_deals_L c_deals_L k_deals_L
  have b_deals_L := F_deals_L.binds (ps := ["_law_model_here", "_law_those"]) fun _ _ _ _ _ _ us hl => match us, hl with | [_, _], _ => rfl
  have F_length_L := fun_mk (st := s_length_L) l_length_L c_length_L k_length_L
  have b_length_L := F_length_L.binds (ps := ["_law_box_here"]) fun _ _ _ _ _ _ us hl => match us, hl with | [_], _ => rfl
  have F_share_L := fun_mk (st := s_share_L) l_share_L c_share_L k_share_L
  have b_share_L := F_share_L.binds (ps := ["_law_box_here", "_law_stretch", "_law_free"]) fun _ _ _ _ _ _ us hl => match us, hl with | [_, _, _], _ => rfl
  have F_asked_L := fun_mk (st := s_asked_L) l_asked_L c_asked_L k_asked_L
  have b_asked_L := F_asked_L.binds (ps := ["_law_shares", "_law_model_here", "_law_way"]) fun _ _ _ _ _ _ us hl => match us, hl with | [_, _, _], _ => rfl
  have F_stands_L := fun_mk (st := s_stands_L) l_stands_L c_stands_L k_stands_L
  have b_stands_L := F_stands_L.binds (ps := ["_law_shares", "_law_model_here", "_law_ask"]) fun _ _ _ _ _ _ us hl => match us, hl with | [_, _, _], _ => rfl
  have F_dealt_L := fun_mk (st := s_dealt_L) l_dealt_L c_dealt_L k_dealt_L
  have b_dealt_L := F_dealt_L.binds (ps := ["_law_box_here", "_law_shares", "_law_model_here", "_law_names_here"]) fun _ _ _ _ _ _ us hl => match us, hl with | [_, _, _, _], _ => rfl
  have F_done_L := fun_mk (st := s_done_L) l_done_L c_done_L k_done_L
  have b_done_L := F_done_L.binds (ps := ["_law_box_here", "_law_shares", "_law_model_here", "_law_names_here"]) fun _ _ _ _ _ _ us hl => match us, hl with | [_, _, _, _], _ => rfl
  have F_twin_L := fun_mk (st := s_twin_L) l_twin_L c_twin_L k_twin_L
  have b_twin_L := F_twin_L.binds (ps := ["_law_model_here"]) fun _ _ _ _ _ _ us hl => match us, hl with | [_], _ => rfl
  have F_law := fun_mk (st := s_law) l_law c_law k_law
  have oex : ∀ {b : Bs} {C : Addr} {nm q : Str} {N : Addr} {bs bm : List Value} {sn : List Str} {sub : List Value} {ab : Bool} {col : Option Bool} {dd : Option Addr} {k0 k1 k2 k3 k5 : Option Value}, K.lookup C = some (excClassObj nm q C N bs bm true sn sub ab col dd k0 k1 k2 k3 k5 b.new) → Tail b bm →
      PySem.W.findIn K (.ref C) "__setattr__" = some (some (.builtin "object.__setattr__")) → PySem.W.subIn K (.ref C) (.type "BaseException") = some true → PySem.W.typeIn K (.ref C) = some (.type "type") → PySem.W.keepIn K (.ref C) = true → OexT K b C :=
    fun l t a b c d => ⟨⟨_, _, _, _, _, _, _, _, _, _, _, _, _, _, _, l, t⟩, a, b, c, d⟩
  have T : Txt K mg { CG := C_GuestError, fG := f_GuestError_init, CK := C_Missing, fK := f_Missing_init, CB := C_Barred, fB := f_Barred_init, CM := C_NoNumber, fM := f_NoNumber_init, CN := C_NoName, fN := f_NoName_init, CD := C_Doubled, fD := f_Doubled_init, CT := C_TooMuch, fT := f_TooMuch_init, CA := C_NoGuest, fA := f_NoGuest_init, CF := C_Full, fF := f_Full_init, CS := C_Shares } :=
    { m_isinstance := mz z_isinstance, m_int := mz z_int, m_bool := mz z_bool, m_str := mz z_str, m_list := mz z_list, m_tuple := mz z_tuple, m_dict := mz z_dict, m_len := mz z_len, m_max := mz z_max, m_min := mz z_min, m_range := mz z_range, m_all := mz z_all, m_sum := mz z_sum, m_repr := mz z_repr, m_ValueError := mz z_ValueError, m_LookupError := mz z_LookupError, m_KeyError := mz z_KeyError,
      c_MOST_GUESTS := ⟨_, mo cMG, ⟨_, rfl⟩⟩, c_SHORTEST := ⟨_, mo cSH, ⟨_, rfl⟩⟩, c_LONGEST := ⟨_, mo cLO, ⟨_, rfl⟩⟩,
      g_GuestError := mo aC_GuestError, rd_GuestError := rd_GuestError, ga_GuestError := ga_GuestError, at_GuestError := at_GuestError, g_Missing := mo aC_Missing, rd_Missing := rd_Missing, ga_Missing := ga_Missing, at_Missing := at_Missing, g_Barred := mo aC_Barred, rd_Barred := rd_Barred, ga_Barred := ga_Barred, at_Barred := at_Barred, vV := v_ValueError, vL := v_LookupError, vK := v_KeyError,
      g_NoNumber := mo aC_NoNumber, g_NoName := mo aC_NoName, g_Doubled := mo aC_Doubled, g_TooMuch := mo aC_TooMuch, g_NoGuest := mo aC_NoGuest, g_Full := mo aC_Full, g_Shares := mo aC_Shares,
      xM := ⟨oex (b := .ve) xL_M (.own _ .here) sa_M ex_M ty_M kp_M, a_NoNumber_init, tf_M, nf_M, ⟨hg_M, hk_M, ex_M, hd_M⟩, ⟨hg_M, hk_M, ex_M, hd_M, ha_M, hn, htk, hm_M⟩⟩,
      xN := ⟨oex (b := .ve) xL_N (.own _ .here) sa_N ex_N ty_N kp_N, a_NoName_init, tf_N, nf_N, ⟨hg_N, hk_N, ex_N, hd_N⟩, ⟨hg_N, hk_N, ex_N, hd_N, ha_N, hn, htk, hm_N⟩⟩,
      xD := ⟨oex (b := .ve) xL_D (.own _ .here) sa_D ex_D ty_D kp_D, a_Doubled_init, tf_D, nf_D, ⟨hg_D, hk_D, ex_D, hd_D⟩, ⟨hg_D, hk_D, ex_D, hd_D, ha_D, hn, htk, hm_D⟩⟩,
      xT := ⟨oex (b := .ve) xL_T (.own _ .here) sa_T ex_T ty_T kp_T, a_TooMuch_init, tf_T, nf_T, ⟨hg_T, hk_T, ex_T, hd_T⟩, ⟨hg_T, hk_T, ex_T, hd_T, ha_T, hn, htk, hm_T⟩⟩,
      xA := ⟨oex (b := .ke) xL_A (.own _ .here) sa_A ex_A ty_A kp_A, a_NoGuest_init, tf_A, nf_A, ⟨hg_A, hk_A, ex_A, hd_A⟩, ⟨hg_A, hk_A, ex_A, hd_A, ha_A, hn, htk, hm_A⟩⟩,
      xF := ⟨oex (b := .le) xL_F (.own _ .here) sa_F ex_F ty_F kp_F, a_Full_init, tf_F, nf_F, ⟨hg_F, hk_F, ex_F, hd_F⟩, ⟨hg_F, hk_F, ex_F, hd_F, ha_F, hn, htk, hm_F⟩⟩,
      cl_Shares := ⟨pg_Shares, hdd_Shares, po_Shares, saa_Shares⟩, na_length := na_Shares_length, na_told := na_Shares_told, na_counts := na_Shares_counts, na_used := na_Shares_used, na_passed := na_Shares_passed, na_dealt := na_Shares_dealt }
  refine ⟨PySem.W.fnOf "law" "law" (defArgs s_law) (defBody s_law) (defScope s_law) .none kV_law dc_law pm_law an_law cd_law ct_law, fun s v => .of_eq rfl, fun base _ _ => ?_⟩
  have c_cell := CalD.mk' (P := l.prog) (w := w) (base := base) (mo a_cell_L) k_cell_L (ok_cell F_cell_L T) b_cell_L
  have c_box := CalD.mk' (P := l.prog) (w := w) (base := base) (mo a_box_L) k_box_L (ok_box F_box_L T) b_box_L
  have c_take := CalD.mk' (P := l.prog) (w := w) (base := base) (mo a_take_L) k_take_L (ok_take F_take_L T) b_take_L
  have o_GE : Own l.prog w K mg base CX0 1 f_GuestError_init _ ["self", "text"] (spGT K .ve) := ⟨ok_GE F_GuestError_init T, b_GuestError_init, k_GuestError_init⟩
  have o_KE : Own l.prog w K mg base CX0 1 f_Missing_init _ ["self", "text"] (spGT K .ke) := ⟨ok_KE F_Missing_init T, b_Missing_init, k_Missing_init⟩
  have o_BB : Own l.prog w K mg base CX0 1 f_Barred_init _ ["self", "text"] (spGT K .le) := ⟨ok_BB F_Barred_init T, b_Barred_init, k_Barred_init⟩
  have o_M : Own l.prog w K mg base CX0 2 f_NoNumber_init _ ["self", "found"] (spInitN "found" C_NoNumber) := ⟨ok_iM F_NoNumber_init T o_GE, b_NoNumber_init, k_NoNumber_init⟩
  have o_N : Own l.prog w K mg base CX0 2 f_NoName_init _ ["self", "found"] (spInitN "found" C_NoName) := ⟨ok_iN F_NoName_init T o_GE, b_NoName_init, k_NoName_init⟩
  have o_D : Own l.prog w K mg base CX0 2 f_Doubled_init _ ["self", "found"] (spInitN "found" C_Doubled) := ⟨ok_iD F_Doubled_init T o_GE, b_Doubled_init, k_Doubled_init⟩
  have o_T : Own l.prog w K mg base CX0 2 f_TooMuch_init _ ["self", "many"] (spInitN "many" C_TooMuch) := ⟨ok_iT F_TooMuch_init T o_GE, b_TooMuch_init, k_TooMuch_init⟩
  have o_A : Own l.prog w K mg base CX0 2 f_NoGuest_init _ ["self", "found"] (spInitN "found" C_NoGuest) := ⟨ok_iA F_NoGuest_init T o_KE, b_NoGuest_init, k_NoGuest_init⟩
  have o_F : Own l.prog w K mg base CX0 2 f_Full_init _ ["self", "many"] (spInitN "many" C_Full) := ⟨ok_iF F_Full_init T o_BB, b_Full_init, k_Full_init⟩
  have c_aw := CalD.mk' (P := l.prog) (w := w) (base := base) (mo a_all_within) k_all_within (ok_allW F_all_within T) b_all_within
  have c_nm := CalD.mk' (P := l.prog) (w := w) (base := base) (mo a_is_name) k_is_name (ok_name F_is_name T c_aw) b_is_name
  have c_wh := CalD.mk' (P := l.prog) (w := w) (base := base) (mo a_is_whole) k_is_whole (ok_whole F_is_whole T) b_is_whole
  have c_ckn := CalX.mk' (P := l.prog) (w := w) (base := base) (mo a_check_name) k_check_name (ok_ckn F_check_name T c_nm o_N) b_check_name
  have c_cnum := CalX.mk' (P := l.prog) (w := w) (base := base) (mo a_check_number) k_check_number (ok_cknum F_check_number T c_wh o_M) b_check_number
  have c_ckg := CalX.mk' (P := l.prog) (w := w) (base := base) (mo a_check_guest) k_check_guest (ok_ckg F_check_guest T c_nm o_A) b_check_guest
  have i_s : CalC l.prog w K mg base (L2.CX l.prog w) 5 C_Shares "Shares" (spInitS _) := ⟨_, _, _, ⟨mk_Shares, a_Shares_init, fn_Shares_init, kc_Shares⟩, ok_init F_Shares_init T c_cnum, b_Shares_init, mo aC_Shares⟩
  have m_len : CalM l.prog w K mg base CX0 1 C_Shares "length" (spLength _) := ⟨_, _, _, ⟨a_Shares_length, fn_Shares_length, k_Shares_length⟩, ok_length F_Shares_length T, b_Shares_length⟩
  have m_nam : CalM l.prog w K mg base CX0 1 C_Shares "names" (spNames _) := ⟨_, _, _, ⟨a_Shares_names, fn_Shares_names, k_Shares_names⟩, ok_names F_Shares_names T, b_Shares_names⟩
  have m_pas : CalM l.prog w K mg base CX0 1 C_Shares "passed" (spPassed _) := ⟨_, _, _, ⟨a_Shares_passed, fn_Shares_passed, k_Shares_passed⟩, ok_passed F_Shares_passed T, b_Shares_passed⟩
  have m_pr : CalM l.prog w K mg base (L2.CX l.prog w) 5 C_Shares "promise" (spPromise _) := ⟨_, _, _, ⟨a_Shares_promise, fn_Shares_promise, k_Shares_promise⟩, ok_promise F_Shares_promise T c_ckg, b_Shares_promise⟩
  have m_cei : CalM l.prog w K mg base (L2.CX l.prog w) 5 C_Shares "ceiling" (spCeil _) := ⟨_, _, _, ⟨a_Shares_ceiling, fn_Shares_ceiling, k_Shares_ceiling⟩, ok_ceiling F_Shares_ceiling T c_ckg, b_Shares_ceiling⟩
  have m_prd : CalM l.prog w K mg base CX0 1 C_Shares "promised" (spPromised _) := ⟨_, _, _, ⟨a_Shares_promised, fn_Shares_promised, k_Shares_promised⟩, ok_promised F_Shares_promised T, b_Shares_promised⟩
  have m_cks : CalM l.prog w K mg base (L2.CX l.prog w) 5 C_Shares "_check_share" (spCkShare _) := ⟨_, _, _, ⟨a_Shares_check_share, fn_Shares_check_share, k_Shares_check_share⟩, ok_ckshare F_Shares_check_share T c_cnum, b_Shares_check_share⟩
  have m_ckp : CalM l.prog w K mg base (L2.CX l.prog w) 4 C_Shares "_check_promised" (spCkPromised _) := ⟨_, _, _, ⟨a_Shares_check_promised, fn_Shares_check_promised, k_Shares_check_promised⟩, ok_ckpromised F_Shares_check_promised T o_T, b_Shares_check_promised⟩
  have m_come : CalM l.prog w K mg base (L2.CX l.prog w) 6 C_Shares "come" (spCome _) := ⟨_, _, _, ⟨a_Shares_come, fn_Shares_come, k_Shares_come⟩, ok_come F_Shares_come T c_ckn m_cks m_prd m_ckp o_D o_F, b_Shares_come⟩
  have m_go : CalM l.prog w K mg base (L2.CX l.prog w) 5 C_Shares "go" (spGo _) := ⟨_, _, _, ⟨a_Shares_go, fn_Shares_go, k_Shares_go⟩, ok_go F_Shares_go T c_ckg, b_Shares_go⟩
  have m_chg : CalM l.prog w K mg base (L2.CX l.prog w) 6 C_Shares "change" (spChange _) := ⟨_, _, _, ⟨a_Shares_change, fn_Shares_change, k_Shares_change⟩, ok_change F_Shares_change T c_ckg m_cks m_prd m_ckp m_pr, b_Shares_change⟩
  have m_byp : CalM l.prog w K mg base CX0 1 C_Shares "_by_promise" (spChoose _ okP ltP) := ⟨_, _, _, ⟨a_Shares_by_promise, fn_Shares_by_promise, k_Shares_by_promise⟩, ok_byp F_Shares_by_promise T, b_Shares_by_promise⟩
  have m_byc : CalM l.prog w K mg base CX0 1 C_Shares "_by_ceiling" (spChoose _ okC ltC) := ⟨_, _, _, ⟨a_Shares_by_ceiling, fn_Shares_by_ceiling, k_Shares_by_ceiling⟩, ok_byc F_Shares_by_ceiling T, b_Shares_by_ceiling⟩
  have m_beg : CalM l.prog w K mg base CX0 1 C_Shares "_begin_stretch" (spBegin _) := ⟨_, _, _, ⟨a_Shares_begin_stretch, fn_Shares_begin_stretch, k_Shares_begin_stretch⟩, ok_begin F_Shares_begin_stretch T, b_Shares_begin_stretch⟩
  have m_deal : CalM l.prog w K mg base (L2.CX l.prog w) 5 C_Shares "deal" (spDeal _) := ⟨_, _, _, ⟨a_Shares_deal, fn_Shares_deal, k_Shares_deal⟩, ok_deal F_Shares_deal T c_ckg m_byp m_byc m_beg o_A, b_Shares_deal⟩
  have c_share := CalD.mk' (P := l.prog) (w := w) (base := base) (mo a_share_L) k_share_L (ok_share F_share_L T c_take) b_share_L
  have c_length := CalD.mk' (P := l.prog) (w := w) (base := base) (mo a_length_L) k_length_L (ok_length_L F_length_L T c_take) b_length_L
  have c_names := CalD.mk' (P := l.prog) (w := w) (base := base) (mo a_names_L) k_names_L (ok_names_L F_names_L T c_take) b_names_L
  have m_dlt : CalM l.prog w K mg base CX0 1 C_Shares "dealt" (spDealt _) := ⟨_, _, _, ⟨a_Shares_dealt, fn_Shares_dealt, k_Shares_dealt⟩, ok_dealt F_Shares_dealt T, b_Shares_dealt⟩
  have m_twn : CalM l.prog w K mg base (L2.CX l.prog w) 7 C_Shares "twin" (spTwin _) := ⟨_, _, _, ⟨a_Shares_twin, fn_Shares_twin, k_Shares_twin⟩, ok_twinS F_Shares_twin T i_s, b_Shares_twin⟩
  have n_pr : CalMK l.prog w K mg base (L2.CX l.prog w) 5 0 ["name"] C_Shares "promise" (spPromise _) (fun vs zs => vs ++ zs) := ⟨_, _, _, _, ⟨a_Shares_promise, fn_Shares_promise, k_Shares_promise⟩, ok_promise F_Shares_promise T c_ckg, kbPlain F_Shares_promise 1 ["name"] (fun vs zs => vs ++ zs) (fun r1 r2 => r1.append r2) (fun _ _ _ _ _ _ us ws h1 h2 => match us, ws, h1, h2 with | [_], [_], _, _ => rfl)⟩
  have n_ce : CalMK l.prog w K mg base (L2.CX l.prog w) 5 0 ["name"] C_Shares "ceiling" (spCeil _) (fun vs zs => vs ++ zs) := ⟨_, _, _, _, ⟨a_Shares_ceiling, fn_Shares_ceiling, k_Shares_ceiling⟩, ok_ceiling F_Shares_ceiling T c_ckg, kbPlain F_Shares_ceiling 1 ["name"] (fun vs zs => vs ++ zs) (fun r1 r2 => r1.append r2) (fun _ _ _ _ _ _ us ws h1 h2 => match us, ws, h1, h2 with | [_], [_], _, _ => rfl)⟩
  have n_us : CalMK l.prog w K mg base (L2.CX l.prog w) 5 0 ["name"] C_Shares "used" (spUsed _) (fun vs zs => vs ++ zs) := ⟨_, _, _, _, ⟨a_Shares_used, fn_Shares_used, k_Shares_used⟩, ok_used F_Shares_used T c_ckg, kbPlain F_Shares_used 1 ["name"] (fun vs zs => vs ++ zs) (fun r1 r2 => r1.append r2) (fun _ _ _ _ _ _ us ws h1 h2 => match us, ws, h1, h2 with | [_], [_], _, _ => rfl)⟩
  have n_co : CalMK l.prog w K mg base (L2.CX l.prog w) 5 0 ["name"] C_Shares "counting" (spCounting _) (fun vs zs => vs ++ zs) := ⟨_, _, _, _, ⟨a_Shares_counting, fn_Shares_counting, k_Shares_counting⟩, ok_counting F_Shares_counting T c_ckg, kbPlain F_Shares_counting 1 ["name"] (fun vs zs => vs ++ zs) (fun r1 r2 => r1.append r2) (fun _ _ _ _ _ _ us ws h1 h2 => match us, ws, h1, h2 with | [_], [_], _, _ => rfl)⟩
  have n_go : CalMK l.prog w K mg base (L2.CX l.prog w) 5 0 ["name"] C_Shares "go" (spGo _) (fun vs zs => vs ++ zs) := ⟨_, _, _, _, ⟨a_Shares_go, fn_Shares_go, k_Shares_go⟩, ok_go F_Shares_go T c_ckg, kbPlain F_Shares_go 1 ["name"] (fun vs zs => vs ++ zs) (fun r1 r2 => r1.append r2) (fun _ _ _ _ _ _ us ws h1 h2 => match us, ws, h1, h2 with | [_], [_], _, _ => rfl)⟩
  have n_de : CalMK l.prog w K mg base (L2.CX l.prog w) 5 0 ["ready"] C_Shares "deal" (spDeal _) (fun vs zs => vs ++ zs) := ⟨_, _, _, _, ⟨a_Shares_deal, fn_Shares_deal, k_Shares_deal⟩, ok_deal F_Shares_deal T c_ckg m_byp m_byc m_beg o_A, kbPlain F_Shares_deal 1 ["ready"] (fun vs zs => vs ++ zs) (fun r1 r2 => r1.append r2) (fun _ _ _ _ _ _ us ws h1 h2 => match us, ws, h1, h2 with | [_], [_], _, _ => rfl)⟩
  have n_cm : CalMK l.prog w K mg base (L2.CX l.prog w) 6 0 ["ceiling", "name", "promise"] C_Shares "come" (spCome _) (rotV 1) := ⟨_, _, _, _, ⟨a_Shares_come, fn_Shares_come, k_Shares_come⟩, ok_come F_Shares_come T c_ckn m_cks m_prd m_ckp o_D o_F, kbPlain F_Shares_come 1 ["ceiling", "name", "promise"] (rotV 1) (fun r1 r2 => vals_rot r1 r2) (fun _ _ _ _ _ _ us ws h1 h2 => match us, ws, h1, h2 with | [_], [_, _, _], _, _ => rfl)⟩
  have n_ch : CalMK l.prog w K mg base (L2.CX l.prog w) 6 0 ["promise", "ceiling", "name"] C_Shares "change" (spChange _) (rotV 2) := ⟨_, _, _, _, ⟨a_Shares_change, fn_Shares_change, k_Shares_change⟩, ok_change F_Shares_change T c_ckg m_cks m_prd m_ckp m_pr, kbPlain F_Shares_change 1 ["promise", "ceiling", "name"] (rotV 2) (fun r1 r2 => vals_rot r1 r2) (fun _ _ _ _ _ _ us ws h1 h2 => match us, ws, h1, h2 with | [_], [_, _, _], _, _ => rfl)⟩
  have n_in : CalCK l.prog w K mg base (L2.CX l.prog w) 5 ["length"] C_Shares "Shares" (spInitS _) (fun vs zs => vs ++ zs) := ⟨_, _, _, _, ⟨mk_Shares, a_Shares_init, fn_Shares_init, kc_Shares⟩, ok_init F_Shares_init T c_cnum, kbPlain F_Shares_init 1 ["length"] (fun vs zs => vs ++ zs) (fun r1 r2 => r1.append r2) (fun _ _ _ _ _ _ us ws h1 h2 => match us, ws, h1, h2 with | [_], [_], _, _ => rfl), mo aC_Shares⟩
  have c_model := CalD.mk' (P := l.prog) (w := w) (base := base) (mo a_model_L) k_model_L (ok_model F_model_L T) b_model_L
  have c_tog := CalD.mk' (P := l.prog) (w := w) (base := base) (mo a_together_L) k_together_L (ok_together F_together_L T) b_together_L
  have c_coms := CalD.mk' (P := l.prog) (w := w) (base := base) (mo a_comes_L) k_comes_L (ok_comes F_comes_L T) b_comes_L
  have c_chgs := CalD.mk' (P := l.prog) (w := w) (base := base) (mo a_changes_L) k_changes_L (ok_changes F_changes_L T) b_changes_L
  have c_gets := CalD.mk' (P := l.prog) (w := w) (base := base) (mo a_gets_L) k_gets_L (ok_gets F_gets_L T) b_gets_L
  have c_deals := CalD.mk' (P := l.prog) (w := w) (base := base) (mo a_deals_L) k_deals_L (ok_deals F_deals_L T c_gets) b_deals_L
  have c_twl := CalD.mk' (P := l.prog) (w := w) (base := base) (mo a_twin_L) k_twin_L (ok_twinL F_twin_L T) b_twin_L
  have c_ask := CalG.mk' (P := l.prog) (w := w) (base := base) (mo a_asked_L) k_asked_L (ok_asked F_asked_L T c_tog m_nam m_len m_prd m_pas m_dlt n_pr n_ce n_co n_us) b_asked_L
  have c_sta := CalG.mk' (P := l.prog) (w := w) (base := base) (mo a_stands_L) k_stands_L (ok_stands F_stands_L T c_ask) b_stands_L
  have c_dlt := CalG.mk' (P := l.prog) (w := w) (base := base) (mo a_dealt_L) k_dealt_L (ok_dealtL F_dealt_L T c_take c_deals m_deal n_de) b_dealt_L
  have c_don := CalG.mk' (P := l.prog) (w := w) (base := base) (mo a_done_L) k_done_L (ok_done F_done_L T c_take c_share c_tog c_coms c_chgs c_dlt m_come m_chg n_cm n_go n_ch) b_done_L
  exact ok_law F_law T c_cell c_box c_take c_names c_length c_model i_s n_in m_twn c_twl c_don c_sta
end K25
open PySem PySem.W PyProof.Rows
set_option maxHeartbeats 0 in
theorem PySem.Challenge.cw_guestsalone_k25_whole_turns_dealt_holds : PySem.Challenge.rw_guestsalone_k25_whole_turns_dealt.Holds := by
  w_on; o_law; k_head; (case hw => w_witness2)
  k_fill
  refine Bk.walk_ofG (l := PySem.Challenge.rw_guestsalone_k25_whole_turns_dealt) (n := 63) (k := 8) (x := "_law_script") (sp := fun w => K25.spLaw _) rfl (by decide) rfl ⟨rfl, by decide, by decide⟩ (fun w h Y => PySem.W.kIn_of Y) ?F (fun _ _ a ns hl _ hS => ⟨a, ns, rfl, hS, hl, fun _ => rfl⟩)
  case F =>
    intro w mg fa h KX G hmg
    refine' K25.all_mk KX G hmg ?aC_GuestError ?aC_Missing ?aC_Barred ?aC_NoNumber ?aC_NoName ?aC_Doubled ?aC_TooMuch ?aC_NoGuest ?aC_Full ?aC_Shares ?a_GuestError_init ?l_GuestError_init ?c_GuestError_init ?k_GuestError_init ?a_Missing_init ?l_Missing_init ?c_Missing_init ?k_Missing_init ?a_Barred_init ?l_Barred_init ?c_Barred_init ?k_Barred_init ?a_NoNumber_init ?l_NoNumber_init ?c_NoNumber_init ?k_NoNumber_init ?a_NoName_init ?l_NoName_init ?c_NoName_init ?k_NoName_init ?a_Doubled_init ?l_Doubled_init ?c_Doubled_init ?k_Doubled_init ?a_TooMuch_init ?l_TooMuch_init ?c_TooMuch_init ?k_TooMuch_init ?a_NoGuest_init ?l_NoGuest_init ?c_NoGuest_init ?k_NoGuest_init ?a_Full_init ?l_Full_init ?c_Full_init ?k_Full_init ?a_is_whole ?l_is_whole ?c_is_whole ?k_is_whole ?a_is_name ?l_is_name ?c_is_name ?k_is_name ?a_all_within ?l_all_within ?c_all_within ?k_all_within ?a_check_number ?l_check_number ?c_check_number ?k_check_number ?a_check_name ?l_check_name ?c_check_name ?k_check_name ?a_check_guest ?l_check_guest ?c_check_guest ?k_check_guest ?a_Shares_init ?l_Shares_init ?c_Shares_init ?k_Shares_init ?a_Shares_come ?l_Shares_come ?c_Shares_come ?k_Shares_come ?a_Shares_go ?l_Shares_go ?c_Shares_go ?k_Shares_go ?a_Shares_change ?l_Shares_change ?c_Shares_change ?k_Shares_change ?a_Shares_deal ?l_Shares_deal ?c_Shares_deal ?k_Shares_deal ?a_Shares_length ?l_Shares_length ?c_Shares_length ?k_Shares_length ?a_Shares_names ?l_Shares_names ?c_Shares_names ?k_Shares_names ?a_Shares_promise ?l_Shares_promise ?c_Shares_promise ?k_Shares_promise ?a_Shares_ceiling ?l_Shares_ceiling ?c_Shares_ceiling ?k_Shares_ceiling ?a_Shares_counting ?l_Shares_counting ?c_Shares_counting ?k_Shares_counting ?a_Shares_used ?l_Shares_used ?c_Shares_used ?k_Shares_used ?a_Shares_passed ?l_Shares_passed ?c_Shares_passed ?k_Shares_passed ?a_Shares_promised ?l_Shares_promised ?c_Shares_promised ?k_Shares_promised ?a_Shares_dealt ?l_Shares_dealt ?c_Shares_dealt ?k_Shares_dealt ?a_Shares_twin ?l_Shares_twin ?c_Shares_twin ?k_Shares_twin ?a_Shares_check_share ?l_Shares_check_share ?c_Shares_check_share ?k_Shares_check_share ?a_Shares_check_promised ?l_Shares_check_promised ?c_Shares_check_promised ?k_Shares_check_promised ?a_Shares_by_promise ?l_Shares_by_promise ?c_Shares_by_promise ?k_Shares_by_promise ?a_Shares_by_ceiling ?l_Shares_by_ceiling ?c_Shares_by_ceiling ?k_Shares_by_ceiling ?a_Shares_begin_stretch ?l_Shares_begin_stretch ?c_Shares_begin_stretch ?k_Shares_begin_stretch ?a_cell_L ?l_cell_L ?c_cell_L ?k_cell_L ?a_box_L ?l_box_L ?c_box_L ?k_box_L ?a_take_L ?l_take_L ?c_take_L ?k_take_L ?a_names_L ?l_names_L ?c_names_L ?k_names_L ?a_model_L ?l_model_L ?c_model_L ?k_model_L ?a_together_L ?l_together_L ?c_together_L ?k_together_L ?a_comes_L ?l_comes_L ?c_comes_L ?k_comes_L ?a_changes_L ?l_changes_L ?c_changes_L ?k_changes_L ?a_gets_L ?l_gets_L ?c_gets_L ?k_gets_L ?a_deals_L ?l_deals_L ?c_deals_L ?k_deals_L ?a_length_L ?l_length_L ?c_length_L ?k_length_L ?a_share_L ?l_share_L ?c_share_L ?k_share_L ?a_asked_L ?l_asked_L ?c_asked_L ?k_asked_L ?a_stands_L ?l_stands_L ?c_stands_L ?k_stands_L ?a_dealt_L ?l_dealt_L ?c_dealt_L ?k_dealt_L ?a_done_L ?l_done_L ?c_done_L ?k_done_L ?a_twin_L ?l_twin_L ?c_twin_L ?k_twin_L ?a_law ?l_law ?c_law ?k_law ?cMG ?cSH ?cLO ?rd_GuestError ?ga_GuestError ?at_GuestError ?v_ValueError ?rd_Missing ?ga_Missing ?at_Missing ?v_KeyError ?rd_Barred ?ga_Barred ?at_Barred ?v_LookupError ?xL_M ?sa_M ?ex_M ?ty_M ?kp_M ?tf_M ?nf_M ?hg_M ?hk_M ?hd_M ?ha_M ?hm_M ?xL_N ?sa_N ?ex_N ?ty_N ?kp_N ?tf_N ?nf_N ?hg_N ?hk_N ?hd_N ?ha_N ?hm_N ?xL_D ?sa_D ?ex_D ?ty_D ?kp_D ?tf_D ?nf_D ?hg_D ?hk_D ?hd_D ?ha_D ?hm_D ?xL_T ?sa_T ?ex_T ?ty_T ?kp_T ?tf_T ?nf_T ?hg_T ?hk_T ?hd_T ?ha_T ?hm_T ?xL_A ?sa_A ?ex_A ?ty_A ?kp_A ?tf_A ?nf_A ?hg_A ?hk_A ?hd_A ?ha_A ?hm_A ?xL_F ?sa_F ?ex_F ?ty_F ?kp_F ?tf_F ?nf_F ?hg_F ?hk_F ?hd_F ?ha_F ?hm_F ?s_M_M ?s_N_M ?s_N_N ?s_D_M ?s_D_N ?s_D_D ?s_T_M ?s_T_N ?s_T_D ?s_T_T ?s_A_M ?s_A_N ?s_A_D ?s_A_T ?s_A_A ?s_F_M ?s_F_N ?s_F_D ?s_F_T ?s_F_A ?s_F_F ?hn ?htk ?pg_Shares ?hdd_Shares ?po_Shares ?saa_Shares ?mk_Shares ?kc_Shares ?na_Shares_length ?na_Shares_told ?na_Shares_counts ?na_Shares_used ?na_Shares_passed ?na_Shares_dealt ?fn_Shares_init ?fn_Shares_come ?fn_Shares_go ?fn_Shares_change ?fn_Shares_deal ?fn_Shares_length ?fn_Shares_names ?fn_Shares_promise ?fn_Shares_ceiling ?fn_Shares_counting ?fn_Shares_used ?fn_Shares_passed ?fn_Shares_dealt ?fn_Shares_twin ?fn_Shares_promised ?fn_Shares_check_share ?fn_Shares_check_promised ?fn_Shares_by_promise ?fn_Shares_by_ceiling ?fn_Shares_begin_stretch ?z_isinstance ?z_int ?z_bool ?z_str ?z_list ?z_tuple ?z_dict ?z_len ?z_max ?z_min ?z_range ?z_all ?z_sum ?z_repr ?z_ValueError ?z_LookupError ?z_KeyError
    (case aC_GuestError => k_is)
    (case aC_Missing => k_is)
    (case aC_Barred => k_is)
    (case aC_NoNumber => k_is)
    (case aC_NoName => k_is)
    (case aC_Doubled => k_is)
    (case aC_TooMuch => k_is)
    (case aC_NoGuest => k_is)
    (case aC_Full => k_is)
    (case aC_Shares => k_is)
    (case a_GuestError_init => k_is)
    (case l_GuestError_init => k_is)
    (case c_GuestError_init => k_is)
    (case k_GuestError_init => k_is)
    (case a_Missing_init => k_is)
    (case l_Missing_init => k_is)
    (case c_Missing_init => k_is)
    (case k_Missing_init => k_is)
    (case a_Barred_init => k_is)
    (case l_Barred_init => k_is)
    (case c_Barred_init => k_is)
    (case k_Barred_init => k_is)
    (case a_NoNumber_init => k_is)
    (case l_NoNumber_init => k_is)
    (case c_NoNumber_init => k_is)
    (case k_NoNumber_init => k_is)
    (case a_NoName_init => k_is)
    (case l_NoName_init => k_is)
    (case c_NoName_init => k_is)
    (case k_NoName_init => k_is)
    (case a_Doubled_init => k_is)
    (case l_Doubled_init => k_is)
    (case c_Doubled_init => k_is)
    (case k_Doubled_init => k_is)
    (case a_TooMuch_init => k_is)
    (case l_TooMuch_init => k_is)
    (case c_TooMuch_init => k_is)
    (case k_TooMuch_init => k_is)
    (case a_NoGuest_init => k_is)
    (case l_NoGuest_init => k_is)
    (case c_NoGuest_init => k_is)
    (case k_NoGuest_init => k_is)
    (case a_Full_init => k_is)
    (case l_Full_init => k_is)
    (case c_Full_init => k_is)
    (case k_Full_init => k_is)
    (case a_is_whole => k_is)
    (case l_is_whole => k_is)
    (case c_is_whole => k_is)
    (case k_is_whole => k_is)
    (case a_is_name => k_is)
    (case l_is_name => k_is)
    (case c_is_name => k_is)
    (case k_is_name => k_is)
    (case a_all_within => k_is)
    (case l_all_within => k_is)
    (case c_all_within => k_is)
    (case k_all_within => k_is)
    (case a_check_number => k_is)
    (case l_check_number => k_is)
    (case c_check_number => k_is)
    (case k_check_number => k_is)
    (case a_check_name => k_is)
    (case l_check_name => k_is)
    (case c_check_name => k_is)
    (case k_check_name => k_is)
    (case a_check_guest => k_is)
    (case l_check_guest => k_is)
    (case c_check_guest => k_is)
    (case k_check_guest => k_is)
    (case a_Shares_init => k_is)
    (case l_Shares_init => k_is)
    (case c_Shares_init => k_is)
    (case k_Shares_init => k_is)
    (case a_Shares_come => k_is)
    (case l_Shares_come => k_is)
    (case c_Shares_come => k_is)
    (case k_Shares_come => k_is)
    (case a_Shares_go => k_is)
    (case l_Shares_go => k_is)
    (case c_Shares_go => k_is)
    (case k_Shares_go => k_is)
    (case a_Shares_change => k_is)
    (case l_Shares_change => k_is)
    (case c_Shares_change => k_is)
    (case k_Shares_change => k_is)
    (case a_Shares_deal => k_is)
    (case l_Shares_deal => k_is)
    (case c_Shares_deal => k_is)
    (case k_Shares_deal => k_is)
    (case a_Shares_length => k_is)
    (case l_Shares_length => k_is)
    (case c_Shares_length => k_is)
    (case k_Shares_length => k_is)
    (case a_Shares_names => k_is)
    (case l_Shares_names => k_is)
    (case c_Shares_names => k_is)
    (case k_Shares_names => k_is)
    (case a_Shares_promise => k_is)
    (case l_Shares_promise => k_is)
    (case c_Shares_promise => k_is)
    (case k_Shares_promise => k_is)
    (case a_Shares_ceiling => k_is)
    (case l_Shares_ceiling => k_is)
    (case c_Shares_ceiling => k_is)
    (case k_Shares_ceiling => k_is)
    (case a_Shares_counting => k_is)
    (case l_Shares_counting => k_is)
    (case c_Shares_counting => k_is)
    (case k_Shares_counting => k_is)
    (case a_Shares_used => k_is)
    (case l_Shares_used => k_is)
    (case c_Shares_used => k_is)
    (case k_Shares_used => k_is)
    (case a_Shares_passed => k_is)
    (case l_Shares_passed => k_is)
    (case c_Shares_passed => k_is)
    (case k_Shares_passed => k_is)
    (case a_Shares_promised => k_is)
    (case l_Shares_promised => k_is)
    (case c_Shares_promised => k_is)
    (case k_Shares_promised => k_is)
    (case a_Shares_dealt => k_is)
    (case l_Shares_dealt => k_is)
    (case c_Shares_dealt => k_is)
    (case k_Shares_dealt => k_is)
    (case a_Shares_twin => k_is)
    (case l_Shares_twin => k_is)
    (case c_Shares_twin => k_is)
    (case k_Shares_twin => k_is)
    (case a_Shares_check_share => k_is)
    (case l_Shares_check_share => k_is)
    (case c_Shares_check_share => k_is)
    (case k_Shares_check_share => k_is)
    (case a_Shares_check_promised => k_is)
    (case l_Shares_check_promised => k_is)
    (case c_Shares_check_promised => k_is)
    (case k_Shares_check_promised => k_is)
    (case a_Shares_by_promise => k_is)
    (case l_Shares_by_promise => k_is)
    (case c_Shares_by_promise => k_is)
    (case k_Shares_by_promise => k_is)
    (case a_Shares_by_ceiling => k_is)
    (case l_Shares_by_ceiling => k_is)
    (case c_Shares_by_ceiling => k_is)
    (case k_Shares_by_ceiling => k_is)
    (case a_Shares_begin_stretch => k_is)
    (case l_Shares_begin_stretch => k_is)
    (case c_Shares_begin_stretch => k_is)
    (case k_Shares_begin_stretch => k_is)
    (case a_cell_L => k_is)
    (case l_cell_L => k_is)
    (case c_cell_L => k_is)
    (case k_cell_L => k_is)
    (case a_box_L => k_is)
    (case l_box_L => k_is)
    (case c_box_L => k_is)
    (case k_box_L => k_is)
    (case a_take_L => k_is)
    (case l_take_L => k_is)
    (case c_take_L => k_is)
    (case k_take_L => k_is)
    (case a_names_L => k_is)
    (case l_names_L => k_is)
    (case c_names_L => k_is)
    (case k_names_L => k_is)
    (case a_model_L => k_is)
    (case l_model_L => k_is)
    (case c_model_L => k_is)
    (case k_model_L => k_is)
    (case a_together_L => k_is)
    (case l_together_L => k_is)
    (case c_together_L => k_is)
    (case k_together_L => k_is)
    (case a_comes_L => k_is)
    (case l_comes_L => k_is)
    (case c_comes_L => k_is)
    (case k_comes_L => k_is)
    (case a_changes_L => k_is)
    (case l_changes_L => k_is)
    (case c_changes_L => k_is)
    (case k_changes_L => k_is)
    (case a_gets_L => k_is)
    (case l_gets_L => k_is)
    (case c_gets_L => k_is)
    (case k_gets_L => k_is)
    (case a_deals_L => k_is)
    (case l_deals_L => k_is)
    (case c_deals_L => k_is)
    (case k_deals_L => k_is)
    (case a_length_L => k_is)
    (case l_length_L => k_is)
    (case c_length_L => k_is)
    (case k_length_L => k_is)
    (case a_share_L => k_is)
    (case l_share_L => k_is)
    (case c_share_L => k_is)
    (case k_share_L => k_is)
    (case a_asked_L => k_is)
    (case l_asked_L => k_is)
    (case c_asked_L => k_is)
    (case k_asked_L => k_is)
    (case a_stands_L => k_is)
    (case l_stands_L => k_is)
    (case c_stands_L => k_is)
    (case k_stands_L => k_is)
    (case a_dealt_L => k_is)
    (case l_dealt_L => k_is)
    (case c_dealt_L => k_is)
    (case k_dealt_L => k_is)
    (case a_done_L => k_is)
    (case l_done_L => k_is)
    (case c_done_L => k_is)
    (case k_done_L => k_is)
    (case a_twin_L => k_is)
    (case l_twin_L => k_is)
    (case c_twin_L => k_is)
    (case k_twin_L => k_is)
    (case a_law => k_is)
    (case l_law => k_is)
    (case c_law => k_is)
    (case k_law => k_is)
    (case cMG => k_is)
    (case cSH => k_is)
    (case cLO => k_is)
    (case rd_GuestError => k_is)
    (case ga_GuestError => k_is)
    (case at_GuestError => k_is)
    (case v_ValueError => k_is)
    (case rd_Missing => k_is)
    (case ga_Missing => k_is)
    (case at_Missing => k_is)
    (case v_KeyError => k_is)
    (case rd_Barred => k_is)
    (case ga_Barred => k_is)
    (case at_Barred => k_is)
    (case v_LookupError => k_is)
    (case xL_M => k_is)
    (case sa_M => k_is)
    (case ex_M => k_is)
    (case ty_M => k_is)
    (case kp_M => k_is)
    (case tf_M => k_is)
    (case nf_M => k_is)
    (case hg_M => k_is)
    (case hk_M => k_is)
    (case hd_M => k_is)
    (case ha_M => k_is)
    (case hm_M => k_is)
    (case xL_N => k_is)
    (case sa_N => k_is)
    (case ex_N => k_is)
    (case ty_N => k_is)
    (case kp_N => k_is)
    (case tf_N => k_is)
    (case nf_N => k_is)
    (case hg_N => k_is)
    (case hk_N => k_is)
    (case hd_N => k_is)
    (case ha_N => k_is)
    (case hm_N => k_is)
    (case xL_D => k_is)
    (case sa_D => k_is)
    (case ex_D => k_is)
    (case ty_D => k_is)
    (case kp_D => k_is)
    (case tf_D => k_is)
    (case nf_D => k_is)
    (case hg_D => k_is)
    (case hk_D => k_is)
    (case hd_D => k_is)
    (case ha_D => k_is)
    (case hm_D => k_is)
    (case xL_T => k_is)
    (case sa_T => k_is)
    (case ex_T => k_is)
    (case ty_T => k_is)
    (case kp_T => k_is)
    (case tf_T => k_is)
    (case nf_T => k_is)
    (case hg_T => k_is)
    (case hk_T => k_is)
    (case hd_T => k_is)
    (case ha_T => k_is)
    (case hm_T => k_is)
    (case xL_A => k_is)
    (case sa_A => k_is)
    (case ex_A => k_is)
    (case ty_A => k_is)
    (case kp_A => k_is)
    (case tf_A => k_is)
    (case nf_A => k_is)
    (case hg_A => k_is)
    (case hk_A => k_is)
    (case hd_A => k_is)
    (case ha_A => k_is)
    (case hm_A => k_is)
    (case xL_F => k_is)
    (case sa_F => k_is)
    (case ex_F => k_is)
    (case ty_F => k_is)
    (case kp_F => k_is)
    (case tf_F => k_is)
    (case nf_F => k_is)
    (case hg_F => k_is)
    (case hk_F => k_is)
    (case hd_F => k_is)
    (case ha_F => k_is)
    (case hm_F => k_is)
    (case s_M_M => k_is)
    (case s_N_M => k_is)
    (case s_N_N => k_is)
    (case s_D_M => k_is)
    (case s_D_N => k_is)
    (case s_D_D => k_is)
    (case s_T_M => k_is)
    (case s_T_N => k_is)
    (case s_T_D => k_is)
    (case s_T_T => k_is)
    (case s_A_M => k_is)
    (case s_A_N => k_is)
    (case s_A_D => k_is)
    (case s_A_T => k_is)
    (case s_A_A => k_is)
    (case s_F_M => k_is)
    (case s_F_N => k_is)
    (case s_F_D => k_is)
    (case s_F_T => k_is)
    (case s_F_A => k_is)
    (case s_F_F => k_is)
    (case hn => k_is)
    (case htk => k_is)
    (case pg_Shares => k_is)
    (case hdd_Shares => k_is)
    (case po_Shares => k_is)
    (case saa_Shares => k_is)
    (case mk_Shares => k_is)
    (case kc_Shares => k_is)
    (case na_Shares_length => k_is)
    (case na_Shares_told => k_is)
    (case na_Shares_counts => k_is)
    (case na_Shares_used => k_is)
    (case na_Shares_passed => k_is)
    (case na_Shares_dealt => k_is)
    (case fn_Shares_init => k_is)
    (case fn_Shares_come => k_is)
    (case fn_Shares_go => k_is)
    (case fn_Shares_change => k_is)
    (case fn_Shares_deal => k_is)
    (case fn_Shares_length => k_is)
    (case fn_Shares_names => k_is)
    (case fn_Shares_promise => k_is)
    (case fn_Shares_ceiling => k_is)
    (case fn_Shares_counting => k_is)
    (case fn_Shares_used => k_is)
    (case fn_Shares_passed => k_is)
    (case fn_Shares_dealt => k_is)
    (case fn_Shares_twin => k_is)
    (case fn_Shares_promised => k_is)
    (case fn_Shares_check_share => k_is)
    (case fn_Shares_check_promised => k_is)
    (case fn_Shares_by_promise => k_is)
    (case fn_Shares_by_ceiling => k_is)
    (case fn_Shares_begin_stretch => k_is)
    (case z_isinstance => k_is)
    (case z_int => k_is)
    (case z_bool => k_is)
    (case z_str => k_is)
    (case z_list => k_is)
    (case z_tuple => k_is)
    (case z_dict => k_is)
    (case z_len => k_is)
    (case z_max => k_is)
    (case z_min => k_is)
    (case z_range => k_is)
    (case z_all => k_is)
    (case z_sum => k_is)
    (case z_repr => k_is)
    (case z_ValueError => k_is)
    (case z_LookupError => k_is)
    (case z_KeyError => k_is)
