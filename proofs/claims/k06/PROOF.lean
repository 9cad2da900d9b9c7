import PyProof.Rows.All
import Wide.All
import OpenK.AllK
import Wide.FinOn
import HandS.Base
import HandS.Call
import HandS.List
import HandS.Comp
import HandS.Ends
import HandS.Dict
import HandS.Iter
import HandS.Text
import HandS.Words
import HandS.Wide
import HandS.Flow
import HandS.Style
import HandS.IsInst
import HandS.ExcInit
import HandS.ExcIs
import HandS.Defaults
import HandS.Walk
import HandS.Codes
import KE.IntTextLaws
import PyProof.ReprRoads
import HandS.WordsExc
import HandS.TryMany
import HandS.ExcOwn
import HandS.ExcField
import KE.GoesEnum
import PyProof.ReprBulk
import HandS.WideBits
import PyProof.EqKinds
import PyProof.FactsAll.dict_1
import PyProof.FactsAll.subtypes_3
import PyProof.FactsAll.subtypes_4
import KE.KExcInit
import PyProof.ExcBaseAll.LookupError
import HandS.CallSlots
import HandS.Conv
import HandS.Deep
import KE.DataFind
import HandS.SetKeys
import HandS.Small
import HandS.SetFor
import HandS.WordsDict
import HandS.DictComp
import HandS.TupAny
import PyProof.SliceSyntax
import HandS.TryOnly
import KE.GoesEnumKw
import KE.KStrBytes
import PyProof.Rows.StrJoinMade
import PySem.Challenge.RW_guestsalone_k06_image_texts_refused
set_option Elab.async false
set_option linter.all false
set_option maxRecDepth 100000
set_option maxHeartbeats 64000000
namespace Bk
open PySem PySem.Spec PyProof.Rows L2
/-! ## 1. rules of our own -/
section
variable {X : Cx} {CX : CXT} {k n : Nat} {f : Addr} {fd : FuncData} {ps ks : List Str} {sp : Sp} {E : XK} {x m : Str} {p p1 p2 pos : Pos} {e : Expr} {es : List Expr} {kws : List Keyword} {t tk ta : TA} {g : List Value → List Value → List Value} {gV : List V → List V → List V}
/-- f(k = v, ..): keywords alone -/
theorem pe_callN0 (F : FnOk X.prog X.w X.K X.mg X.base CX k f fd ps sp) (hr : Room k X.A) (hg : Gl X x) (hm : X.mg x = some (.ref f)) (hk : PySem.W.keepIn X.K (.ref f) = true) (hb : KBn X.K fd ps 0 ks g gV) (hx : Passes CX X E)
    (hkw : PK X kws tk) (hall : (backToKw pos (keywordEach kws X.env)).all (·.1.isSome) = true := by rfl) (hks : (backToKw pos (keywordEach kws X.env)).filterMap (·.1) = ks := by rfl)
    (hdb : (x == ("__debug__" : Str)) = false := by decide)
    (hpl : ((backTo pos (starEach [] X.env)).any (·.1) || (backToKw pos (keywordEach kws X.env)).any (·.1.isNone)) = false := by rfl) :
    PE X (.Call (.Name x p) [] kws pos) (tCallN 0 ks.length sp gV E tNil tk) := by
  refine ⟨fun pins s σ H Q I h => ?_⟩
  refine wpAny_Call_Name_kw (ld_glob I hg hm ?_ hdb)
  refine PySem.W.callWith_KW0 (h₀ := X.base) I.ok.mod.kin hk hall ?_ hpl
  refine thn (hkw.run pos pins s σ H _ I h) fun ws s2 ⟨zs, H2, I2, rz, l1, l2, q2⟩ => ⟨I2.kIn, ?_⟩
  rw [hks]
  exact run_fnN (us := []) (vs := []) F hr hb hx I2 .nil rz rfl l2 q2
/-- C.m(e, ..): m a plain def of the class at B (or above it), read off the class -/
theorem pe_cdef {B : Addr} {mc : Value} {ds : List Value} {dvs : List V} {pl : Sem Bool} (F : FnOk X.prog X.w X.K X.mg X.base CX k f fd ps sp) (hr : Room k X.A) (hg : Gl X x) (hm : X.mg x = some (.ref B))
    (rd : PySem.W.readsIn X.K B mc = true) (ga : PySem.W.specialIn X.K (.ref B) "__getattribute__" = some (some (.builtin "type.__getattribute__"))) (at_ : PySem.W.findCls X.K (.ref B) mc m = some (.val (.ref f)))
    (hk : PySem.W.keepIn X.K (.ref f) = true) (hb : Binds X.K fd ps ds) (hd : Vals dvs ds) (hx : Passes CX X E) (ha : PA X (e :: es) t)
    (ht : eval (.Call (.Attribute (.Name x p1) m p2) (e :: es) [] pos) X.env = (do
      let ov ← eval (.Name x p1) X.env
      standAt p2.atName
      let (f, first) ← holding [ov] (getMethod ov m pl)
      callWith pos f first (backTo pos (starEach (e :: es) X.env)) (backToKw pos (keywordEach [] X.env))) := by rfl)
    (hdb : (x == ("__debug__" : Str)) = false := by decide) (he : starEach (e :: es) X.env = (false, eval e X.env) :: starEach es X.env := by rfl) (hpl : (backTo pos (starEach es X.env)).any (·.1) = false := by rfl) :
    PE X (.Call (.Attribute (.Name x p1) m p2) (e :: es) [] pos) (tCall sp dvs E t) := by
  refine ⟨fun pins s σ H Q I h => ?_⟩
  refine PySem.W.methodCall_KW (pl := pl) (ld_glob I hg hm ?_ hdb) ht
  refine PySem.W.method_cls I.kIn ga (PySem.W.cls_value I.kIn rd at_ rfl ?_)
  have I1 := I.tok (s.toks + 1)
  refine PySem.W.callWith_K (h₀ := X.base) I.ok.mod.kin hk (thn (ha.run pos pins _ σ H _ I1 h) fun us s1 ⟨vs, H1, I2, r, q⟩ => ⟨I2.kIn, ?_⟩) he hpl
  exact run_fn F hr hb hd hx I2 r q
/-- C(e, ..) as a value, C an own exception class under ValueError whose own __init__ keeps sp -/
def tMkV (C : Addr) (sp : Sp) (dvs : List V) (ta : TA) : TE := fun σ H Q => ta σ H fun vs H1 => vs.length ≤ 1000 ∧ ∀ a, H1 a = none → sp (.ref a :: (vs ++ dvs)) (upd H1 a (exo a C none)) (fun v H2 => v = .non ∧ Q (.ref a) H2) (fun _ _ _ => False)
theorem pe_oex {C fI : Addr} {ds : List Value} {dvs : List V} (T : OexC X.K C) (iC : PySem.W.findIn X.K (.ref C) "__init__" = some (some (.ref fI))) (tI : PySem.W.typeIn X.K (.ref fI) = some (.type "function"))
    (F1 : FnOk X.prog X.w X.K X.mg X.base CX k fI fd ps sp) (hr : Room (k + 1) X.A) (hb : Binds X.K fd ps ds) (hd : Vals dvs ds) (hx : Passes CX X (fun _ _ _ => False)) (hg : Gl X x) (hm : X.mg x = some (.ref C)) (ha : PA X (e :: es) ta)
    (hdb : (x == ("__debug__" : Str)) = false := by decide) (he : starEach (e :: es) X.env = (false, eval e X.env) :: starEach es X.env := by rfl) (hpl : (backTo pos (starEach es X.env)).any (·.1) = false := by rfl) :
    PE X (.Call (.Name x p) (e :: es) [] pos) (tMkV C sp dvs ta) := by
  refine ⟨fun pins s σ H Q I h => ?_⟩
  obtain ⟨nm, q, N, bs, bm, sn, sub, ab, col, dd, k0, k1, k2, k3, k5, hC, hbm⟩ := T.cls
  refine wpAny_Call_Name_kw (ld_glob I hg hm ?_ hdb)
  refine PySem.W.callWith_K (h₀ := X.base) I.ok.mod.kin T.kC (thn (ha.run pos pins s σ H _ I h) fun us s1 ⟨vs, H1, I1, r1, hz, q1⟩ => ⟨I1.kIn, ?_⟩) he hpl
  show wpAny _ _ (call (.ref C) us) _ _ _
  obtain ⟨hp, g, dr, tk, os⟩ := s1
  have hsz : hp.objs.size ≤ hp.objs.size + 1 := Nat.le_succ _
  have hn : H1 (hp.objs.size + 1) = none := I1.hok.fresh hsz
  have hq := q1 (hp.objs.size + 1) hn
  have kk : ∀ b o, hp.get? b = some o → ((hp.push (PySem.W.kdv_tup us)).push (PySem.HandSPX.excO C hp.objs.size)).get? b = some o := fun b o e => Heap.get?_push_of_some _ (Heap.get?_push_of_some _ e)
  have hget : ((hp.push (PySem.W.kdv_tup us)).push (PySem.HandSPX.excO C hp.objs.size)).get? (hp.objs.size + 1) = some (PySem.HandSPX.excO C hp.objs.size) := by heap_get
  have I2 : Inv X pins σ (upd H1 (hp.objs.size + 1) (exo (hp.objs.size + 1) C none)) ⟨(hp.push (PySem.W.kdv_tup us)).push (PySem.HandSPX.excO C hp.objs.size), g, dr, tk, os⟩ :=
    I1.laid (t' := tk) (a := hp.objs.size + 1) (o := exo (hp.objs.size + 1) C none) (h' := (hp.push (PySem.W.kdv_tup us)).push (PySem.HandSPX.excO C hp.objs.size)) kk hsz (exo_ok hget)
  have r2 : Vals (V.ref (hp.objs.size + 1) :: (vs ++ dvs)) (Value.ref (hp.objs.size + 1) :: (us ++ ds)) := .cons rfl (r1.append hd)
  have hl : (Value.ref (hp.objs.size + 1) :: us ++ ds).length = ps.length := by
    have e := r2.length
    rw [F1.len _ _ _ _ hq] at e
    exact e.symm
  have hus : us.length ≤ sizeLine := by
    rw [← Paired.length r1, sizeLine_eq]
    omega
  refine wpAny_call (PySem.HandSPX.call_own F.excBase_ValueError (fun Y => PySem.HandSPX.refsVE_contains Y bm hbm) (I1.kIn _ _ hC) (PySem.W.looks_findIn I1.kIn iC) (fun self => PySem.W.bind_fn I1.kIn self tI) hus
    (codeAny_mono (F1.run _ X.stack _ _ ⟨Value.ref (hp.objs.size + 1) :: us, []⟩ (Value.ref (hp.objs.size + 1) :: (us ++ ds)) _ _ (fun _ _ _ => False) (hr.make C us []) (I2.env0.make C us []) (hb _ (Value.ref (hp.objs.size + 1) :: us) I2.kIn hl) r2 hq) fun r s' hq' => ?_))
  cases r with
  | error er => exact hx pins σ _ _ er s' I2 hq'
  | ok fl =>
    cases fl with
    | ret u =>
      obtain ⟨v, H2, I3, rv, ev, q2⟩ := I2.after hq'
      subst ev
      exact ⟨rv, .ref (hp.objs.size + 1), H2, I3, rfl, q2⟩
    | next => exact False.elim hq'
    | brk => exact False.elim hq'
    | cont => exact False.elim hq'
/-- repr of a truth -/
def reprB (b : Bool) : Str := if b then "True" else "False"
theorem reprB_inj {a b : Bool} : decide (V.str (reprB a) = V.str (reprB b)) = decide (a = b) := by
  cases a <;> cases b <;> decide +kernel
theorem call_repr_bl : CallR X (.builtin "repr") (fun xs H Q => ∃ b, xs = [.bl b] ∧ Q (.str (reprB b)) H) := by
  intro pins s σ H xs us Q I r h
  obtain ⟨b, rfl, q⟩ := h
  obtain ⟨u, rfl, rfl⟩ := vals1 r
  exact PySem.P.repr_of_bool ⟨.str _, H, I.tok _, ⟨_, rfl⟩, q⟩
end
/-! ### an exception as a value: isinstance, its field -/
end Bk
namespace PySem.W
open PySem PySem.Spec PySem.Calls PyProof.Rows
section
variable {prog : Program} {w : World} {A : Around} {E : Value → Shared → Prop} {s : Shared} {K : Frag} {x D : Addr} {ox : Obj} {od : Option Obj}
theorem bk_findObj {C : Addr} {name : Str} {a g : Value} (hc : (clsIn K C).isSome = true) (ha : findIn K (.ref C) name = some (some a)) (hg : specialIn K a "__get__" = some (some g)) (ht : takesIn K a = some true) : findObj K C od name = some (.bind g a) := by
  obtain ⟨cd, hc⟩ := Option.isSome_iff_exists.mp hc
  unfold findObj
  rw [hc, Option.bind_some, ha, Option.bind_some]
  simp [hg, ht]
theorem bk_class {Q : Option Value → Shared → Prop} (hga : findIn K (.ref D) "__getattribute__" = some (some (.builtin "BaseException.__getattribute__"))) (hgt : findIn K (.ref D) "__getattr__" = some none) (hsub : subIn K (.ref D) (.type "BaseException") = some true)
    (hdct : hasDictIn K D = true) (ha : findIn K (.ref D) "__class__" = some (some (.builtin "object.__class__")))
    (hn : specialIn K (.builtin "object.__class__") "__get__" = some (some (.builtin "getset_descriptor.__get__"))) (htk : takesIn K (.builtin "object.__class__") = some true) (hm : mroIn K D (.type "object") = some true)
    (X : K.In s.heap) (I : InstAt s.heap x ox D od) (h : Q (some (.ref D)) { s with toks := s.toks + 1 }) : wpAny (model prog w) A (getAttr? (.ref x) "__class__") Q E s := by
  have hf : findObj K D od "__class__" = some (.bind (.builtin "getset_descriptor.__get__") (.builtin "object.__class__")) := bk_findObj (by obtain ⟨cd, hc, _⟩ := any_some hdct; rw [hc]; rfl) ha hn htk
  obtain ⟨hp, g, d, t, os⟩ := s
  have L0 := I.type (M := model prog w)
  have L1 := looks_findIn (M := model prog w) X hga
  have L2 := looks_findIn (M := model prog w) X hgt
  have L3 := looks_find (M := model prog w) X I hf
  have sub : Looks (model prog w) hp (isInstance (.ref x) (.type "BaseException")) true := L0.andThen (looks_subIn X hsub)
  have hx0 : (false && onTheHeap (Value.builtin "BaseException.__getattribute__")) = false := rfl
  have hx2 : (Value.builtin "BaseException.__getattribute__" == Value.builtin "object.__getattribute__") = false := by decide +kernel
  have hx1 : (onTheHeap (Value.ref D) && Value.builtin "BaseException.__getattribute__" == Value.builtin "object.__getattribute__") = false := by rw [hx2]; rfl
  unfold getAttr? getAttrBy? getAttrBy
  refine wpAny_bind (wpAny_mkText (wpAny_bind (wpAny_attempt (wpAny_holding (wpAny_bind (L0.at (wpAny_bind (L1.at ?_))))))))
  show wpAny _ _ (if (onTheHeap (Value.ref D) && Value.builtin "BaseException.__getattribute__" == Value.builtin "object.__getattribute__") = true then _ else _) _ _ _
  rw [hx1, if_neg Bool.false_ne_true]
  unfold getAttrByItsOwn hookBefore
  refine wpAny_bind ?_
  rw [if_pos (show onTheHeap (Value.ref D) = true from rfl)]
  refine L2.at ?_
  refine wpAny_bind (wpAny_attempt (wpAny_holding ?_))
  unfold callGetattribute
  rw [hx0, if_neg Bool.false_ne_true]
  unfold boundAndCalled
  rw [PySem.F.excAttr_ValueError.ga.bind (.ref x)]
  refine wpAny_bind (wpAny_pure ?_)
  show wpAny _ _ (call (.builtin "BaseException.__getattribute__") [.ref x, .str "__class__" t]) _ _ _
  refine wpAny_call (codeAny_call_builtin PySem.F.excAttr_ValueError.ga.plain PySem.F.entry_bexc_ga ?_)
  refine @check_slot (model prog w) _ _ ⟨hp, g, d, t + 1, os⟩ "BaseException.__getattribute__" "BaseException" "__getattribute__" (.ref x) [.str "__class__" t] [] _ (by decide +kernel) (by decide +kernel) sub (PySem.F.args_bexc_ga (.ref x) (.str "__class__" t)) ?_
  unfold Builtin.«object.__getattribute__»
  refine wpAny_bind (wpAny_of_eq (a := ((Value.ref x : Value), [Value.str "__class__" t])) (by first | rfl | (simp only [slotArgs]; rfl)) ?_)
  refine wpAny_bind (wpAny_pure (wpAny_bind (L0.at (wpAny_bind (L3.at ?_)))))
  show wpAny _ _ (holding [Value.builtin "object.__class__"] (call (.builtin "getset_descriptor.__get__") [.builtin "object.__class__", .ref x, .ref D]) >>= ret) _ _ _
  refine wpAny_bind (wpAny_holding (wpAny_call (class_get (s := ⟨hp, g, d, t + 1, os⟩) (ox := ox) (od := od) X I hm ?_)))
  refine wpAny_pure ?_
  show wpAny _ _ (handedOut (.ref D)) _ _ _
  rw [handedOut_of (v := .ref D) rfl]
  first
    | exact wpAny_pure (wpAny_pure h)
    | exact wpAny_pure h
    | exact wpAny_pure (wpAny_bind (wpAny_pure (wpAny_pure h)))
theorem bk_kitx (hga : findIn K (.ref D) "__getattribute__" = some (some (.builtin "BaseException.__getattribute__"))) (hgt : findIn K (.ref D) "__getattr__" = some none) (hsub : subIn K (.ref D) (.type "BaseException") = some true) (hdct : hasDictIn K D = true) (ha : findIn K (.ref D) "__class__" = some (some (.builtin "object.__class__")))
    (hn : specialIn K (.builtin "object.__class__") "__get__" = some (some (.builtin "getset_descriptor.__get__"))) (htk : takesIn K (.builtin "object.__class__") = some true) (hm : mroIn K D (.type "object") = some true) :
    KitX K (.ref x) (.ref D) (fun h => InstAt h x ox D od) where
  ty := fun _ _ _ I => I.type
  it := fun _ _ X _ => by
    obtain ⟨cdD, hcD, _⟩ := any_some hdct
    unfold clsIn at hcD
    split at hcD
    · rename_i c' d' cd' sl' ho
      intro A' Q' E' s' k q
      unfold isType loadHead
      exact wpAny_bind (wpAny_loadPart (k _ _ (X _ _ ho)) (wpAny_pure q))
    · cases hcD
  ne := fun h tp dd its n sl X htp => by
    obtain ⟨cdD, hcD, _⟩ := any_some hdct
    refine Bool.eq_false_iff.mpr fun q => ?_
    have e : D = tp := Value.ref.inj (beq_iff_eq.mp q)
    subst e
    unfold clsIn at hcD
    split at hcD
    · rename_i c' d' cd' sl' ho
      have z := (X _ _ ho).symm.trans htp
      cases z
    · cases hcD
  ca := fun X I k => bk_class hga hgt hsub hdct ha hn htk hm X I k
end
end PySem.W
namespace Bk
open PySem PySem.Spec PyProof.Rows L2
/-- at a: an exception of the class at D, its own dict (at dx) holds fs -/
def XV (H : Hp) (a D dx : Addr) (fs : List (Str × V)) : Prop := H a = some (exo a D (some dx)) ∧ H dx = some (exd dx fs)
theorem xv_inst {X : Cx} {pins : List (Addr × Obj)} {σ : L2.St} {H : Hp} {s : Shared} {a D dx : Addr} {fs : List (Str × V)} (I : Inv X pins σ H s) (h : XV H a D dx fs) :
    ∃ (ox od : Obj) (mA : Str → Option Value), PySem.W.InstAt s.heap a ox D (some od) ∧ (∀ f, PySem.W.lookIn f od = some (mA f)) ∧ ∀ f, RelO (fs.lookup f) (mA f) := by
  obtain ⟨t1, ho⟩ := exo_at I.hok h.1
  obtain ⟨mA, hns, rel⟩ := exd_at I.hok h.2
  obtain ⟨od, hod, hl⟩ := lookIn_ns hns
  exact ⟨_, od, mA, ⟨ho, rfl, rfl, hod⟩, hl, rel⟩
/-- isinstance(e, c), e such an exception -/
def rIsX (K : PySem.W.Frag) : List V → Hp → VK → Prop := fun xs H Q => ∃ (a D dx : Addr) (fs : List (Str × V)) (c : V) (u : Value) (b : Bool), xs = [.ref a, c] ∧ XV H a D dx fs ∧ ExcC K D ∧ ClsV c u ∧ PySem.W.kitOne K (.ref D) u = some b ∧ Q (.bl b) H
theorem call_isX {X : Cx} : CallR X (.builtin "isinstance") (rIsX X.K) := by
  intro pins s σ H xs us Q I r h
  obtain ⟨a, D, dx, fs, c, u, b, rfl, xv, C, k, e, q⟩ := h
  obtain ⟨u1, u2, rfl, r1, r2⟩ := vals2 r
  have e2 := k.eq r2
  subst e2
  obtain rfl : u1 = Value.ref a := r1
  obtain ⟨ox, od, mA, J, _, _⟩ := xv_inst I xv
  exact PySem.W.kia_one (PySem.W.bk_kitx (ox := ox) (od := some od) C.hg C.hk C.hs C.hd C.ha C.hn C.ht C.hm) I.kIn J e (fun z => nomatch z) fun tk => ⟨.bl b, H, I.tok tk, rfl, q⟩
/-- isinstance of a value of any form met here -/
def rIs (K : PySem.W.Frag) : List V → Hp → VK → Prop := fun xs H Q => rIsi K xs H Q ∨ rIsX K xs H Q
theorem call_is {X : Cx} : CallR X (.builtin "isinstance") (rIs X.K) := CallR.or call_isi call_isX
end Bk

namespace Bk
open PySem PySem.Spec PyProof.Rows L2
/-! ## 2. a def that may be called by its name -/
structure Cal (P : Program) (w : World) (K : PySem.W.Frag) (mg : Str → Option Value) (base : Heap) (CX : CXT) (k : Nat) (x : Str) (sp : Sp) : Prop where
  ex : ∃ (f : Addr) (fd : FuncData) (ps : List Str) (ds : List Value) (dvs : List V), mg x = some (.ref f) ∧ PySem.W.keepIn K (.ref f) = true ∧ FnOk P w K mg base CX k f fd ps (fun vs H Q E => sp vs H Q E ∧ vs.length = ps.length) ∧ Binds K fd ps [] ∧ ds = [] ∧ dvs = []
/-- the same with keywords: n values by places, then those of the keywords ks; gV orders them -/
structure CalN (P : Program) (w : World) (K : PySem.W.Frag) (mg : Str → Option Value) (base : Heap) (CX : CXT) (k n : Nat) (ks : List Str) (x : Str) (sp : Sp) (gV : List V → List V → List V) : Prop where
  ex : ∃ (f : Addr) (fd : FuncData) (ps : List Str) (g : List Value → List Value → List Value), mg x = some (.ref f) ∧ PySem.W.keepIn K (.ref f) = true ∧ FnOk P w K mg base CX k f fd ps sp ∧ KBn K fd ps n ks g gV
/-- defaults fill up -/
structure CalD (P : Program) (w : World) (K : PySem.W.Frag) (mg : Str → Option Value) (base : Heap) (CX : CXT) (k : Nat) (x : Str) (sp : Sp) (dvs : List V) : Prop where
  ex : ∃ (f : Addr) (fd : FuncData) (ps : List Str) (ds : List Value), mg x = some (.ref f) ∧ PySem.W.keepIn K (.ref f) = true ∧ FnOk P w K mg base CX k f fd ps sp ∧ Binds K fd ps ds ∧ Vals dvs ds
/-- a method's def, by itself -/
structure Own (P : Program) (w : World) (K : PySem.W.Frag) (mg : Str → Option Value) (base : Heap) (CX : CXT) (k : Nat) (f : Addr) (fd : FuncData) (ps : List Str) (sp : Sp) : Prop where
  ok : FnOk P w K mg base CX k f fd ps sp
  bd : Binds K fd ps []
  kp : PySem.W.keepIn K (.ref f) = true
section
variable {X : Cx} {CX : CXT} {k j n : Nat} {ks : List Str} {sp : Sp} {E : XK} {x : Str} {p pos : Pos} {e : Expr} {es : List Expr} {kws : List Keyword} {t tk : TA} {gV : List V → List V → List V} {dvs : List V}
theorem pe_cal (c : CalD X.prog X.w X.K X.mg X.base CX0 k x sp []) (hr : Room j X.A) (hk : k ≤ j) (hg : Gl X x) (ha : PA X (e :: es) t)
    (hdb : (x == ("__debug__" : Str)) = false := by decide) (he : starEach (e :: es) X.env = (false, eval e X.env) :: starEach es X.env := by rfl) (hpl : (backTo pos (starEach es X.env)).any (·.1) = false := by rfl) :
    PE X (.Call (.Name x p) (e :: es) [] pos) (tCall sp [] E0 t) := by
  obtain ⟨f, fd, ps, ds, h1, h2, h3, h4, h5⟩ := c.ex
  exact pe_call h3 (hr.mono hk) hg h1 h2 h4 h5 pass0 ha hdb he hpl
theorem pe_calD (c : CalD X.prog X.w X.K X.mg X.base CX0 k x sp dvs) (hr : Room j X.A) (hk : k ≤ j) (hg : Gl X x) (ha : PA X (e :: es) t)
    (hdb : (x == ("__debug__" : Str)) = false := by decide) (he : starEach (e :: es) X.env = (false, eval e X.env) :: starEach es X.env := by rfl) (hpl : (backTo pos (starEach es X.env)).any (·.1) = false := by rfl) :
    PE X (.Call (.Name x p) (e :: es) [] pos) (tCall sp dvs E0 t) := by
  obtain ⟨f, fd, ps, ds, h1, h2, h3, h4, h5⟩ := c.ex
  exact pe_call h3 (hr.mono hk) hg h1 h2 h4 h5 pass0 ha hdb he hpl
theorem pe_cal0 (c : CalD X.prog X.w X.K X.mg X.base CX0 k x sp []) (hr : Room j X.A) (hk : k ≤ j) (hg : Gl X x) (hdb : (x == ("__debug__" : Str)) = false := by decide) :
    PE X (.Call (.Name x p) [] [] pos) (tCall sp [] E0 tNil) := by
  obtain ⟨f, fd, ps, ds, h1, h2, h3, h4, h5⟩ := c.ex
  exact pe_call0 h3 (hr.mono hk) hg h1 h2 h4 h5 pass0 hdb
theorem pe_calN (c : CalN X.prog X.w X.K X.mg X.base CX0 k n ks x sp gV) (hr : Room k X.A) (hg : Gl X x) (ha : PA X (e :: es) t) (hkw : PK X kws tk)
    (hall : (backToKw pos (keywordEach kws X.env)).all (·.1.isSome) = true := by rfl) (hks : (backToKw pos (keywordEach kws X.env)).filterMap (·.1) = ks := by rfl)
    (hdb : (x == ("__debug__" : Str)) = false := by decide) (he : starEach (e :: es) X.env = (false, eval e X.env) :: starEach es X.env := by rfl)
    (hpl : ((backTo pos (starEach (e :: es) X.env)).any (·.1) || (backToKw pos (keywordEach kws X.env)).any (·.1.isNone)) = false := by rfl) :
    PE X (.Call (.Name x p) (e :: es) kws pos) (tCallN n ks.length sp gV E0 t tk) := by
  obtain ⟨f, fd, ps, g, h1, h2, h3, h4⟩ := c.ex
  exact pe_callN h3 hr hg h1 h2 h4 pass0 ha hkw hall hks hdb he hpl
theorem pe_calN0 (c : CalN X.prog X.w X.K X.mg X.base CX0 k 0 ks x sp gV) (hr : Room k X.A) (hg : Gl X x) (hkw : PK X kws tk)
    (hall : (backToKw pos (keywordEach kws X.env)).all (·.1.isSome) = true := by rfl) (hks : (backToKw pos (keywordEach kws X.env)).filterMap (·.1) = ks := by rfl)
    (hdb : (x == ("__debug__" : Str)) = false := by decide)
    (hpl : ((backTo pos (starEach [] X.env)).any (·.1) || (backToKw pos (keywordEach kws X.env)).any (·.1.isNone)) = false := by rfl) :
    PE X (.Call (.Name x p) [] kws pos) (tCallN 0 ks.length sp gV E0 tNil tk) := by
  obtain ⟨f, fd, ps, g, h1, h2, h3, h4⟩ := c.ex
  exact pe_callN0 h3 hr hg h1 h2 h4 pass0 hkw hall hks hdb hpl
end
theorem CalD.mk' {P : Program} {w : World} {K : PySem.W.Frag} {mg : Str → Option Value} {base : Heap} {CX : CXT} {k : Nat} {x : Str} {sp : Sp} {f : Addr} {fd : FuncData} {ps : List Str} (g : mg x = some (.ref f)) (kp : PySem.W.keepIn K (.ref f) = true) (F : FnOk P w K mg base CX k f fd ps sp) (b : Binds K fd ps []) :
    CalD P w K mg base CX k x sp [] := ⟨f, fd, ps, [], g, kp, F, b, .nil⟩
/-! ## 3. going through a reading -/
section
variable {K : PySem.W.Frag} {σ : L2.St} {H : Hp} {ta tb tc te : TE} {t u : TT} {x y v : V} {Q : VK} {QB : Bool → Hp → Prop} {QL : List V → Hp → Prop} {r r' : R2} {D : Ends} {a b : TS} {tr : TA}
theorem r_var {i : Nat} (h : σ[i]? = some (some v)) (q : Q v H) : tVar i σ H Q := ⟨v, h, q⟩
theorem r_c (q : Q v H) : tC v σ H Q := q
theorem r_op (q : ta σ H fun x H1 => tb σ H1 fun y H2 => r x y H2 Q) : tOp r ta tb σ H Q := q
theorem r_un {r : V → Hp → VK → Prop} (q : ta σ H fun x H1 => r x H1 Q) : tUn r ta σ H Q := q
theorem r_I0 {g : Int → Int → V} {i j : Int} (q : Q (g i j) H) : rI0 g (.int i) (.int j) H Q := ⟨i, j, rfl, rfl, q⟩
theorem r_I {C : Int → Int → Prop} {g : Int → Int → V} {i j : Int} (c : C i j) (q : Q (g i j) H) : rI C g (.int i) (.int j) H Q := ⟨i, j, rfl, rfl, c, q⟩
theorem r_U {g : Int → V} {i : Int} (q : Q (g i) H) : rU g (.int i) H Q := ⟨i, rfl, q⟩
theorem r_eq (s : scal x y = true) (q : Q (.bl (decide (x = y))) H) : rEq x y H Q := ⟨s, q⟩
theorem r_ne (s : scal x y = true) (q : Q (.bl (!decide (x = y))) H) : rNe x y H Q := ⟨s, q⟩
theorem r_nil (q : QL [] H) : tNil σ H QL := q
theorem r_cons (q : ta σ H fun x H1 => tr σ H1 fun xs H2 => QL (x :: xs) H2) : tCons ta tr σ H QL := q
theorem r_call {sp : Sp} {dvs : List V} {E : XK} (q : tr σ H fun vs H1 => sp (vs ++ dvs) H1 Q E) : tCall sp dvs E tr σ H Q := q
theorem r_callN {n m : Nat} {sp : Sp} {gV : List V → List V → List V} {E : XK} {tk : TA} (q : tr σ H fun vs H1 => tk σ H1 fun zs H2 => vs.length = n ∧ zs.length = m ∧ sp (gV vs zs) H2 Q E) : tCallN n m sp gV E tr tk σ H Q := q
theorem r_cb {rc : List V → Hp → VK → Prop} (q : tr σ H fun vs H1 => rc vs H1 Q) : tCB rc tr σ H Q := q
theorem r_ret (q : te σ H D.rt) : tRet te D σ H := q
theorem r_seq (q : a { D with nx := b D } σ H) : tSeq a b D σ H := q
theorem r_asg {g : TG} (q : te σ H fun x H1 => g x σ H1 D.nx) : tAsg te g D σ H := q
theorem r_name {i : Nat} {Qs : L2.St → Hp → Prop} (q : Qs (σ.set i (some v)) H) : gName i v σ H Qs := q
theorem r_if (q : t σ H fun b' H1 => if b' = true then a D σ H1 else b D σ H1) : tIfS t a b D σ H := q
theorem r_next (q : D.nx σ H) : tNext D σ H := q
theorem r_drop (q : te σ H fun _ H1 => D.nx σ H1) : tDrop te D σ H := q
theorem r_test (q : te σ H fun x H' => ∃ k, x = .bl k ∧ QB k H') : tTest te σ H QB := q
theorem r_tB (q : te σ H fun x H' => ∃ k, x = .bl k ∧ QB k H') : tB te σ H QB := q
theorem r_isb {k : Bool} (q : QB k H) : ∃ k', V.bl k = .bl k' ∧ QB k' H := ⟨k, rfl, q⟩
theorem r_isv {k : Bool} {A : Bool → Prop} (q : A k) : ∃ k', V.bl k = .bl k' ∧ A k' := ⟨k, rfl, q⟩
theorem r_not (q : t σ H fun c H1 => QB (!c) H1) : tNot t σ H QB := q
theorem r_and (q : t σ H fun c H1 => if c = true then u σ H1 QB else QB false H1) : tAnd t u σ H QB := q
theorem r_or (q : t σ H fun c H1 => if c = true then QB true H1 else u σ H1 QB) : tOr t u σ H QB := q
theorem r_andV (q : ta σ H fun x H1 => ∃ c, x = .bl c ∧ if c = true then tb σ H1 Q else Q (.bl false) H1) : tAndV ta tb σ H Q := q
theorem r_orV (q : ta σ H fun x H1 => ∃ c, x = .bl c ∧ if c = true then Q (.bl true) H1 else tb σ H1 Q) : tOrV ta tb σ H Q := q
theorem r_notV (q : ta σ H fun x H1 => ∃ c, x = .bl c ∧ Q (.bl (!c)) H1) : tNotV ta σ H Q := q
theorem r_chain (q : ta σ H fun x H1 => tb σ H1 fun y H2 => r x y H2 fun z H3 => ∃ k, z = .bl k ∧ (if k = true then tc σ H3 fun w' H4 => r' y w' H4 Q else Q (.bl false) H3)) : tChain r r' ta tb tc σ H Q := q
theorem r_ifE (q : t σ H fun c H1 => if c = true then ta σ H1 Q else tb σ H1 Q) : tIf t ta tb σ H Q := q
theorem r_isN (q : Q (.bl (decide (x = .non))) H) : (fun x y H Q => y = V.non ∧ Q (.bl (decide (x = .non))) H : R2) x .non H Q := ⟨rfl, q⟩
def NewL (xs : List V) (H : Hp) (Q : VK) : Prop := xs.length ≤ sizeLine ∧ ∀ p, H p = none → Q (.ref p) (upd H p (.lst xs))
def NewT (xs : List V) (H : Hp) (Q : VK) : Prop := xs.length ≤ sizeLine ∧ ∀ p, H p = none → Q (.ref p) (upd H p (.tup xs))
theorem r_lst (q : tr σ H fun xs H1 => NewL xs H1 Q) : tLst tr σ H Q := q
theorem r_tup (q : tr σ H fun xs H1 => NewT xs H1 Q) : tTup tr σ H Q := q
theorem same_upd {p : Addr} {o : HO} (h : H p = none) : Same H (upd H p o) := fun b x e => by
  rw [upd_ne (ne_of_none e h)]
  exact e
/-- a new object: the heap behind it by what stands in it -/
theorem newL {xs : List V} (q : ∀ p H', H p = none → Same H H' → H' p = some (.lst xs) → Q (.ref p) H') (hl : xs.length ≤ 10000 := by exact Nat.le_of_ble_eq_true rfl) : NewL xs H Q :=
  ⟨Nat.le_trans hl (by decide), fun p hp => q p _ hp (same_upd hp) upd_same⟩
theorem newT {xs : List V} (q : ∀ p H', H p = none → Same H H' → H' p = some (.tup xs) → Q (.ref p) H') (hl : xs.length ≤ 10000 := by exact Nat.le_of_ble_eq_true rfl) : NewT xs H Q :=
  ⟨Nat.le_trans hl (by decide), fun p hp => q p _ hp (same_upd hp) upd_same⟩
def NewDK (kvs : List (Key × V)) (H : Hp) (Q : VK) : Prop := ∀ p, H p = none → Q (.ref p) (upd H p (.dK kvs))
theorem r_dnewK (q : NewDK [] H Q) : tDNewK σ H Q := q
theorem newDK {kvs : List (Key × V)} (q : ∀ p H', H p = none → Same H H' → H' p = some (.dK kvs) → Q (.ref p) H') : NewDK kvs H Q := fun p hp => q p _ hp (same_upd hp) upd_same
def MkV (C : Addr) (sp : Sp) (dvs vs : List V) (H : Hp) (Q : VK) : Prop := vs.length ≤ 1000 ∧ ∀ a, H a = none → sp (.ref a :: (vs ++ dvs)) (upd H a (exo a C none)) (fun v H2 => v = .non ∧ Q (.ref a) H2) (fun _ _ _ => False)
theorem r_mkV {C : Addr} {sp : Sp} {dvs : List V} (q : tr σ H fun vs H1 => MkV C sp dvs vs H1 Q) : tMkV C sp dvs tr σ H Q := q
def ForL (J : It) (g : TG) (tb : TS) (D : Ends) (σ : L2.St) (H : Hp) : Prop := ∃ W : Nat → Nat → L2.St → Hp → Prop, (∃ m, W 0 m σ H) ∧ ∀ i m σ H, W i m σ H →
  (J.stop i H ∧ D.nx σ H) ∨ (J.go i H ∧ ∃ N : L2.St → Hp → Prop, (∀ σ' H', N σ' H' → ∃ m', m' < m ∧ W (i + 1) m' σ' H') ∧ ∀ x H', J.yld i H x H' → g x σ H' fun σ2 H2 => tb { D with nx := N, ct := N, bk := D.nx } σ2 H2)
theorem r_for {wi : TI} {g : TG} (q : wi σ H fun J H1 => ForL J g a D σ H1) : tFor wi g a D σ H := q
theorem r_iList {tl : TE} {R : It → Hp → Prop} (q : tl σ H fun x H1 => ∃ p, x = .ref p ∧ (∃ xs, SqL K H1 p xs) ∧ R (Itl K p) H1) : iList K tl σ H R := q
theorem r_iTup {tl : TE} {R : It → Hp → Prop} (q : tl σ H fun x H1 => ∃ p, x = .ref p ∧ (∃ xs, SqT K H1 p xs) ∧ R (Itt K p) H1) : iTup K tl σ H R := q
theorem r_iRng1 {R : It → Hp → Prop} (q : tr σ H fun vs H1 => ∃ j : Int, vs = [.int j] ∧ -(2 ^ 62) ≤ j ∧ j < 2 ^ 62 ∧ R (Itr 0 j.toNat) H1) : iRng1 tr σ H R := q
theorem r_iRng2 {R : It → Hp → Prop} (q : tr σ H fun vs H1 => ∃ i j : Int, vs = [.int i, .int j] ∧ (-(2 ^ 62) ≤ i ∧ i < 2 ^ 62 ∧ -(2 ^ 62) ≤ j ∧ j < 2 ^ 62) ∧ R (Itr i (j - i).toNat) H1) : iRng2 tr σ H R := q
theorem r_ixL {p : Addr} {xs : List V} {i : Int} (h : SqL K H p xs) (ha : atI xs i = some v) (q : Q v H) : rIxL K (.ref p) (.int i) H Q := ⟨p, xs, i, v, rfl, rfl, h, ha, q⟩
theorem r_ixT {p : Addr} {xs : List V} {i : Int} (h : SqT K H p xs) (ha : atI xs i = some v) (q : Q v H) : rIxT K (.ref p) (.int i) H Q := ⟨p, xs, i, v, rfl, rfl, h, ha, q⟩
theorem r_gSub {to ti : TE} {ts : TSet} {Qs : L2.St → Hp → Prop} (q : to σ H fun o H1 => ti σ H1 fun i H2 => ts o i v H2 fun H3 => Qs σ H3) : gSub to ti ts v σ H Qs := q
theorem r_bm {T : String} {rm : V → List V → Hp → VK → Prop} {to : TE} (q : to σ H fun x H1 => tyV K T x H1 ∧ tr σ H1 fun xs H2 => rm x xs H2 Q) : tBM K T rm to tr σ H Q := q
theorem iteNF {A B : Prop} (h : B) : if (!true) = true then A else B := iteF h
theorem iteNT {A B : Prop} (h : A) : if (!false) = true then A else B := iteT h
theorem iteD {c A B : Prop} [Decidable c] (hc : c) (h : A) : if decide c = true then A else B := by rw [decide_eq_true hc]; exact iteT h
theorem iteDn {c A B : Prop} [Decidable c] (hc : ¬ c) (h : B) : if decide c = true then A else B := by rw [decide_eq_false hc]; exact iteF h
theorem iteND {c A B : Prop} [Decidable c] (hc : c) (h : B) : if (!decide c) = true then A else B := by rw [decide_eq_true hc]; exact iteF h
theorem iteNDn {c A B : Prop} [Decidable c] (hc : ¬ c) (h : A) : if (!decide c) = true then A else B := by rw [decide_eq_false hc]; exact iteT h
/-- a test that is open: both ways, by what it says -/
theorem iteC {c A B : Prop} [Decidable c] (h1 : c → A) (h2 : ¬ c → B) : if decide c = true then A else B := by
  by_cases h : c
  · exact iteD h (h1 h)
  · exact iteDn h (h2 h)
theorem iteNC {c A B : Prop} [Decidable c] (h1 : ¬ c → A) (h2 : c → B) : if (!decide c) = true then A else B := by
  by_cases h : c
  · exact iteND h (h2 h)
  · exact iteNDn h (h1 h)
theorem iteB {b : Bool} {A B : Prop} (h1 : b = true → A) (h2 : b = false → B) : if b = true then A else B := by
  cases b
  · exact iteF (h2 rfl)
  · exact iteT (h1 rfl)
theorem iteNB {b : Bool} {A B : Prop} (h1 : b = false → A) (h2 : b = true → B) : if (!b) = true then A else B := by
  cases b
  · exact iteT (h1 rfl)
  · exact iteF (h2 rfl)
theorem r_m1 {rm : V → List V → Hp → VK → Prop} {to te : TE} (q : to σ H fun x H1 => (∃ a, x = .str a) ∧ te σ H1 fun y H2 => rm x [y] H2 Q) : tM1 rm to te σ H Q := q
theorem r_len {z : Str} (h : z.length ≤ 100000) (q : Q (.int z.length) H) : ∃ z', [V.str z] = [V.str z'] ∧ z'.length ≤ sizeLine ∧ Q (.int z'.length) H := ⟨z, rfl, Nat.le_trans h (by decide), q⟩
theorem sqL {p : Addr} {xs : List V} (h : H p = some (.lst xs)) : SqL K H p xs := .inl (.inl h)
theorem sqT {p : Addr} {xs : List V} (h : H p = some (.tup xs)) : SqT K H p xs := .inl (.inl h)
end
end Bk

namespace Bk
open PySem PySem.Spec PyProof.Rows L2
/-! ## 4. what isinstance answers -/
def IsA (K : PySem.W.Frag) (H : Hp) (x : V) (T : String) (b : Bool) : Prop :=
  (∃ t, TyX K H x t ∧ PySem.W.kitOne K t (.type T) = some b) ∨ (∃ (a D dx : Addr) (fs : List (Str × V)), x = .ref a ∧ XV H a D dx fs ∧ ExcC K D ∧ PySem.W.kitOne K (.ref D) (.type T) = some b)
section
variable {K : PySem.W.Frag} {H H' : Hp} {x : V} {T : String} {b : Bool} {Q : VK}
theorem r_is (h : IsA K H x T b) (q : Q (.bl b) H) : rIs K [x, .ty T] H Q := by
  rcases h with ⟨t, h1, h2⟩ | ⟨a, D, dx, fs, rfl, h1, h2, h3⟩
  · exact .inl ⟨x, .ty T, t, .type T, b, rfl, .ty T, h1, h2, q⟩
  · exact .inr ⟨a, D, dx, fs, .ty T, .type T, b, rfl, h1, h2, .ty T, h3, q⟩
theorem isa_int {i : Int} (h : kitB "int" T = some b := by decide +kernel) : IsA K H (.int i) T b := .inl ⟨.type "int", .base (.int i), kit_ty h⟩
theorem isa_bl {c : Bool} (h : kitB "bool" T = some b := by decide +kernel) : IsA K H (.bl c) T b := .inl ⟨.type "bool", .base (.bl c), kit_ty h⟩
theorem isa_str {z : Str} (h : kitB "str" T = some b := by decide +kernel) : IsA K H (.str z) T b := .inl ⟨.type "str", .base (.str z), kit_ty h⟩
theorem isa_non (h : kitB "NoneType" T = some b := by decide +kernel) : IsA K H .non T b := .inl ⟨.type "NoneType", .base .non, kit_ty h⟩
theorem isa_lst {a : Addr} {xs : List V} (e : H a = some (.lst xs)) (h : kitB "list" T = some b := by decide +kernel) : IsA K H (.ref a) T b := .inl ⟨.type "list", .base (.lst e), kit_ty h⟩
theorem isa_tup {a : Addr} {xs : List V} (e : H a = some (.tup xs)) (h : kitB "tuple" T = some b := by decide +kernel) : IsA K H (.ref a) T b := .inl ⟨.type "tuple", .base (.tup e), kit_ty h⟩
theorem isa_dK {a : Addr} {kvs : List (Key × V)} (e : H a = some (.dK kvs)) (h : kitB "dict" T = some b := by decide +kernel) : IsA K H (.ref a) T b := .inl ⟨.type "dict", .base (.dK e), kit_ty h⟩
theorem isa_exc {a D dx : Addr} {fs : List (Str × V)} (e : XV H a D dx fs) (C : ExcC K D) (h : PySem.W.kitOne K (.ref D) (.type T) = some b) : IsA K H (.ref a) T b := .inr ⟨a, D, dx, fs, rfl, e, C, h⟩
end
/-! ## 5. the box of draws -/
def Box (a : Addr) (n : Nat) (H : Hp) : Prop := ∃ x y z : Int, H a = some (.lst [.int x, .int y, .int z]) ∧ 0 ≤ x ∧ 0 ≤ y ∧ y < 2147483629 ∧ 0 ≤ z ∧ z ≤ (n : Int)
/-- all but what stands at a is as it was -/
def But (a : Addr) (H H' : Hp) : Prop := ∀ b o, b ≠ a → H b = some o → H' b = some o
theorem But.refl {a : Addr} {H : Hp} : But a H H := fun _ _ _ h => h
theorem But.trans {a : Addr} {H H1 H2 : Hp} (x : But a H H1) (y : But a H1 H2) : But a H H2 := fun b o n e => y b o n (x b o n e)
theorem But.same {a : Addr} {H H1 H2 : Hp} (x : But a H H1) (y : Same H1 H2) : But a H H2 := fun b o n e => y b o (x b o n e)
theorem But.of {a : Addr} {H H1 : Hp} (y : Same H H1) : But a H H1 := fun b o _ e => y b o e
theorem But.upd {a : Addr} {H : Hp} {o : HO} : But a H (upd H a o) := fun b u n e => by rw [upd_ne n]; exact e
theorem Box.same {a : Addr} {n : Nat} {H H' : Hp} (h : Box a n H) (s : Same H H') : Box a n H' := by
  obtain ⟨x, y, z, e, r⟩ := h
  exact ⟨x, y, z, s _ _ e, r⟩
theorem Box.mono {a : Addr} {n m : Nat} {H : Hp} (h : Box a n H) (l : n ≤ m) : Box a m H := by
  obtain ⟨x, y, z, e, r1, r2, r3, r4, r5⟩ := h
  exact ⟨x, y, z, e, r1, r2, r3, r4, by omega⟩
theorem Box.ne {a p : Addr} {n : Nat} {H : Hp} (h : Box a n H) (hp : H p = none) : p ≠ a := by
  obtain ⟨x, y, z, e, _⟩ := h
  exact (ne_of_none e hp).symm
theorem Box.ne_tup {a p : Addr} {n : Nat} {H : Hp} {xs : List V} (h : Box a n H) (hp : H p = some (.tup xs)) : p ≠ a := by
  obtain ⟨x, y, z, e, _⟩ := h
  exact fun q => by rw [q, e] at hp; cases hp
def spCell (K : PySem.W.Frag) : Sp := fun vs H Q _ => ∃ (a : Addr) (ns : List Int) (k : Nat), vs = [.ref a, .int k] ∧ SqL K H a (ns.map V.int) ∧ k ≤ 100000 ∧ ∀ c, Q (.int c) H
def spBox : Sp := fun vs H Q _ => ∃ c : Int, vs = [.int c] ∧ ∀ p H', H p = none → Same H H' → Box p 0 H' → Q (.ref p) H'
def spTake : Sp := fun vs H Q _ => ∃ (a : Addr) (n : Nat) (size : Int), vs = [.ref a, .int size] ∧ Box a n H ∧ n < 1000000 ∧ 0 < size ∧ size < 2 ^ 128 ∧
  ∀ d H', 0 ≤ d → d < size → Box a (n + 1) H' → But a H H' → Q (.int d) H'
theorem cdiv {i j : Int} (h : 0 < j) (h2 : j < 2 ^ 128) : CDivW i j := wide_div (b := 128) h (by omega) (by decide) (by decide)
theorem cmul {i j : Int} (h1 : -(2 ^ 128) < i) (h2 : i < 2 ^ 128) (h3 : -(2 ^ 128) < j) (h4 : j < 2 ^ 128) : CMulW i j := wide_mul (a := 128) (b := 128) (by omega) (by omega) (by decide) (by decide) (by decide)
theorem at_map {ns : List Int} {k : Nat} (h : k < ns.length) : atI (ns.map V.int) ((k : Nat) : Int) = some (.int ns[k]) := atI_nat (by rw [List.getElem?_map, List.getElem?_eq_getElem h]; rfl)
end Bk

namespace Bk
open PySem PySem.Spec PyProof.Rows L2
theorem sameBut {H H' : Hp} {D : Addr} {o : HO} (h : Same H H') (n : H D = none) : Same H (upd H' D o) := fun b u e => by
  rw [upd_ne (ne_of_none e n)]
  exact h b u e
/-! ## 6. a comprehension over a text's signs, all of it -/
section
variable {K : PySem.W.Frag} {σ : L2.St} {H : Hp} {Q : VK} {te : TE}
/-- the list of p of each sign -/
theorem r_lcStr {i0 j : Nat} {vs : List Nat} {z : Str} (p : Nat → V) (hv : σ[i0]? = some (some (.str z))) (hz : z.length ≤ 100000)
    (hw : ∀ x, wipe ((wipe σ vs).set j (some x)) vs = wipe σ vs)
    (ht : ∀ (c : Nat) (H' : Hp) (Q' : VK), c ∈ z.cps.toList → Same H H' → (∀ H2, Same H' H2 → Q' (p c) H2) → te ((wipe σ vs).set j (some (.str ⟨#[c]⟩))) H' Q')
    (q : ∀ D H', H D = none → Same H H' → H' D = some (.lst (z.cps.toList.map p)) → Q (.ref D) H') :
    tLc (iStr (tVar i0)) (gName j) tYes te vs σ H Q := by
  refine ⟨_, hv, z, rfl, fun D hD => ?_⟩
  refine lc_it (n := z.cps.size) walk_str (fun i H' => Same H H' ∧ H' D = some (.lst ((z.cps.toList.take i).map p))) ⟨same_upd hD, by rw [upd_same]; rfl⟩ (fun _ _ _ _ => trivial) ?_ ?_
  · rintro i x H1 H2 hi ⟨sm, e⟩ ⟨rfl, c, hc, rfl⟩
    have hc' : z.cps.toList[i]? = some c := by rw [Array.getElem?_toList]; exact hc
    refine ⟨hw _, ?_⟩
    show te _ _ _
    refine ht c _ _ (List.mem_of_getElem? hc') sm fun H3 s3 => ⟨_, s3 _ _ e, ?_, sameBut (sm.trans s3) hD, ?_⟩
    · have l : ((z.cps.toList.take i).map p).length ≤ z.cps.size := by
        rw [List.length_map, List.length_take, Array.length_toList]
        omega
      have hz' : z.cps.size ≤ 100000 := hz
      exact Nat.lt_of_le_of_lt (Nat.le_trans l hz') (by decide)
    · rw [upd_same, List.take_add_one, hc', List.map_append]
      rfl
  · rintro H1 ⟨sm, e⟩
    refine q D H1 hD sm ?_
    rw [e]
    have l : z.cps.size = z.cps.toList.length := (Array.length_toList).symm
    rw [l, List.take_length]
/-- all([p(sign) for sign in text]) -/
theorem r_allStr {i0 j : Nat} {vs : List Nat} {z : Str} (p : Nat → Bool) (hv : σ[i0]? = some (some (.str z))) (hz : z.length ≤ 100000)
    (hw : ∀ x, wipe ((wipe σ vs).set j (some x)) vs = wipe σ vs)
    (ht : ∀ (c : Nat) (H' : Hp) (Q' : VK), c ∈ z.cps.toList → Same H H' → (∀ H2, Same H' H2 → Q' (.bl (p c)) H2) → te ((wipe σ vs).set j (some (.str ⟨#[c]⟩))) H' Q')
    (q : ∀ H', Same H H' → Q (.bl (z.cps.toList.all p)) H') :
    tCB (rAll K) (tCons (tLc (iStr (tVar i0)) (gName j) tYes te vs) tNil) σ H Q := by
  refine r_cb (r_cons ?_)
  refine r_lcStr (fun c => .bl (p c)) hv hz hw ht fun D H' nD sm e => ?_
  refine r_nil ⟨D, z.cps.toList.map p, rfl, sqL ?_, ?_⟩
  · rw [e, List.map_map]
    rfl
  · rw [List.all_map]
    exact q H' sm
end
/-! ## 7. draws, items, slices -/
section
variable {K : PySem.W.Frag} {σ : L2.St} {H : Hp} {Q : VK} {E : XK} {te : TE} {tl th : TO} {QO : Option Int → Hp → Prop}
theorem r_take {a : Addr} {n : Nat} {size : Int} (hB : Box a n H) (q : ∀ d H', 0 ≤ d → d < size → Box a (n + 1) H' → But a H H' → Q (.int d) H') (hn : n < 1000000 := by omega) (h0 : 0 < size := by decide) (h1 : size < 2 ^ 128 := by decide) : spTake [.ref a, .int size] H Q E :=
  ⟨a, n, size, rfl, hB, hn, h0, h1, q⟩
theorem r_ixS {z : Str} {d : Int} (h0 : 0 ≤ d) (h1 : d < (z.cps.toList.length : Int)) (hz : z.length ≤ 100000) (q : ∀ c, z.cps.toList[d.toNat]? = some c → Q (.str ⟨#[c]⟩) H) : rIxS (.str z) (.int d) H Q := by
  have l : d.toNat < z.cps.toList.length := by omega
  obtain ⟨c, hc⟩ : ∃ c, z.cps.toList[d.toNat]? = some c := ⟨_, List.getElem?_eq_getElem l⟩
  refine ⟨z, d, c, rfl, rfl, Nat.le_trans hz (by decide), ?_, q c hc⟩
  have e : d = ((d.toNat : Nat) : Int) := by omega
  rw [e]
  exact atI_nat hc
theorem r_ixLo {p : Addr} {xs : List V} {d : Int} (h : SqL K H p xs) (h0 : 0 ≤ d) (h1 : d < (xs.length : Int)) (q : ∀ v, v ∈ xs → xs[d.toNat]? = some v → Q v H) : rIxL K (.ref p) (.int d) H Q := by
  have l : d.toNat < xs.length := by omega
  obtain ⟨v, hv⟩ : ∃ v, xs[d.toNat]? = some v := ⟨_, List.getElem?_eq_getElem l⟩
  refine r_ixL h (v := v) ?_ (q v (List.mem_of_getElem? hv) hv)
  have e : d = ((d.toNat : Nat) : Int) := by omega
  rw [e]
  exact atI_nat hv
theorem r_sl {r : V → Option Int → Option Int → Hp → VK → Prop} (q : te σ H fun x H1 => tl σ H1 fun l H2 => th σ H2 fun u H3 => r x l u H3 Q) : tSl r te tl th σ H Q := q
theorem r_noPart (q : QO none H) : tNoPart σ H QO := q
theorem r_part (q : te σ H fun x H1 => ∃ i, x = .int i ∧ QO (some i) H1) : tPart te σ H QO := q
theorem r_isi {i : Int} {A : Int → Prop} (q : A i) : ∃ i', V.int i = .int i' ∧ A i' := ⟨i, rfl, q⟩
theorem r_slS {z : Str} {lo hi : Option Int} (hz : z.length ≤ 100000) (q : ∀ y : Str, y.length ≤ z.length → Q (.str y) H) : rSlS (.str z) lo hi H Q := ⟨z, rfl, Nat.le_trans hz (by decide), q _ (cutS_length z lo hi)⟩
end
theorem r_cut {a b : TS} {D : Ends} {σ : L2.St} {H : Hp} (Mid : L2.St → Hp → Prop) (h1 : a { D with nx := Mid } σ H) (h2 : ∀ σ' H', Mid σ' H' → b D σ' H') : C8.tCut a b D σ H := ⟨Mid, h1, h2⟩
theorem str_len_add (x y : Str) : (x ++ y).length = x.length + y.length := by
  have h : ∀ z : Str, z.length = z.cps.toList.length := fun z => (Array.length_toList).symm
  rw [h, h, h]; show (TL.tl (x ++ y)).length = _; rw [TL.tl_append]
  exact List.length_append
theorem lt1 {c d : Nat} : decide ([c] < [d]) = decide (c < d) := by
  by_cases h : c < d
  · rw [decide_eq_true h]
    exact decide_eq_true (List.Lex.rel h)
  · rw [decide_eq_false h]
    refine decide_eq_false fun z => ?_
    cases z with
    | rel q => exact h q
    | cons q => cases q
theorem sign_tl {c : Nat} : (⟨#[c]⟩ : Str).cps.toList = [c] := rfl
/-- a text begins with this sign -/
theorem starts1 (z : Str) (c : Nat) : Txt.startswith z ⟨#[c]⟩ = decide (z.cps.toList[0]? = some c) := by
  have h := PySem.StrLaws.subAt_one z c 0
  unfold Txt.startswith
  by_cases e : z.cps.toList[0]? = some c
  · obtain ⟨h1, h2⟩ := h.mpr e
    rw [decide_eq_true e, h2, decide_eq_true h1]
    rfl
  · rw [decide_eq_false e]
    by_cases h1 : 0 + (⟨#[c]⟩ : Str).length ≤ z.length
    · rw [decide_eq_true h1, Bool.true_and]
      exact Bool.eq_false_iff.mpr fun h2 => e (h.mp ⟨h1, h2⟩)
    · rw [decide_eq_false h1]
      rfl
end Bk

namespace Bk
open PySem PySem.Spec PyProof.Rows L2
/-! ## 9. defs that are run where no text is being told of a thing -/
structure FnG (P : Program) (w : World) (K : PySem.W.Frag) (mg : Str → Option Value) (base : Heap) (CX : CXT) (k : Nat) (f : Addr) (fd : FuncData) (ps : List Str) (sp : Sp) : Prop where
  len : ∀ vs H Q E, sp vs H Q E → vs.length = ps.length
  go : ∀ (A : Around) (ou : List Env) (s : Shared) (H : Hp) (ar : Args) (us : List Value) (vs : List V) (Q : VK) (E : XK), A.guards = some [] → Room k A → Env0 P w K mg base A ou s H → BindsTo s fd ar (ps.zip us) → Vals vs us → sp vs H Q E →
    codeAny (model P w) A (.call (.ref f) ar) (CR CX ou P w H s Q E) s
section
variable {P : Program} {w : World} {K : PySem.W.Frag} {mg : Str → Option Value} {base : Heap} {CX : CXT} {j k : Nat} {f : Addr} {fd : FuncData} {N ps : List Str} {sp : Sp} {x qual : Str} {st : Stmt}
theorem FnG.of (F : FnOk P w K mg base CX k f fd ps sp) : FnG P w K mg base CX k f fd ps sp := ⟨F.len, fun A ou s H ar us vs Q E _ => F.run A ou s H ar us vs Q E⟩
theorem FnG.up (F : FnG P w K mg base CX j f fd ps sp) (h : j ≤ k) : FnG P w K mg base CX k f fd ps sp := ⟨F.len, fun A ou s H ar us vs Q E g hr => F.go A ou s H ar us vs Q E g (hr.mono h)⟩
/-- by its body -/
theorem fun_okG (F : Fun K x qual st f fd) (S : FnScope N ps (defScope st)) (len : ∀ vs H Q E, sp vs H Q E → vs.length = ps.length)
    (hbody : ∀ (cdv : Value) (A : Around) (ou : List Env) (s : Shared) (H : Hp) (vs : List V) (Q : VK) (E : XK), (A.deeper (envOfC qual (defScope st) s.heap.objs.size f cdv)).guards = some [] → Room k (A.deeper (envOfC qual (defScope st) s.heap.objs.size f cdv)) → sp vs H Q E →
      ∃ t, PSs (cxOf CX0 P w K mg base N qual (defScope st) f cdv A ou s H E).nox (defBody st) t ∧ t { nx := fun _ H' => Q .non H', rt := Q } (start N vs) H) : FnG P w K mg base CX0 (k + 1) f fd ps sp := by
  obtain ⟨oc, od, kV, doc, pm, an, cdv, ct, osl, rfl, lk, hcd⟩ := F.ex
  refine ⟨len, fun A ou s H ar us vs Q E hg hr e0 hb rv hsp => ?_⟩
  have KX : K.In s.heap := e0.mod.kin.keeps fun b o z => (e0.bs b o z).1
  refine Att.call_fn KX (e0.mod.nolimit.keeps fun b o z => (e0.bs b o z).1) lk hcd hr.depth hb ?_ (fun s1 x1 => ?_) S.co S.gen S.kind
  · rw [List.all_eq_true]
    rintro ⟨n, v⟩ hy
    rcases S.par n (List.of_mem_zip hy).1 with q | q <;> simp [q]
  · obtain ⟨t, ht, hq⟩ := hbody cdv A ou s H vs Q E hg (hr.deeper _) hsp
    have I := inv_start (CX := CX0) (E := E) S hr.hd e0 (len _ _ _ _ hsp) rv x1
    refine wpAny_mono (ht.nox.run [] s1 (start N vs) H _ I hq) (fun fl s2 z => ?_) fun _ _ z => z
    cases fl with
    | ret u => exact let ⟨v, _, H2, J, r2, q2⟩ := z; ⟨v, H2, J.os, J.bare, J.base, J.hok, r2, q2⟩
    | next => exact let ⟨_, H2, J, q2⟩ := z; ⟨.non, H2, J.os, J.bare, J.base, J.hok, rfl, q2⟩
    | brk => exact (let ⟨_, _, _, q2⟩ := z; q2 : False).elim
    | cont => exact (let ⟨_, _, _, q2⟩ := z; q2 : False).elim
end
structure CalG (P : Program) (w : World) (K : PySem.W.Frag) (mg : Str → Option Value) (base : Heap) (CX : CXT) (k : Nat) (x : Str) (sp : Sp) : Prop where
  ex : ∃ (f : Addr) (fd : FuncData) (ps : List Str), mg x = some (.ref f) ∧ PySem.W.keepIn K (.ref f) = true ∧ FnG P w K mg base CX k f fd ps sp ∧ Binds K fd ps []
theorem CalG.mk' {P : Program} {w : World} {K : PySem.W.Frag} {mg : Str → Option Value} {base : Heap} {CX : CXT} {k : Nat} {x : Str} {sp : Sp} {f : Addr} {fd : FuncData} {ps : List Str} (g : mg x = some (.ref f)) (kp : PySem.W.keepIn K (.ref f) = true) (F : FnG P w K mg base CX k f fd ps sp) (b : Binds K fd ps []) :
    CalG P w K mg base CX k x sp := ⟨f, fd, ps, g, kp, F, b⟩
section
variable {X : Cx} {k j : Nat} {sp : Sp} {x : Str} {p pos : Pos} {e : Expr} {es : List Expr} {t : TA}
theorem pe_calG (c : CalG X.prog X.w X.K X.mg X.base CX0 k x sp) (ga : X.A.guards = some []) (hr : Room j X.A) (hk : k ≤ j) (hg : Gl X x) (ha : PA X (e :: es) t)
    (hdb : (x == ("__debug__" : Str)) = false := by decide) (he : starEach (e :: es) X.env = (false, eval e X.env) :: starEach es X.env := by rfl) (hpl : (backTo pos (starEach es X.env)).any (·.1) = false := by rfl) :
    PE X (.Call (.Name x p) (e :: es) [] pos) (tCall sp [] E0 t) := by
  obtain ⟨f, fd, ps, h1, h2, h3, h4⟩ := c.ex
  refine ⟨fun pins s σ H Q I h => wpAny_Call_Name_kw (ld_glob I hg h1 (PySem.W.callWith_K (h₀ := X.base) I.ok.mod.kin h2 (thn (ha.run pos pins s σ H _ I h) fun us s1 ⟨vs, H1, I1, r, q⟩ => ⟨I1.kIn, ?_⟩) he hpl) hdb)⟩
  have q' : sp vs H1 Q E0 := by have z : sp (vs ++ []) H1 Q E0 := q; rw [List.append_nil] at z; exact z
  have b := h4 s1 us I1.kIn (by rw [List.append_nil, ← r.length]; exact h3.len _ _ _ _ q')
  rw [List.append_nil] at b
  refine wpAny_call (codeAny_mono (h3.go X.A X.stack s1 H1 ⟨us, []⟩ us vs Q E0 ga (hr.mono hk) I1.env0 b r q') fun rr s2 z => ?_)
  match rr, z with
  | .ok (.ret _), z => exact I1.after z
end
/-! ### the head -/
section
variable {P : Program} {w : World} {K : PySem.W.Frag} {mg mb : Str → Option Value} {s : Shared} {a : Addr} {vs : List Value} {ns : List Int} {H : Hp}
theorem lawG_core {k : Nat} {fa : Addr} {fd : FuncData} {x : Str} {sp : Sp} (KX : K.In s.heap) (hns : s.heap.Ns mainGlobals mg) (hb : s.heap.Ns builtinsNs mb) (hbb : ∀ x : Str, x ≠ "__name__" → mb x = bootBuiltins x) (hlim : s.heap.NoLimit) (hg : s.gens = #[])
    (ha : s.heap.get? a = some { cls := .type "list", data := .seq vs.toArray }) (hr : Room k callerA)
    (F : ∀ base : Heap, K.In base → base.Ns mainGlobals mg → FnG P w K mg base CX0 k fa fd [x] sp) (hbind : ∀ (s : Shared) (u : Value), BindsTo s fd ⟨[u], []⟩ [(x, u)])
    (hO : Only H) (hq : sp [.ref a] H (fun v _ => v = .bl true) fun _ _ _ => False) (ok : HOk P w H s.heap) (hA : ∀ b, H b ≠ none → b = a ∧ K.lookup a = none) :
    codeAny (model P w) callerA (.call (.ref fa) ⟨[.ref a], []⟩) (fun r s' => r = .ok (.ret (.bool true)) ∧ OldK s.heap s'.heap ∧ s'.os = s.os ∧ AllBare s'.gens) s := by
  have un : ∀ {b : Addr} {o : Obj}, s.heap.get? b = some o → (b = a → K.lookup a ≠ none ∨ ∃ es ep, o.data = .dict es ep) → (hidT s.heap H).get? b = some o := fun {b o} e n => hidT_get e (by
    apply Classical.byContradiction
    intro z
    obtain ⟨rfl, kn⟩ := hA b z
    rcases n rfl with q | ⟨es, ep, q⟩
    · exact q kn
    · rw [ha] at e
      cases e
      exact nomatch q)
  have nsK : ∀ {b : Addr} {m : Str → Option Value}, s.heap.Ns b m → (hidT s.heap H).Ns b m := fun ⟨o, es, ep, e, d, r⟩ => ⟨o, es, ep, un e fun _ => .inr ⟨es, ep, d⟩, d, r⟩
  have hKb : K.In (hidT s.heap H) := fun b o e => un (KX b o e) fun z => .inl (by rw [← z, e]; exact Option.some_ne_none o)
  have e0 : Env0 P w K mg (hidT s.heap H) callerA [] s H := ⟨rfl, ⟨hKb, nsK hns, ⟨mb, nsK hb, hbb⟩, hlim.elim fun mc z => ⟨mc, nsK z.1, z.2⟩⟩, fun b o z => of_hidT z, Nat.le_of_eq (hidT_size _ _), trivial, fun _ z => absurd z List.not_mem_nil, ok, .of_eq hg⟩
  refine codeAny_mono ((F _ hKb (nsK hns)).go callerA [] s H ⟨[.ref a], []⟩ [.ref a] [.ref a] _ _ rfl hr e0 (hbind s (.ref a)) (.cons rfl .nil) hq) fun r s' h => ?_
  match r, h with
  | .ok (.ret u), h =>
    obtain ⟨v, H2, os, bare, un2, ok2, rv, q2⟩ := h
    obtain rfl : v = .bl true := q2
    obtain rfl : u = Value.bool true := rv
    refine ⟨rfl, OldK.of_keep fun b o e => ?_, os, bare⟩
    rcases hO b with z | ⟨ob, xs, z⟩
    · exact un2.keep b o e z List.not_mem_nil List.not_mem_nil
    · have o1 := (ok b _ z).1
      have o2 := (ok2 b _ (un2.frzs b ob _ z)).1
      rw [e] at o1
      rw [o1]
      exact o2
theorem lawG {k : Nat} {fa : Addr} {fd : FuncData} {x : Str} {sp : Sp} (KX : K.In s.heap) (hns : s.heap.Ns mainGlobals mg) (hb : s.heap.Ns builtinsNs mb) (hbb : ∀ x : Str, x ≠ "__name__" → mb x = bootBuiltins x) (hlim : s.heap.NoLimit) (hg : s.gens = #[])
    (ha : s.heap.get? a = some { cls := .type "list", data := .seq vs.toArray }) (hi : IntsAre vs ns) (hl : ns.length ≤ sizeLine) (hr : Room k callerA)
    (F : ∀ base : Heap, K.In base → base.Ns mainGlobals mg → FnG P w K mg base CX0 k fa fd [x] sp) (hbind : ∀ (s : Shared) (u : Value), BindsTo s fd ⟨[u], []⟩ [(x, u)])
    (hsp : ∀ H : Hp, Only H → SqL K H a (ns.map V.int) → sp [.ref a] H (fun v _ => v = .bl true) fun _ _ _ => False) :
    codeAny (model P w) callerA (.call (.ref fa) ⟨[.ref a], []⟩) (fun r s' => r = .ok (.ret (.bool true)) ∧ OldK s.heap s'.heap ∧ s'.os = s.os ∧ AllBare s'.gens) s := by
  have rv := vals_ints hi
  cases hk : K.lookup a with
  | some o =>
    have e := KX a o hk
    rw [ha] at e
    cases e
    exact lawG_core KX hns hb hbb hlim hg ha hr F hbind (fun _ => .inl rfl) (hsp (fun _ => none) (fun _ => .inl rfl) (.inr ⟨_, vs.toArray, _, hk, rfl, rfl, rfl, by rw [List.size_toArray, hi.length]; exact hl, rv⟩)) (fun b u z => nomatch z) fun b z => absurd rfl z
  | none =>
    have ke : (fun b => if b = a then some (HO.frz { cls := .type "list", data := .seq vs.toArray } (.lst (ns.map V.int))) else none) a = some (HO.frz { cls := .type "list", data := .seq vs.toArray } (.lst (ns.map V.int))) := if_pos rfl
    have only : ∀ b, (fun b => if b = a then some (HO.frz { cls := .type "list", data := .seq vs.toArray } (.lst (ns.map V.int))) else none) b ≠ none → b = a := fun b z => Classical.byContradiction fun n => z (if_neg n)
    have hO : Only (fun b => if b = a then some (HO.frz { cls := .type "list", data := .seq vs.toArray } (.lst (ns.map V.int))) else none) := fun b => by
      by_cases q : b = a
      · exact .inr ⟨_, _, if_pos q⟩
      · exact .inl (if_neg q)
    refine lawG_core KX hns hb hbb hlim hg ha hr F hbind hO (hsp _ hO (.inl (.inr ⟨_, ke⟩))) (fun b u z => ?_) fun b z => ⟨only b z, hk⟩
    obtain rfl := only b fun y => nomatch z.symm.trans y
    have z2 := ke.symm.trans z
    cases z2
    exact ⟨ha, by rw [List.length_map]; exact hl, vs, _, rv, ha⟩
end
theorem walk_ofG {l : PySem.W.OpenLaw} {n k : Nat} {q : Program} {loose : List Str} {XP : (Str → Option Value) → Heap → Prop} {YP : World → Heap → Prop} {d : DefRec} {K : Params → PySem.W.Frag} {sp : World → Sp} {x : Str}
    (hn : l.most = some n) (hn2 : n ≤ sizeLine) (hdf : d.params.defaults = []) (hr : Room k callerA) (hY : ∀ (w : World) (h : Heap), YP w h → (K w.params).In h)
    (F : ∀ (w : World) (mg : Str → Option Value) (fa : Addr) (h : Heap), (K w.params).In h → h.Ns mainGlobals mg → mg d.name = some (.ref fa) →
      ∃ fd : FuncData, (∀ (s : Shared) (u : Value), BindsTo s fd ⟨[u], []⟩ [(x, u)]) ∧ ∀ base : Heap, (K w.params).In base → base.Ns mainGlobals mg → FnG l.prog w (K w.params) mg base CX0 k fa fd [x] (sp w))
    (hsp : ∀ (w : World) (H : Hp) (a : Addr) (ns : List Int), ns.length ≤ n → Only H → SqL (K w.params) H a (ns.map V.int) → sp w [.ref a] H (fun v _ => v = .bl true) fun _ _ _ => False) :
    PySem.W.WalkO q loose XP YP l.row.toRowW d [] (fun f vs => PySem.call f vs) :=
  Att.attach_call hn hdf fun w s₀ s₁ mg mb fa o pm cd doc a vs ns G Y ho hd hcd hmg hobj hints hlen hg => by
    obtain ⟨fd, hb, hF⟩ := F w mg fa _ (hY w _ Y) G.T.g hmg
    exact lawG (hY w _ Y) G.T.g G.T.b G.T.builtins G.T.nolimit hg hobj hints (Nat.le_trans hlen hn2) hr hF hb fun H hO hS => hsp w H a ns hlen hO hS
/-! ## 10. a thing's text -/
mutual
theorem dp_flat {K : PySem.W.Frag} {H : Hp} : ∀ (d : PyData) (v : V), Dp K H v d → d.hasDict = false
  | .none, _, _ => by simp only [PyData.hasDict]
  | .bool _, _, _ => by simp only [PyData.hasDict]
  | .int _, _, _ => by simp only [PyData.hasDict]
  | .str _, _, _ => by simp only [PyData.hasDict]
  | .list ds, _, h => by
    cases h with
    | lst _ ha => simpa only [PyData.hasDict] using dp_flatAll ds _ ha
  | .tuple ds, _, h => by
    cases h with
    | tup _ ha => simpa only [PyData.hasDict] using dp_flatAll ds _ ha
  | .dict _, _, h => by cases h
theorem dp_flatAll {K : PySem.W.Frag} {H : Hp} : ∀ (ds : List PyData) (vs : List V), DpAll K H vs ds → PyData.hasDictAll ds = false
  | [], _, _ => by simp only [PyData.hasDictAll]
  | d :: ds, _, h => by
    cases h with
    | cons h1 h2 => simp only [PyData.hasDictAll, dp_flat d _ h1, dp_flatAll ds _ h2, Bool.or_false]
end
/-- z is how repr tells v -/
def Shw (K : PySem.W.Frag) (H : Hp) (v : V) (z : Str) : Prop := (∃ d, Dp K H v d ∧ d.showable = true ∧ d.shown.length ≤ sizeLine ∧ d.depth ≤ 60 ∧ z = d.shown) ∨ ∃ a, v = .ref a ∧ H a = some (.dK []) ∧ z = "{}"
section
variable {X : Cx} {j : Nat}
theorem call_repr_shw (ga : X.A.guards = some []) (hr : Room j X.A) : CallR X (.builtin "repr") (fun xs H Q => ∃ v z, xs = [v] ∧ Shw X.K H v z ∧ Q (.str z) H) := by
  intro pins s σ H xs us Q I r h
  obtain ⟨v, z, rfl, hs, q⟩ := h
  obtain ⟨u, rfl, rv⟩ := vals1 r
  have hu := hr.units
  rcases hs with ⟨d, hd, h1, h2, h3, rfl⟩ | ⟨a, rfl, ha, rfl⟩
  · have fin : ∀ {x : Str} {t : Nat}, x = d.shown → EP X pins σ Q (.str x s.toks) { s with toks := t } := fun {x t} e => ⟨.str _, H, I.tok _, ⟨_, rfl⟩, by rw [e]; exact q⟩
    have ref : ∀ {a : Addr}, v = .ref a → wpAny (model X.prog X.w) X.A (call (.builtin "repr") [u]) (EP X pins σ Q) X.xe s := fun {a} e => by
      subst e
      obtain rfl : u = Value.ref a := rv
      obtain ⟨as, rd⟩ := Dp.reads I d (.ref a) _ hd rfl
      exact repr_of_reads' rd h1 (PyData.noDict_hsm (dp_flat d _ hd)) ga (by omega) (fun _ _ e => e) (fun h' u tk hk => ⟨.str _, H, I.kept hk, ⟨_, rfl⟩, q⟩) h2
    cases hd with
    | non =>
      cases rv
      exact PySem.P.repr_of_none (fin (by simp only [PyData.shown]))
    | bl b =>
      cases rv
      exact PySem.P.repr_of_bool (fin (by simp only [PyData.shown]))
    | int i =>
      obtain ⟨t, rfl⟩ := rv
      exact PySem.P.repr_of_int (by simpa only [PyData.showable, decide_eq_true_eq] using h1) (fin (by simp only [PyData.shown]))
    | str x =>
      obtain ⟨t, rfl⟩ := rv
      exact PySem.P.repr_of_str (fin (by simp only [PyData.shown])) (by simpa only [PyData.shown] using h2)
    | lst _ _ => exact ref rfl
    | tup _ _ => exact ref rfl
  · obtain rfl : u = Value.ref a := rv
    obtain ⟨_, hm, vs, kv, o, es, ep, ho, hx, hde, _, pr, _⟩ := I.hok a _ ha
    cases kv
    have e0 : es.toList = [] := by
      have z := pr
      generalize es.toList = l at z
      cases z
      rfl
    have hc : o.cls = .type "dict" := hx.1
    have rd : Reads s.heap (.ref a) (.dict []) [a] := by
      have z : Reads s.heap (.ref a) (.dict []) (a :: [] ++ []) := .dict ho hc hde (by rw [e0]; exact .nil) (by rw [e0]; exact .nil)
      exact z
    have nm : sysModules ∉ [a] := fun z => by
      rw [List.mem_singleton.mp z] at hm
      exact absurd hm (by simp)
    have dp : (PyData.dict []).depth = 1 := by simp [PyData.depth, PyData.depthKv]
    have tx : (PyData.dict []).shown = ("{}" : Str) := by simp [PyData.shown, PyData.shownKv]; rfl
    refine repr_of_reads' rd (by simp only [PyData.showable, PyData.showableKv]) (fun _ => nm) ga (by rw [dp]; omega) (fun _ _ e => e) (fun h' u tk hk => ⟨.str _, H, I.kept hk, ⟨_, rfl⟩, ?_⟩) ?_
    · rw [tx]
      exact q
    · rw [tx]
      decide
end
end Bk

namespace Bk
open PySem PySem.Spec PyProof.Rows L2
/-! ## 11. try: .. except A as e: .. except B as e: .. , what none of them takes does not come -/
abbrev ClA := Value × Nat × (Addr → Value → Option Addr → TS)
def offI (i : Nat) (D : Ends) : Ends := { nx := fun τ G => D.nx (τ.set i none) G, rt := D.rt, bk := fun τ G => D.bk (τ.set i none) G, ct := fun τ G => D.ct (τ.set i none) G }
def wAM (K : PySem.W.Frag) (D : Ends) : List ClA → WX
  | [] => fun _ _ _ _ => False
  | q :: l => fun cls d τ G => ∃ b, PySem.W.exmOne K cls q.1 = some b ∧ (b = true → ∀ a, G a = none → q.2.2 a cls d (offI q.2.1 D) (τ.set q.2.1 (some (.ref a))) G) ∧ (b = false → wAM K D l cls d τ G)
inductive HdA (X : Cx) : List ExceptHandler → List ClA → Prop
  | stop {hds : List ExceptHandler} : HdA X hds []
  | more {x n : Str} {c : Value} {i : Nat} {ts : Addr → Value → Option Addr → TS} {b : Stmt} {bs : List Stmt} {p1 p2 : Pos} {hds : List ExceptHandler} {l : List ClA} (nm : Names X x c) (hi : X.N[i]? = some n) (hn : X.env.kindOf n = some .local)
      (su : ∀ (a : Addr) (oe : Obj) (cls : Value) (d : Option Addr) (pn : List (Addr × Obj)), Zc cls d oe → (∃ vs, oe.data = .fields vs) → PSs (X.suite a ((a, oe) :: pn)) (b :: bs) (ts a cls d)) (r : HdA X hds l) :
      HdA X (.ExceptHandler (some (.Name x p1)) (some n) (b :: bs) p2 :: hds) ((c, i, ts) :: l)
section
variable {X : Cx} {body : List Stmt} {h₀ : ExceptHandler} {hds : List ExceptHandler} {l : List ClA} {pos : Pos} {tb : WX → TS}
theorem ps_try_asM (st : X.stack = X.env :: X.outer) (fr : X.env.frame = some X.env.locals) (nd : X.N.Nodup)
    (hb : ∀ (W : WX) (pn : List (Addr × Obj)) (xe : Value → Shared → Prop), Takes (X.tr pn xe) W → PassesOwn (model X.prog X.w) X.A X.env xe → PSs (X.tr pn xe) body (tb W))
    (hh : HdA X (h₀ :: hds) l) : PS X (.Try body (h₀ :: hds) [] [] pos) (fun D τ G => tb (wAM X.K D l) D τ G) := by
  refine ⟨fun pins s τ G D I hq => wpAny_Try_except ?_⟩
  have ok := I.ok
  refine wpAny_mono ((hb (wAM X.K D l) (X.pn ++ pins) _ (fun u s2 z => ?_) PassesOwn.looking).run [] s τ G D (I.toTry _) hq) (fun fl s2 z => ?_) (fun _ _ z => z)
  · -- what came out of the body
    obtain ⟨a, B, sI, pins2, τ2, G2, cls, d, rfl, J2, nb, up, sky, na, os, ag, w⟩ := z
    have J : Inv X pins τ2 G2 sI := J2.ofTry ok
    refine Sky.land Zc.steady (show X.A.frames = some (X.env :: X.outer) by rw [ok.frames, st]) fr (by rw [← st]; exact sky) fun h3 fl3 up3 => ?_
    obtain ⟨o3, v3, g3, z3, d3⟩ := fl3.there
    have J3 : Inv X pins τ2 G2 { s2 with heap := h3 } := J.landed nb fl3.1 (up.trans up3) os ag
    have out : a ∉ frs (X.env :: X.outer) := fun m => by
      obtain ⟨_, o4, g4, n4⟩ := fl3.2.2.1.mem m
      rw [g3] at g4
      cases g4
      exact n4 _ d3
    have aL : a ≠ X.env.locals := fun e => out (List.mem_filterMap.mpr ⟨X.env, List.mem_cons_self, by rw [fr, e]⟩)
    have aF : a ∉ X.fs := fun m => by
      obtain ⟨e, me, q⟩ := List.mem_filterMap.mp m
      exact out (List.mem_filterMap.mpr ⟨e, List.mem_cons_of_mem _ me, q⟩)
    have S3 := J3.suite g3 d3 na aL aF
    have all : ∀ {hs : List ExceptHandler} {k : List ClA}, HdA X hs k → wAM X.K D k cls d τ2 G2 → wpAny (model X.prog X.w) X.A (handleBy (.ref a) X.env hs) (SP X pins D) X.xe { s2 with heap := h3 } := by
      intro hs k hk
      induction hk with
      | stop => exact fun z => z.elim
      | @more x n c i ts b bs p1 p2 hs2 k2 nm hi hn su r ih =>
        rintro ⟨yes, e1, w1, w2⟩
        refine wpAny_handleBy_cons (codeAny_handlers_test ?_) (fun q => nomatch q)
        have T1 : PySem.W.Looks (model X.prog X.w) h3 (typeOf (.ref a)) cls := fun A Q E s k q => wpAny_typeOf_ref (k _ _ g3) (by rw [z3.1]; exact q)
        have T2 := PySem.W.exm_one (M := model X.prog X.w) J3.kIn T1 e1
        have ask : ∀ {Q : Value → Shared → Prop} {E : Value → Shared → Prop}, Q c { s2 with heap := h3 } → wpAny (model X.prog X.w) (X.A.mark (some (.ref a))) (eval (.Name x p1) X.env) Q E { s2 with heap := h3 } := fun {Q E} q => by
          obtain ⟨g1, g2, m1 | ⟨m1, m2, m3⟩⟩ := nm
          · exact ld_glob (X := X.suite a ((a, o3) :: (X.pn ++ pins))) S3 g1 m1 q g2
          · exact ld_blt (X := X.suite a ((a, o3) :: (X.pn ++ pins))) S3 g1 m1 m2 q m3 g2
        refine ask (T2.here ?_)
        match yes, w1, w2 with
        | false, w1, w2 => exact ih (w2 rfl)
        | true, w1, w2 =>
          refine codeAny_handlers_suite_as (HandSPX.lands_againZ fl3 fun h4 fl4 up4 => ?_)
          obtain ⟨o4, v4, g4, z4, d4⟩ := fl4.there
          have S4 := (J.landed nb fl4.1 ((up.trans up3).trans up4) os ag : Inv X pins τ2 G2 { s2 with heap := h4 }).suite g4 d4 na aL aF
          refine store_ok (X := X.suite a ((a, o4) :: (X.pn ++ pins))) (v := .ref a) S4 nd hi (.inl hn) rfl (fun s5 S5 => ?_) (.inr hn)
          refine wpAny_mono ((su a o4 cls d (X.pn ++ pins) z4 ⟨_, d4⟩).run [] s5 _ G2 _ S5 (w1 rfl a na)) (fun fl s6 z6 => ?_) fun _ _ z6 => z6.elim
          have back : ∀ {τ6 : L2.St} {G6 : Hp} {R : Shared → Prop}, Inv (X.suite a ((a, o4) :: (X.pn ++ pins))) [] τ6 G6 s6 → (∀ s7, Inv X pins (τ6.set i none) G6 s7 → R s7) →
              wpAny (model X.prog X.w) X.A (do bindName X.env n .none; unbindBehindTheSuite X.env n p2) (fun _ s7 => R s7) X.xe s6 := fun {τ6 G6 R} S6 f => gone_ok (S6.unsuite ok) nd hi hn f
          match fl, z6 with
          | .next, ⟨_, _, S6, q6⟩ => exact back S6 fun s7 J7 => ⟨_, _, J7, q6⟩
          | .brk, ⟨_, _, S6, q6⟩ => exact back S6 fun s7 J7 => ⟨_, _, J7, q6⟩
          | .cont, ⟨_, _, S6, q6⟩ => exact back S6 fun s7 J7 => ⟨_, _, J7, q6⟩
          | .ret u, ⟨_, _, _, S6, r6, q6⟩ => exact back S6 fun s7 J7 => ⟨_, _, _, J7, r6, q6⟩
    exact all hh w
  · match fl, z with
    | .next, ⟨_, _, J, q⟩ => exact wpAny_execs_nil ⟨_, _, J.ofTry ok, q⟩
    | .brk, ⟨_, _, J, q⟩ => exact ⟨_, _, J.ofTry ok, q⟩
    | .cont, ⟨_, _, J, q⟩ => exact ⟨_, _, J.ofTry ok, q⟩
    | .ret u, ⟨_, _, _, J, r, q⟩ => exact ⟨_, _, _, J.ofTry ok, r, q⟩
end
end Bk

namespace Bk
open PySem PySem.Spec PyProof.Rows L2
/-! ## 12. enumerate of a tuple -/
theorem meets_enum1 {v : Value} {o : Obj} {S : Heap → Prop} (B : Begins v o S) :
    Meets (Builtin.«enumerate.__new__» ⟨[.type "enumerate", v], []⟩) (fun _ R s => S s.heap ∧
      R (.ok (.ret (.ref (s.heap.push o).objs.size))) { s with heap := (s.heap.push o).push { cls := .type "enumerate", data := .fields #[.none, .bool false, .ref s.heap.objs.size, rawInt 0, .none, .none] } }) :=
  .of_wp fun prog w A R s z => by
    obtain ⟨hp, g, d, tk, os⟩ := s
    obtain ⟨z1, z2⟩ := z
    have sub := sub_enumerate
    have it : ∀ {A' : Around} {E : Value → Shared → Prop} {Q : Value → Shared → Prop}, Q (.ref hp.objs.size) ⟨hp.push o, g, d, tk, os⟩ → wpAny (model prog w) A' (pyIter v) Q E ⟨hp, g, d, tk, os⟩ := fun q => B.iter prog w _ _ _ _ z1 q
    wp_walk using it
    refine wpAny_stack_any fun st => wpAny_pure ?_
    split
    · rename_i c _ _ _ _ _
      cases (c == Value.type "enumerate") <;> (wp_walk using it; exact ⟨_, rfl, z2⟩)
    · wp_walk using it
      exact ⟨_, rfl, z2⟩
theorem enum1 {prog : Program} {w : World} {A : Around} {E : Value → Shared → Prop} {s : Shared} {v : Value} {o : Obj} {S : Heap → Prop} {Q : Value → Shared → Prop} (B : Begins v o S) (z : S s.heap)
    (q : ∀ h', IsEnum h' (s.heap.objs.size + 1) s.heap.objs.size 0 .none → h'.get? s.heap.objs.size = some o → h'.objs.size = s.heap.objs.size + 2 → (∀ b u, s.heap.get? b = some u → h'.get? b = some u) → Q (.ref (s.heap.objs.size + 1)) { s with heap := h' }) :
    wpAny (model prog w) A (call (.type "enumerate") [v]) Q E s := by
  refine callType_new F.called_enumerate (by decide) (F.typeCall_enumerate_1 _) (F.newCall_enumerate_1 _) (fun u => F.args_object_init_2 u _) F.entry_enumerate_new (meets_enum1 B) ⟨z, ?_⟩
  have sz : (s.heap.push o).objs.size = s.heap.objs.size + 1 := Heap.size_push ..
  have top := Heap.get?_push_size (s.heap.push o) (o := { cls := .type "enumerate", data := .fields #[.none, .bool false, .ref s.heap.objs.size, rawInt 0, .none, .none] }) rfl
  show _ ∧ _
  rw [sz] at top ⊢
  exact ⟨⟨_, top, rfl⟩, q _ top (Heap.get?_push_of_some _ (Heap.get?_push_size _ B.free)) (by rw [Heap.size_push, sz]) fun b u e => Heap.get?_push_of_some _ (Heap.get?_push_of_some _ e)⟩
/-- the tuple's items in new pairs -/
def Itu (K : PySem.W.Frag) (a : Addr) : It :=
  ⟨fun i H => ∃ (xs : List V) (x : V), SqT K H a xs ∧ xs[i]? = some x, fun i H v H' => ∃ T x, v = .ref T ∧ H T = none ∧ H' = upd H T (.tup [.int (i : Nat), x]) ∧ ∀ xs, SqT K H a xs → xs[i]? = some x, fun i H => ∃ xs : List V, SqT K H a xs ∧ xs.length ≤ i⟩
theorem turn_enumT {P : Program} {w : World} {K : PySem.W.Frag} {elts : List Expr} {kk : Nat} {tpos : Pos} (a e it : Addr) (ai : a ≠ it) (ae : a ≠ e) :
    Turn P w K (.Tuple elts kk tpos) (Itu K a) [e, it] e (fun i h => (∃ old, IsEnum h e it ((i : Nat) : Int) old) ∧ h.IsTupleIter it a i ∧ e ≠ it) where
  mem := List.mem_cons_self
  obj := fun i h st b hb => by
    obtain ⟨⟨old, he⟩, ⟨o, ho, _, hd⟩, _⟩ := st
    rcases List.mem_cons.mp hb with z | z
    · subst z
      exact ⟨_, he, fun v q => nomatch q⟩
    · exact ⟨o, by rw [List.mem_singleton.mp z]; exact ho, fun v q => by rw [hd] at q; exact nomatch q⟩
  keep := fun i h h' st k => ⟨st.1.elim fun old z => ⟨old, k e List.mem_cons_self _ z⟩, st.2.1.at fun o q => k it (List.mem_cons_of_mem _ List.mem_cons_self) o q, st.2.2⟩
  item := by
    intro X hP hw hK hc i pins s σ H E I hf st hg
    subst hP hw hK
    obtain ⟨⟨old, he⟩, hit, ne⟩ := st
    obtain ⟨xs, x, hq, hx⟩ := hg
    obtain ⟨its, rv, p, _⟩ := I.tuple hq
    obtain ⟨u, hu, ru⟩ := rv.get hx
    have e1 := Heap.lt_size he
    have i1 : it < s.heap.objs.size := let ⟨_, q, _⟩ := hit; Heap.lt_size q
    have li : i < its.toArray.size := by
      rw [List.size_toArray]
      exact (List.getElem?_eq_some_iff.mp hu).1
    refine wpAny_pyNext_enum_itemD (Draws.tuple (show X.A.in1.handled = none from I.ok.hd hc) it a ai its.toArray) he ⟨hit, p⟩ li ne (fun z => ?_) fun v h' tk hv ho hs hT _ hk => ?_
    · rcases List.mem_cons.mp z with z | z
      · exact ne z
      · exact ae (List.mem_singleton.mp z).symm
    obtain rfl : v = u := by
      have hv' : its.toArray[i]? = some v := hv
      rw [List.getElem?_toArray, hu] at hv'
      exact (Option.some.inj hv').symm
    refine ⟨_, rfl, wpAny_letOwnedTupleGo_enum (s := { s with heap := h', toks := tk + 1 }) ho fun h2 he2 sb => ?_⟩
    have T2 : h2.get? s.heap.objs.size = some { cls := .type "tuple", data := .seq #[.int i tk, v] } := (sb.2 _ (Nat.ne_of_gt e1)).trans hT
    have fresh := I.hok.fresh (Nat.le_refl s.heap.objs.size)
    have J : Inv X pins σ (upd H s.heap.objs.size (.tup [.int (i : Nat), x])) { s with heap := h2, toks := tk + 1 } :=
      I.turnedNew (ch := [e, it]) (fun b ob hb q => (sb.2 b (fun z => hb (by simp [z]))).trans (hk b ob (fun z => hb (by simp [z])) (fun z => hb (by simp [z])) q)) hf (Nat.le_refl _)
        (show ObjOk X.prog X.w _ h2 _ (.tup [.int (i : Nat), x]) from ⟨Nat.le_of_ble_eq_true rfl, [.int i tk, v], .cons ⟨_, rfl⟩ (.cons ru .nil), ⟨_, T2, rfl, _, rfl⟩⟩)
    refine ⟨.ref s.heap.objs.size, _, J, rfl, ⟨_, x, rfl, fresh, rfl, fun ys hy => by rw [I.tuple_inj hy hq]; exact hx⟩, ⟨⟨v, ?_⟩, hs.1.at fun o q => (sb.2 it (Ne.symm ne)).trans q, ne⟩, fun b hb => ?_⟩
    · rw [show ((i + 1 : Nat) : Int) = (i : Int) + 1 by omega]
      exact he2
    · have lb : b < s.heap.objs.size := by
        rcases List.mem_cons.mp hb with z | z
        · rw [z]; exact e1
        · rw [List.mem_singleton.mp z]; exact i1
      rw [upd_ne (Nat.ne_of_lt lb)]
      exact (hf b hb).1
  done := by
    intro X hP hw hK hc i pins s σ H E I hf st hg
    subst hP hw hK
    obtain ⟨⟨old, he⟩, hit, ne⟩ := st
    obtain ⟨xs, hq, hx⟩ := hg
    obtain ⟨its, rv, p, _⟩ := I.tuple hq
    obtain ⟨f0, f1, f2, f3, f4, f5⟩ := hf it (List.mem_cons_of_mem _ List.mem_cons_self)
    have ln := rv.length
    have hn : its.toArray[i]? = none := by
      rw [List.getElem?_toArray]
      exact List.getElem?_eq_none (by omega)
    have hT : s.TypeIs (.ref e) "enumerate" := ⟨_, he, rfl⟩
    unfold pyNext
    refine wpAny_bind (wpAny_attempt (wpAny_callSpecial?_slot (name := Str.ofString "__next__") hT F.slot_enumerate_next
      (wpAny_call_entry F.slot_enumerate_next hT F.entry_enumerate_next ?_ (F.args_enumerate_next_1 _))))
    show wpAny (model X.prog X.w) _ (field (.ref e) 2 >>= _) _ _ _
    refine wpAny_bind (wpAny_field he rfl (x := .ref it) rfl ?_)
    refine wpAny_bind (wpAny_nextOf_tuple_end (I.ok.hd hc) hit p hn fun h' x he' hx' => ?_)
    obtain ⟨o, ho, hcl⟩ := hx'
    exact wpAny_bind (wpAny_isInstance (T := "StopIteration") (b := true) ⟨o, ho, hcl⟩ isSubtype_stop (wpAny_pure ⟨rfl, I.turned (t' := s.toks) (fun b o hb q => he' b o hb q) f0 f1 f3 f4 f5⟩))
  self := fun A i s Q E st h => let ⟨⟨_, he⟩, _⟩ := st; wpAny_pyIter_enum he h
def iEnumA (K : PySem.W.Frag) (ta : TA) : TI := fun σ H R => ta σ H fun vs H1 => ∃ a xs, vs = [.ref a] ∧ ((SqL K H1 a xs ∧ R (Ite K a) H1) ∨ (SqT K H1 a xs ∧ R (Itu K a) H1))
def iSeqA (K : PySem.W.Frag) (te : TE) : TI := fun σ H R => te σ H fun x H1 => ∃ a xs, x = .ref a ∧ ((SqL K H1 a xs ∧ R (Itl K a) H1) ∨ (SqT K H1 a xs ∧ R (Itt K a) H1))
section
variable {X : Cx} {e tg : Expr} {ta : TA} {te : TE} {p pos tpos : Pos} {elts : List Expr} {kk : Nat}
theorem pi_enumA (hg : Gl X "enumerate") (hm : X.mg "enumerate" = none) (ha : PA X [e] ta) (hs : starEach [e] X.env = [(false, eval e X.env)] := by rfl) : PI X (.Tuple elts kk tpos) (.Call (.Name "enumerate" p) [e] [] pos) (iEnumA X.K ta) := by
  refine ⟨fun pins s σ H R I h => Call_ (ld_blt I hg hm boot_enumerate (PyProof.Rows.callWith_type1 (thn (ha.run pos pins s σ H _ I h) fun us s1 ⟨vs, H1, I1, r1, q1⟩ => ?_) hs rfl))⟩
  obtain ⟨a, xs, rfl, q⟩ := q1
  obtain ⟨u, rfl, rv⟩ := vals1 r1
  obtain rfl : u = Value.ref a := rv
  have near : ∀ {b : Addr}, b ∈ [s1.heap.objs.size + 1, s1.heap.objs.size] → FpOk X pins H1 b := fun {b} hb => by
    have le : s1.heap.objs.size ≤ b := by
      rcases List.mem_cons.mp hb with z | z
      · rw [z]; exact Nat.le_succ _
      · rw [List.mem_singleton.mp z]; exact Nat.le_refl _
    exact I1.fpOk le (I1.hok.fresh le)
  rcases q with ⟨hq, q⟩ | ⟨hq, q⟩
  · obtain ⟨its, rv, p', hz⟩ := I1.list hq
    refine call_enumerate_list p'.isList fun h' he hit _ hk => wpAny_pyIter_enum he ?_
    exact ⟨s1.heap.objs.size + 1, [s1.heap.objs.size + 1, s1.heap.objs.size], _, _, H1, rfl, I1.kept (t' := s1.toks) hk, turn_enum a (s1.heap.objs.size + 1) s1.heap.objs.size, ⟨⟨.none, he⟩, hit, Nat.succ_ne_self _⟩, fun b hb => near hb, q⟩
  · obtain ⟨its, rv, p', hz⟩ := I1.tuple hq
    have la : a < s1.heap.objs.size := let ⟨_, z, _⟩ := p'; Heap.lt_size z
    refine enum1 (begins_tuple a its.toArray) p' fun h' he hit _ hk => wpAny_pyIter_enum he ?_
    exact ⟨s1.heap.objs.size + 1, [s1.heap.objs.size + 1, s1.heap.objs.size], _, _, H1, rfl, I1.kept (t' := s1.toks) hk, turn_enumT a (s1.heap.objs.size + 1) s1.heap.objs.size (Nat.ne_of_lt la) (Nat.ne_of_lt (Nat.lt_succ_of_lt la)), ⟨⟨.none, he⟩, ⟨_, hit, rfl, rfl⟩, Nat.succ_ne_self _⟩, fun b hb => near hb, q⟩
theorem pi_seqA (he : PE X e te) : PI X tg e (iSeqA X.K te) := by
  refine ⟨fun pins s σ H R I h => thn (he.run pins s σ H _ I h) fun v s1 ⟨x, H1, I1, r1, q1⟩ => ?_⟩
  obtain ⟨a, xs, rfl, q⟩ := q1
  obtain rfl : v = Value.ref a := r1
  have near : ∀ {b : Addr}, b ∈ [s1.heap.objs.size] → FpOk X pins H1 b := fun {b} hb => by
    rw [List.mem_singleton.mp hb]
    exact I1.fpOk (Nat.le_refl _) (I1.hok.fresh (Nat.le_refl _))
  have J : ∀ {o : Obj}, Inv X pins σ H1 { s1 with heap := s1.heap.push o } := fun {o} => I1.kept (t' := s1.toks) fun b u z => Heap.get?_push_of_some _ z
  rcases q with ⟨hq, q⟩ | ⟨hq, q⟩
  · obtain ⟨its, rv, p', hz⟩ := I1.list hq
    exact wpAny_pyIter_list p'.isList ⟨s1.heap.objs.size, [s1.heap.objs.size], _, _, H1, rfl, J, turn_list a _, ⟨_, Heap.get?_push_size _ rfl, rfl, rfl⟩, fun b hb => near hb, q⟩
  · obtain ⟨its, rv, p', hz⟩ := I1.tuple hq
    exact wpAny_pyIter_tuple (show s1.heap.IsTuple a its.toArray from p') ⟨s1.heap.objs.size, [s1.heap.objs.size], _, _, H1, rfl, J, turn_tuple a _, ⟨_, Heap.get?_push_size _ rfl, rfl, rfl⟩, fun b hb => near hb, q⟩
end
section
variable {K : PySem.W.Frag} {a : Addr} {xs : List V}
theorem walk_enumT : Walk (Itu K a) xs.length (fun H => SqT K H a xs) (YPair (fun i => some (.int (i : Nat))) (fun i => xs[i]?)) :=
  ⟨fun i _ hi q => ⟨xs, xs[i], q, List.getElem?_eq_getElem hi⟩, fun _ q => ⟨xs, q, Nat.le_refl _⟩, fun i H v H' _ q ⟨T, x, h1, h2, h3, h4⟩ => ⟨T, .int (i : Nat), x, h1, h2, h3, rfl, h4 xs q⟩⟩
end
end Bk

namespace Bk
open PySem PySem.Spec PyProof.Rows L2
/-! ## 13. defs that refuse -/
/-- what a refusal is: a new own exception of the class at C, v its only field -/
def Refuse (C : Addr) (v : V) (H : Hp) (E : XK) : Prop := ∀ d H', H d = none → Same H H' → H' d = some (.xd [("found", v)]) → E (.ref C) (some d) H'
theorem Refuse.same {C : Addr} {v : V} {H H' : Hp} {E : XK} (r : Refuse C v H E) (s : Same H H') (n : ∀ d, H' d = none → H d = none) : Refuse C v H' E := fun d H2 hd s2 e => r d H2 (n d hd) (s.trans s2) e
def noE : XK := fun _ _ _ => False
structure CalX (P : Program) (w : World) (K : PySem.W.Frag) (mg : Str → Option Value) (base : Heap) (k : Nat) (x : Str) (sp : Sp) : Prop where
  ex : ∃ (f : Addr) (fd : FuncData) (ps : List Str), mg x = some (.ref f) ∧ PySem.W.keepIn K (.ref f) = true ∧ FnOk P w K mg base (L2.CX P w) k f fd ps sp ∧ Binds K fd ps []
theorem CalX.mk' {P : Program} {w : World} {K : PySem.W.Frag} {mg : Str → Option Value} {base : Heap} {k : Nat} {x : Str} {sp : Sp} {f : Addr} {fd : FuncData} {ps : List Str} (g : mg x = some (.ref f)) (kp : PySem.W.keepIn K (.ref f) = true) (F : FnOk P w K mg base (L2.CX P w) k f fd ps sp) (b : Binds K fd ps []) :
    CalX P w K mg base k x sp := ⟨f, fd, ps, g, kp, F, b⟩
/-- with keywords alone -/
structure CalNX (P : Program) (w : World) (K : PySem.W.Frag) (mg : Str → Option Value) (base : Heap) (k : Nat) (ks : List Str) (x : Str) (sp : Sp) (gV : List V → List V → List V) : Prop where
  ex : ∃ (f : Addr) (fd : FuncData) (ps : List Str) (g : List Value → List Value → List Value), mg x = some (.ref f) ∧ PySem.W.keepIn K (.ref f) = true ∧ FnOk P w K mg base (L2.CX P w) k f fd ps sp ∧ KBn K fd ps 0 ks g gV
theorem CalNX.mk' {P : Program} {w : World} {K : PySem.W.Frag} {mg : Str → Option Value} {base : Heap} {k : Nat} {ks : List Str} {x : Str} {sp : Sp} {gV : List V → List V → List V} {f : Addr} {fd : FuncData} {ps : List Str} {g : List Value → List Value → List Value} (a : mg x = some (.ref f)) (kp : PySem.W.keepIn K (.ref f) = true)
    (F : FnOk P w K mg base (L2.CX P w) k f fd ps sp) (b : KBn K fd ps 0 ks g gV) : CalNX P w K mg base k ks x sp gV := ⟨f, fd, ps, g, a, kp, F, b⟩
section
variable {X : Cx} {k j : Nat} {ks : List Str} {sp : Sp} {x : Str} {p pos : Pos} {e : Expr} {es : List Expr} {kws : List Keyword} {t tk : TA} {W : WX} {gV : List V → List V → List V}
/-- in a def that may let it out itself -/
theorem pe_calX {E : XK} (c : CalX X.prog X.w X.K X.mg X.base k x sp) (hr : Room j X.A) (hk : k ≤ j) (hg : Gl X x) (tk : Takes X (fun cls d _ H => E cls d H)) (ha : PA X (e :: es) t)
    (hdb : (x == ("__debug__" : Str)) = false := by decide) (he : starEach (e :: es) X.env = (false, eval e X.env) :: starEach es X.env := by rfl) (hpl : (backTo pos (starEach es X.env)).any (·.1) = false := by rfl) :
    PE X (.Call (.Name x p) (e :: es) [] pos) (tCall sp [] E t) := by
  obtain ⟨f, fd, ps, h1, h2, h3, h4⟩ := c.ex
  exact pe_call h3 (hr.mono hk) hg h1 h2 h4 .nil (passes_call tk fun _ _ _ _ h => h) ha hdb he hpl
theorem pass_no : Passes (L2.CX X.prog X.w) X noE := fun _ _ _ _ _ _ _ z => by
  obtain ⟨_, _, _, _, _, _, _, _, _, _, _, _, q⟩ := z
  exact q.elim
/-- where it is not refused -/
theorem pe_calY (c : CalX X.prog X.w X.K X.mg X.base k x sp) (hr : Room j X.A) (hk : k ≤ j) (hg : Gl X x) (ha : PA X (e :: es) t)
    (hdb : (x == ("__debug__" : Str)) = false := by decide) (he : starEach (e :: es) X.env = (false, eval e X.env) :: starEach es X.env := by rfl) (hpl : (backTo pos (starEach es X.env)).any (·.1) = false := by rfl) :
    PE X (.Call (.Name x p) (e :: es) [] pos) (tCall sp [] noE t) := by
  obtain ⟨f, fd, ps, h1, h2, h3, h4⟩ := c.ex
  exact pe_call h3 (hr.mono hk) hg h1 h2 h4 .nil pass_no ha hdb he hpl
theorem pe_calNY (c : CalNX X.prog X.w X.K X.mg X.base k ks x sp gV) (hr : Room j X.A) (hk : k ≤ j) (hg : Gl X x) (hkw : PK X kws tk)
    (hall : (backToKw pos (keywordEach kws X.env)).all (·.1.isSome) = true := by rfl) (hks : (backToKw pos (keywordEach kws X.env)).filterMap (·.1) = ks := by rfl)
    (hdb : (x == ("__debug__" : Str)) = false := by decide)
    (hpl : ((backTo pos (starEach [] X.env)).any (·.1) || (backToKw pos (keywordEach kws X.env)).any (·.1.isNone)) = false := by rfl) :
    PE X (.Call (.Name x p) [] kws pos) (tCallN 0 ks.length sp gV noE tNil tk) := by
  obtain ⟨f, fd, ps, g, h1, h2, h3, h4⟩ := c.ex
  exact pe_callN0 h3 (hr.mono hk) hg h1 h2 h4 pass_no hkw hall hks hdb hpl
/-- in a try -/
theorem pe_calT (c : CalX X.prog X.w X.K X.mg X.base k x sp) (hr : Room j X.A) (hk : k ≤ j) (hg : Gl X x) (tk : Takes X W) (ha : PA X (e :: es) t)
    (hdb : (x == ("__debug__" : Str)) = false := by decide) (he : starEach (e :: es) X.env = (false, eval e X.env) :: starEach es X.env := by rfl) (hpl : (backTo pos (starEach es X.env)).any (·.1) = false := by rfl) :
    PE X (.Call (.Name x p) (e :: es) [] pos) (tCallS sp (WE W) t) := by
  obtain ⟨f, fd, ps, h1, h2, h3, h4⟩ := c.ex
  exact pe_callS h3 (hr.mono hk) hg h1 h2 h4 (passAt tk) ha hdb he hpl
end
section
variable {K : PySem.W.Frag} {σ : L2.St} {H : Hp} {Q : VK} {D : Ends} {l : List ClA} {q : ClA} {cls : Value} {d : Option Addr}
theorem r_callS {sp : Sp} {E : L2.St → XK} {t : TA} (z : t σ H fun vs H1 => sp vs H1 Q (E σ)) : tCallS sp E t σ H Q := z
theorem r_try {tb : WX → TS} (z : tb (wAM K D l) D σ H) : (fun D τ G => tb (wAM K D l) D τ G) D σ H := z
theorem w_hit (h : PySem.W.exmOne K cls q.1 = some true) (z : ∀ a, H a = none → q.2.2 a cls d (offI q.2.1 D) (σ.set q.2.1 (some (.ref a))) H) : wAM K D (q :: l) cls d σ H := ⟨true, h, fun _ => z, fun y => absurd y.symm Bool.false_ne_true⟩
theorem w_miss (h : PySem.W.exmOne K cls q.1 = some false) (z : wAM K D l cls d σ H) : wAM K D (q :: l) cls d σ H := ⟨false, h, fun y => absurd y Bool.false_ne_true, fun _ => z⟩
theorem r_raise {t : L2.St → Hp → XK → Prop} {W : WX} (z : t σ H fun cls d H' => W cls d σ H') : (fun (_ : Ends) (τ : L2.St) (G : Hp) => t τ G fun cls d G' => W cls d τ G') D σ H := z
/-- raise C(v), C's own __init__ being this -/
def spInit (C : Addr) : Sp := fun vs H Q _ => ∃ (a : Addr) (x : V), vs = [.ref a, x] ∧ H a = some (exo a C none) ∧ ∀ dx, H dx = none → dx ≠ a → Q .non (upd (upd H dx (exd dx [("found", x)])) a (exo a C (some dx)))
theorem r_mkO {C : Addr} {v : V} {E : XK} (z : Refuse C v H E) : [v].length ≤ 1000 ∧ ∀ a, H a = none → spInit C (.ref a :: ([v] ++ [])) (upd H a (exo a C none))
    (fun u H2 => u = .non ∧ ∃ (d : Addr) (fs : List (Str × V)), H2 a = some (exo a C (some d)) ∧ H2 d = some (exd d fs) ∧ H d = none ∧ E (.ref C) (some d) (upd (del H2 a) d (.xd fs))) (fun _ _ _ => False) := by
  refine ⟨Nat.le_of_ble_eq_true rfl, fun a ha => ⟨a, v, rfl, upd_same, fun dx hd ne => ⟨rfl, dx, [("found", v)], upd_same, ?_, ?_, ?_⟩⟩⟩
  · rw [upd_ne ne, upd_same]
  · rw [upd_ne ne] at hd
    exact hd
  · rw [upd_ne ne] at hd
    refine z dx _ hd (fun b o e => ?_) upd_same
    have h1 : b ≠ a := ne_of_none e ha
    have h2 : b ≠ dx := ne_of_none e hd
    rw [upd_ne h2]
    show del _ a b = some o
    unfold del
    rw [if_neg h1, upd_ne h1, upd_ne h2, upd_ne h1]
    exact e
end
/-! ## 14. isinstance of several classes -/
def rIs2 (K : PySem.W.Frag) : List V → Hp → VK → Prop := fun xs H Q => rIsi K xs H Q ∨ rIsiT K xs H Q
theorem call_is2 {X : Cx} : CallR X (.builtin "isinstance") (rIs2 X.K) := CallR.or call_isi call_isiT
def IsB (K : PySem.W.Frag) (H : Hp) (x : V) (T U : String) (b : Bool) : Prop := ∃ t, TyX K H x t ∧ PySem.W.kitAny K t [.type T, .type U] = some b
theorem kit2 {K : PySem.W.Frag} {t : Value} {T U : String} {a b : Bool} (h : PySem.W.kitOne K t (.type T) = some a) (h2 : PySem.W.kitOne K t (.type U) = some b) : PySem.W.kitAny K t [.type T, .type U] = some (a || b) := by
  cases a with
  | true => exact kitAny_cons h (fun z => nomatch z) (fun _ => rfl)
  | false => exact kitAny_cons h (fun _ => by cases b with
      | true => exact kitAny_cons h2 (fun z => nomatch z) (fun _ => rfl)
      | false => exact kitAny_cons h2 (fun _ => kitAny_nil) (fun z => nomatch z)) (fun z => nomatch z)
section
variable {K : PySem.W.Frag} {H H' : Hp} {x : V} {T U : String} {b c : Bool} {Q : VK} {tp : Addr}
theorem r_is2 (h : IsB K H x T U b) (e : H tp = some (.tup [.ty T, .ty U])) (q : Q (.bl b) H) : rIs2 K [x, .ref tp] H Q := by
  obtain ⟨t, h1, h2⟩ := h
  exact .inr ⟨x, tp, [.ty T, .ty U], t, [.type T, .type U], b, rfl, e, .cons (.ty T) (.cons (.ty U) .nil), h1, h2, q⟩
theorem r_is1 (h : ∃ t, TyX K H x t ∧ PySem.W.kitOne K t (.type T) = some b) (q : Q (.bl b) H) : rIs2 K [x, .ty T] H Q := by
  obtain ⟨t, h1, h2⟩ := h
  exact .inl ⟨x, .ty T, t, .type T, b, rfl, .ty T, h1, h2, q⟩
end
/-! ## 15. a comprehension, by what each turn gives -/
section
variable {J : It} {n : Nat} {G : Hp → Prop} {Y : Nat → Hp → V → Hp → Prop} {g : TG} {tt : TT} {te : TE} {vs : List Nat} {σ : L2.St} {H : Hp} {D : Addr} {Q : VK}
theorem lc_by (w : Walk J n G Y) (p : Nat → Option V) (hD : H D = none) (hn : n ≤ 10000) (hG : ∀ H', Same H H' → G H')
    (hs : ∀ i x H1 H2 (Q' : VK) (R' : Hp → Prop), i < n → Same H H1 → Y i H1 x H2 → (∀ v, p i = some v → ∀ H3, Same H1 H3 → Q' v H3) → (p i = none → ∀ H3, Same H1 H3 → R' H3) →
      g x (wipe σ vs) H2 fun τ H3 => wipe τ vs = wipe σ vs ∧ tt τ H3 fun b H4 => if b = true then te τ H4 Q' else R' H4)
    (q : ∀ H', Same H H' → H' D = some (.lst ((List.range n).filterMap p)) → Q (.ref D) H') :
    ∃ W : Nat → Nat → Hp → Prop, (∃ m, W 0 m (upd H D (.lst []))) ∧ ∀ i m H, W i m H →
      (J.stop i H ∧ Q (.ref D) H) ∨ (J.go i H ∧ ∃ Nx : Hp → Prop, (∀ H', Nx H' → ∃ m', m' < m ∧ W (i + 1) m' H') ∧ ∀ x H', J.yld i H x H' → g x (wipe σ vs) H' fun σ2 H2 => wipe σ2 vs = wipe σ vs ∧ tt σ2 H2 fun b H3 =>
        if b = true then te σ2 H3 fun y H4 => ∃ acc, H4 D = some (.lst acc) ∧ acc.length < sizeLine ∧ Nx (upd H4 D (.lst (acc ++ [y]))) else Nx H3) := by
  refine lc_it w (fun i G => Same H G ∧ G D = some (.lst ((List.range i).filterMap p))) ⟨same_upd hD, by rw [upd_same]; rfl⟩ (fun i G _ z => hG G z.1) (fun i x H1 H2 hi ⟨sm, e⟩ y => ?_) fun G z => q G z.1 z.2
  refine hs i x H1 H2 _ _ hi sm y (fun v hv H3 s3 => ⟨_, s3 _ _ e, ?_, sameBut (sm.trans s3) hD, ?_⟩) fun hv H3 s3 => ⟨sm.trans s3, ?_⟩
  · have l := List.length_filterMap_le p (List.range i)
    rw [List.length_range] at l
    exact Nat.lt_of_le_of_lt (Nat.le_trans l (Nat.le_trans (Nat.le_of_lt hi) hn)) (by decide)
  · rw [upd_same, List.range_succ, List.filterMap_append]
    simp only [List.filterMap_cons, List.filterMap_nil, hv]
  · rw [s3 _ _ e, List.range_succ, List.filterMap_append]
    simp only [List.filterMap_cons, List.filterMap_nil, hv, List.append_nil]
end
end Bk

namespace Bk
open PySem PySem.Spec PyProof.Rows L2
/-! ## 8. binding with keywords -/
theorem vals_rev : ∀ {zs : List V} {ws : List Value}, Vals zs ws → Vals zs.reverse ws.reverse
  | _, _, .nil => .nil
  | _, _, .cons r t => by
    rw [List.reverse_cons, List.reverse_cons]
    exact (vals_rev t).append (.cons r .nil)
section
variable {K : PySem.W.Frag} {x qual : Str} {params : Arguments} {body : List Stmt} {scope : Scope} {kws : List (Str × V)} {f : Addr} {fd : FuncData} {ps : List Str}
theorem kbinds0 (F : FunD K x qual params body scope [] kws f fd) (n : Nat) (ks : List Str) (ms : List (Str × V)) (g : {α : Type} → List α → List α → List α → List α) (hk : kws ≠ []) (hms : ∀ q ∈ ms, q ∈ kws)
    (hrel : ∀ {vs mz zs : List V} {us mv ws : List Value}, Vals vs us → Vals mz mv → Vals zs ws → Vals (g vs mz zs) (g us mv ws))
    (h : ∀ (D : Addr) (doc pm : Value) (an : Option Addr) (cdv ct : Value) (us mv ws : List Value), us.length = n → mv.length = ms.length → ws.length = ks.length →
      KwChain D ((ms.map (·.1)).zip mv) (bindArgs (PySem.W.fnOf x qual params body scope .none (.ref D) doc pm an cdv ct) ⟨us, ks.zip ws⟩) (ps.zip (g us mv ws))) :
    ∃ mv : List Value, KBn K fd ps n ks (fun us ws => g us mv ws) (fun vs zs => g vs (ms.map (·.2)) zs) := by
  obtain ⟨oc, od, dV, kV, doc, pm, an, cdv, ct, osl, rfl, lk, hcd, hD, hK⟩ := F.ex
  rcases hD with ⟨_, rfl⟩ | ⟨e, _⟩
  · rcases hK with e | ⟨D, rfl, hq⟩
    · exact absurd e hk
    · obtain ⟨mv, hl, rk, hks⟩ := kwd_vals (ms := ms) fun q hm => hq q (hms q hm)
      refine ⟨mv, ⟨fun s us ws X l1 l2 => ?_, fun r1 r2 => hrel r1 rk r2⟩⟩
      exact BindsTo.of_looks fun M => KwChain.looks X hks (h D doc pm an cdv ct us mv ws l1 hl l2)
  · exact absurd rfl e
/-- keywords alone or beside values, no defaults -/
theorem kbPlain {st : Stmt} {f : Addr} {fd : FuncData} (F : Fun K x qual st f fd) (n : Nat) (ks : List Str) (g : {α : Type} → List α → List α → List α)
    (hrel : ∀ {vs zs : List V} {us ws : List Value}, Vals vs us → Vals zs ws → Vals (g vs zs) (g us ws))
    (h : ∀ (kV doc pm : Value) (an : Option Addr) (cdv ct : Value) (us ws : List Value), us.length = n → ws.length = ks.length → bindArgs (PySem.W.fnOf x qual (defArgs st) (defBody st) (defScope st) .none kV doc pm an cdv ct) ⟨us, ks.zip ws⟩ = pure (ps.zip (g us ws))) :
    KBn K fd ps n ks (fun us ws => g us ws) (fun vs zs => g vs zs) := by
  obtain ⟨oc, od, kV, doc, pm, an, cdv, ct, osl, rfl, lk, hcd⟩ := F.ex
  exact ⟨fun s us ws X l1 l2 => .of_eq (h kV doc pm an cdv ct us ws l1 l2), fun r1 r2 => hrel r1 r2⟩
end
theorem kit_sub {K : PySem.W.Frag} {C : Addr} {T : String} {b : Bool} (hm : PySem.W.kitMeta T = true) (h : PySem.W.subIn K (.ref C) (.type T) = some b) : PySem.W.kitOne K (.ref C) (.type T) = some b := by
  unfold PySem.W.kitOne PySem.W.kitCls
  rw [if_neg (fun z => by cases (beq_iff_eq.mp z))]
  show (if PySem.W.kitMeta T = true then PySem.W.subIn K (.ref C) (.type T) else none) = some b
  rw [if_pos hm]
  exact h
theorem CalN.mk' {P : Program} {w : World} {K : PySem.W.Frag} {mg : Str → Option Value} {base : Heap} {CX : CXT} {k n : Nat} {ks : List Str} {x : Str} {sp : Sp} {gV : List V → List V → List V} {f : Addr} {fd : FuncData} {ps : List Str} {g : List Value → List Value → List Value} (a : mg x = some (.ref f)) (kp : PySem.W.keepIn K (.ref f) = true) (F : FnOk P w K mg base CX k f fd ps sp) (b : KBn K fd ps n ks g gV) :
    CalN P w K mg base CX k n ks x sp gV := ⟨f, fd, ps, g, a, kp, F, b⟩
/-! ### within a comprehension: K by name -/
theorem call_isK {X : Cx} {K : PySem.W.Frag} (h : X.K = K) : CallR X (.builtin "isinstance") (rIs K) := by
  subst h
  exact call_is
theorem pg_tupK {X : Cx} {K : PySem.W.Frag} {es : List Expr} {k : Nat} {t : TGs} {n : Nat} {pos : Pos} (e : X.K = K) (hc : X.calm = true) (h : PGs X es t) (hn : (assignEach es X.env).length = n := by rfl) (hst : (assignEach es X.env).findIdx? (·.1) = none := by rfl) :
    PG X (.Tuple es k pos) (gTup K n t) := by
  subst e
  exact pg_tup hc h hn hst
theorem butSame {p : Addr} {H H1 H2 : Hp} (s : Same H H1) (n : H p = none) (b : But p H1 H2) : Same H H2 := fun c o e => b c o (ne_of_none e n) (s c o e)
end Bk

namespace Bk
open PySem PySem.Spec PyProof.Rows L2
/-! ## 16. things whose text is short -/
mutual
def smallD : PyData → Bool
  | .none | .bool _ => true
  | .int i => decide (i.natAbs < 10 ^ 38)
  | .str x => x.cps.toList.all fun c => decide (c < 16 ^ 8)
  | .list xs | .tuple xs => smallL xs
  | .dict _ => false
def smallL : List PyData → Bool
  | [] => true
  | x :: xs => smallD x && smallL xs
end
mutual
theorem small_ok : ∀ d : PyData, smallD d = true → d.showable = true ∧ d.leavesShort 40 = true
  | .none, _ => ⟨rfl, rfl⟩
  | .bool _, _ => ⟨rfl, rfl⟩
  | .int i, h => by
    have h' : i.natAbs < 10 ^ 38 := by simpa only [smallD, decide_eq_true_eq] using h
    have l1 := int_text_length_le10 (k := 38) (by decide) h'
    refine ⟨?_, ?_⟩
    · simp only [PyData.showable, decide_eq_true_eq]
      by_cases z : i.natAbs = 0
      · rw [z]; decide
      · have z2 := (Nat.log2_lt z (k := 128)).mpr (Nat.lt_of_lt_of_le h' (by decide))
        omega
    · simp only [PyData.leavesShort]
      refine decide_eq_true ?_
      have e : (PyData.shown (.int i)).length = (toString i).length := by
        simp only [PyData.shown]
        exact PySem.ofString_length _
      omega
  | .str x, h => ⟨by simp only [PyData.showable], by simpa only [smallD, PyData.leavesShort] using h⟩
  | .list xs, h => by simpa only [PyData.showable, PyData.leavesShort] using small_okL xs (by simpa only [smallD] using h)
  | .tuple xs, h => by simpa only [PyData.showable, PyData.leavesShort] using small_okL xs (by simpa only [smallD] using h)
  | .dict _, h => by simp only [smallD] at h; exact nomatch h
theorem small_okL : ∀ xs : List PyData, smallL xs = true → PyData.showableAll xs = true ∧ PyData.leavesShortAll 40 xs = true
  | [], _ => ⟨rfl, rfl⟩
  | x :: xs, h => by
    have h' : smallD x = true ∧ smallL xs = true := by simpa only [smallL, Bool.and_eq_true] using h
    obtain ⟨a, b⟩ := small_ok x h'.1
    obtain ⟨c, d⟩ := small_okL xs h'.2
    exact ⟨by simp only [PyData.showableAll, a, c, Bool.and_true], by simp only [PyData.leavesShortAll, b, d, Bool.and_true]⟩
end
section
variable {K : PySem.W.Frag} {H H' : Hp} {v : V} {a : Addr} {xs : List V}
theorem shw_of {d : PyData} (h : Dp K H v d) (s : smallD d = true) (b : d.bulk ≤ 20000) (e : d.depth ≤ 60) : Shw K H v d.shown := by
  obtain ⟨h1, h2⟩ := small_ok d s
  have h3 := PyData.shown_le_bulk 40 (by decide) d h2
  exact .inl ⟨d, h, h1, by rw [sizeLine_eq]; omega, e, rfl⟩
theorem shw_dK (e : H a = some (.dK [])) : Shw K H (.ref a) "{}" := .inr ⟨a, rfl, e, rfl⟩
/-- a thing within a list -/
def Itm (K : PySem.W.Frag) (H : Hp) (v : V) : Prop := ∃ d, Dp K H v d ∧ smallD d = true ∧ d.bulk ≤ 100 ∧ d.depth ≤ 20
theorem itm_shw (h : Itm K H v) : ∃ z, Shw K H v z := let ⟨_, h1, h2, h3, h4⟩ := h; ⟨_, shw_of h1 h2 (by omega) (by omega)⟩
theorem itms : ∀ {xs : List V}, (∀ y ∈ xs, Itm K H y) → ∃ ds, DpAll K H xs ds ∧ smallL ds = true ∧ PyData.bulkAll ds ≤ 101 * xs.length ∧ PyData.depthAll ds ≤ 20
  | [], _ => ⟨[], .nil, rfl, Nat.le_refl _, Nat.zero_le _⟩
  | y :: ys, h => by
    obtain ⟨d, h1, h2, h3, h4⟩ := h y List.mem_cons_self
    obtain ⟨ds, g1, g2, g3, g4⟩ := itms fun z hz => h z (List.mem_cons_of_mem _ hz)
    refine ⟨d :: ds, .cons h1 g1, by simp only [smallL, h2, g2, Bool.and_true], ?_, ?_⟩
    · simp only [PyData.bulkAll, List.length_cons]
      omega
    · simp only [PyData.depthAll]
      omega
theorem shw_lst (h : SqL K H a xs) (i : ∀ y ∈ xs, Itm K H y) (l : xs.length ≤ 150) : ∃ z, Shw K H (.ref a) z := by
  obtain ⟨ds, g1, g2, g3, g4⟩ := itms i
  exact ⟨_, shw_of (.lst h g1) (by simpa only [smallD] using g2) (by simp only [PyData.bulk]; omega) (by simp only [PyData.depth]; omega)⟩
theorem shw_tup (h : SqT K H a xs) (i : ∀ y ∈ xs, Itm K H y) (l : xs.length ≤ 150) : ∃ z, Shw K H (.ref a) z := by
  obtain ⟨ds, g1, g2, g3, g4⟩ := itms i
  exact ⟨_, shw_of (.tup h g1) (by simpa only [smallD] using g2) (by simp only [PyData.bulk]; omega) (by simp only [PyData.depth]; omega)⟩
/-! scalars -/
def datS : V → PyData
  | .bl b => .bool b
  | .int i => .int i
  | .str z => .str z
  | _ => .none
def smS : V → Bool
  | .non | .bl _ => true
  | .int i => decide (i.natAbs < 10 ^ 38)
  | .str z => decide (z.length ≤ 90) && z.cps.toList.all fun c => decide (c < 16 ^ 8)
  | _ => false
theorem datS_ok (h : smS v = true) : Dp K H v (datS v) ∧ smallD (datS v) = true ∧ (datS v).bulk ≤ 100 ∧ (datS v).depth = 0 := by
  cases v with
  | non => exact ⟨.non, by simp only [datS, smallD], by simp [datS, PyData.bulk], by simp only [datS, PyData.depth]⟩
  | bl b => exact ⟨.bl b, by simp only [datS, smallD], by simp [datS, PyData.bulk], by simp only [datS, PyData.depth]⟩
  | int i => exact ⟨.int i, by simpa only [datS, smallD, smS] using h, by simp [datS, PyData.bulk], by simp only [datS, PyData.depth]⟩
  | str z =>
    have h' : z.length ≤ 90 ∧ (z.cps.toList.all fun c => decide (c < 16 ^ 8)) = true := by
      have z2 := Bool.and_eq_true_iff.mp (show (decide (z.length ≤ 90) && z.cps.toList.all fun c => decide (c < 16 ^ 8)) = true from h)
      exact ⟨of_decide_eq_true z2.1, z2.2⟩
    have hz : z.cps.size ≤ 90 := h'.1
    exact ⟨.str z, by simpa only [datS, smallD] using h'.2, by simp only [datS, PyData.bulk]; omega, by simp only [datS, PyData.depth]⟩
  | _ => exact nomatch h
theorem itm_sc (h : smS v = true) : Itm K H v := let ⟨h1, h2, h3, h4⟩ := datS_ok h; ⟨_, h1, h2, h3, by omega⟩
theorem shw_sc (h : smS v = true) : Shw K H v (datS v).shown := let ⟨h1, h2, h3, h4⟩ := datS_ok h; shw_of h1 h2 (by omega) (by omega)
theorem datSs : ∀ {xs : List V}, xs.all smS = true → DpAll K H xs (xs.map datS) ∧ smallL (xs.map datS) = true ∧ PyData.bulkAll (xs.map datS) ≤ 101 * xs.length ∧ PyData.depthAll (xs.map datS) = 0
  | [], _ => ⟨.nil, rfl, Nat.le_refl _, rfl⟩
  | y :: ys, h => by
    rw [List.all_cons, Bool.and_eq_true] at h
    obtain ⟨h1, h2, h3, h4⟩ := datS_ok (K := K) (H := H) h.1
    obtain ⟨g1, g2, g3, g4⟩ := datSs h.2
    rw [List.map_cons]
    refine ⟨.cons h1 g1, by simp only [smallL, h2, g2, Bool.and_true], ?_, ?_⟩
    · simp only [PyData.bulkAll, List.length_cons]
      omega
    · simp only [PyData.depthAll, h4, g4]
      rfl
theorem shw_lsc (h : SqL K H a xs) (i : xs.all smS = true) (l : xs.length ≤ 150) : Shw K H (.ref a) (PyData.list (xs.map datS)).shown := by
  obtain ⟨g1, g2, g3, g4⟩ := datSs (K := K) (H := H) i
  exact shw_of (.lst h g1) (by simpa only [smallD] using g2) (by simp only [PyData.bulk]; omega) (by simp only [PyData.depth]; omega)
theorem shw_tsc (h : SqT K H a xs) (i : xs.all smS = true) (l : xs.length ≤ 150) : Shw K H (.ref a) (PyData.tuple (xs.map datS)).shown := by
  obtain ⟨g1, g2, g3, g4⟩ := datSs (K := K) (H := H) i
  exact shw_of (.tup h g1) (by simpa only [smallD] using g2) (by simp only [PyData.bulk]; omega) (by simp only [PyData.depth]; omega)
end
theorem smS_int {i : Int} (h : i.natAbs < 10 ^ 38) : smS (.int i) = true := decide_eq_true h
theorem smS_bls {bs : List Bool} : (bs.map V.bl).all smS = true := by
  rw [List.all_map]
  exact List.all_eq_true.mpr fun _ _ => rfl
end Bk

namespace Bk
open PySem PySem.Spec PyProof.Rows L2
/-! ## 18. what k03 left for all -/
theorem seqT {K : PySem.W.Frag} {H H' : Hp} {a : Addr} {xs : List V} (s : Same H H') (h : SqT K H a xs) : SqT K H' a xs := by
  rcases h with (h | ⟨o, h⟩) | h
  · exact .inl (.inl (s _ _ h))
  · exact .inl (.inr ⟨o, s _ _ h⟩)
  · exact .inr h
theorem Refuse.on {C : Addr} {v : V} {H H' : Hp} {E : XK} (r : Refuse C v H E) (s : Same H H') : Refuse C v H' E := fun d H2 hd s2 e => r d H2 (s.free hd) (s.trans s2) e
section
variable {K : PySem.W.Frag} {H : Hp} {a : Addr} {T U : String} {b c : Bool}
theorem isb_lst {xs : List V} (e : H a = some (.lst xs)) (h : kitB "list" T = some b := by decide +kernel) (h2 : kitB "list" U = some c := by decide +kernel) : IsB K H (.ref a) T U (b || c) := ⟨.type "list", .base (.lst e), kit2 (kit_ty h) (kit_ty h2)⟩
theorem isb_tup {xs : List V} (e : H a = some (.tup xs)) (h : kitB "tuple" T = some b := by decide +kernel) (h2 : kitB "tuple" U = some c := by decide +kernel) : IsB K H (.ref a) T U (b || c) := ⟨.type "tuple", .base (.tup e), kit2 (kit_ty h) (kit_ty h2)⟩
theorem isb_dK {kvs : List (Key × V)} (e : H a = some (.dK kvs)) (h : kitB "dict" T = some b := by decide +kernel) (h2 : kitB "dict" U = some c := by decide +kernel) : IsB K H (.ref a) T U (b || c) := ⟨.type "dict", .base (.dK e), kit2 (kit_ty h) (kit_ty h2)⟩
theorem isb_int {i : Int} (h : kitB "int" T = some b := by decide +kernel) (h2 : kitB "int" U = some c := by decide +kernel) : IsB K H (.int i) T U (b || c) := ⟨.type "int", .base (.int i), kit2 (kit_ty h) (kit_ty h2)⟩
theorem isb_bl {k : Bool} (h : kitB "bool" T = some b := by decide +kernel) (h2 : kitB "bool" U = some c := by decide +kernel) : IsB K H (.bl k) T U (b || c) := ⟨.type "bool", .base (.bl k), kit2 (kit_ty h) (kit_ty h2)⟩
theorem isb_str {z : Str} (h : kitB "str" T = some b := by decide +kernel) (h2 : kitB "str" U = some c := by decide +kernel) : IsB K H (.str z) T U (b || c) := ⟨.type "str", .base (.str z), kit2 (kit_ty h) (kit_ty h2)⟩
theorem isb_non (h : kitB "NoneType" T = some b := by decide +kernel) (h2 : kitB "NoneType" U = some c := by decide +kernel) : IsB K H .non T U (b || c) := ⟨.type "NoneType", .base .non, kit2 (kit_ty h) (kit_ty h2)⟩
end
theorem r_yes {σ : L2.St} {H : Hp} {te : TE} {Q : VK} {R : Hp → Prop} (q : te σ H Q) : tYes σ H (fun b H4 => if b = true then te σ H4 Q else R H4) := by
  show if true = true then te σ H Q else R H
  exact iteT q
section
variable {K : PySem.W.Frag} {σ : L2.St} {H : Hp} {Q : VK} {i0 j j1 j2 : Nat} {vs : List Nat} {a : Addr} {xs : List V} {te : TE} {tt : TT}
/-- over a list or a tuple -/
theorem lcA (p : Nat → V) (hv : σ[i0]? = some (some (.ref a))) (hs : SqL K H a xs ∨ SqT K H a xs) (hl : xs.length ≤ 10000) (hw : ∀ x, wipe ((wipe σ vs).set j (some x)) vs = wipe σ vs)
    (ht : ∀ (i : Nat) (y : V) (H' : Hp) (Q' : VK), xs[i]? = some y → Same H H' → (∀ H2, Same H' H2 → Q' (p i) H2) → te ((wipe σ vs).set j (some y)) H' Q')
    (q : ∀ D H', H D = none → Same H H' → H' D = some (.lst ((List.range xs.length).map p)) → Q (.ref D) H') : tLc (iSeqA K (tVar i0)) (gName j) tYes te vs σ H Q := by
  have go : ∀ {J : It} {G : Hp → Prop}, Walk J xs.length G (YAt xs) → (∀ H', Same H H' → G H') → ∀ D, H D = none → _ := fun {J G} wk hG D hD =>
    lc_by (g := gName j) (tt := tYes) (te := te) (vs := vs) (σ := σ) (Q := Q) wk (fun i => some (p i)) hD hl hG (fun i y H1 H2 Q' R' hi sm ⟨e, hy⟩ h1 _ => ⟨hw _, by
      subst e
      exact r_yes (ht i y H2 Q' hy sm (h1 _ rfl))⟩) fun H' sm e => q D H' hD sm (by
      rw [e]
      show some (HO.lst (List.filterMap (some ∘ p) _)) = _
      rw [List.filterMap_eq_map])
  refine ⟨_, hv, a, xs, rfl, ?_⟩
  rcases hs with hs | hs
  · exact .inl ⟨hs, go walk_list fun H' sm => sm.seq hs⟩
  · exact .inr ⟨hs, go walk_tup fun H' sm => seqT sm hs⟩
/-- enumerate of a list or a tuple, some left out -/
theorem lcE (p : Nat → V → Option V) (hv : σ[i0]? = some (some (.ref a))) (hs : SqL K H a xs ∨ SqT K H a xs) (hl : xs.length ≤ 10000) (hw : ∀ x y, wipe (((wipe σ vs).set j1 (some x)).set j2 (some y)) vs = wipe σ vs)
    (ht : ∀ (i : Nat) (y : V) (H' : Hp) (Q' : VK) (R' : Hp → Prop), xs[i]? = some y → Same H H' → (∀ v, p i y = some v → ∀ H2, Same H' H2 → Q' v H2) → (p i y = none → ∀ H2, Same H' H2 → R' H2) →
      tt (((wipe σ vs).set j1 (some (.int i))).set j2 (some y)) H' fun b H4 => if b = true then te (((wipe σ vs).set j1 (some (.int i))).set j2 (some y)) H4 Q' else R' H4)
    (q : ∀ D H', H D = none → Same H H' → H' D = some (.lst ((List.range xs.length).filterMap fun i => xs[i]?.bind (p i))) → Q (.ref D) H') :
    tLc (iEnumA K (tCons (tVar i0) tNil)) (gTup K 2 (gCons (gName j1) (gCons (gName j2) gNil))) tt te vs σ H Q := by
  have go : ∀ {J : It} {G : Hp → Prop}, Walk J xs.length G (YPair (fun i => some (.int (i : Nat))) (fun i => xs[i]?)) → (∀ H', Same H H' → G H') → ∀ D, H D = none → _ := fun {J G} wk hG D hD =>
    lc_by (g := gTup K 2 (gCons (gName j1) (gCons (gName j2) gNil))) (tt := tt) (te := te) (vs := vs) (σ := σ) (Q := Q) wk (fun i => xs[i]?.bind (p i)) hD hl hG (fun i v H1 H2 Q' R' hi sm ⟨Tn, x, y, e1, nT, e2, hx, hy⟩ h1 h2 => by
      subst e1 e2
      injection hx with hx
      subst hx
      have sT := same_upd (o := .tup [.int (i : Nat), y]) nT
      have ey : xs[i]?.bind (p i) = p i y := by
        rw [show xs[i]? = some y from hy]
        rfl
      refine ⟨Tn, _, rfl, sqT upd_same, rfl, .int i, _, rfl, y, _, rfl, rfl, hw _ _, ?_⟩
      exact ht i y _ Q' R' hy (sm.trans sT) (fun v hv H3 s3 => h1 v (by rw [ey]; exact hv) H3 (sT.trans s3)) fun hn H3 s3 => h2 (by rw [ey]; exact hn) H3 (sT.trans s3)) fun H' sm e => q D H' hD sm e
  refine ⟨_, hv, a, xs, rfl, ?_⟩
  rcases hs with hs | hs
  · exact .inl ⟨hs, go walk_enum fun H' sm => sm.seq hs⟩
  · exact .inr ⟨hs, go walk_enumT fun H' sm => seqT sm hs⟩
end
theorem map_getD {α : Type} (f : V → α) (d : V) (xs : List V) : (List.range xs.length).map (fun i => f (xs.getD i d)) = xs.map f := by
  refine List.ext_getElem (by simp) fun i h1 h2 => ?_
  simp only [List.getElem_map, List.getElem_range]
  have h : i < xs.length := by simpa using h1
  rw [List.getD_eq_getElem?_getD, List.getElem?_eq_getElem h]
  rfl
/-! ## 17. comprehensions over a list, a tuple, a range -/
section
variable {K : PySem.W.Frag} {σ : L2.St} {H : Hp} {Q : VK} {i0 j : Nat} {vs : List Nat} {a : Addr} {xs : List V} {te : TE}
theorem lc_map {J : It} {n : Nat} {G : Hp → Prop} {Y : Nat → Hp → V → Hp → Prop} {D : Addr} (wk : Walk J n G Y) (hY : ∀ i H1 x H2, i < n → Y i H1 x H2 → H2 = H1) (p : Nat → V) (hl : n ≤ 10000) (hG : ∀ H', Same H H' → G H') (hw : ∀ x, wipe ((wipe σ vs).set j (some x)) vs = wipe σ vs)
    (ht : ∀ (i : Nat) (y : V) (H1 H' : Hp) (Q' : VK), i < n → Y i H1 y H' → Same H H' → (∀ H2, Same H' H2 → Q' (p i) H2) → te ((wipe σ vs).set j (some y)) H' Q')
    (q : ∀ D H', H D = none → Same H H' → H' D = some (.lst ((List.range n).map p)) → Q (.ref D) H') (hD : H D = none) : ∃ W : Nat → Nat → Hp → Prop, (∃ m, W 0 m (upd H D (.lst []))) ∧ ∀ i m H, W i m H →
      (J.stop i H ∧ Q (.ref D) H) ∨ (J.go i H ∧ ∃ Nx : Hp → Prop, (∀ H', Nx H' → ∃ m', m' < m ∧ W (i + 1) m' H') ∧ ∀ x H', J.yld i H x H' → gName j x (wipe σ vs) H' fun σ2 H2 => wipe σ2 vs = wipe σ vs ∧ tYes σ2 H2 fun b H3 =>
        if b = true then te σ2 H3 fun y H4 => ∃ acc, H4 D = some (.lst acc) ∧ acc.length < sizeLine ∧ Nx (upd H4 D (.lst (acc ++ [y]))) else Nx H3) :=
  lc_by (g := gName j) (tt := tYes) (te := te) (vs := vs) (σ := σ) (Q := Q) wk (fun i => some (p i)) hD hl hG (fun i y H1 H2 Q' R' hi sm e h1 _ => ⟨hw _, by
    obtain rfl := hY i _ _ _ hi e
    exact r_yes (ht i y H2 H2 Q' hi e sm (h1 _ rfl))⟩) fun H' sm e => q D H' hD sm (by
      rw [e]
      show some (HO.lst (List.filterMap (some ∘ p) _)) = _
      rw [List.filterMap_eq_map])
theorem lcT (p : Nat → V) (hv : σ[i0]? = some (some (.ref a))) (hs : SqT K H a xs) (hl : xs.length ≤ 10000) (hw : ∀ x, wipe ((wipe σ vs).set j (some x)) vs = wipe σ vs)
    (ht : ∀ (i : Nat) (y : V) (H' : Hp) (Q' : VK), xs[i]? = some y → Same H H' → (∀ H2, Same H' H2 → Q' (p i) H2) → te ((wipe σ vs).set j (some y)) H' Q')
    (q : ∀ D H', H D = none → Same H H' → H' D = some (.lst ((List.range xs.length).map p)) → Q (.ref D) H') : tLc (iTup K (tVar i0)) (gName j) tYes te vs σ H Q :=
  ⟨_, hv, a, rfl, ⟨xs, hs⟩, fun D hD => lc_map (j := j) walk_tup (fun _ _ _ _ _ z => z.1) p hl (fun H' sm => seqT sm hs) hw (fun i y H1 H' Q' _ e sm k => ht i y H' Q' e.2 sm k) q hD⟩
theorem lcL (p : Nat → V) (hv : σ[i0]? = some (some (.ref a))) (hs : SqL K H a xs) (hl : xs.length ≤ 10000) (hw : ∀ x, wipe ((wipe σ vs).set j (some x)) vs = wipe σ vs)
    (ht : ∀ (i : Nat) (y : V) (H' : Hp) (Q' : VK), xs[i]? = some y → Same H H' → (∀ H2, Same H' H2 → Q' (p i) H2) → te ((wipe σ vs).set j (some y)) H' Q')
    (q : ∀ D H', H D = none → Same H H' → H' D = some (.lst ((List.range xs.length).map p)) → Q (.ref D) H') : tLc (iList K (tVar i0)) (gName j) tYes te vs σ H Q :=
  ⟨_, hv, a, rfl, ⟨xs, hs⟩, fun D hD => lc_map (j := j) walk_list (fun _ _ _ _ _ z => z.1) p hl (fun H' sm => sm.seq hs) hw (fun i y H1 H' Q' _ e sm k => ht i y H' Q' e.2 sm k) q hD⟩
/-- what is drawn at each turn: the box changes -/
theorem lcDraw {n m : Nat} {bx : Addr} (p : V → Prop) (hb : Box bx m H) (hl : n ≤ 1000) (hw : ∀ x, wipe ((wipe σ vs).set j (some x)) vs = wipe σ vs)
    (ht : ∀ (i : Nat) (H' : Hp) (Q' : VK), i < n → Box bx (m + i) H' → (∀ v H2, p v → Box bx (m + i + 1) H2 → But bx H' H2 → Q' v H2) → te ((wipe σ vs).set j (some (.int i))) H' Q')
    (q : ∀ D H' xs, H D = none → But bx H H' → Box bx (m + n) H' → H' D = some (.lst xs) → xs.length = n → (∀ v ∈ xs, p v) → Q (.ref D) H') : tLc (iRng1 (tCons (tC (.int n)) tNil)) (gName j) tYes te vs σ H Q := by
  refine ⟨_, rfl, by omega, by omega, fun D hD => ?_⟩
  have nD : D ≠ bx := hb.ne hD
  rw [Int.toNat_natCast]
  refine lc_it (g := gName j) (tt := tYes) (te := te) (vs := vs) (σ := σ) (n := n) walk_range (fun i G => But bx H G ∧ Box bx (m + i) G ∧ ∃ xs, G D = some (.lst xs) ∧ xs.length = i ∧ ∀ v ∈ xs, p v)
    ⟨.of (same_upd hD), hb.same (same_upd hD), [], upd_same, rfl, fun _ z => nomatch z⟩ (fun _ _ _ _ => trivial) (fun i x H1 H2 hi ⟨bt, hB, xs, e, l, hp⟩ y => ?_) fun G ⟨bt, hB, xs, e, l, hp⟩ => q D G xs hD bt hB e l hp
  obtain ⟨rfl, rfl⟩ := y
  refine ⟨hw _, ?_⟩
  show te ((wipe σ vs).set j (some (.int (0 + (i : Int))))) _ _
  rw [Int.zero_add]
  refine ht i H2 _ hi hB fun v H3 pv hB3 b3 => ⟨xs, b3 _ _ nD e, by rw [l]; exact Nat.lt_of_lt_of_le hi (Nat.le_trans hl (by decide)), ?_, ?_, xs ++ [v], upd_same, by rw [List.length_append, l]; rfl, fun u hu => ?_⟩
  · exact fun b o ne e0 => by
      have z := b3 _ _ ne (bt _ _ ne e0)
      rw [upd_ne (ne_of_none e0 hD)]
      exact z
  · obtain ⟨x1, y1, z1, eB, r⟩ := hB3
    exact ⟨x1, y1, z1, by rw [upd_ne nD.symm]; exact eB, r⟩
  · rcases List.mem_append.mp hu with z | z
    · exact hp u z
    · rw [List.mem_singleton.mp z]; exact pv
end
/-- except C as e: return (tag, e.found) -/
theorem caught_at {K : PySem.W.Frag} {C d : Addr} {i : Nat} {σ : L2.St} {H' : Hp} {D : Ends} {l : List ClA} {v : V} {tag : Str} (e : PySem.W.exmOne K (.ref C) (.ref C) = some true) (hi : i < σ.length) (ed : H' d = some (.xd [("found", v)]))
    (q : ∀ p H2, H' p = none → Same H' H2 → H2 p = some (.tup [.str tag, v]) → D.rt (.ref p) H2) :
    wAM K D ((.ref C, i, fun a cls d => tRet (tTup (tCons (tC (.str tag)) (tCons (tXf a cls d C "found" (tVar i)) tNil)))) :: l) (.ref C) (some d) σ H' := by
  refine w_hit e fun a na => ?_
  show tRet (tTup (tCons (tC (.str tag)) (tCons (tXf a (.ref C) (some d) C "found" (tVar i)) tNil))) (offI i D) (σ.set i (some (.ref a))) H'
  refine r_ret (r_tup (r_cons (r_c (r_cons ?_))))
  refine ⟨.ref a, List.getElem?_set_self hi, rfl, rfl, d, _, v, rfl, ed, rfl, ?_⟩
  exact r_nil (newT fun p H2 np s2 e2 => q p H2 np s2 e2)
theorem fm_congr {α β : Type} {f g : α → Option β} : ∀ {l : List α}, (∀ x ∈ l, f x = g x) → l.filterMap f = l.filterMap g
  | [], _ => rfl
  | x :: l, h => by
    rw [List.filterMap_cons, List.filterMap_cons, h x List.mem_cons_self, fm_congr fun y hy => h y (List.mem_cons_of_mem _ hy)]
section
variable {K : PySem.W.Frag} {H : Hp} {x y : V} {Q : VK}
theorem r_neSame {d : PyData} (h1 : Dp K H x d) (h2 : Dp K H y d) (s : SeqAt.shaped d = true) (q : Q (.bl false) H) : rNeD K x y H Q :=
  ⟨d, d, h1, h2, s, s, by rw [SeqAt.eqv_refl d (SeqAt.canLay_of_shaped s)]; exact q⟩
end
theorem box_upd {bx a : Addr} {n : Nat} {H : Hp} {o : HO} (h : Box bx n H) (ne : a ≠ bx) : Box bx n (upd H a o) := by
  obtain ⟨x, y, z, e, r⟩ := h
  exact ⟨x, y, z, by rw [upd_ne ne.symm]; exact e, r⟩
theorem but_upd {bx a : Addr} {H0 H : Hp} {o : HO} (b : But bx H0 H) (fr : H0 a = none) : But bx H0 (upd H a o) := fun c u ne e => by
  rw [upd_ne (ne_of_none e fr)]
  exact b c u ne e
theorem cut_to {xs : List V} {m : Nat} (h : m ≤ xs.length) : cutV xs none (some (m : Int)) = xs.take m := by
  unfold cutV
  rw [HT.sIx_none, HT.sIx_nat, Nat.min_eq_left h, List.drop_zero, Nat.sub_zero]
theorem cut_from {xs : List V} {m : Nat} (h : m ≤ xs.length) : cutV xs (some (m : Int)) none = xs.drop m := by
  unfold cutV
  rw [HT.sIx_none, HT.sIx_nat, Nat.min_eq_left h]
  exact List.take_of_length_le (by rw [List.length_drop]; exact Nat.le_refl _)
section
variable {H : Hp} {Q : VK} {a b : Addr} {xs ys : List V} {lo hi : Option Int}
theorem r_slL {K : PySem.W.Frag} (h : SqL K H a xs) (e : cutV xs lo hi = ys) (q : ∀ p H', H p = none → Same H H' → H' p = some (.lst ys) → Q (.ref p) H') : rSlL K (.ref a) lo hi H Q :=
  ⟨a, xs, rfl, h, fun p n => q p _ n (same_upd n) (by rw [upd_same, e])⟩
theorem r_cat (h1 : H a = some (.lst xs)) (h2 : H b = some (.lst ys)) (q : ∀ p H', H p = none → Same H H' → H' p = some (.lst (xs ++ ys)) → Q (.ref p) H') (l : xs.length + ys.length ≤ 10000 := by omega) : rCat (.ref a) (.ref b) H Q :=
  ⟨a, b, xs, ys, rfl, rfl, h1, h2, Nat.le_trans l (by decide), fun p n => q p _ n (same_upd n) upd_same⟩
end
theorem shw_tup2 {K : PySem.W.Frag} {H : Hp} {a b : Addr} {xs : List V} (h : SqT K H a xs) (h2 : SqT K H b xs) (i : ∀ y ∈ xs, Itm K H y) (l : xs.length ≤ 150) : ∃ z, Shw K H (.ref a) z ∧ Shw K H (.ref b) z := by
  obtain ⟨ds, g1, g2, g3, g4⟩ := itms i
  exact ⟨_, shw_of (.tup h g1) (by simpa only [smallD] using g2) (by simp only [PyData.bulk]; omega) (by simp only [PyData.depth]; omega),
    shw_of (.tup h2 g1) (by simpa only [smallD] using g2) (by simp only [PyData.bulk]; omega) (by simp only [PyData.depth]; omega)⟩
theorem but_none {a c : Addr} {H G : Hp} (b : But a H G) (ne : c ≠ a) (h : G c = none) : H c = none := by
  cases e : H c with
  | none => rfl
  | some o => exact nomatch h.symm.trans (b _ _ ne e)
theorem r_par {i j : Nat} {ta : TA} {D : Ends} {σ : L2.St} {H : Hp} (q : ta σ H fun vs H1 => ∃ v w, vs = [v, w] ∧ D.nx ((σ.set i (some v)).set j (some w)) H1) : tPar i j ta D σ H := q
theorem small_int {i : Int} (h0 : -100000 ≤ i) (h1 : i ≤ 100000) : smS (.int i) = true := smS_int (Nat.lt_of_lt_of_le (show i.natAbs < 1000000 by omega) (by decide))
structure Exc (K : PySem.W.Frag) (C f : Addr) : Prop where
  ox : OexC K C
  i : PySem.W.findIn K (.ref C) "__init__" = some (some (.ref f))
  t : PySem.W.typeIn K (.ref f) = some (.type "function")
  nf : PySem.W.findIn K (.ref C) "found" = some none
  xf : XfC K C
def spGE (K : PySem.W.Frag) : Sp := fun vs H Q _ => ∃ (a C : Addr) (x : V), vs = [.ref a, x] ∧ OexC K C ∧ H a = some (exo a C none) ∧ Q .non H
def wholeV (x : V) (lo hi : Int) : Bool := match x with
  | .int i => decide (lo ≤ i) && decide (i ≤ hi)
  | _ => false
/-- a thing of which isinstance(.., int) is known -/
def WD (K : PySem.W.Frag) (H : Hp) (x : V) : Prop := (∃ i, x = .int i) ∨ (∃ b, x = .bl b) ∨ (IsA K H x "int" false ∧ ∀ l h, wholeV x l h = false)
def spWhole (K : PySem.W.Frag) : Sp := fun vs H Q _ => ∃ (x : V) (lo hi : Int), vs = [x, .int lo, .int hi] ∧ WD K H x ∧ Q (.bl (wholeV x lo hi)) H
def wd (x : V) : Bool := wholeV x 0 4095
def spIsWord (K : PySem.W.Frag) : Sp := fun vs H Q _ => ∃ x : V, vs = [x] ∧ WD K H x ∧ Q (.bl (wd x)) H
def spCheck (K : PySem.W.Frag) (CW : Addr) : Sp := fun vs H Q E => ∃ x : V, vs = [x] ∧ WD K H x ∧ ((wd x = true ∧ Q .non H) ∨ (wd x = false ∧ Refuse CW x H E))
theorem wd_int {i : Int} (h0 : 0 ≤ i) (h1 : i ≤ 4095) : wd (.int i) = true := by
  show (decide (0 ≤ i) && decide (i ≤ 4095)) = true
  rw [decide_eq_true h0, decide_eq_true h1]
  rfl
end Bk

namespace Bk
open PySem PySem.Spec PyProof.Rows L2
/-! ## 19. a text is no dict -/
theorem str_not_dict (x : Str) (t : Tok) (d : Addr) (o : Obj) (es : Array DictEntry) (ep : Nat) (hd : o.data = .dict es ep) (hc : o.cls = .type "dict") :
    Meets (Builtin.«str.__eq__» ⟨[.str x t, .ref d], []⟩) (fun _ R s => s.heap.get? d = some o ∧ R (.ok (.ret .notImplemented)) s) :=
  .of_wp fun prog w A R s h => by
    obtain ⟨hp, g, dr, tk, os⟩ := s
    obtain ⟨hl, h⟩ := h
    obtain ⟨c, dd, dt, sl⟩ := o
    subst hd hc
    wp_walk using wpAny_load hl
    exact ⟨_, rfl, h⟩
theorem dict_not_str (x : Str) (t : Tok) (d : Addr) (o : Obj) (es : Array DictEntry) (ep : Nat) (hd : o.data = .dict es ep) (hc : o.cls = .type "dict") :
    Meets (Builtin.«dict.__eq__» ⟨[.ref d, .str x t], []⟩) (fun _ R s => s.heap.get? d = some o ∧ R (.ok (.ret .notImplemented)) s) :=
  .of_wp fun prog w A R s h => by
    obtain ⟨hp, g, dr, tk, os⟩ := s
    obtain ⟨hl, h⟩ := h
    obtain ⟨c, dd, dt, sl⟩ := o
    subst hd hc
    have f1 := F.sub_str_dict
    wp_walk using wpAny_load hl
    exact ⟨_, rfl, h⟩
def rEqSD : R2 := fun x y H Q => ∃ (z : Str) (a : Addr) (kvs : List (Key × V)), x = .str z ∧ y = .ref a ∧ H a = some (.dK kvs) ∧ Q (.bl false) H
section
variable {X : Cx}
theorem op_eqSD (hu : X.A.units < cLine) : OpR X (compareOp .Eq) rEqSD := by
  intro pins s σ H x y v u Q I rx ry h
  obtain ⟨z, a, kvs, rfl, rfl, e, q⟩ := h
  obtain ⟨t, rfl⟩ := rx
  obtain rfl : u = Value.ref a := ry
  obtain ⟨_, _, vs, _, o, es, ep, ho, hx, hd, _⟩ := I.hok a _ e
  have hc : o.cls = .type "dict" := hx.1
  exact SeqAt.rc_eq_decline_or (k := false) (typeIs_str s z t) ⟨_, ho, hc⟩ (by decide) F.sub_dict_str F.slot_str_eq F.slot_dict_eq_refl
    (fun _ hq => call_meets F.slot_str_eq (typeIs_str s z t) F.entry_str_eq (F.args_str_eq_2 _ _) (str_not_dict z t a o es ep hd hc) ⟨ho, hq⟩)
    (fun _ hq => call_meets F.slot_dict_eq_refl ⟨_, ho, hc⟩ F.entry_dict_eq (F.args_dict_eq_2 _ _) (dict_not_str z t a o es ep hd hc) ⟨ho, hq⟩)
    (fun _ hq => wpAny_of_eq (rfl : isSame (.str z t) (.ref a) = pure false) hq) (.inr hu) ⟨.bl false, H, I, rfl, q⟩
/-- a text beside any thing -/
def rEqS (K : PySem.W.Frag) : R2 := fun x y H Q => (rEq x y H Q ∨ rEqD K x y H Q) ∨ rEqSD x y H Q
theorem op_eqS (hu : X.A.units + 64 < cLine) : OpR X (compareOp .Eq) (rEqS X.K) := OpR.or (OpR.or op_eq (op_eqD hu)) (op_eqSD (by omega))
end
/-! ## 20. refusing defs called with keywords beside values, or with defaults -/
structure CalMX (P : Program) (w : World) (K : PySem.W.Frag) (mg : Str → Option Value) (base : Heap) (k n : Nat) (ks : List Str) (x : Str) (sp : Sp) (gV : List V → List V → List V) : Prop where
  ex : ∃ (f : Addr) (fd : FuncData) (ps : List Str) (g : List Value → List Value → List Value), mg x = some (.ref f) ∧ PySem.W.keepIn K (.ref f) = true ∧ FnOk P w K mg base (L2.CX P w) k f fd ps sp ∧ KBn K fd ps n ks g gV
theorem CalMX.mk' {P : Program} {w : World} {K : PySem.W.Frag} {mg : Str → Option Value} {base : Heap} {k n : Nat} {ks : List Str} {x : Str} {sp : Sp} {gV : List V → List V → List V} {f : Addr} {fd : FuncData} {ps : List Str} {g : List Value → List Value → List Value} (a : mg x = some (.ref f)) (kp : PySem.W.keepIn K (.ref f) = true)
    (F : FnOk P w K mg base (L2.CX P w) k f fd ps sp) (b : KBn K fd ps n ks g gV) : CalMX P w K mg base k n ks x sp gV := ⟨f, fd, ps, g, a, kp, F, b⟩
structure CalXD (P : Program) (w : World) (K : PySem.W.Frag) (mg : Str → Option Value) (base : Heap) (k : Nat) (x : Str) (sp : Sp) (dvs : List V) : Prop where
  ex : ∃ (f : Addr) (fd : FuncData) (ps : List Str) (ds : List Value), mg x = some (.ref f) ∧ PySem.W.keepIn K (.ref f) = true ∧ FnOk P w K mg base (L2.CX P w) k f fd ps sp ∧ Binds K fd ps ds ∧ Vals dvs ds
def tCallNS (n m : Nat) (sp : Sp) (gV : List V → List V → List V) (E : L2.St → XK) (t tk : TA) : TE := fun σ H Q => t σ H fun vs H1 => tk σ H1 fun zs H2 => vs.length = n ∧ zs.length = m ∧ sp (gV vs zs) H2 Q (E σ)
section
variable {X : Cx} {k j n : Nat} {ks : List Str} {sp : Sp} {x : Str} {p pos : Pos} {e : Expr} {es : List Expr} {kws : List Keyword} {t tk : TA} {W : WX} {gV : List V → List V → List V} {dvs : List V}
theorem r_callNS {n m : Nat} {E : L2.St → XK} {σ : L2.St} {H : Hp} {Q : VK} (q : t σ H fun vs H1 => tk σ H1 fun zs H2 => vs.length = n ∧ zs.length = m ∧ sp (gV vs zs) H2 Q (E σ)) : tCallNS n m sp gV E t tk σ H Q := q
theorem pe_calMY (c : CalMX X.prog X.w X.K X.mg X.base k n ks x sp gV) (hr : Room j X.A) (hk : k ≤ j) (hg : Gl X x) (ha : PA X (e :: es) t) (hkw : PK X kws tk)
    (hall : (backToKw pos (keywordEach kws X.env)).all (·.1.isSome) = true := by rfl) (hks : (backToKw pos (keywordEach kws X.env)).filterMap (·.1) = ks := by rfl)
    (hdb : (x == ("__debug__" : Str)) = false := by decide) (he : starEach (e :: es) X.env = (false, eval e X.env) :: starEach es X.env := by rfl)
    (hpl : ((backTo pos (starEach (e :: es) X.env)).any (·.1) || (backToKw pos (keywordEach kws X.env)).any (·.1.isNone)) = false := by rfl) :
    PE X (.Call (.Name x p) (e :: es) kws pos) (tCallN n ks.length sp gV noE t tk) := by
  obtain ⟨f, fd, ps, g, h1, h2, h3, h4⟩ := c.ex
  exact pe_callN h3 (hr.mono hk) hg h1 h2 h4 pass_no ha hkw hall hks hdb he hpl
theorem pe_calYD (c : CalXD X.prog X.w X.K X.mg X.base k x sp dvs) (hr : Room j X.A) (hk : k ≤ j) (hg : Gl X x) (ha : PA X (e :: es) t)
    (hdb : (x == ("__debug__" : Str)) = false := by decide) (he : starEach (e :: es) X.env = (false, eval e X.env) :: starEach es X.env := by rfl) (hpl : (backTo pos (starEach es X.env)).any (·.1) = false := by rfl) :
    PE X (.Call (.Name x p) (e :: es) [] pos) (tCall sp dvs noE t) := by
  obtain ⟨f, fd, ps, ds, h1, h2, h3, h4, h5⟩ := c.ex
  exact pe_call h3 (hr.mono hk) hg h1 h2 h4 h5 pass_no ha hdb he hpl
/-- in a try -/
theorem pe_calMT (c : CalMX X.prog X.w X.K X.mg X.base k n ks x sp gV) (hr : Room j X.A) (hk : k ≤ j) (hg : Gl X x) (tkW : Takes X W) (ha : PA X (e :: es) t) (hkw : PK X kws tk)
    (hall : (backToKw pos (keywordEach kws X.env)).all (·.1.isSome) = true := by rfl) (hks : (backToKw pos (keywordEach kws X.env)).filterMap (·.1) = ks := by rfl)
    (hdb : (x == ("__debug__" : Str)) = false := by decide) (he : starEach (e :: es) X.env = (false, eval e X.env) :: starEach es X.env := by rfl)
    (hpl : ((backTo pos (starEach (e :: es) X.env)).any (·.1) || (backToKw pos (keywordEach kws X.env)).any (·.1.isNone)) = false := by rfl) :
    PE X (.Call (.Name x p) (e :: es) kws pos) (tCallNS n ks.length sp gV (WE W) t tk) := by
  obtain ⟨f, fd, ps, g, h1, h2, h3, h4⟩ := c.ex
  refine ⟨fun pins s σ H Q I h => ?_⟩
  refine wpAny_Call_Name_kw (ld_glob I hg h1 (PySem.W.callWith_KW (h₀ := X.base) I.ok.mod.kin h2 hall (thn (ha.run pos pins s σ H _ I h) fun us s1 ⟨vs, H1, I1, r, q⟩ => ?_) hpl he) hdb)
  refine thn (hkw.run pos pins s1 σ H1 _ I1 q) fun ws s2 ⟨zs, H2, I2, rz, l1, l2, q2⟩ => ⟨I2.kIn, ?_⟩
  rw [hks]
  refine wpAny_call (codeAny_mono (h3.run X.A X.stack s2 H2 ⟨us, ks.zip ws⟩ (g us ws) (gV vs zs) Q (WE W σ) (hr.mono hk) I2.env0 (h4.to s2 us ws I2.kIn (r.length.symm.trans l1) (rz.length.symm.trans l2)) (h4.rel r rz) q2) fun rr s3 z => ?_)
  match rr, z with
  | .error u, z => exact passAt tkW σ pins H2 s2 u s3 I2 z
  | .ok (.ret _), z => exact I2.after z
end
theorem ix_listK {X : Cx} {K : PySem.W.Frag} (h : X.K = K) : IxR X (rIxL K) := by
  subst h
  exact ix_list
theorem ix_tupK {X : Cx} {K : PySem.W.Frag} (h : X.K = K) : IxR X (rIxT K) := by
  subst h
  exact ix_tup
end Bk

namespace Bk
open PySem PySem.Spec PySem.Calls PyProof.Rows L2
/-! ## 20a. own exception classes under ValueError, LookupError or KeyError -/
/-- what a built-in __init__ of errors must be -/
structure IniF (B initId : String) : Prop where
  init : Slot B "__init__" initId
  entry : entryFor table initId = some Builtin.«BaseException.__init__»
  split : splitId initId = some (B, "__init__")
  kind : builtinKind initId = some .slot
  row : Manifest.signature? initId = some ⟨.positional, "*", B, .self, [⟨"args", .varPos, false⟩]⟩
  noStar : (B != "*") = true
theorem inf_of {B newId initId : String} (F : ExcCallFacts B newId initId) : IniF B initId := ⟨F.init, F.initEntry, F.initSplit, F.initKind, F.initRow, F.noStar⟩
theorem inf_KE : IniF "KeyError" "KeyError.__init__" where
  init := .of (owner := "KeyError") (n := "__init__") (by rw [typeLookup_type, builtinLookup_eq_fast]; kernel_rfl) (by decide +kernel) (by decide +kernel) (by decide +kernel)
    (by first | exact .inl (by decide +kernel) | exact .inr (by decide +kernel)) (by rw [isSubtype_type]; kernel_rfl)
  entry := entryFor_alias (id' := "BaseException.__init__") (by rw [fastTable_eq_tree]; kernel_rfl) (by first | rfl | decide +kernel) (by decide +kernel) (by rw [fastTable_eq_tree]; kernel_rfl)
  split := by kernel_rfl
  kind := by kernel_rfl
  row := by kernel_rfl
  noStar := by decide +kernel
section
variable {M : Model} {prog : Program} {w : World} {A : Around} {E : Value → Shared → Prop} {R : Result → Shared → Prop} {h : Heap} {g : Array GenState} {d : Drawn} {t : Nat} {os : OsState}
variable {nm q : Str} {C N : Addr} {bs bm bmB : List Value} {hdct : Bool} {sn : List Str} {sub : List Value} {ab : Bool} {col : Option Bool} {dd : Option Addr} {k0 k1 k2 k3 k5 : Option Value} {B newId i0 IB initId : String} {rest : List Value}
theorem checkNewW (F : ExcBaseFacts B newId i0 bmB) (hB : bm.contains (.type B) = true) {Q : Unit → Shared → Prop} (hC : h.get? C = some (excClassObj nm q C N bs bm hdct sn sub ab col dd k0 k1 k2 k3 k5 newId)) (hq : Q () ⟨h, g, d, t, os⟩) :
    wpAny M A (checkBuiltinCall newId ⟨.ref C :: rest, []⟩) Q E ⟨h, g, d, t, os⟩ := by
  have cB : (Value.ref C :: bm).contains (.type B) = true := by rw [List.contains_cons, hB, Bool.or_true]
  have star := F.noStar
  simp only [checkBuiltinCall, F.newKind, F.newSplit, F.newRow]
  repeat (first | refine wpAny_loadPart_at hC ?_ | (refine wpAny_isSubtype_exc hC ?_; rw [cB]) | refine wpAny_staticBase_exc hC ?_ | refine wpAny_madeBy_exc hC ?_ | simp only [bne_self_eq_false, Bool.false_eq_true, if_false] | wp_step)
  exact hq
theorem checkInitW (F : IniF IB initId) (hI : bm.contains (.type IB) = true) {e : Addr} {oe : Obj} {Q : Unit → Shared → Prop} (hC : h.get? C = some (excClassObj nm q C N bs bm hdct sn sub ab col dd k0 k1 k2 k3 k5 newId)) (he : h.get? e = some oe) (hcls : oe.cls = .ref C) (hq : Q () ⟨h, g, d, t, os⟩) :
    wpAny M A (checkBuiltinCall initId ⟨.ref e :: rest, []⟩) Q E ⟨h, g, d, t, os⟩ := by
  have cI : (Value.ref C :: bm).contains (.type IB) = true := by rw [List.contains_cons, hI, Bool.or_true]
  have star := F.noStar
  simp only [checkBuiltinCall, F.kind, F.split, F.row]
  repeat (first | (with_reducible refine wpAny_loadPart_at he ?_; rw [hcls]) | with_reducible refine wpAny_loadPart_at hC ?_ | (with_reducible refine wpAny_isSubtype_exc hC ?_; rw [cI]) | wp_step)
  refine wpAny_onRaise ?_
  rw [show ∀ (a b : String) (n : Nat), Bind.check ⟨.positional, "*", IB, .self, [⟨"args", .varPos, false⟩]⟩ a b n (List.map (fun x => x.fst) ({ pos := Value.ref e :: rest } : Args).kw) = pure () from fun a b n => check_star_args _ _ _ _ _ _]
  exact wpAny_pure hq
theorem newW (F : ExcBaseFacts B newId i0 bmB) (hB : bm.contains (.type B) = true) (hA : bm.contains (.type "AttributeError") = false) (hN : bm.contains (.type "NameError") = false) (hC : h.get? C = some (excClassObj nm q C N bs bm hdct sn sub ab col dd k0 k1 k2 k3 k5 newId)) (hrest : rest.length ≤ sizeLine)
    (hq : R (.ok (.ret (.ref (h.objs.size + 1)))) ⟨(h.push (PySem.W.kdv_tup rest)).push (PySem.HandSPX.excO C h.objs.size), g, d, t, os⟩) : codeAny (model prog w) A (.builtin newId ⟨.ref C :: rest, []⟩) R ⟨h, g, d, t, os⟩ := by
  have hends := F.ends
  have cB : (Value.ref C :: bm).contains (.type B) = true := by rw [List.contains_cons, hB, Bool.or_true]
  have cA : (Value.ref C :: bm).contains (.type "AttributeError") = false := by rw [List.contains_cons, hA]; rfl
  have cN : (Value.ref C :: bm).contains (.type "NameError") = false := by rw [List.contains_cons, hN]; rfl
  refine codeAny_builtinAt F.entry ?_
  unfold Builtin.«BaseException.__new__»
  refine PySem.wpAt_bind ?_
  show PySem.wpAt _ _ _ (stack >>= _) _ _ _
  refine PySem.wpAt_bind (PySem.wpAt_stack fun p below => PySem.wpAt_of_wpAny ?_)
  wp_walk
  refine PySem.wpAt_of_wpAny ?_
  rw [F.owner]
  repeat (first | with_reducible refine wpAny_madeHere_exc F.canon hC ?_ | with_reducible refine wpAny_loadPart_at hC ?_ | (with_reducible refine wpAny_isSubtype_exc hC ?_; first | rw [cB] | rw [cA] | rw [cN]) | wp_step)
  show R _ _
  rw [Heap.size_push]
  exact hq
theorem typeCallW (F : ExcBaseFacts B newId i0 bmB) (hB : bm.contains (.type B) = true) (hA : bm.contains (.type "AttributeError") = false) (hN : bm.contains (.type "NameError") = false) {fI : Addr} {Q : Fin → Shared → Prop} (hC : h.get? C = some (excClassObj nm q C N bs bm hdct sn sub ab col dd k0 k1 k2 k3 k5 newId))
    (hi : PySem.W.Looks (model prog w) h (typeLookup (.ref C) "__init__") (some (.ref fI))) (hb : ∀ self, PySem.W.Looks (model prog w) h (bindSpecial (.ref fI) self) (.ref fI, [self])) (hrest : rest.length ≤ sizeLine) {kw : List (Str × Value)} {Af : Around}
    (hq : codeAny (model prog w) A (.call (.ref fI) ⟨.ref (h.objs.size + 1) :: rest, []⟩) (fun r s' => match r with | .ok (.ret v) => v = .none ∧ Q (.done (.ret (.ref (h.objs.size + 1)))) s' | .ok _ => False | .error e => E e s') ⟨(h.push (PySem.W.kdv_tup rest)).push (PySem.HandSPX.excO C h.objs.size), g, d, t, os⟩) :
    wpAny (model prog w) A (Builtin.«type.__call__» ⟨.ref C :: rest, []⟩) Q E ⟨h, g, d, t, os⟩ := by
  repeat (first | with_reducible refine wpAny_loadPart_at hC ?_ | with_reducible refine wpAny_madeBy_exc hC ?_ | wp_step)
  refine codeAny_call_builtin_code (Code.quiet_builtin _ F.quiet) (checkNewW F hB hC ?_)
  refine newW F hB hA hN hC hrest ?_
  show wpAny _ _ _ _ _ _
  have k : ∀ c o, h.get? c = some o → ((h.push (PySem.W.kdv_tup rest)).push (PySem.HandSPX.excO C h.objs.size)).get? c = some o := fun c o e => Heap.get?_push_of_some _ (Heap.get?_push_of_some _ e)
  have hC1 := k _ _ hC
  have hget : ((h.push (PySem.W.kdv_tup rest)).push (PySem.HandSPX.excO C h.objs.size)).get? (h.objs.size + 1) = some (PySem.HandSPX.excO C h.objs.size) := by heap_get
  have cC : (Value.ref C :: bm).contains (.ref C) = true := by simp
  have i1 := hi.keeps k
  have b1 := (hb (.ref (h.objs.size + 1))).keeps k
  unfold isInstance
  repeat (first | with_reducible refine wpAny_loadPart_at hget ?_ | (with_reducible refine wpAny_isSubtype_exc hC1 ?_; rw [cC]) | wp_step)
  show wpAny _ _ (typeLookup (.ref C) _) _ _ _
  refine i1.at (wpAny_holding (wpAny_bind (b1.at (wpAny_bind (wpAny_call (codeAny_mono hq fun r s' z => ?_))))))
  rcases r with e | (v | _ | _ | _) <;> first | exact z | exact z.elim | skip
  obtain ⟨rfl, z⟩ := z
  first
    | exact wpAny_pure (wpAny_pure z)
    | (wp_walk; exact z)
theorem callW (F : ExcBaseFacts B newId i0 bmB) (hB : bm.contains (.type B) = true) (hA : bm.contains (.type "AttributeError") = false) (hN : bm.contains (.type "NameError") = false) {fI : Addr} (hC : h.get? C = some (excClassObj nm q C N bs bm hdct sn sub ab col dd k0 k1 k2 k3 k5 newId))
    (hi : PySem.W.Looks (model prog w) h (typeLookup (.ref C) "__init__") (some (.ref fI))) (hb : ∀ self, PySem.W.Looks (model prog w) h (bindSpecial (.ref fI) self) (.ref fI, [self])) (hrest : rest.length ≤ sizeLine)
    (hq : codeAny (model prog w) (A.under (.builtin "type.__call__" ⟨.ref C :: rest, []⟩)) (.call (.ref fI) ⟨.ref (h.objs.size + 1) :: rest, []⟩) (PySem.W.InitBack (h.objs.size + 1) R) ⟨(h.push (PySem.W.kdv_tup rest)).push (PySem.HandSPX.excO C h.objs.size), g, d, t, os⟩) :
    codeAny (model prog w) A (.call (.ref C) ⟨rest, []⟩) R ⟨h, g, d, t, os⟩ := by
  have f1 := PySem.tc_lookup
  have f2 := PySem.tc_bind (.ref C)
  have hTy : (⟨h, g, d, t, os⟩ : Shared).TypeIs (.ref C) "type" := ⟨_, hC, rfl⟩
  refine codeAny_of_tree ?_
  show wpAny _ _ (callAny (.ref C) _) _ _ _
  repeat (any_goals (first | assumption | with_reducible refine wpAny_loadPart_at hC ?_ | wp_step))
  refine ⟨rfl, codeAny_call_builtin_at (Code.quiet_builtin _ (by decide +kernel)) entry_typeCall (wpAny_check_type_call_sub hC (typeCallW F hB hA hN hC hi hb hrest (kw := []) (Af := A) ?_))⟩
  refine codeAny_mono hq fun r s' z => ?_
  rcases r with e | (v | _ | _ | _) <;> exact z
theorem initW (F : IniF IB initId) (hI : bm.contains (.type IB) = true) {e t0 : Addr} (hC : h.get? C = some (excClassObj nm q C N bs bm hdct sn sub ab col dd k0 k1 k2 k3 k5 newId)) (he : h.get? e = some (PySem.HandSPX.excO C t0)) (hrest : rest.length ≤ sizeLine)
    (hq : ∀ h' t1, (∀ c o, c ≠ e → h.get? c = some o → h'.get? c = some o) → h'.get? e = some (PySem.HandSPX.excO C t1) → R (.ok (.ret .none)) ⟨h', g, d, t, os⟩) : codeAny (model prog w) A (.call (.builtin initId) ⟨.ref e :: rest, []⟩) R ⟨h, g, d, t, os⟩ := by
  refine codeAny_call_builtin F.init.plain F.entry (checkInitW F hI hC he rfl ?_)
  wp_walk
  refine hq _ h.objs.size (fun c o hc ho => ?_) ?_
  · rw [Heap.get?_update_other _ _ (Ne.symm hc)]
    exact Heap.get?_push_of_some _ ho
  · rw [Heap.get?_update_self _ (Heap.get?_push_of_some _ he) rfl]
    rfl
end
inductive Bs where
  | ve
  | le
  | ke
def Bs.nm : Bs → String
  | .ve => "ValueError"
  | .le => "LookupError"
  | .ke => "KeyError"
/-- whose __new__ it is -/
def Bs.nb : Bs → String
  | .ve => "ValueError"
  | _ => "LookupError"
def Bs.new : Bs → String
  | .ve => "ValueError.__new__"
  | _ => "LookupError.__new__"
def Bs.init : Bs → String
  | .ve => "ValueError.__init__"
  | .le => "LookupError.__init__"
  | .ke => "KeyError.__init__"
def Bs.tl : Bs → List Value
  | .ve => [.type "ValueError", .type "Exception", .type "BaseException", .type "object"]
  | .le => [.type "LookupError", .type "Exception", .type "BaseException", .type "object"]
  | .ke => [.type "KeyError", .type "LookupError", .type "Exception", .type "BaseException", .type "object"]
theorem Bs.f : ∀ b : Bs, ∃ i0 bmB, ExcBaseFacts b.nb b.new i0 bmB
  | .ve => ⟨_, _, F.excBase_ValueError⟩
  | .le => ⟨_, _, F.excBase_LookupError⟩
  | .ke => ⟨_, _, F.excBase_LookupError⟩
theorem Bs.i : ∀ b : Bs, IniF b.nm b.init
  | .ve => inf_of F.excBase_ValueError.toExcCallFacts
  | .le => inf_of F.excBase_LookupError.toExcCallFacts
  | .ke => inf_KE
theorem pass_KE (self : Value) : refuseLoop self "__setattr__" [.type "KeyError", .type "LookupError", .type "Exception", .type "BaseException", .type "object"] = pure () := by kernel_rfl
theorem Bs.pass : ∀ (b : Bs) (self : Value), refuseLoop self "__setattr__" b.tl = pure ()
  | .ve, self => F.store_ValueError.passes self
  | .le, self => F.store_LookupError.passes self
  | .ke, self => pass_KE self
theorem Bs.obj (b : Bs) : b.tl.contains (.type "object") = true := by cases b <;> decide +kernel
theorem Bs.hB (b : Bs) : b.tl.contains (.type b.nb) = true := by cases b <;> decide +kernel
theorem Bs.hI (b : Bs) : b.tl.contains (.type b.nm) = true := by cases b <;> decide +kernel
theorem Bs.hA (b : Bs) : b.tl.contains (.type "AttributeError") = false := by cases b <;> decide +kernel
theorem Bs.hN (b : Bs) : b.tl.contains (.type "NameError") = false := by cases b <;> decide +kernel
/-- own classes, then the built-in one's line -/
inductive Tail (b : Bs) : List Value → Prop
  | here : Tail b b.tl
  | own (C : Addr) {l : List Value} : Tail b l → Tail b (.ref C :: l)
section
variable {b : Bs} {l : List Value}
theorem Tail.pass (h : Tail b l) (self : Value) : refuseLoop self "__setattr__" l = pure () := by
  induction h with
  | here => exact b.pass self
  | own C _ ih => rw [refuseLoop_ref]; exact ih
theorem Tail.has (h : Tail b l) (X : String) : l.contains (.type X) = b.tl.contains (.type X) := by
  induction h with
  | here => rfl
  | own C _ ih => rw [List.contains_cons, ih]; rfl
theorem Tail.ne (h : Tail b l) : l.isEmpty = false := by
  cases h with
  | here => cases b <;> rfl
  | own C _ => rfl
end
section
open Builtin Builtin.ObjectAttr
variable {prog : Program} {w : World} {A : Around} {E : Value → Shared → Prop} {R : Result → Shared → Prop} {hp : Heap} {g : Array GenState} {d : Drawn} {t : Nat} {os : OsState}
/-- the first field of an exception -/
theorem osaT {K : PySem.W.Frag} {b : Bs} {name : Str} {tk : Tok} {v : Value} {x C : Addr} {fv : Array Value} {cd : ClassData} (X : K.In hp) (hx : hp.get? x = some { cls := .ref C, data := .fields fv }) (hcd : PySem.W.clsIn K C = some cd) (hm : Tail b cd.mro) (hh : cd.hasDict = true) (ha : PySem.W.findIn K (.ref C) name = some none)
    (hq : ∀ h' tk' dx, (∀ c o, c ≠ x → hp.get? c = some o → h'.get? c = some o) → hp.objs.size ≤ dx → dx ≠ x → h'.get? x = some { cls := .ref C, dict := some dx, data := .fields fv } → h'.Ns1 dx (fun y => if y = name then some v else none) → R (.ok (.ret .none)) ⟨h', g, d, tk', os⟩) :
    codeAny (model prog w) A (.call (.builtin "object.__setattr__") ⟨[.ref x, .str name tk, v], []⟩) R ⟨hp, g, d, t, os⟩ := by
  have I : PySem.W.InstAt hp x { cls := .ref C, data := .fields fv } C none := ⟨hx, rfl, rfl, trivial⟩
  have SF := F.store_object
  have hob : cd.mro.contains (.type "object") = true := (hm.has "object").trans b.obj
  have hxs : x ≠ hp.objs.size := Nat.ne_of_lt (Heap.lt_size hx)
  have isO : PySem.W.Looks (model prog w) hp (isInstance (.ref x) (.type "object")) true :=
    I.type.andThen (PySem.W.looks_mroIn X (by unfold PySem.W.mroIn; rw [hcd, Option.bind_some, if_neg (by rw [hm.ne]; decide), hob]))
  have lineL : PySem.W.Looks (model prog w) hp (mroOf (.ref C)) cd.mro := (PySem.W.looks_clsIn X hcd).andThen .now
  have noTaker : PySem.W.Looks (model prog w) hp (storeTaker? none) none := .now
  have clsL : PySem.W.Looks (model prog w) hp (classData C) cd := PySem.W.looks_clsIn X hcd
  refine codeAny_call_builtin SF.slot.plain SF.entry (@PySem.W.check_slot (model prog w) _ _ ⟨hp, g, d, t, os⟩ "object.__setattr__" "object" "__setattr__" (.ref x) [.str name tk, v] [] _ SF.kind SF.split isO (SF.args (.ref x) (.str name tk) v) ?_)
  rw [PySem.W.osa_eq, refuse_eq]
  refine wpAny_bind (wpAny_bind (I.type.at (wpAny_bind (lineL.at ?_))))
  rw [hm.pass]
  refine wpAny_pure (wpAny_bind (I.type.at (wpAny_bind ((PySem.W.looks_findIn X ha).at (wpAny_bind (noTaker.at ?_))))))
  show wpAny _ _ (storeInOwnDict (.ref x) (.ref C) (.str name tk) name v false) _ _ _
  obtain ⟨nm, bs, mro, ns, qn, hd, sn, sb, ab, col, del⟩ := cd
  dsimp only at hh
  subst hh
  unfold storeInOwnDict ownDictForStores
  repeat (first | with_reducible refine PySem.HandSPX.store_in_new ?_ ?_ | with_reducible refine wpAny_loadPart_at hx ?_ | with_reducible refine clsL.at ?_ | wp_step)
  · exact ⟨_, #[], _, (Heap.get?_update_ne _ _ _ _ hxs.symm).trans (Heap.get?_push_at rfl rfl), rfl, fun e he => absurd he (by simp), fun _ => rfl⟩
  · intro h' tk' hn' hs
    have hx1 : (hp.push { cls := .type "dict", data := .dict #[] }).get? x = some { cls := .ref C, data := .fields fv } := Heap.get?_push_of_some _ hx
    refine hq h' tk' hp.objs.size (fun c o hc ho => ?_) (Nat.le_refl _) hxs.symm ?_ hn'
    · have z1 := hs.2 c (Nat.ne_of_lt (Heap.lt_size ho))
      exact z1.trans ((Heap.get?_update_ne _ _ _ _ hc).trans (Heap.get?_push_of_some _ ho))
    · exact (hs.2 x hxs).trans (Heap.get?_update_self _ hx1 rfl)
end
/-- what the written part says of the class -/
structure OexT (K : PySem.W.Frag) (b : Bs) (C : Addr) : Prop where
  cls : ∃ nm q N bs bm sn sub ab col dd k0 k1 k2 k3 k5, K.lookup C = some (excClassObj nm q C N bs bm true sn sub ab col dd k0 k1 k2 k3 k5 b.new) ∧ Tail b bm
  sa : PySem.W.findIn K (.ref C) "__setattr__" = some (some (.builtin "object.__setattr__"))
  exC : PySem.W.subIn K (.ref C) (.type "BaseException") = some true
  tyC : PySem.W.typeIn K (.ref C) = some (.type "type")
  kC : PySem.W.keepIn K (.ref C) = true
section
variable {X : Cx} {pins : List (Addr × Obj)} {σ : L2.St} {H : Hp} {s : Shared} {a C dx : Addr} {f : Str} {y : V} {u : Value} {b : Bs} {Q : Unit → Shared → Prop} {E : Value → Shared → Prop} {A : Around}
theorem ost_newT (T : OexT X.K b C) (I : Inv X pins σ H s) (e : H a = some (exo a C none)) (hno : PySem.W.findIn X.K (.ref C) f = some none) (ry : RelV y u)
    (h : ∀ dx s', H dx = none → dx ≠ a → Inv X pins σ (upd (upd H dx (exd dx [(f, y)])) a (exo a C (some dx))) s' → Q () s') : wpAny (model X.prog X.w) A (setAttr (.ref a) f u) Q E s := by
  obtain ⟨nm, q, N, bs, bm, sn, sub, ab, col, dd, k0, k1, k2, k3, k5, hC, hbm⟩ := T.cls
  obtain ⟨t1, ho⟩ := exo_at I.hok e
  obtain ⟨hp, g, d, t, os⟩ := s
  have hcl : PySem.W.clsIn X.K C = some { name := nm, bases := bs, mro := .ref C :: bm, ns := N, qualname := q, hasDict := true, slotNames := sn, subclasses := sub, abstract := ab, collection := col, hasDel := false } := by
    unfold PySem.W.clsIn
    rw [hC] <;> rfl
  refine PySem.W.set_plain I.kIn (ox := { cls := .ref C, dict := none, data := .fields #[.ref t1, .none, .none, .none, .bool false, .none] }) (od := none) ⟨ho, rfl, rfl, trivial⟩ T.sa ?_
  refine osaT I.kIn ho hcl (.own C hbm) rfl hno fun h' tk' dx k dn dne hx hn => ?_
  have hnd : H dx = none := I.hok.fresh dn
  have nd : ∀ {c : Addr} {o : Obj}, hp.get? c = some o → c ≠ dx := fun {c o} z => Nat.ne_of_lt (Nat.lt_of_lt_of_le (Heap.lt_size z) dn)
  have na : ∀ {c : Addr}, H c = none → c ≠ a := fun {c} n z => by
    rw [z, e] at n
    exact nomatch n
  have un : Un X.fs [] H (upd (upd H dx (exd dx [(f, y)])) a (exo a C (some dx))) hp h' := by
    refine ⟨fun c o z n _ _ => k c o (na n) z, fun c o z n _ _ => ⟨o.slots, k c o (na n) z⟩, fun c o z n _ => by rw [upd_ne (na n), upd_ne (nd z)]; exact n, fun c o z _ => ?_, fun c xs z => ?_, fun c o v z => ?_, fun c ps z => ⟨#[], ?_⟩⟩
    · by_cases hc : c = a
      · exact ⟨_, by rw [hc]; exact hx⟩
      · exact ⟨o, k c o hc z⟩
    · rw [upd_ne (at_ne e z exo_tup), upd_ne (ne_of_none z hnd)]; exact z
    · rw [upd_ne (at_ne e z exo_frz), upd_ne (ne_of_none z hnd)]; exact z
    · rw [upd_ne (at_ne e z exo_tbl), upd_ne (ne_of_none z hnd), z]; simp
  refine h dx _ hnd dne (I.un (t' := tk') un fun c o z => ?_)
  by_cases hc : c = a
  · subst hc
    rw [upd_same] at z
    obtain rfl := Option.some.inj z
    exact exo_ok hx
  · rw [upd_ne hc] at z
    by_cases hd : c = dx
    · subst hd
      rw [upd_same] at z
      obtain rfl := Option.some.inj z
      exact exd_ok hn (relO_put (fs := []) ry fun _ => True.intro)
    · rw [upd_ne hd] at z
      refine (I.hok c o z).stay (fun c2 v hc2 z2 => k c2 v ?_ z2) (fun c2 z2 => ?_) fun c2 xs z2 => ?_
      · rcases hc2 with q2 | q2
        · rw [q2]; exact hc
        · exact at_ne e q2 exo_own
      · rw [upd_ne (at_ne e z2 exo_own), upd_ne (ne_of_none z2 hnd)]; exact z2
      · rw [upd_ne (at_ne e z2 exo_tup), upd_ne (ne_of_none z2 hnd)]; exact z2
/-- the built-in class's __init__: nothing of it is told -/
theorem oinitT {us : List Value} {Q : Value → Shared → Prop} (T : OexT X.K b C) (I : Inv X pins σ H s) (e : H a = some (exo a C none)) (hl : us.length ≤ sizeLine) (h : ∀ s', Inv X pins σ H s' → Q .none s') : wpAny (model X.prog X.w) A (call (.builtin b.init) (.ref a :: us)) Q E s := by
  obtain ⟨nm, q, N, bs, bm, sn, sub, ab, col, dd, k0, k1, k2, k3, k5, hC, hbm⟩ := T.cls
  obtain ⟨t1, ho⟩ := exo_at I.hok e
  obtain ⟨hp, g, d, t, os⟩ := s
  refine wpAny_call (initW b.i ((hbm.has _).trans b.hI) (I.kIn _ _ hC) ho hl fun h' t2 k hx => ?_)
  have J := I.write (t' := t) (x := a) (e := a) (o := exo a C none) (by rw [e]; exact True.intro) (.inl rfl) k ⟨_, hx⟩ (exo_ok hx)
  have eu : upd H a (exo a C none) = H := funext fun c => by
    by_cases hc : c = a
    · rw [hc, upd_same, e]
    · rw [upd_ne hc]
  exact h _ (eu ▸ J)
end
def tBaI (K : PySem.W.Frag) (b : Bs) (ta : TA) : TE := fun σ H Q => ta σ H fun vs H1 => ∃ (a C : Addr) (ws : List V), vs = .ref a :: ws ∧ ws.length ≤ 1000 ∧ OexT K b C ∧ H1 a = some (exo a C none) ∧ Q .non H1
/-- self.f = e, the first one -/
def tOsN (K : PySem.W.Frag) (f : Str) (to te : TE) : TS := fun D σ H => te σ H fun y H1 => to σ H1 fun x H2 => ∃ (b : Bs) (a C : Addr), x = .ref a ∧ OexT K b C ∧ PySem.W.findIn K (.ref C) f = some none ∧
  H2 a = some (exo a C none) ∧ ∀ dx, H2 dx = none → dx ≠ a → D.nx σ (upd (upd H2 dx (exd dx [(f, y)])) a (exo a C (some dx)))
section
variable {X : Cx} {o e : Expr} {es : List Expr} {to te : TE} {ta : TA} {f : Str} {p p' p1 p2 pos : Pos}
theorem typ_LE : typeOf (.type "LookupError") = pure (.type "type") := by kernel_rfl
theorem pe_veI {pl : Sem Bool} (hg : Gl X "ValueError") (hm : X.mg "ValueError" = none) (vV : PySem.W.findCls X.K (.type "ValueError") (.type "type") "__init__" = some (.val (.builtin "ValueError.__init__"))) (ha : PA X (e :: es) ta)
    (hc : eval (.Call (.Attribute (.Name "ValueError" p1) "__init__" p2) (e :: es) [] pos) X.env = (do
      let ov ← eval (.Name "ValueError" p1) X.env
      standAt p2.atName
      let (f, first) ← holding [ov] (getMethod ov "__init__" pl)
      callWith pos f first (backTo pos (starEach (e :: es) X.env)) (backToKw pos (keywordEach [] X.env))) := by rfl)
    (he : starEach (e :: es) X.env = (false, eval e X.env) :: starEach es X.env := by rfl) (hpl : (backTo pos (starEach es X.env)).any (·.1) = false := by rfl) :
    PE X (.Call (.Attribute (.Name "ValueError" p1) "__init__" p2) (e :: es) [] pos) (tBaI X.K .ve ta) := by
  refine ⟨fun pins s σ H Q I h => PySem.W.methodCall_KW (ld_blt I hg hm PyProof.Rows.Boot.«ValueError» ?_ (by decide) (by decide)) hc⟩
  obtain ⟨m, fr⟩ := I.fr
  refine PySem.W.method_type fr I.ok.mod.kin PySem.OEX.typ_VE (by decide +kernel) vV (by decide +kernel) ?_
  refine PyProof.Rows.callWith_method1 (thn (ha.run pos pins _ σ H _ (I.tok _) h) fun us s1 ⟨vs, H1, I1, r1, a, C, ws, ev, hl, T, ea, q⟩ => ?_) he hpl
  subst ev
  cases r1 with
  | @cons _ u0 _ ur ra rw' =>
    obtain rfl : u0 = Value.ref a := ra
    exact oinitT T I1 ea (by rw [← Paired.length rw', sizeLine_eq]; omega) fun s' J => ⟨.non, H1, J, rfl, q⟩
theorem pe_leI {pl : Sem Bool} (hg : Gl X "LookupError") (hm : X.mg "LookupError" = none) (vV : PySem.W.findCls X.K (.type "LookupError") (.type "type") "__init__" = some (.val (.builtin "LookupError.__init__"))) (ha : PA X (e :: es) ta)
    (hc : eval (.Call (.Attribute (.Name "LookupError" p1) "__init__" p2) (e :: es) [] pos) X.env = (do
      let ov ← eval (.Name "LookupError" p1) X.env
      standAt p2.atName
      let (f, first) ← holding [ov] (getMethod ov "__init__" pl)
      callWith pos f first (backTo pos (starEach (e :: es) X.env)) (backToKw pos (keywordEach [] X.env))) := by rfl)
    (he : starEach (e :: es) X.env = (false, eval e X.env) :: starEach es X.env := by rfl) (hpl : (backTo pos (starEach es X.env)).any (·.1) = false := by rfl) :
    PE X (.Call (.Attribute (.Name "LookupError" p1) "__init__" p2) (e :: es) [] pos) (tBaI X.K .le ta) := by
  refine ⟨fun pins s σ H Q I h => PySem.W.methodCall_KW (ld_blt I hg hm PyProof.Rows.Boot.«LookupError» ?_ (by decide) (by decide)) hc⟩
  obtain ⟨m, fr⟩ := I.fr
  refine PySem.W.method_type fr I.ok.mod.kin typ_LE (by decide +kernel) vV (by decide +kernel) ?_
  refine PyProof.Rows.callWith_method1 (thn (ha.run pos pins _ σ H _ (I.tok _) h) fun us s1 ⟨vs, H1, I1, r1, a, C, ws, ev, hl, T, ea, q⟩ => ?_) he hpl
  subst ev
  cases r1 with
  | @cons _ u0 _ ur ra rw' =>
    obtain rfl : u0 = Value.ref a := ra
    exact oinitT T I1 ea (by rw [← Paired.length rw', sizeLine_eq]; omega) fun s' J => ⟨.non, H1, J, rfl, q⟩
theorem typ_KE : typeOf (.type "KeyError") = pure (.type "type") := by kernel_rfl
theorem pe_keI {pl : Sem Bool} (hg : Gl X "KeyError") (hm : X.mg "KeyError" = none) (vV : PySem.W.findCls X.K (.type "KeyError") (.type "type") "__init__" = some (.val (.builtin "KeyError.__init__"))) (ha : PA X (e :: es) ta)
    (hc : eval (.Call (.Attribute (.Name "KeyError" p1) "__init__" p2) (e :: es) [] pos) X.env = (do
      let ov ← eval (.Name "KeyError" p1) X.env
      standAt p2.atName
      let (f, first) ← holding [ov] (getMethod ov "__init__" pl)
      callWith pos f first (backTo pos (starEach (e :: es) X.env)) (backToKw pos (keywordEach [] X.env))) := by rfl)
    (he : starEach (e :: es) X.env = (false, eval e X.env) :: starEach es X.env := by rfl) (hpl : (backTo pos (starEach es X.env)).any (·.1) = false := by rfl) :
    PE X (.Call (.Attribute (.Name "KeyError" p1) "__init__" p2) (e :: es) [] pos) (tBaI X.K .ke ta) := by
  refine ⟨fun pins s σ H Q I h => PySem.W.methodCall_KW (ld_blt I hg hm PyProof.Rows.Boot.«KeyError» ?_ (by decide) (by decide)) hc⟩
  obtain ⟨m, fr⟩ := I.fr
  refine PySem.W.method_type fr I.ok.mod.kin typ_KE (by decide +kernel) vV (by decide +kernel) ?_
  refine PyProof.Rows.callWith_method1 (thn (ha.run pos pins _ σ H _ (I.tok _) h) fun us s1 ⟨vs, H1, I1, r1, a, C, ws, ev, hl, T, ea, q⟩ => ?_) he hpl
  subst ev
  cases r1 with
  | @cons _ u0 _ ur ra rw' =>
    obtain rfl : u0 = Value.ref a := ra
    exact oinitT T I1 ea (by rw [← Paired.length rw', sizeLine_eq]; omega) fun s' J => ⟨.non, H1, J, rfl, q⟩
theorem ps_osN (ho : PE X o to) (he : PE X e te) (hs : swapsWith e (some (.Attribute o f p')) pos.line X.env = pure false := by rfl) : PS X (.Assign [.Attribute o f p'] e pos) (tOsN X.K f to te) := by
  refine ⟨fun pins s σ H D I h => plainObj_wpAny_Assign_Attribute (thn (he.run pins s σ H _ I h) fun v s1 ⟨y, H1, I1, r1, q1⟩ => thn (ho.run pins s1 σ H1 _ I1 q1) fun u s2 ⟨x, H2, I2, r2, b, a, C, ex, T, hno, ea, q⟩ => ?_) hs⟩
  subst ex
  obtain rfl : u = Value.ref a := r2
  exact ost_newT T I2 ea hno r1 fun dx s' n ne J => ⟨σ, _, J, q dx n ne⟩
/-- C(e, ..) that is raised -/
theorem pmk_oexT {b : Bs} {CX : CXT} {x : Str} {C fI : Addr} {k : Nat} {fd : FuncData} {ps : List Str} {sp : Sp} {ds : List Value} {dvs : List V} (T : OexT X.K b C) (iC : PySem.W.findIn X.K (.ref C) "__init__" = some (some (.ref fI))) (tI : PySem.W.typeIn X.K (.ref fI) = some (.type "function"))
    (F1 : FnOk X.prog X.w X.K X.mg X.base CX k fI fd ps sp) (hr : Room (k + 1) X.A) (hb : Binds X.K fd ps ds) (hd : Vals dvs ds) (hx : Passes CX X (fun _ _ _ => False)) (hg : Gl X x) (hm : X.mg x = some (.ref C)) (ha : PA X (e :: es) ta)
    (hdb : (x == ("__debug__" : Str)) = false := by decide) (he : starEach (e :: es) X.env = (false, eval e X.env) :: starEach es X.env := by rfl) (hpl : (backTo pos (starEach es X.env)).any (·.1) = false := by rfl) :
    PMk X (.Call (.Name x p) (e :: es) [] pos) (tMkO C sp dvs ta) := by
  intro pins s σ H Q I h
  obtain ⟨nm, q, N, bs, bm, sn, sub, ab, col, dd, k0, k1, k2, k3, k5, hC, hbm⟩ := T.cls
  refine wpAny_Call_Name_kw (ld_glob I hg hm ?_ hdb)
  refine PySem.W.callWith_K (h₀ := X.base) I.ok.mod.kin T.kC (thn (ha.run pos pins s σ H _ I h) fun us s1 ⟨vs, H1, I1, r1, hz, q1⟩ => ⟨I1.kIn, ?_⟩) he hpl
  show wpAny _ _ (call (.ref C) us) _ _ _
  obtain ⟨hp, g, dr, tk, os⟩ := s1
  have hsz : hp.objs.size ≤ hp.objs.size + 1 := Nat.le_succ _
  have hq := q1 (hp.objs.size + 1) (I1.hok.fresh hsz)
  have hget : ((hp.push (PySem.W.kdv_tup us)).push (PySem.HandSPX.excO C hp.objs.size)).get? (hp.objs.size + 1) = some (PySem.HandSPX.excO C hp.objs.size) := by heap_get
  have kk : ∀ c o, hp.get? c = some o → ((hp.push (PySem.W.kdv_tup us)).push (PySem.HandSPX.excO C hp.objs.size)).get? c = some o := fun c o z => Heap.get?_push_of_some _ (Heap.get?_push_of_some _ z)
  have I2 : Inv X pins σ (upd H1 (hp.objs.size + 1) (exo (hp.objs.size + 1) C none)) ⟨(hp.push (PySem.W.kdv_tup us)).push (PySem.HandSPX.excO C hp.objs.size), g, dr, tk, os⟩ :=
    I1.laid (t' := tk) (a := hp.objs.size + 1) (o := exo (hp.objs.size + 1) C none) (h' := (hp.push (PySem.W.kdv_tup us)).push (PySem.HandSPX.excO C hp.objs.size)) kk hsz (exo_ok hget)
  have r2 : Vals (V.ref (hp.objs.size + 1) :: (vs ++ dvs)) (Value.ref (hp.objs.size + 1) :: (us ++ ds)) := .cons rfl (r1.append hd)
  have hl : (Value.ref (hp.objs.size + 1) :: us ++ ds).length = ps.length := r2.length.symm.trans (F1.len _ _ _ _ hq)
  have hus : us.length ≤ sizeLine := by rw [← Paired.length r1, sizeLine_eq]; omega
  obtain ⟨i0, bmB, bf⟩ := b.f
  refine wpAny_call (callW bf ((hbm.has _).trans b.hB) ((hbm.has _).trans b.hA) ((hbm.has _).trans b.hN) (I1.kIn _ _ hC) (PySem.W.looks_findIn I1.kIn iC) (fun self => PySem.W.bind_fn I1.kIn self tI) hus
    (codeAny_mono (F1.run _ X.stack _ _ ⟨Value.ref (hp.objs.size + 1) :: us, []⟩ (Value.ref (hp.objs.size + 1) :: (us ++ ds)) _ _ (fun _ _ _ => False) (hr.make C us []) (I2.env0.make C us []) (hb _ (Value.ref (hp.objs.size + 1) :: us) I2.kIn hl) r2 hq) fun r s' hq' => ?_))
  match r, hq' with
  | .error er, hq' => exact hx pins σ _ _ er s' I2 hq'
  | .ok (.ret u), hq' =>
    obtain ⟨v, H2, os2, bare2, un2, hok2, rv, ev, d, fs, ea, ed, hd1, q2⟩ := hq'
    subst ev
    obtain ⟨h2, g2, d2, t2, os'⟩ := s'
    exact ⟨rv, mk_end (raises_own T.exC T.tyC) I1 hsz kk un2 hok2 os2 bare2 ea ed hd1 q2⟩
end
/-- Base.__init__(self, text) of an own family -/
def spGT (K : PySem.W.Frag) (b : Bs) : Sp := fun vs H Q _ => ∃ (a C : Addr) (x : V), vs = [.ref a, x] ∧ OexT K b C ∧ H a = some (exo a C none) ∧ Q .non H
end Bk

namespace Bk
open PySem PySem.Spec PyProof.Rows L2
/-! ## 21. methods of own classes: what is raised is wished for at the caller's slots -/
structure CalM (P : Program) (w : World) (K : PySem.W.Frag) (mg : Str → Option Value) (base : Heap) (CX : CXT) (k : Nat) (C : Addr) (m : Str) (sp : Sp) : Prop where
  ex : ∃ (f : Addr) (fd : FuncData) (ps : List Str), Meth K C m f ∧ FnOk P w K mg base CX k f fd ps sp ∧ Binds K fd ps []
structure CalMK (P : Program) (w : World) (K : PySem.W.Frag) (mg : Str → Option Value) (base : Heap) (CX : CXT) (k n : Nat) (ks : List Str) (C : Addr) (m : Str) (sp : Sp) (gV : List V → List V → List V) : Prop where
  ex : ∃ (f : Addr) (fd : FuncData) (ps : List Str) (g : List Value → List Value → List Value), Meth K C m f ∧ FnOk P w K mg base CX k f fd ps sp ∧ KBn K fd ps (n + 1) ks g gV
/-- C(..) of a class whose objects are plain -/
structure CalC (P : Program) (w : World) (K : PySem.W.Frag) (mg : Str → Option Value) (base : Heap) (CX : CXT) (k : Nat) (C : Addr) (x : Str) (sp : Sp) : Prop where
  ex : ∃ (f : Addr) (fd : FuncData) (ps : List Str), Mk K C f ∧ FnOk P w K mg base CX k f fd ps sp ∧ Binds K fd ps [] ∧ mg x = some (.ref C)
def tMeS (C : Addr) (m : Str) (sp : Sp) (E : L2.St → XK) (ta : TE) (t : TA) : TE := fun σ H Q => ta σ H fun x H1 => ∃ a dx fs, x = .ref a ∧ H1 a = some (.ins C dx fs) ∧ fs.lookup m = none ∧ t σ H1 fun vs H2 => sp (x :: vs) H2 Q (E σ)
def tMeK (C : Addr) (m : Str) (j : Nat) (sp : Sp) (gV : List V → List V → List V) (E : L2.St → XK) (ta : TE) (tk : TA) : TE := fun σ H Q => ta σ H fun x H1 => ∃ a dx fs, x = .ref a ∧ H1 a = some (.ins C dx fs) ∧ fs.lookup m = none ∧ tk σ H1 fun zs H2 => zs.length = j ∧ sp (gV [x] zs) H2 Q (E σ)
def tMkS (C : Addr) (sp : Sp) (E : L2.St → XK) (t : TA) : TE := fun σ H Q => t σ H fun vs H1 => ∀ x dx, H1 x = none → H1 dx = none → dx ≠ x →
  sp (.ref x :: vs) (upd (upd H1 dx (.own x)) x (.ins C dx [])) (fun v H2 => v = .non ∧ Q (.ref x) H2) (E σ)
section
variable {X : Cx} {CX : CXT} {k j n : Nat} {ks : List Str} {f C : Addr} {fd : FuncData} {ps : List Str} {sp : Sp} {E : L2.St → XK} {x m : Str} {p pos apos : Pos} {e o : Expr} {es : List Expr} {kws : List Keyword} {ta : TE} {t tk : TA} {W : WX} {gV : List V → List V → List V} {g : List Value → List Value → List Value}
theorem ps0 : ∀ σ, PassesAt CX0 X σ ((fun _ => E0) σ) := fun _ _ _ _ _ _ _ h => h.elim
theorem psY : ∀ σ, PassesAt (L2.CX X.prog X.w) X σ ((fun _ => noE) σ) := fun σ pins H s e s' I h => pass_no (X := X) pins σ H s e s' I h
theorem psX {E : XK} (tk : Takes X (fun cls d _ H => E cls d H)) : ∀ σ, PassesAt (L2.CX X.prog X.w) X σ ((fun _ => E) σ) := fun σ pins H s e s' I h => passes_call tk (fun _ _ _ _ z => z) pins σ H s e s' I h
theorem psT (tk : Takes X W) : ∀ σ, PassesAt (L2.CX X.prog X.w) X σ (WE W σ) := passAt tk
/-- o.m(e, ..) -/
theorem pe_mth {pl : Sem Bool} (he : PE X o ta) (cl : Cls X.K C) (c : CalM X.prog X.w X.K X.mg X.base CX k C m sp) (hr : Room j X.A) (hk : k ≤ j) (hx : ∀ σ, PassesAt CX X σ (E σ)) (ha : PA X (e :: es) t)
    (hst : starEach (e :: es) X.env = (false, eval e X.env) :: starEach es X.env := by rfl) (hpl : (backTo pos (starEach es X.env)).any (·.1) = false := by rfl)
    (ht : eval (.Call (.Attribute o m apos) (e :: es) [] pos) X.env = (do
      let ov ← eval o X.env
      standAt apos.atName
      let (f, first) ← holding [ov] (getMethod ov m pl)
      callWith pos f first (backTo pos (starEach (e :: es) X.env)) (backToKw pos (keywordEach [] X.env))) := by rfl) :
    PE X (.Call (.Attribute o m apos) (e :: es) [] pos) (tMeS C m sp E ta t) := by
  obtain ⟨f, fd, ps, hm, F, hb⟩ := c.ex
  refine ⟨fun pins s σ H Q I h => ?_⟩
  refine PySem.W.methodCall_KW (pl := pl) (thn (he.run pins s σ H _ I h) fun u s1 ⟨x, H1, I1, rx, a, dx, fs, ex, ea, l, q⟩ => ?_) ht
  subst ex
  obtain rfl : u = Value.ref a := rx
  refine getmeth_ok I1 ea cl hm l ?_
  refine PySem.W.callWith_K (first := [.ref a]) (h₀ := X.base) I.ok.mod.kin hm.kp (thn (ha.run pos pins s1 σ H1 _ I1 q) fun us s2 ⟨vs, H2, I2, r, q2⟩ => ⟨I2.kIn, ?_⟩) hst hpl
  exact run_fnS (us := .ref a :: us) (vs := .ref a :: vs) F (hr.mono hk) hb (hx σ) I2 (.cons rfl r) q2
/-- o.m() -/
theorem pe_mth0 {pl : Sem Bool} (he : PE X o ta) (cl : Cls X.K C) (c : CalM X.prog X.w X.K X.mg X.base CX k C m sp) (hr : Room j X.A) (hk : k ≤ j) (hx : ∀ σ, PassesAt CX X σ (E σ))
    (ht : eval (.Call (.Attribute o m apos) [] [] pos) X.env = (do
      let ov ← eval o X.env
      standAt apos.atName
      let (f, first) ← holding [ov] (getMethod ov m pl)
      callWith pos f first (backTo pos (starEach [] X.env)) (backToKw pos (keywordEach [] X.env))) := by rfl) :
    PE X (.Call (.Attribute o m apos) [] [] pos) (tMeS C m sp E ta tNil) := by
  obtain ⟨f, fd, ps, hm, F, hb⟩ := c.ex
  refine ⟨fun pins s σ H Q I h => ?_⟩
  refine PySem.W.methodCall_KW (pl := pl) (thn (he.run pins s σ H _ I h) fun u s1 ⟨x, H1, I1, rx, a, dx, fs, ex, ea, l, q⟩ => ?_) ht
  subst ex
  obtain rfl : u = Value.ref a := rx
  refine getmeth_ok I1 ea cl hm l ?_
  exact PySem.W.callWith_K0 (first := [.ref a]) I1.kIn hm.kp (run_fnS (us := [.ref a]) (vs := [.ref a]) F (hr.mono hk) hb (hx σ) I1 (.cons rfl .nil) q)
theorem run_fnNS {pins : List (Addr × Obj)} {σ : L2.St} {H : Hp} {s : Shared} {Q : VK} {us ws : List Value} {vs zs : List V} (F : FnOk X.prog X.w X.K X.mg X.base CX k f fd ps sp) (hr : Room k X.A) (hb : KBn X.K fd ps n ks g gV) (hx : PassesAt CX X σ (E σ))
    (I : Inv X pins σ H s) (r : Vals vs us) (rz : Vals zs ws) (l1 : vs.length = n) (l2 : zs.length = ks.length) (h : sp (gV vs zs) H Q (E σ)) : wpAny (model X.prog X.w) X.A (call (.ref f) us (ks.zip ws)) (EP X pins σ Q) X.xe s := by
  refine wpAny_call (codeAny_mono (F.run X.A X.stack s H ⟨us, ks.zip ws⟩ (g us ws) (gV vs zs) Q (E σ) hr I.env0 (hb.to s us ws I.kIn (r.length.symm.trans l1) (rz.length.symm.trans l2)) (hb.rel r rz) h) fun rr s3 z => ?_)
  match rr, z with
  | .error u, z => exact hx pins H s u s3 I z
  | .ok (.ret _), z => exact I.after z
/-- o.m(k = e, ..) -/
theorem pe_mthK {pl : Sem Bool} (he : PE X o ta) (cl : Cls X.K C) (c : CalMK X.prog X.w X.K X.mg X.base CX k 0 ks C m sp gV) (hr : Room j X.A) (hk : k ≤ j) (hx : ∀ σ, PassesAt CX X σ (E σ)) (hkw : PK X kws tk)
    (hall : (backToKw pos (keywordEach kws X.env)).all (·.1.isSome) = true := by rfl) (hks : (backToKw pos (keywordEach kws X.env)).filterMap (·.1) = ks := by rfl)
    (hpl : ((backTo pos (starEach [] X.env)).any (·.1) || (backToKw pos (keywordEach kws X.env)).any (·.1.isNone)) = false := by rfl)
    (ht : eval (.Call (.Attribute o m apos) [] kws pos) X.env = (do
      let ov ← eval o X.env
      standAt apos.atName
      let (f, first) ← holding [ov] (getMethod ov m pl)
      callWith pos f first (backTo pos (starEach [] X.env)) (backToKw pos (keywordEach kws X.env))) := by rfl) :
    PE X (.Call (.Attribute o m apos) [] kws pos) (tMeK C m ks.length sp gV E ta tk) := by
  obtain ⟨f, fd, ps, g, hm, F, hb⟩ := c.ex
  refine ⟨fun pins s σ H Q I h => ?_⟩
  refine PySem.W.methodCall_KW (pl := pl) (thn (he.run pins s σ H _ I h) fun u s1 ⟨x, H1, I1, rx, a, dx, fs, ex, ea, l, q⟩ => ?_) ht
  subst ex
  obtain rfl : u = Value.ref a := rx
  refine getmeth_ok I1 ea cl hm l ?_
  refine PySem.W.callWith_KW0 (first := [.ref a]) (h₀ := X.base) I.ok.mod.kin hm.kp hall ?_ hpl
  refine thn (hkw.run pos pins s1 σ H1 _ I1 q) fun ws s2 ⟨zs, H2, I2, rz, l2, q2⟩ => ⟨I2.kIn, ?_⟩
  rw [hks]
  exact run_fnNS (us := [.ref a]) (vs := [.ref a]) F (hr.mono hk) hb (hx σ) I2 (.cons rfl .nil) rz rfl l2 q2
theorem run_mkS {pins : List (Addr × Obj)} {σ : L2.St} {H : Hp} {s : Shared} {Q : VK} {us : List Value} {vs : List V} (M : Mk X.K C f) (F : FnOk X.prog X.w X.K X.mg X.base CX k f fd ps sp) (hr : Room (k + 1) X.A) (hb : Binds X.K fd ps [])
    (hx : PassesAt CX X σ (E σ)) (I : Inv X pins σ H s) (r : Vals vs us)
    (h : ∀ x dx, H x = none → H dx = none → dx ≠ x → sp (.ref x :: vs) (upd (upd H dx (.own x)) x (.ins C dx [])) (fun v H2 => v = .non ∧ Q (.ref x) H2) (E σ)) :
    wpAny (model X.prog X.w) X.A (call (.ref C) us) (EP X pins σ Q) X.xe s := by
  have hq := h (s.heap.objs.size + 1) s.heap.objs.size (I.hok.fresh (Nat.le_succ _)) (I.hok.fresh (Nat.le_refl _)) (Nat.ne_of_lt (Nat.lt_succ_self _))
  have I2 := Inv.made (C := C) I
  have r2 : Vals (V.ref (s.heap.objs.size + 1) :: vs) (Value.ref (s.heap.objs.size + 1) :: us) := .cons rfl r
  have hl : (Value.ref (s.heap.objs.size + 1) :: us).length = ps.length := by
    have e := r2.length
    rw [F.len _ _ _ _ hq] at e
    exact e.symm
  have bb := hb { s with heap := _ } (Value.ref (s.heap.objs.size + 1) :: us) I2.kIn (by rw [List.append_nil]; exact hl)
  rw [List.append_nil] at bb
  refine wpAny_call (make_map (f := f) I.kIn M.makes M.init (beq_iff_eq.mp M.fn) (codeAny_mono (F.run _ X.stack _ _ ⟨Value.ref (s.heap.objs.size + 1) :: us, []⟩ (Value.ref (s.heap.objs.size + 1) :: us) _ _ (E σ) (hr.make C us [])
    (I2.env0.make C us []) bb r2 hq) fun r s' hq' => ?_))
  cases r with
  | error e => exact hx pins _ _ e s' I2 hq'
  | ok fl =>
    cases fl with
    | ret u =>
      obtain ⟨v, H', I3, rv, ev, q3⟩ := I2.after hq'
      subst ev
      exact ⟨rv, ⟨V.ref (s.heap.objs.size + 1), H', I3, rfl, q3⟩⟩
    | next => exact False.elim hq'
    | brk => exact False.elim hq'
    | cont => exact False.elim hq'
theorem pe_mk (c : CalC X.prog X.w X.K X.mg X.base CX k C x sp) (hr : Room j X.A) (hk : k + 1 ≤ j) (hg : Gl X x) (hx : ∀ σ, PassesAt CX X σ (E σ)) (ha : PA X (e :: es) t)
    (hdb : (x == ("__debug__" : Str)) = false := by decide) (he : starEach (e :: es) X.env = (false, eval e X.env) :: starEach es X.env := by rfl) (hpl : (backTo pos (starEach es X.env)).any (·.1) = false := by rfl) :
    PE X (.Call (.Name x p) (e :: es) [] pos) (tMkS C sp E t) := by
  obtain ⟨f, fd, ps, M, F, hb, hm⟩ := c.ex
  refine ⟨fun pins s σ H Q I h => ?_⟩
  refine wpAny_Call_Name_kw (ld_glob I hg hm ?_ hdb)
  refine PySem.W.callWith_K (h₀ := X.base) I.ok.mod.kin M.kp (thn (ha.run pos pins s σ H _ I h) fun us s1 ⟨vs, H1, I1, r, q⟩ => ⟨I1.kIn, ?_⟩) he hpl
  exact run_mkS M F (hr.mono hk) hb (hx σ) I1 r q
theorem pe_mk0 (c : CalC X.prog X.w X.K X.mg X.base CX k C x sp) (hr : Room j X.A) (hk : k + 1 ≤ j) (hg : Gl X x) (hx : ∀ σ, PassesAt CX X σ (E σ))
    (hdb : (x == ("__debug__" : Str)) = false := by decide) : PE X (.Call (.Name x p) [] [] pos) (tMkS C sp E tNil) := by
  obtain ⟨f, fd, ps, M, F, hb, hm⟩ := c.ex
  refine ⟨fun pins s σ H Q I h => ?_⟩
  refine wpAny_Call_Name_kw (ld_glob I hg hm ?_ hdb)
  exact PySem.W.callWith_K0 I.kIn M.kp (run_mkS (us := []) (vs := []) M F (hr.mono hk) hb (hx σ) I .nil h)
/-- repr and the like in a guarded def -/
theorem run_fnGS {pins : List (Addr × Obj)} {σ : L2.St} {H : Hp} : True := trivial
end
section
variable {σ : L2.St} {H : Hp} {Q : VK} {C a dx : Addr} {m : Str} {sp : Sp} {E : L2.St → XK} {ta : TE} {t tk : TA} {fs : List (Str × V)}
theorem r_mth (q : ta σ H fun x H1 => ∃ a dx fs, x = .ref a ∧ H1 a = some (.ins C dx fs) ∧ fs.lookup m = none ∧ t σ H1 fun vs H2 => sp (x :: vs) H2 Q (E σ)) : tMeS C m sp E ta t σ H Q := q
theorem r_mthK {j : Nat} {gV : List V → List V → List V} (q : ta σ H fun x H1 => ∃ a dx fs, x = .ref a ∧ H1 a = some (.ins C dx fs) ∧ fs.lookup m = none ∧ tk σ H1 fun zs H2 => zs.length = j ∧ sp (gV [x] zs) H2 Q (E σ)) : tMeK C m j sp gV E ta tk σ H Q := q
theorem r_mkS (q : t σ H fun vs H1 => ∀ x dx, H1 x = none → H1 dx = none → dx ≠ x → sp (.ref x :: vs) (upd (upd H1 dx (.own x)) x (.ins C dx [])) (fun v H2 => v = .non ∧ Q (.ref x) H2) (E σ)) : tMkS C sp E t σ H Q := q
theorem r_fld {K : PySem.W.Frag} {f : Str} {v : V} (q : ta σ H fun x H1 => ∃ a C dx fs v, x = .ref a ∧ H1 a = some (.ins C dx fs) ∧ Cls K C ∧ NoAttr K C f ∧ fs.lookup f = some v ∧ Q v H1) : tFld K ta f σ H Q := q
end
/-! ## 22. refusals whose field has another name -/
def RefuseN (nm : Str) (C : Addr) (v : V) (H : Hp) (E : XK) : Prop := ∀ d H', H d = none → Same H H' → H' d = some (.xd [(nm, v)]) → E (.ref C) (some d) H'
theorem RefuseN.on {nm : Str} {C : Addr} {v : V} {H H' : Hp} {E : XK} (r : RefuseN nm C v H E) (s : Same H H') : RefuseN nm C v H' E := fun d H2 hd s2 e => r d H2 (s.free hd) (s.trans s2) e
def spInitN (nm : Str) (C : Addr) : Sp := fun vs H Q _ => ∃ (a : Addr) (x : V), vs = [.ref a, x] ∧ H a = some (exo a C none) ∧ ∀ dx, H dx = none → dx ≠ a → Q .non (upd (upd H dx (exd dx [(nm, x)])) a (exo a C (some dx)))
theorem r_mkN {nm : Str} {C : Addr} {v : V} {H : Hp} {E : XK} (z : RefuseN nm C v H E) : [v].length ≤ 1000 ∧ ∀ a, H a = none → spInitN nm C (.ref a :: ([v] ++ [])) (upd H a (exo a C none))
    (fun u H2 => u = .non ∧ ∃ (d : Addr) (fs : List (Str × V)), H2 a = some (exo a C (some d)) ∧ H2 d = some (exd d fs) ∧ H d = none ∧ E (.ref C) (some d) (upd (del H2 a) d (.xd fs))) (fun _ _ _ => False) := by
  refine ⟨Nat.le_of_ble_eq_true rfl, fun a ha => ⟨a, v, rfl, upd_same, fun dx hd ne => ⟨rfl, dx, [(nm, v)], upd_same, ?_, ?_, ?_⟩⟩⟩
  · rw [upd_ne ne, upd_same]
  · rw [upd_ne ne] at hd
    exact hd
  · rw [upd_ne ne] at hd
    refine z dx _ hd (fun b o e => ?_) upd_same
    have h1 : b ≠ a := ne_of_none e ha
    have h2 : b ≠ dx := ne_of_none e hd
    rw [upd_ne h2]
    show del _ a b = some o
    unfold del
    rw [if_neg h1, upd_ne h1, upd_ne h2, upd_ne h1]
    exact e
structure ExcN (K : PySem.W.Frag) (nm : Str) (C f : Addr) : Prop where
  ox : OexC K C
  i : PySem.W.findIn K (.ref C) "__init__" = some (some (.ref f))
  t : PySem.W.typeIn K (.ref f) = some (.type "function")
  nf : PySem.W.findIn K (.ref C) nm = some none
  xf : XfC K C
/-! ## 23. a comprehension each turn of which lays a new object, all of them unlike -/
section
variable {J : It} {n : Nat} {G : Hp → Prop} {Y : Nat → Hp → V → Hp → Prop} {g : TG} {te : TE} {vs : List Nat} {σ : L2.St} {H : Hp} {D : Addr} {Q : VK}
theorem lc_new (w : Walk J n G Y) (c : Nat → HO) (hD : H D = none) (hn : n ≤ 10000) (hG : ∀ H', Same H H' → G H')
    (hs : ∀ i x H1 H2 (Q' : VK) (R' : Hp → Prop), i < n → Same H H1 → Y i H1 x H2 → (∀ t H3, H1 t = none → Same H1 H3 → H3 t = some (c i) → Q' (.ref t) H3) →
      g x (wipe σ vs) H2 fun τ H3 => wipe τ vs = wipe σ vs ∧ tYes τ H3 fun b H4 => if b = true then te τ H4 Q' else R' H4)
    (q : ∀ H' (ts : List Addr), Same H H' → H' D = some (.lst (ts.map V.ref)) → ts.length = n → (∀ k t, ts[k]? = some t → H' t = some (c k)) → (D :: ts).Nodup → (∀ t ∈ ts, H t = none) → Q (.ref D) H') :
    ∃ W : Nat → Nat → Hp → Prop, (∃ m, W 0 m (upd H D (.lst []))) ∧ ∀ i m H, W i m H →
      (J.stop i H ∧ Q (.ref D) H) ∨ (J.go i H ∧ ∃ Nx : Hp → Prop, (∀ H', Nx H' → ∃ m', m' < m ∧ W (i + 1) m' H') ∧ ∀ x H', J.yld i H x H' → g x (wipe σ vs) H' fun σ2 H2 => wipe σ2 vs = wipe σ vs ∧ tYes σ2 H2 fun b H3 =>
        if b = true then te σ2 H3 fun y H4 => ∃ acc, H4 D = some (.lst acc) ∧ acc.length < sizeLine ∧ Nx (upd H4 D (.lst (acc ++ [y]))) else Nx H3) := by
  refine lc_it w (fun i G => Same H G ∧ ∃ ts : List Addr, G D = some (.lst (ts.map V.ref)) ∧ ts.length = i ∧ (∀ k t, ts[k]? = some t → G t = some (c k)) ∧ (D :: ts).Nodup ∧ ∀ t ∈ ts, H t = none)
    ⟨same_upd hD, [], upd_same, rfl, (fun _ _ z => nomatch z), (by simp), (fun _ z => nomatch z)⟩ (fun i G _ z => hG G z.1) (fun i x H1 H2 hi ⟨sm, ts, e, l, all, nd, fr⟩ y => ?_) fun G ⟨sm, ts, e, l, all, nd, fr⟩ => q G ts sm e l all nd fr
  refine hs i x H1 H2 _ _ hi sm y fun t H3 nt s3 et => ?_
  have tD : t ≠ D := fun z => by rw [z, e] at nt; exact nomatch nt
  have tts : t ∉ ts := fun z => by
    obtain ⟨k, hk⟩ := List.getElem?_of_mem z
    rw [all k t hk] at nt
    exact nomatch nt
  obtain ⟨nD, nts⟩ := List.nodup_cons.mp nd
  refine ⟨_, s3 _ _ e, by rw [List.length_map, l]; exact Nat.lt_of_lt_of_le hi (Nat.le_trans hn (by decide)), sameBut (sm.trans s3) hD, ts ++ [t], ?_, by rw [List.length_append, l]; rfl, fun k u hk => ?_, ?_, fun u hu => ?_⟩
  · rw [upd_same, List.map_append]
    rfl
  · by_cases hk2 : k < ts.length
    · rw [List.getElem?_append_left hk2] at hk
      have z := s3 _ _ (all k u hk)
      have nu : u ≠ D := fun q => by subst q; exact nD (List.mem_of_getElem? hk)
      rw [upd_ne nu]
      exact z
    · have e3 : k = i := by
        have := (List.getElem?_eq_some_iff.mp hk).1
        rw [List.length_append] at this
        have h1 : [t].length = 1 := rfl
        omega
      subst e3
      rw [List.getElem?_append_right (by omega), l, Nat.sub_self] at hk
      obtain rfl := Option.some.inj hk
      rw [upd_ne tD]
      exact et
  · refine List.nodup_cons.mpr ⟨fun z => ?_, List.nodup_append.mpr ⟨nts, by simp, fun a ha b hb q => ?_⟩⟩
    · rcases List.mem_append.mp z with z | z
      · exact nD z
      · exact tD (List.mem_singleton.mp z).symm
    · rw [List.mem_singleton.mp hb] at q
      exact tts (q ▸ ha)
  · rcases List.mem_append.mp hu with z | z
    · exact fr u z
    · rw [List.mem_singleton.mp z]
      exact sm.free nt
end
/-! ## 24. a list of lists -/
/-- at l: a list of the lists at rows, which hold ws -/
structure LL (H : Hp) (l : Addr) (rows : List Addr) (ws : List (List V)) : Prop where
  at_ : H l = some (.lst (rows.map V.ref))
  len : rows.length = ws.length
  row : ∀ (k : Nat) (r : Addr) (w : List V), rows[k]? = some r → ws[k]? = some w → H r = some (.lst w)
  nd : (l :: rows).Nodup
theorem LL.keep {H H' : Hp} {l : Addr} {rows : List Addr} {ws : List (List V)} (h : LL H l rows ws) (k : ∀ b ∈ l :: rows, H' b = H b) : LL H' l rows ws :=
  ⟨by rw [k l List.mem_cons_self]; exact h.at_, h.len, fun i r w h1 h2 => by rw [k r (List.mem_cons_of_mem _ (List.mem_of_getElem? h1))]; exact h.row i r w h1 h2, h.nd⟩
theorem LL.same {H H' : Hp} {l : Addr} {rows : List Addr} {ws : List (List V)} (h : LL H l rows ws) (s : Same H H') : LL H' l rows ws :=
  ⟨s _ _ h.at_, h.len, fun i r w h1 h2 => s _ _ (h.row i r w h1 h2), h.nd⟩
/-- the row at k grows -/
theorem LL.put {H H' : Hp} {l r : Addr} {rows : List Addr} {ws : List (List V)} {k : Nat} {w w' : List V} (h : LL H l rows ws) (hr : rows[k]? = some r) (hw : ws[k]? = some w) (b : But r H H') (e : H' r = some (.lst w')) : LL H' l rows (ws.set k w') := by
  obtain ⟨nl, nr⟩ := List.nodup_cons.mp h.nd
  have lr : l ≠ r := fun q => nl (q ▸ List.mem_of_getElem? hr)
  refine ⟨b _ _ lr h.at_, by rw [List.length_set]; exact h.len, fun i r2 w2 h1 h2 => ?_, h.nd⟩
  by_cases q : i = k
  · subst q
    rw [hr] at h1
    obtain rfl := Option.some.inj h1
    rw [List.getElem?_set_self (List.getElem?_eq_some_iff.mp hw).1] at h2
    obtain rfl := Option.some.inj h2
    exact e
  · rw [List.getElem?_set_ne (fun z => q z.symm)] at h2
    refine b _ _ (fun z => ?_) (h.row i r2 w2 h1 h2)
    subst z
    exact q ((List.getElem?_inj (List.getElem?_eq_some_iff.mp h1).1 nr).mp (h1.trans hr.symm))
end Bk

namespace Bk
open PySem PySem.Spec PyProof.Rows L2
/-! ## 25. the text of things, dicts among them -/
mutual
/-- v is the thing d; b: a dict may be in it, and each list stands where no dict of modules does -/
inductive Dq (b : Bool) (K : PySem.W.Frag) (H : Hp) : V → PyData → Prop
  | non : Dq b K H .non .none
  | bl (c : Bool) : Dq b K H (.bl c) (.bool c)
  | int (i : Int) : Dq b K H (.int i) (.int i)
  | str (x : Str) : Dq b K H (.str x) (.str x)
  | lst {a : Addr} {xs : List V} {ds : List PyData} : (b = true → a ≠ sysModules) → SqL K H a xs → DqAll b K H xs ds → Dq b K H (.ref a) (.list ds)
  | tup {a : Addr} {xs : List V} {ds : List PyData} : SqT K H a xs → DqAll b K H xs ds → Dq b K H (.ref a) (.tuple ds)
  | dK {a : Addr} {kvs : List (Key × V)} {ps : List (PyData × PyData)} : b = true → H a = some (.dK kvs) → DqAll b K H (kvs.map fun q => kV q.1) (ps.map (·.1)) → DqAll b K H (kvs.map (·.2)) (ps.map (·.2)) → Dq b K H (.ref a) (.dict ps)
inductive DqAll (b : Bool) (K : PySem.W.Frag) (H : Hp) : List V → List PyData → Prop
  | nil : DqAll b K H [] []
  | cons {v : V} {vs : List V} {d : PyData} {ds : List PyData} : Dq b K H v d → DqAll b K H vs ds → DqAll b K H (v :: vs) (d :: ds)
end
mutual
theorem dq_flat {K : PySem.W.Frag} {H : Hp} : ∀ (d : PyData) (v : V), Dq false K H v d → d.hasDict = false
  | .none, _, _ => by simp only [PyData.hasDict]
  | .bool _, _, _ => by simp only [PyData.hasDict]
  | .int _, _, _ => by simp only [PyData.hasDict]
  | .str _, _, _ => by simp only [PyData.hasDict]
  | .list ds, _, h => by
    cases h with
    | lst _ _ ha => simpa only [PyData.hasDict] using dq_flatAll ds _ ha
  | .tuple ds, _, h => by
    cases h with
    | tup _ ha => simpa only [PyData.hasDict] using dq_flatAll ds _ ha
  | .dict _, _, h => by
    cases h with
    | dK e _ _ _ => exact nomatch e
theorem dq_flatAll {K : PySem.W.Frag} {H : Hp} : ∀ (ds : List PyData) (vs : List V), DqAll false K H vs ds → PyData.hasDictAll ds = false
  | [], _, _ => by simp only [PyData.hasDictAll]
  | d :: ds, _, h => by
    cases h with
    | cons h1 h2 => simp only [PyData.hasDictAll, dq_flat d _ h1, dq_flatAll ds _ h2, Bool.or_false]
end
theorem kv_of : ∀ {P : Program} {w : World} {kvs : List (Key × V)} {vs : List (Key × Value)} {es : List DictEntry}, KV kvs vs → Pairs (mixKind P w) es vs → Vals (kvs.map fun q => kV q.1) (es.map (·.key)) ∧ Vals (kvs.map (·.2)) (es.map (·.val))
  | _, _, _, _, _, .nil, .nil => ⟨.nil, .nil⟩
  | P, w, (k, v) :: kvs, (k2, u) :: vs, e :: es, .cons r t, .cons h1 h2 h3 => by
    obtain ⟨a, b⟩ := kv_of (P := P) (w := w) t h3
    obtain ⟨rk, rv⟩ := r
    refine ⟨.cons ?_ a, .cons ?_ b⟩
    · have rk : k = k2 := rk
      subst rk
      rcases keyIs_shape (show keyIs k e.key = true from h1) with ⟨i, t, rfl, z⟩ | ⟨x, t, rfl, z⟩
      · exact ⟨t, z⟩
      · exact ⟨t, z⟩
    · show RelV v e.val
      rw [h2]
      exact rv
section
variable {X : Cx} {pins : List (Addr × Obj)} {σ : L2.St} {H : Hp} {s : Shared} {b : Bool}
mutual
theorem Dq.reads (I : Inv X pins σ H s) : ∀ {d : PyData} {v : V} {u : Value}, Dq b X.K H v d → RelV v u → ∃ as, Reads s.heap u d as ∧ (b = true → sysModules ∉ as)
  | _, _, _, .non, r => by
    cases r
    exact ⟨_, Reads.none, fun _ => by simp⟩
  | _, _, _, .bl b, r => by
    cases r
    exact ⟨_, Reads.bool b, fun _ => by simp⟩
  | _, _, _, .int i, r => by
    obtain ⟨t, rfl⟩ := r
    exact ⟨_, Reads.int i t, fun _ => by simp⟩
  | _, _, _, .str x, r => by
    obtain ⟨t, rfl⟩ := r
    exact ⟨_, Reads.str x t, fun _ => by simp⟩
  | _, _, _, .lst ne hs ha, r => by
    cases r
    obtain ⟨its, rv, ⟨o, n, ho, hc, _, hd⟩, _⟩ := I.list hs
    obtain ⟨as, hr, hn⟩ := Dq.readsAll I ha rv
    exact ⟨_, Reads.list ho hc hd hr, fun z m => by
      rcases List.mem_cons.mp m with m | m
      · exact ne z m.symm
      · exact hn z m⟩
  | _, _, _, .tup hs ha, r => by
    cases r
    obtain ⟨its, rv, ⟨o, ho, hc, n, hd⟩, _⟩ := I.tuple hs
    obtain ⟨as, hr, hn⟩ := Dq.readsAll I ha rv
    exact ⟨_, Reads.tuple ho hc hd hr, hn⟩
  | _, _, _, .dK (a := a) (kvs := kvs) (ps := ps) eb ha h1 h2, r => by
    cases r
    obtain ⟨_, hm, vs, kv, o, es, ep, ho, hx, hde, _, pr, _⟩ := I.hok a _ ha
    obtain ⟨r1, r2⟩ := kv_of kv pr
    obtain ⟨as, q1, n1⟩ := Dq.readsAll I h1 r1
    obtain ⟨bs, q2, n2⟩ := Dq.readsAll I h2 r2
    have rd : Reads s.heap (.ref a) (.dict ps) (a :: as ++ bs) := .dict ho hx.1 hde q1 q2
    exact ⟨_, rd, fun z m => by
      rcases List.mem_append.mp m with m | m
      · rcases List.mem_cons.mp m with m | m
        · rw [← m] at hm
          exact absurd hm (by decide)
        · exact n1 z m
      · exact n2 z m⟩
theorem Dq.readsAll (I : Inv X pins σ H s) : ∀ {ds : List PyData} {vs : List V} {us : List Value}, DqAll b X.K H vs ds → Vals vs us → ∃ as, ReadsAll s.heap us ds as ∧ (b = true → sysModules ∉ as)
  | _, _, _, .nil, r => by
    cases r
    exact ⟨_, ReadsAll.nil, fun _ => by simp⟩
  | _, _, _, .cons h1 h2, r => by
    cases r with
    | cons r1 r2 =>
      obtain ⟨as, q1, n1⟩ := Dq.reads I h1 r1
      obtain ⟨bs, q2, n2⟩ := Dq.readsAll I h2 r2
      exact ⟨_, ReadsAll.cons q1 q2, fun z m => by
        rcases List.mem_append.mp m with m | m
        · exact n1 z m
        · exact n2 z m⟩
end
end
/-- z is how repr tells v -/
def Shq (K : PySem.W.Frag) (H : Hp) (v : V) (z : Str) : Prop := ∃ b d, Dq b K H v d ∧ d.showable = true ∧ d.shown.length ≤ sizeLine ∧ d.depth ≤ 60 ∧ z = d.shown
section
variable {X : Cx} {j : Nat}
theorem call_repr_shq (ga : X.A.guards = some []) (hr : Room j X.A) : CallR X (.builtin "repr") (fun xs H Q => ∃ v z, xs = [v] ∧ Shq X.K H v z ∧ Q (.str z) H) := by
  intro pins s σ H xs us Q I r h
  obtain ⟨v, z, rfl, ⟨b, d, hd, h1, h2, h3, rfl⟩, q⟩ := h
  obtain ⟨u, rfl, rv⟩ := vals1 r
  have hu := hr.units
  have fin : ∀ {x : Str} {t : Nat}, x = d.shown → EP X pins σ Q (.str x s.toks) { s with toks := t } := fun {x t} e => ⟨.str _, H, I.tok _, ⟨_, rfl⟩, by rw [e]; exact q⟩
  have ref : ∀ {a : Addr}, v = .ref a → wpAny (model X.prog X.w) X.A (call (.builtin "repr") [u]) (EP X pins σ Q) X.xe s := fun {a} e => by
    subst e
    obtain rfl : u = Value.ref a := rv
    obtain ⟨as, rd, hn⟩ := Dq.reads I (u := .ref a) hd rfl
    refine repr_of_reads' rd h1 (fun hh => ?_) ga (by omega) (fun _ _ e => e) (fun h' u tk hk => ⟨.str _, H, I.kept hk, ⟨_, rfl⟩, q⟩) h2
    cases b with
    | true => exact hn rfl
    | false =>
      rw [dq_flat d _ hd] at hh
      exact nomatch hh
  cases hd with
  | non =>
    cases rv
    exact PySem.P.repr_of_none (fin (by simp only [PyData.shown]))
  | bl b =>
    cases rv
    exact PySem.P.repr_of_bool (fin (by simp only [PyData.shown]))
  | int i =>
    obtain ⟨t, rfl⟩ := rv
    exact PySem.P.repr_of_int (by simpa only [PyData.showable, decide_eq_true_eq] using h1) (fin (by simp only [PyData.shown]))
  | str x =>
    obtain ⟨t, rfl⟩ := rv
    exact PySem.P.repr_of_str (fin (by simp only [PyData.shown])) (by simpa only [PyData.shown] using h2)
  | lst _ _ _ => exact ref rfl
  | tup _ _ => exact ref rfl
  | dK _ _ _ _ => exact ref rfl
end
mutual
def smQ : PyData → Bool
  | .none | .bool _ => true
  | .int i => decide (i.natAbs < 10 ^ 38)
  | .str x => x.cps.toList.all fun c => decide (c < 16 ^ 8)
  | .list xs | .tuple xs => smQL xs
  | .dict ps => smQK ps
def smQL : List PyData → Bool
  | [] => true
  | x :: xs => smQ x && smQL xs
def smQK : List (PyData × PyData) → Bool
  | [] => true
  | (x, y) :: xs => smQ x && smQ y && smQK xs
end
mutual
theorem smQ_ok : ∀ d : PyData, smQ d = true → d.showable = true ∧ d.leavesShort 40 = true
  | .none, _ => ⟨rfl, rfl⟩
  | .bool _, _ => ⟨rfl, rfl⟩
  | .int i, h => by
    have h' : smallD (.int i) = true := by simpa only [smallD, smQ] using h
    exact small_ok _ h'
  | .str x, h => ⟨by simp only [PyData.showable], by simpa only [smQ, PyData.leavesShort] using h⟩
  | .list xs, h => by simpa only [PyData.showable, PyData.leavesShort] using smQ_okL xs (by simpa only [smQ] using h)
  | .tuple xs, h => by simpa only [PyData.showable, PyData.leavesShort] using smQ_okL xs (by simpa only [smQ] using h)
  | .dict ps, h => by simpa only [PyData.showable, PyData.leavesShort] using smQ_okK ps (by simpa only [smQ] using h)
theorem smQ_okL : ∀ xs : List PyData, smQL xs = true → PyData.showableAll xs = true ∧ PyData.leavesShortAll 40 xs = true
  | [], _ => ⟨rfl, rfl⟩
  | x :: xs, h => by
    have h' : smQ x = true ∧ smQL xs = true := by simpa only [smQL, Bool.and_eq_true] using h
    obtain ⟨a, b⟩ := smQ_ok x h'.1
    obtain ⟨c, d⟩ := smQ_okL xs h'.2
    exact ⟨by simp only [PyData.showableAll, a, c, Bool.and_true], by simp only [PyData.leavesShortAll, b, d, Bool.and_true]⟩
theorem smQ_okK : ∀ xs : List (PyData × PyData), smQK xs = true → PyData.showableKv xs = true ∧ PyData.leavesShortKv 40 xs = true
  | [], _ => ⟨rfl, rfl⟩
  | (x, y) :: xs, h => by
    have h' : (smQ x = true ∧ smQ y = true) ∧ smQK xs = true := by simpa only [smQK, Bool.and_eq_true] using h
    obtain ⟨a, b⟩ := smQ_ok x h'.1.1
    obtain ⟨a2, b2⟩ := smQ_ok y h'.1.2
    obtain ⟨c, d⟩ := smQ_okK xs h'.2
    exact ⟨by simp only [PyData.showableKv, a, a2, c, Bool.and_true], by simp only [PyData.leavesShortKv, b, b2, d, Bool.and_true]⟩
end
section
variable {b : Bool} {K : PySem.W.Frag} {H H' : Hp} {v : V} {a : Addr} {xs : List V}
theorem shq_of {d : PyData} (h : Dq b K H v d) (s : smQ d = true) (l : d.bulk ≤ 390000) (e : d.depth ≤ 60) : Shq K H v d.shown := by
  obtain ⟨h1, h2⟩ := smQ_ok d s
  have h3 := PyData.shown_le_bulk 40 (by decide) d h2
  exact ⟨b, d, h, h1, by rw [sizeLine_eq]; omega, e, rfl⟩
/-- a thing that may stand in a list whose text is asked: m its size -/
def ItQ (b : Bool) (K : PySem.W.Frag) (H : Hp) (m : Nat) (v : V) : Prop := ∃ d, Dq b K H v d ∧ smQ d = true ∧ d.bulk ≤ m ∧ d.depth ≤ 20
theorem ItQ.shq {m : Nat} (h : ItQ b K H m v) (l : m ≤ 390000) : ∃ z, Shq K H v z := let ⟨_, h1, h2, h3, h4⟩ := h; ⟨_, shq_of h1 h2 (by omega) (by omega)⟩
theorem itqs {m : Nat} : ∀ {xs : List V}, (∀ y ∈ xs, ItQ b K H m y) → ∃ ds, DqAll b K H xs ds ∧ smQL ds = true ∧ PyData.bulkAll ds ≤ (m + 1) * xs.length ∧ PyData.depthAll ds ≤ 20
  | [], _ => ⟨[], .nil, rfl, Nat.le_refl _, Nat.zero_le _⟩
  | y :: ys, h => by
    obtain ⟨d, h1, h2, h3, h4⟩ := h y List.mem_cons_self
    obtain ⟨ds, g1, g2, g3, g4⟩ := itqs fun z hz => h z (List.mem_cons_of_mem _ hz)
    refine ⟨d :: ds, .cons h1 g1, by simp only [smQL, h2, g2, Bool.and_true], ?_, ?_⟩
    · simp only [PyData.bulkAll, List.length_cons, Nat.mul_succ]
      omega
    · simp only [PyData.depthAll]
      omega
/-- two lists of the same things are told alike -/
theorem shq_lst2 {m : Nat} {c : Addr} (h : SqL K H a xs) (h2 : SqL K H c xs) (n1 : b = true → a ≠ sysModules) (n2 : b = true → c ≠ sysModules) (i : ∀ y ∈ xs, ItQ b K H m y) (l : (m + 1) * xs.length ≤ 390000) : ∃ z, Shq K H (.ref a) z ∧ Shq K H (.ref c) z := by
  obtain ⟨ds, g1, g2, g3, g4⟩ := itqs i
  exact ⟨_, shq_of (.lst n1 h g1) (by simpa only [smQ] using g2) (by simp only [PyData.bulk]; omega) (by simp only [PyData.depth]; omega),
    shq_of (.lst n2 h2 g1) (by simpa only [smQ] using g2) (by simp only [PyData.bulk]; omega) (by simp only [PyData.depth]; omega)⟩
theorem shq_tup2 {m : Nat} {c : Addr} (h : SqT K H a xs) (h2 : SqT K H c xs) (i : ∀ y ∈ xs, ItQ b K H m y) (l : (m + 1) * xs.length ≤ 390000) : ∃ z, Shq K H (.ref a) z ∧ Shq K H (.ref c) z := by
  obtain ⟨ds, g1, g2, g3, g4⟩ := itqs i
  exact ⟨_, shq_of (.tup h g1) (by simpa only [smQ] using g2) (by simp only [PyData.bulk]; omega) (by simp only [PyData.depth]; omega),
    shq_of (.tup h2 g1) (by simpa only [smQ] using g2) (by simp only [PyData.bulk]; omega) (by simp only [PyData.depth]; omega)⟩
/-- a list of things within a list -/
theorem itq_lst {m M : Nat} (h : SqL K H a xs) (n1 : b = true → a ≠ sysModules) (i : ∀ y ∈ xs, ∃ d, Dq b K H y d ∧ smQ d = true ∧ d.bulk ≤ m ∧ d.depth = 0) (l : (m + 1) * xs.length ≤ M) : ItQ b K H M (.ref a) := by
  have go : ∀ {xs : List V}, (∀ y ∈ xs, ∃ d, Dq b K H y d ∧ smQ d = true ∧ d.bulk ≤ m ∧ d.depth = 0) → ∃ ds, DqAll b K H xs ds ∧ smQL ds = true ∧ PyData.bulkAll ds ≤ (m + 1) * xs.length ∧ PyData.depthAll ds = 0 := by
    intro xs
    induction xs with
    | nil => exact fun _ => ⟨[], .nil, rfl, Nat.le_refl _, rfl⟩
    | cons y ys ih =>
      intro h
      obtain ⟨d, h1, h2, h3, h4⟩ := h y List.mem_cons_self
      obtain ⟨ds, g1, g2, g3, g4⟩ := ih fun z hz => h z (List.mem_cons_of_mem _ hz)
      refine ⟨d :: ds, .cons h1 g1, by simp only [smQL, h2, g2, Bool.and_true], ?_, ?_⟩
      · simp only [PyData.bulkAll, List.length_cons, Nat.mul_succ]
        omega
      · simp only [PyData.depthAll, h4, g4]
        rfl
  obtain ⟨ds, g1, g2, g3, g4⟩ := go i
  exact ⟨_, .lst n1 h g1, by simpa only [smQ] using g2, by simp only [PyData.bulk]; omega, by simp only [PyData.depth, g4]; omega⟩
theorem dqS (h : smS v = true) : Dq b K H v (datS v) ∧ smQ (datS v) = true ∧ (datS v).bulk ≤ 100 ∧ (datS v).depth = 0 := by
  obtain ⟨h1, h2, h3, h4⟩ := datS_ok (K := K) (H := H) h
  refine ⟨?_, ?_, h3, h4⟩
  · cases v with
    | non => exact .non
    | bl b => exact .bl b
    | int i => exact .int i
    | str z => exact .str z
    | _ => exact nomatch h
  · cases v with
    | non => exact rfl
    | bl b => exact rfl
    | int i => simpa only [smallD, smQ, datS] using h2
    | str z => simpa only [smallD, smQ, datS] using h2
    | _ => exact nomatch h
theorem itq_sc (h : smS v = true) : ItQ b K H 100 v := let ⟨h1, h2, h3, h4⟩ := dqS h; ⟨_, h1, h2, h3, by omega⟩
theorem itq_int {i : Int} (h : i.natAbs < 10 ^ 38) : ItQ b K H 0 (.int i) := ⟨.int i, .int i, by simpa only [smQ, decide_eq_true_eq] using h, Nat.le_refl _, by simp only [PyData.depth]; decide⟩
theorem ItQ.mono {m M : Nat} (h : ItQ b K H m v) (l : m ≤ M) : ItQ b K H M v := let ⟨d, h1, h2, h3, h4⟩ := h; ⟨d, h1, h2, by omega, h4⟩
theorem shq_sc (h : smS v = true) : Shq K H v (datS v).shown := let ⟨h1, h2, h3, h4⟩ := dqS (b := false) h; shq_of h1 h2 (by omega) (by omega)
end
/-! new lists and dicts stand where no dict of modules does -/
def NewLB (xs : List V) (H : Hp) (Q : VK) : Prop := xs.length ≤ sizeLine ∧ ∀ p, H p = none → p ≠ sysModules → Q (.ref p) (upd H p (.lst xs))
def tLstB (t : TA) : TE := fun σ H Q => t σ H fun xs H1 => NewLB xs H1 Q
section
variable {X : Cx} {es : List Expr} {t : TA} {pos : Pos}
theorem pe_lstB (h : PA X es t) : PE X (.List es pos) (tLstB t) := by
  refine ⟨fun pins s σ H Q I hq => ?_⟩
  refine wpAny_List_spliced (thn (h.run pos pins s σ H _ I hq) fun us s1 ⟨xs, H1, I1, r, z, q⟩ => ⟨by rw [← r.length]; exact z, ?_⟩)
  have hf : H1 s1.heap.objs.size = none := I1.hok.fresh (Nat.le_refl _)
  refine ⟨.ref s1.heap.objs.size, upd H1 s1.heap.objs.size (.lst xs), I1.laid (t' := s1.toks) (fun b u e => Heap.get?_push_of_some _ e) (Nat.le_refl _) ?_, rfl, q _ hf (Nat.ne_of_gt I1.big)⟩
  exact ⟨z, us, 0, r, Heap.get?_push_size _ rfl⟩
theorem r_lstB {σ : L2.St} {H : Hp} {Q : VK} (q : t σ H fun xs H1 => NewLB xs H1 Q) : tLstB t σ H Q := q
theorem newLB {xs : List V} {H : Hp} {Q : VK} (q : ∀ p H', H p = none → p ≠ sysModules → Same H H' → H' p = some (.lst xs) → Q (.ref p) H') (hl : xs.length ≤ 10000 := by exact Nat.le_of_ble_eq_true rfl) : NewLB xs H Q :=
  ⟨Nat.le_trans hl (by decide), fun p hp ns => q p _ hp ns (same_upd hp) upd_same⟩
end
end Bk

namespace Bk
open PySem PySem.Spec PyProof.Rows L2
/-! ## 26. isinstance of what an except suite holds -/
def rIsH (K : PySem.W.Frag) (a : Addr) (cls : Value) (d : Option Addr) (C : Addr) : List V → Hp → VK → Prop := fun xs H Q => ∃ (c : V) (u : Value) (b : Bool) (dd : Addr) (fs : List (Str × V)), xs = [.ref a, c] ∧ cls = .ref C ∧ d = some dd ∧ H dd = some (.xd fs) ∧ ClsV c u ∧ PySem.W.kitOne K (.ref C) u = some b ∧ Q (.bl b) H
def rIsH2 (K : PySem.W.Frag) (a : Addr) (cls : Value) (d : Option Addr) (C : Addr) : List V → Hp → VK → Prop := fun xs H Q => ∃ (tp : Addr) (cs : List V) (us : List Value) (b : Bool) (dd : Addr) (fs : List (Str × V)), xs = [.ref a, .ref tp] ∧ cls = .ref C ∧ d = some dd ∧ H dd = some (.xd fs) ∧ H tp = some (.tup cs) ∧ Paired ClsV cs us ∧ PySem.W.kitAny K (.ref C) us = some b ∧ Q (.bl b) H
section
variable {X : Cx} {a C : Addr} {oe : Obj} {cls : Value} {d : Option Addr} {pn : List (Addr × Obj)}
theorem held_inst {pins : List (Addr × Obj)} {σ : L2.St} {H : Hp} {s : Shared} {dd : Addr} {fs : List (Str × V)} (I : Inv (X.suite a ((a, oe) :: pn)) pins σ H s) (hz : Zc (.ref C) (some dd) oe) (hf : ∃ vs, oe.data = .fields vs) (ea : H dd = some (.xd fs)) :
    ∃ od, PySem.W.InstAt s.heap a oe C (some od) := by
  obtain ⟨ha, _⟩ := I.pin (a, oe) (List.mem_append_left _ List.mem_cons_self)
  obtain ⟨vs, hd⟩ := hf
  have hx : ObjOk X.prog X.w H s.heap dd (.xd fs) := I.hok dd _ ea
  obtain ⟨mA, hns, hr⟩ := hx
  obtain ⟨od, ho, hl⟩ := lookIn_ns hns
  exact ⟨od, ha, hz.1, by unfold PySem.W.notCls; rw [hd] <;> rfl, by rw [hz.2]; exact ho⟩
theorem call_isH (T : ExcC X.K C) (hz : Zc cls d oe) (hf : ∃ vs, oe.data = .fields vs) : CallR (X.suite a ((a, oe) :: pn)) (.builtin "isinstance") (rIsH X.K a cls d C) := by
  intro pins s σ H xs us Q I r h
  obtain ⟨c, u, b, dd, fs, rfl, ec, ed, ea, k, e, q⟩ := h
  subst ec
  subst ed
  obtain ⟨u1, u2, rfl, r1, r2⟩ := vals2 r
  have e2 := k.eq r2
  subst e2
  obtain rfl : u1 = Value.ref a := r1
  obtain ⟨od, J⟩ := held_inst I hz hf ea
  exact PySem.W.kia_one (PySem.W.bk_kitx (ox := oe) (od := some od) T.hg T.hk T.hs T.hd T.ha T.hn T.ht T.hm) I.kIn J e (fun z => nomatch z) fun tk => ⟨.bl b, H, I.tok tk, rfl, q⟩
theorem call_isH2 (T : ExcC X.K C) (hz : Zc cls d oe) (hf : ∃ vs, oe.data = .fields vs) : CallR (X.suite a ((a, oe) :: pn)) (.builtin "isinstance") (rIsH2 X.K a cls d C) := by
  intro pins s σ H xs us Q I r h
  obtain ⟨tp, cs, ws, b, dd, fs, rfl, ec, ed, ea, hT, k, e, q⟩ := h
  subst ec
  subst ed
  obtain ⟨u1, u2, rfl, r1, r2⟩ := vals2 r
  cases (show u2 = Value.ref tp from r2)
  obtain rfl : u1 = Value.ref a := r1
  obtain ⟨od, J⟩ := held_inst I hz hf ea
  obtain ⟨_, its, rv, o, h1, h2, n, h3⟩ := (show ObjOk X.prog X.w H s.heap tp (.tup cs) from I.hok tp _ hT)
  have e3 := ClsV.all k rv
  subst e3
  obtain ⟨oc, od2, dt, sl⟩ := o
  simp only at h2 h3
  subst h2 h3
  exact PySem.W.kia_tup (PySem.W.bk_kitx (ox := oe) (od := some od) T.hg T.hk T.hs T.hd T.ha T.hn T.ht T.hm) I.kIn J h1 e (fun z => nomatch z) fun tk => ⟨.bl b, H, I.tok tk, rfl, q⟩
end
section
variable {K : PySem.W.Frag} {a C : Addr} {cls : Value} {d : Option Addr} {H : Hp} {Q : VK}
theorem r_isH {dd : Addr} {fs : List (Str × V)} {D : Addr} {b : Bool} (ec : cls = .ref C) (ed : d = some dd) (ea : H dd = some (.xd fs)) (e : PySem.W.kitOne K (.ref C) (.ref D) = some b) (q : Q (.bl b) H) : rIsH K a cls d C [.ref a, .ref D] H Q :=
  ⟨_, _, b, dd, fs, rfl, ec, ed, ea, .own D, e, q⟩
theorem r_isHB {dd : Addr} {fs : List (Str × V)} {T : String} {b : Bool} (ec : cls = .ref C) (ed : d = some dd) (ea : H dd = some (.xd fs)) (e : PySem.W.kitOne K (.ref C) (.type T) = some b) (q : Q (.bl b) H) : rIsH K a cls d C [.ref a, .ty T] H Q :=
  ⟨_, _, b, dd, fs, rfl, ec, ed, ea, .ty T, e, q⟩
theorem r_isH2 {dd tp : Addr} {fs : List (Str × V)} {D1 D2 : Addr} {b c : Bool} (ec : cls = .ref C) (ed : d = some dd) (ea : H dd = some (.xd fs)) (et : H tp = some (.tup [.ref D1, .ref D2])) (e : PySem.W.kitOne K (.ref C) (.ref D1) = some b) (e2 : PySem.W.kitOne K (.ref C) (.ref D2) = some c) (q : Q (.bl (b || c)) H) : rIsH2 K a cls d C [.ref a, .ref tp] H Q := by
  refine ⟨tp, _, [.ref D1, .ref D2], _, dd, fs, rfl, ec, ed, ea, et, .cons (.own D1) (.cons (.own D2) .nil), ?_, q⟩
  cases b with
  | true => exact kitAny_cons e (fun z => nomatch z) (fun _ => rfl)
  | false => exact kitAny_cons e (fun _ => by cases c with
      | true => exact kitAny_cons e2 (fun z => nomatch z) (fun _ => rfl)
      | false => exact kitAny_cons e2 (fun _ => kitAny_nil) (fun z => nomatch z)) (fun z => nomatch z)
theorem kit_own {D : Addr} {b : Bool} (self : PySem.W.subIn K (.ref C) (.ref C) = some true) (hdct : PySem.W.hasDictIn K D = true) (ht : PySem.W.typeIn K (.ref D) = some (.type "type")) (h : PySem.W.subIn K (.ref C) (.ref D) = some b) : PySem.W.kitOne K (.ref C) (.ref D) = some b := by
  obtain ⟨cd, hc, _⟩ := PySem.W.any_some hdct
  unfold PySem.W.kitOne
  by_cases e : C = D
  · subst e
    rw [self] at h
    obtain rfl := Option.some.inj h
    rw [if_pos (beq_self_eq_true _)]
  · rw [if_neg (fun z => e (by injection (beq_iff_eq.mp z)))]
    show (if ((PySem.W.clsIn K D).isSome && PySem.W.typeIn K (.ref D) == some (.type "type")) = true then PySem.W.subIn K (.ref C) (.ref D) else none) = some b
    rw [if_pos (by rw [hc, ht]; rfl)]
    exact h
end
theorem call_list_ofK {X : Cx} {K : PySem.W.Frag} (h : X.K = K) : CallR X (.type "list") (fun xs H Q => ∃ p ys, xs = [.ref p] ∧ (SqL K H p ys ∨ SqT K H p ys) ∧ ∀ l, H l = none → Q (.ref l) (upd H l (.lst ys))) := by
  subst h
  exact call_list_of
theorem call_len_seqK {X : Cx} {K : PySem.W.Frag} (h : X.K = K) : CallR X (.builtin "len") (fun xs H Q => ∃ p ys, xs = [.ref p] ∧ (SqL K H p ys ∨ SqT K H p ys) ∧ Q (.int ys.length) H) := by
  subst h
  exact call_len_seq
/-- all that is asked of an own exception class -/
structure ExcA (K : PySem.W.Frag) (b : Bs) (nm : Str) (C f : Addr) : Prop where
  ox : OexT K b C
  i : PySem.W.findIn K (.ref C) "__init__" = some (some (.ref f))
  t : PySem.W.typeIn K (.ref f) = some (.type "function")
  nf : PySem.W.findIn K (.ref C) nm = some none
  xf : XfC K C
  xc : ExcC K C
/-! ## 26a. comprehensions that lay new things -/
section
variable {K : PySem.W.Frag} {σ : L2.St} {H : Hp} {Q : VK} {j : Nat} {vs : List Nat} {te tl : TE} {a : Addr} {xs : List V}
theorem lcNewR (n : Nat) (c : Nat → HO) (hl : n ≤ 1000) (hw : ∀ x, wipe ((wipe σ vs).set j (some x)) vs = wipe σ vs)
    (ht : ∀ (i : Nat) (H1 : Hp) (Q' : VK), i < n → Same H H1 → (∀ t H3, H1 t = none → Same H1 H3 → H3 t = some (c i) → Q' (.ref t) H3) → te ((wipe σ vs).set j (some (.int (0 + (i : Int))))) H1 Q')
    (q : ∀ D H' (ts : List Addr), H D = none → Same H H' → H' D = some (.lst (ts.map V.ref)) → ts.length = n → (∀ k t, ts[k]? = some t → H' t = some (c k)) → (D :: ts).Nodup → (∀ t ∈ ts, H t = none) → Q (.ref D) H') :
    tLc (iRng1 (tCons (tC (.int n)) tNil)) (gName j) tYes te vs σ H Q := by
  refine ⟨_, rfl, by omega, by omega, fun D hD => ?_⟩
  rw [Int.toNat_natCast]
  refine lc_new (g := gName j) (te := te) (vs := vs) (σ := σ) (Q := Q) walk_range c hD (by omega) (fun _ _ => trivial) (fun i x H1 H2 Q' R' hi sm y k => ?_) fun H' ts s e l all nd fr => q D H' ts hD s e l all nd fr
  obtain ⟨rfl, rfl⟩ := y
  refine ⟨hw _, r_yes ?_⟩
  exact ht i H2 Q' hi sm k
theorem lcNewL (c : Nat → HO) (hv : ∀ QQ : VK, QQ (.ref a) H → tl σ H QQ) (hs : SqL K H a xs) (hl : xs.length ≤ 10000) (hw : ∀ x, wipe ((wipe σ vs).set j (some x)) vs = wipe σ vs)
    (ht : ∀ (i : Nat) (y : V) (H1 : Hp) (Q' : VK), xs[i]? = some y → Same H H1 → (∀ t H3, H1 t = none → Same H1 H3 → H3 t = some (c i) → Q' (.ref t) H3) → te ((wipe σ vs).set j (some y)) H1 Q')
    (q : ∀ D H' (ts : List Addr), H D = none → Same H H' → H' D = some (.lst (ts.map V.ref)) → ts.length = xs.length → (∀ k t, ts[k]? = some t → H' t = some (c k)) → (D :: ts).Nodup → (∀ t ∈ ts, H t = none) → Q (.ref D) H') :
    tLc (iList K tl) (gName j) tYes te vs σ H Q := by
  refine hv _ ⟨a, rfl, ⟨xs, hs⟩, fun D hD => ?_⟩
  refine lc_new (g := gName j) (te := te) (vs := vs) (σ := σ) (Q := Q) walk_list c hD hl (fun _ s => s.seq hs) (fun i x H1 H2 Q' R' hi sm y k => ?_) fun H' ts s e l all nd fr => q D H' ts hD s e l all nd fr
  obtain ⟨rfl, hx⟩ := y
  exact ⟨hw _, r_yes (ht i x H2 Q' hx sm k)⟩
end
/-! ## 27. a count -/
def countV (x : V) : Bool := match x with
  | .int i => decide (0 ≤ i)
  | _ => false
/-- a thing of which isinstance(.., int) is known -/
def WC (K : PySem.W.Frag) (H : Hp) (x : V) : Prop := (∃ i, x = .int i) ∨ (∃ b, x = .bl b) ∨ (IsA K H x "int" false ∧ (∀ l h, wholeV x l h = false) ∧ countV x = false)
theorem WC.wd {K : PySem.W.Frag} {H : Hp} {x : V} (h : WC K H x) : WD K H x := by
  rcases h with h | h | ⟨h1, h2, _⟩
  · exact .inl h
  · exact .inr (.inl h)
  · exact .inr (.inr ⟨h1, h2⟩)
def spCount (K : PySem.W.Frag) : Sp := fun vs H Q _ => ∃ x : V, vs = [x] ∧ WC K H x ∧ Q (.bl (countV x)) H
def spCheckN (K : PySem.W.Frag) (C : Addr) : Sp := fun vs H Q E => ∃ (x : V) (lo hi : Int), vs = [x, .int lo, .int hi] ∧ WD K H x ∧ ((wholeV x lo hi = true ∧ Q .non H) ∨ (wholeV x lo hi = false ∧ Refuse C x H E))
def spCheckC (K : PySem.W.Frag) (C : Addr) : Sp := fun vs H Q E => ∃ x : V, vs = [x] ∧ WC K H x ∧ ((countV x = true ∧ Q .non H) ∨ (countV x = false ∧ Refuse C x H E))
theorem whole_int {i lo hi : Int} (h0 : lo ≤ i) (h1 : i ≤ hi) : wholeV (.int i) lo hi = true := by
  show (decide (lo ≤ i) && decide (i ≤ hi)) = true
  rw [decide_eq_true h0, decide_eq_true h1]
  rfl
theorem count_int {i : Int} (h0 : 0 ≤ i) : countV (.int i) = true := decide_eq_true h0
end Bk

namespace Bk
open PySem PySem.Spec PyProof.Rows L2
/-! ## 28. return [tag, e.f, isinstance(e, G) and not isinstance(e, (B1, B2))] -/
def tHit (K : PySem.W.Frag) (i : Nat) (C G B1 B2 : Addr) (tag nm : Str) (a : Addr) (cls : Value) (d : Option Addr) : TS :=
  tRet (tLstB (tCons (tC (.str tag)) (tCons (tXf a cls d C nm (tVar i)) (tCons (tAndV (tCB (rIsH K a cls d C) (tCons (tVar i) (tCons (tC (.ref G)) tNil)))
    (tNotV (tCB (rIsH2 K a cls d C) (tCons (tVar i) (tCons (tTup (tCons (tC (.ref B1)) (tCons (tC (.ref B2)) tNil))) tNil))))) tNil))))
theorem caught_lst {K : PySem.W.Frag} {C d G B1 B2 : Addr} {i : Nat} {σ : L2.St} {H' : Hp} {D : Ends} {l : List ClA} {v : V} {tag nm : Str} (e : PySem.W.exmOne K (.ref C) (.ref C) = some true) (hi : i < σ.length) (ed : H' d = some (.xd [(nm, v)]))
    (kG : PySem.W.kitOne K (.ref C) (.ref G) = some true) (k1 : PySem.W.kitOne K (.ref C) (.ref B1) = some false) (k2 : PySem.W.kitOne K (.ref C) (.ref B2) = some false)
    (q : ∀ p H2, H' p = none → p ≠ sysModules → Same H' H2 → H2 p = some (.lst [.str tag, v, .bl true]) → D.rt (.ref p) H2) :
    wAM K D ((.ref C, i, fun a cls d => tHit K i C G B1 B2 tag nm a cls d) :: l) (.ref C) (some d) σ H' := by
  refine w_hit e fun a na => ?_
  show tHit K i C G B1 B2 tag nm a (.ref C) (some d) (offI i D) (σ.set i (some (.ref a))) H'
  have hv : (σ.set i (some (V.ref a)))[i]? = some (some (.ref a)) := List.getElem?_set_self hi
  refine r_ret (r_lstB (r_cons (r_c (r_cons ?_))))
  refine ⟨.ref a, hv, rfl, rfl, d, _, v, rfl, ed, by rw [List.lookup_cons, beq_self_eq_true], ?_⟩
  refine r_cons (r_andV (r_cb (r_cons (r_var hv (r_cons (r_c (r_nil (r_isH rfl rfl ed kG ⟨true, rfl, iteT ?_⟩))))))))
  refine r_notV (r_cb (r_cons (r_var hv (r_cons (r_tup (r_cons (r_c (r_cons (r_c (r_nil (newT fun tp H2 nt st et => ?_)))))))))))
  refine r_nil (r_isH2 rfl rfl (st _ _ ed) et k1 k2 ⟨_, rfl, r_nil (newLB fun p H3 np ns s3 e3 => q p H3 (st.free np) ns (st.trans s3) e3)⟩)
theorem r_disp1 {σ : L2.St} {H : Hp} {Q : VK} {k : Key} {v : V} (q : ∀ p H', H p = none → Same H H' → H' p = some (.dK [(k, v)]) → Q (.ref p) H') : tDisp [(tC (kV k), tC v)] σ H Q := by
  intro p np
  refine ⟨upd_same, [(k, v)], rfl, (by show 1 ≤ 15; decide), ?_⟩
  refine q p _ np (fun b o e => ?_) upd_same
  rw [upd_ne (ne_of_none e np), upd_ne (ne_of_none e np)]
  exact e
/-! ## 29. things of a known depth -/
section
variable {b : Bool} {K : PySem.W.Frag} {H H' : Hp} {v : V} {a : Addr} {xs : List V}
def ItD (b : Bool) (K : PySem.W.Frag) (H : Hp) (m k : Nat) (v : V) : Prop := ∃ d, Dq b K H v d ∧ smQ d = true ∧ d.bulk ≤ m ∧ d.depth ≤ k
theorem ItD.q {m k : Nat} (h : ItD b K H m k v) (l : k ≤ 20) : ItQ b K H m v := let ⟨d, h1, h2, h3, h4⟩ := h; ⟨d, h1, h2, h3, by omega⟩
theorem ItD.mono {m k M L : Nat} (h : ItD b K H m k v) (l : m ≤ M) (l2 : k ≤ L) : ItD b K H M L v := let ⟨d, h1, h2, h3, h4⟩ := h; ⟨d, h1, h2, by omega, by omega⟩
theorem itds {m k : Nat} : ∀ {xs : List V}, (∀ y ∈ xs, ItD b K H m k y) → ∃ ds, DqAll b K H xs ds ∧ smQL ds = true ∧ PyData.bulkAll ds ≤ (m + 1) * xs.length ∧ PyData.depthAll ds ≤ k
  | [], _ => ⟨[], .nil, rfl, Nat.le_refl _, Nat.zero_le _⟩
  | y :: ys, h => by
    obtain ⟨d, h1, h2, h3, h4⟩ := h y List.mem_cons_self
    obtain ⟨ds, g1, g2, g3, g4⟩ := itds fun z hz => h z (List.mem_cons_of_mem _ hz)
    refine ⟨d :: ds, .cons h1 g1, by simp only [smQL, h2, g2, Bool.and_true], ?_, ?_⟩
    · simp only [PyData.bulkAll, List.length_cons, Nat.mul_succ]
      omega
    · simp only [PyData.depthAll]
      omega
theorem itd_lst {m k M : Nat} (h : SqL K H a xs) (n1 : b = true → a ≠ sysModules) (i : ∀ y ∈ xs, ItD b K H m k y) (l : (m + 1) * xs.length ≤ M) : ItD b K H M (k + 1) (.ref a) := by
  obtain ⟨ds, g1, g2, g3, g4⟩ := itds i
  exact ⟨_, .lst n1 h g1, by simpa only [smQ] using g2, by simp only [PyData.bulk]; omega, by simp only [PyData.depth]; omega⟩
theorem itd_tup {m k M : Nat} (h : SqT K H a xs) (i : ∀ y ∈ xs, ItD b K H m k y) (l : (m + 1) * xs.length ≤ M) : ItD b K H M (k + 1) (.ref a) := by
  obtain ⟨ds, g1, g2, g3, g4⟩ := itds i
  exact ⟨_, .tup h g1, by simpa only [smQ] using g2, by simp only [PyData.bulk]; omega, by simp only [PyData.depth]; omega⟩
theorem itd_sc (h : smS v = true) : ItD b K H 100 0 v := let ⟨h1, h2, h3, h4⟩ := dqS h; ⟨_, h1, h2, h3, by omega⟩
/-- a dict of scalars, by keys that are scalars -/
theorem itd_dK {kvs : List (Key × V)} (e : H a = some (.dK kvs)) (h : ∀ q ∈ kvs, smS (kV q.1) = true ∧ smS q.2 = true) (l : kvs.length ≤ 5) : ItD true K H 2000 1 (.ref a) := by
  have go : ∀ {l : List (Key × V)}, (∀ q ∈ l, smS (kV q.1) = true ∧ smS q.2 = true) → ∃ ps : List (PyData × PyData), DqAll true K H (l.map fun q => kV q.1) (ps.map (·.1)) ∧ DqAll true K H (l.map (·.2)) (ps.map (·.2)) ∧ smQK ps = true ∧ PyData.bulkKv ps ≤ 202 * l.length ∧ PyData.depthKv ps = 0 := by
    intro l
    induction l with
    | nil => exact fun _ => ⟨[], .nil, .nil, rfl, Nat.le_refl _, rfl⟩
    | cons q r ih =>
      intro h
      obtain ⟨h1, h2⟩ := h q List.mem_cons_self
      obtain ⟨a1, a2, a3, a4⟩ := dqS (b := true) (K := K) (H := H) h1
      obtain ⟨b1, b2, b3, b4⟩ := dqS (b := true) (K := K) (H := H) h2
      obtain ⟨ps, g1, g2, g3, g4, g5⟩ := ih fun z hz => h z (List.mem_cons_of_mem _ hz)
      refine ⟨(datS (kV q.1), datS q.2) :: ps, .cons a1 g1, .cons b1 g2, by simp only [smQK, a2, b2, g3, Bool.and_true], ?_, ?_⟩
      · simp only [PyData.bulkKv, List.length_cons]
        omega
      · simp only [PyData.depthKv, a4, b4, g5]
        rfl
  obtain ⟨ps, g1, g2, g3, g4, g5⟩ := go h
  exact ⟨.dict ps, .dK rfl e g1 g2, by simpa only [smQ] using g3, by simp only [PyData.bulk]; omega, by simp only [PyData.depth, g5]; omega⟩
end
section
variable {b : Bool} {K : PySem.W.Frag} {H H' : Hp} {v : V} {a : Addr} {xs : List V}
theorem dqSs : ∀ {xs : List V}, xs.all smS = true → DqAll b K H xs (xs.map datS) ∧ smQL (xs.map datS) = true ∧ PyData.bulkAll (xs.map datS) ≤ 101 * xs.length ∧ PyData.depthAll (xs.map datS) = 0
  | [], _ => ⟨.nil, rfl, Nat.le_refl _, rfl⟩
  | y :: ys, h => by
    rw [List.all_cons, Bool.and_eq_true] at h
    obtain ⟨h1, h2, h3, h4⟩ := dqS (b := b) (K := K) (H := H) h.1
    obtain ⟨g1, g2, g3, g4⟩ := dqSs h.2
    rw [List.map_cons]
    refine ⟨.cons h1 g1, by simp only [smQL, h2, g2, Bool.and_true], ?_, ?_⟩
    · simp only [PyData.bulkAll, List.length_cons]
      omega
    · simp only [PyData.depthAll, h4, g4]
      rfl
/-- a list of scalars: its text hangs on them alone -/
theorem shq_lsc (h : SqL K H a xs) (i : xs.all smS = true) (l : xs.length ≤ 3000) : Shq K H (.ref a) (PyData.list (xs.map datS)).shown := by
  obtain ⟨g1, g2, g3, g4⟩ := dqSs (b := false) (K := K) (H := H) i
  exact shq_of (b := false) (.lst (fun z => Bool.noConfusion z) h g1) (by simpa only [smQ] using g2) (by simp only [PyData.bulk]; omega) (by simp only [PyData.depth]; omega)
theorem shq_tsc (h : SqT K H a xs) (i : xs.all smS = true) (l : xs.length ≤ 3000) : Shq K H (.ref a) (PyData.tuple (xs.map datS)).shown := by
  obtain ⟨g1, g2, g3, g4⟩ := dqSs (b := false) (K := K) (H := H) i
  exact shq_of (b := false) (.tup h g1) (by simpa only [smQ] using g2) (by simp only [PyData.bulk]; omega) (by simp only [PyData.depth]; omega)
end
/-! ## 30. odd things -/
/-- a thing that is no number of any use; fp: its lists; m: how many things a list of it has at most -/
inductive OddV (H : Hp) (m : Nat) : List Addr → V → Prop
  | sc {v : V} (h : smS v = true) (hw : ∀ lo hi, 0 ≤ lo → wholeV v lo hi = false) (hc : countV v = false) : OddV H m [] v
  | tup {a : Addr} {xs : List V} (e : H a = some (.tup xs)) (h : ∀ y ∈ xs, smS y = true) (l : xs.length ≤ 5) : OddV H m [] (.ref a)
  | dK {a : Addr} {kvs : List (Key × V)} (e : H a = some (.dK kvs)) (h : ∀ q ∈ kvs, smS (kV q.1) = true ∧ smS q.2 = true) (l : kvs.length ≤ 5) : OddV H m [] (.ref a)
  | lst {a : Addr} {xs : List V} {fp : List Addr} (e : H a = some (.lst xs)) (ns : a ≠ sysModules) (l : xs.length ≤ m) (h : ∀ y ∈ xs, smS y = true ∨ ∃ c ∈ fp, y = .ref c) (na : a ∉ fp) (hf : ∀ c ∈ fp, c ≠ sysModules ∧ ∃ ys, H c = some (.lst ys) ∧ (∀ y ∈ ys, smS y = true) ∧ ys.length ≤ 5) : OddV H m (a :: fp) (.ref a)
section
variable {K : PySem.W.Frag} {H H' : Hp} {m n : Nat} {fp : List Addr} {v : V} {bx : Addr}
/-- what may change -/
theorem OddV.keep (o : OddV H m fp v) (k : ∀ b ∈ fp, H' b = H b) (t : ∀ b xs, H b = some (.tup xs) → H' b = some (.tup xs)) (d : ∀ b kvs, H b = some (.dK kvs) → H' b = some (.dK kvs)) (l : m ≤ n) : OddV H' n fp v := by
  cases o with
  | sc h hw hc => exact .sc h hw hc
  | tup e h l => exact .tup (t _ _ e) h l
  | dK e h l => exact .dK (d _ _ e) h l
  | lst e ns l1 h na hf =>
    exact .lst (by rw [k _ List.mem_cons_self]; exact e) ns (by omega) h na fun c hc => by
      obtain ⟨h1, ys, h2, h3⟩ := hf c hc
      exact ⟨h1, ys, by rw [k _ (List.mem_cons_of_mem _ hc)]; exact h2, h3⟩
/-- the lists among them stand -/
theorem OddV.there (o : OddV H m fp v) : ∀ b ∈ fp, ∃ xs, H b = some (.lst xs) := by
  cases o with
  | sc h hw hc => exact fun b z => nomatch z
  | tup e h l => exact fun b z => nomatch z
  | dK e h l => exact fun b z => nomatch z
  | lst e ns l1 h na hf =>
    intro b hb
    rcases List.mem_cons.mp hb with z | z
    · exact ⟨_, by rw [z]; exact e⟩
    · obtain ⟨_, ys, h2, _⟩ := hf b z
      exact ⟨ys, h2⟩
theorem OddV.same (o : OddV H m fp v) (s : Same H H') : OddV H' m fp v := o.keep (fun b hb => by
    obtain ⟨xs, e⟩ := o.there b hb
    rw [e]; exact s _ _ e) (fun b xs e => s _ _ e) (fun b kvs e => s _ _ e) (Nat.le_refl _)
/-- what stands at bx, a list that is none of these, may change -/
theorem OddV.but {xs : List V} (o : OddV H m fp v) (eb : H bx = some (.lst xs)) (n : bx ∉ fp) (s : But bx H H') : OddV H' m fp v := o.keep (fun b hb => by
    obtain ⟨xs, e⟩ := o.there b hb
    rw [e]; exact s _ _ (fun z => n (z ▸ hb)) e) (fun b xs e => s _ _ (fun z => by rw [z, eb] at e; exact nomatch e) e) (fun b kvs e => s _ _ (fun z => by rw [z, eb] at e; exact nomatch e) e) (Nat.le_refl _)
theorem OddV.wc (o : OddV H m fp v) : WC K H v ∧ countV v = false ∧ ∀ lo hi, 0 ≤ lo → wholeV v lo hi = false := by
  cases o with
  | @sc v h hw hc =>
    refine ⟨?_, hc, hw⟩
    cases v with
    | int i => exact .inl ⟨i, rfl⟩
    | bl b => exact .inr (.inl ⟨b, rfl⟩)
    | non => exact .inr (.inr ⟨isa_non, fun _ _ => rfl, rfl⟩)
    | str z => exact .inr (.inr ⟨isa_str, fun _ _ => rfl, rfl⟩)
    | _ => exact nomatch h
  | tup e h l => exact ⟨.inr (.inr ⟨isa_tup e, fun _ _ => rfl, rfl⟩), rfl, fun _ _ _ => rfl⟩
  | dK e h l => exact ⟨.inr (.inr ⟨isa_dK e, fun _ _ => rfl, rfl⟩), rfl, fun _ _ _ => rfl⟩
  | lst e ns l1 h na hf => exact ⟨.inr (.inr ⟨isa_lst e, fun _ _ => rfl, rfl⟩), rfl, fun _ _ _ => rfl⟩
theorem OddV.it (o : OddV H m fp v) : ItQ true K H (2000 + 700 * m) v := by
  cases o with
  | sc h hw hc => exact ((itd_sc h).q (by decide)).mono (by omega)
  | tup e h l => exact ((itd_tup (m := 100) (k := 0) (M := 2000) (sqT e) (fun y hy => itd_sc (h y hy)) (by omega)).q (by decide)).mono (by omega)
  | dK e h l => exact ((itd_dK e h l).q (by decide)).mono (by omega)
  | lst e ns l1 h na hf =>
    refine ((itd_lst (m := 600) (k := 1) (M := 2000 + 700 * m) (sqL e) (fun _ => ns) (fun y hy => ?_) (by
      have := Nat.mul_le_mul_left 601 l1
      omega)).q (by decide)).mono (by omega)
    rcases h y hy with z | ⟨c, hc, rfl⟩
    · exact (itd_sc z).mono (by omega) (by omega)
    · obtain ⟨n1, ys, h2, h3, h4⟩ := hf c hc
      exact (itd_lst (m := 100) (k := 0) (M := 600) (sqL h2) (fun _ => n1) (fun y hy => itd_sc (h3 y hy)) (by omega)).mono (by omega) (by omega)
/-- a list among them grows by a scalar -/
theorem OddV.grow {a : Addr} {xs : List V} {y : V} (o : OddV H m fp v) (ea : H a = some (.lst xs)) (hy : smS y = true) (h : v = .ref a ∨ a ∉ fp) : OddV (upd H a (.lst (xs ++ [y]))) (m + 1) fp v := by
  rcases h with rfl | h
  · cases o with
    | sc h hw hc => exact nomatch h
    | tup e h l => rw [ea] at e; exact nomatch e
    | dK e h l => rw [ea] at e; exact nomatch e
    | @lst _ xs2 fp2 e ns l1 h na hf =>
      rw [ea] at e
      obtain rfl : xs = xs2 := by injection (Option.some.inj e)
      refine .lst upd_same ns (by rw [List.length_append]; exact Nat.succ_le_succ l1) (fun z hz => ?_) na fun c hc => ?_
      · rcases List.mem_append.mp hz with z1 | z1
        · exact h z z1
        · rw [List.mem_singleton.mp z1]; exact .inl hy
      · obtain ⟨n1, ys, h2, h3⟩ := hf c hc
        exact ⟨n1, ys, by rw [upd_ne (fun q => na (by rw [← q]; exact hc))]; exact h2, h3⟩
  · refine o.keep (fun b hb => upd_ne fun z => h (z ▸ hb)) (fun b ys e => ?_) (fun b kvs e => ?_) (Nat.le_succ _)
    · rw [upd_ne (fun z => by rw [z, ea] at e; exact nomatch e)]; exact e
    · rw [upd_ne (fun z => by rw [z, ea] at e; exact nomatch e)]; exact e
/-- isinstance(v, list) -/
theorem OddV.isl (o : OddV H m fp v) : (IsA K H v "list" false ∧ fp = []) ∨ ∃ a xs, v = .ref a ∧ H a = some (.lst xs) ∧ a ∈ fp ∧ xs.length ≤ m := by
  cases o with
  | @sc v h hw hc =>
    refine .inl ⟨?_, rfl⟩
    cases v with
    | int i => exact isa_int
    | bl b => exact isa_bl
    | non => exact isa_non
    | str z => exact isa_str
    | _ => exact nomatch h
  | tup e h l => exact .inl ⟨isa_tup e, rfl⟩
  | dK e h l => exact .inl ⟨isa_dK e, rfl⟩
  | lst e ns l1 h na hf => exact .inr ⟨_, _, rfl, e, List.mem_cons_self, l1⟩
end
end Bk

namespace Bk
open PySem PySem.Spec PySem.Calls PyProof.Rows L2
/-! ## 31. own exceptions made with keywords, as values -/
section
variable {M : Model} {prog : Program} {w : World} {A : Around} {E : Value → Shared → Prop} {R : Result → Shared → Prop} {h : Heap} {g : Array GenState} {d : Drawn} {t : Nat} {os : OsState}
variable {nm q : Str} {C N : Addr} {bs bm bmB : List Value} {hdct : Bool} {sn : List Str} {sub : List Value} {ab : Bool} {col : Option Bool} {dd : Option Addr} {k0 k1 k2 k3 k5 : Option Value} {B newId i0 IB initId : String} {rest : List Value}
variable {kw : List (Str × Value)}
theorem checkTypeK {Q : Unit → Shared → Prop} (hC : h.get? C = some (excClassObj nm q C N bs bm hdct sn sub ab col dd k0 k1 k2 k3 k5 newId)) (hq : Q () ⟨h, g, d, t, os⟩) : wpAny M A (checkBuiltinCall "type.__call__" ⟨.ref C :: rest, kw⟩) Q E ⟨h, g, d, t, os⟩ := by
  have f3 := tc_sub
  have hT : (⟨h, g, d, t, os⟩ : Shared).TypeIs (.ref C) "type" := ⟨_, hC, rfl⟩
  simp only [checkBuiltinCall, tc_kind, tc_split]
  repeat (any_goals (first | assumption | with_reducible refine wpAny_loadPart_at hC ?_ | with_reducible refine wpAny_onRaise ?_ | with_reducible refine wpAny_map ?_ | wp_step))
theorem checkNewK (F : ExcBaseFacts B newId i0 bmB) (hB : bm.contains (.type B) = true) {Q : Unit → Shared → Prop} (hC : h.get? C = some (excClassObj nm q C N bs bm hdct sn sub ab col dd k0 k1 k2 k3 k5 newId)) (hq : Q () ⟨h, g, d, t, os⟩) :
    wpAny M A (checkBuiltinCall newId ⟨.ref C :: rest, kw⟩) Q E ⟨h, g, d, t, os⟩ := by
  have cB : (Value.ref C :: bm).contains (.type B) = true := by rw [List.contains_cons, hB, Bool.or_true]
  have star := F.noStar
  simp only [checkBuiltinCall, F.newKind, F.newSplit, F.newRow]
  repeat (first | refine wpAny_loadPart_at hC ?_ | (refine wpAny_isSubtype_exc hC ?_; rw [cB]) | refine wpAny_staticBase_exc hC ?_ | refine wpAny_madeBy_exc hC ?_ | simp only [bne_self_eq_false, Bool.false_eq_true, if_false] | wp_step)
  exact hq
theorem newK (F : ExcBaseFacts B newId i0 bmB) (hB : bm.contains (.type B) = true) (hA : bm.contains (.type "AttributeError") = false) (hN : bm.contains (.type "NameError") = false) (hC : h.get? C = some (excClassObj nm q C N bs bm hdct sn sub ab col dd k0 k1 k2 k3 k5 newId)) (hrest : rest.length ≤ sizeLine)
    (hq : R (.ok (.ret (.ref (h.objs.size + 1)))) ⟨(h.push (PySem.W.kdv_tup rest)).push (PySem.HandSPX.excO C h.objs.size), g, d, t, os⟩) : codeAny (model prog w) A (.builtin newId ⟨.ref C :: rest, kw⟩) R ⟨h, g, d, t, os⟩ := by
  have hends := F.ends
  have cB : (Value.ref C :: bm).contains (.type B) = true := by rw [List.contains_cons, hB, Bool.or_true]
  have cA : (Value.ref C :: bm).contains (.type "AttributeError") = false := by rw [List.contains_cons, hA]; rfl
  have cN : (Value.ref C :: bm).contains (.type "NameError") = false := by rw [List.contains_cons, hN]; rfl
  refine codeAny_builtinAt F.entry ?_
  unfold Builtin.«BaseException.__new__»
  refine PySem.wpAt_bind ?_
  show PySem.wpAt _ _ _ (stack >>= _) _ _ _
  refine PySem.wpAt_bind (PySem.wpAt_stack fun p below => PySem.wpAt_of_wpAny ?_)
  wp_walk
  refine PySem.wpAt_of_wpAny ?_
  rw [F.owner]
  repeat (first | with_reducible refine wpAny_madeHere_exc F.canon hC ?_ | with_reducible refine wpAny_loadPart_at hC ?_ | (with_reducible refine wpAny_isSubtype_exc hC ?_; first | rw [cB] | rw [cA] | rw [cN]) | wp_step)
  show R _ _
  rw [Heap.size_push]
  exact hq
theorem typeCallK (F : ExcBaseFacts B newId i0 bmB) (hB : bm.contains (.type B) = true) (hA : bm.contains (.type "AttributeError") = false) (hN : bm.contains (.type "NameError") = false) {fI : Addr} {Q : Fin → Shared → Prop} (hC : h.get? C = some (excClassObj nm q C N bs bm hdct sn sub ab col dd k0 k1 k2 k3 k5 newId))
    (hi : PySem.W.Looks (model prog w) h (typeLookup (.ref C) "__init__") (some (.ref fI))) (hb : ∀ self, PySem.W.Looks (model prog w) h (bindSpecial (.ref fI) self) (.ref fI, [self])) (hrest : rest.length ≤ sizeLine)
    (hq : codeAny (model prog w) A (.call (.ref fI) ⟨.ref (h.objs.size + 1) :: rest, kw⟩) (fun r s' => match r with | .ok (.ret v) => v = .none ∧ Q (.done (.ret (.ref (h.objs.size + 1)))) s' | .ok _ => False | .error e => E e s') ⟨(h.push (PySem.W.kdv_tup rest)).push (PySem.HandSPX.excO C h.objs.size), g, d, t, os⟩) :
    wpAny (model prog w) A (Builtin.«type.__call__» ⟨.ref C :: rest, kw⟩) Q E ⟨h, g, d, t, os⟩ := by
  repeat (first | with_reducible refine wpAny_loadPart_at hC ?_ | with_reducible refine wpAny_madeBy_exc hC ?_ | wp_step)
  refine codeAny_call_builtin_code (Code.quiet_builtin _ F.quiet) (checkNewK F hB hC ?_)
  refine newK F hB hA hN hC hrest ?_
  show wpAny _ _ _ _ _ _
  have k : ∀ c o, h.get? c = some o → ((h.push (PySem.W.kdv_tup rest)).push (PySem.HandSPX.excO C h.objs.size)).get? c = some o := fun c o e => Heap.get?_push_of_some _ (Heap.get?_push_of_some _ e)
  have hC1 := k _ _ hC
  have hget : ((h.push (PySem.W.kdv_tup rest)).push (PySem.HandSPX.excO C h.objs.size)).get? (h.objs.size + 1) = some (PySem.HandSPX.excO C h.objs.size) := by heap_get
  have cC : (Value.ref C :: bm).contains (.ref C) = true := by simp
  have i1 := hi.keeps k
  have b1 := (hb (.ref (h.objs.size + 1))).keeps k
  unfold isInstance
  repeat (first | with_reducible refine wpAny_loadPart_at hget ?_ | (with_reducible refine wpAny_isSubtype_exc hC1 ?_; rw [cC]) | wp_step)
  show wpAny _ _ (typeLookup (.ref C) _) _ _ _
  refine i1.at (wpAny_holding (wpAny_bind (b1.at (wpAny_bind (wpAny_call (codeAny_mono hq fun r s' z => ?_))))))
  rcases r with e | (v | _ | _ | _) <;> first | exact z | exact z.elim | skip
  obtain ⟨rfl, z⟩ := z
  first
    | exact wpAny_pure (wpAny_pure z)
    | (wp_walk; exact z)
theorem callK (F : ExcBaseFacts B newId i0 bmB) (hB : bm.contains (.type B) = true) (hA : bm.contains (.type "AttributeError") = false) (hN : bm.contains (.type "NameError") = false) {fI : Addr} (hC : h.get? C = some (excClassObj nm q C N bs bm hdct sn sub ab col dd k0 k1 k2 k3 k5 newId))
    (hi : PySem.W.Looks (model prog w) h (typeLookup (.ref C) "__init__") (some (.ref fI))) (hb : ∀ self, PySem.W.Looks (model prog w) h (bindSpecial (.ref fI) self) (.ref fI, [self])) (hrest : rest.length ≤ sizeLine)
    (hq : codeAny (model prog w) (A.under (.builtin "type.__call__" ⟨.ref C :: rest, kw⟩)) (.call (.ref fI) ⟨.ref (h.objs.size + 1) :: rest, kw⟩) (PySem.W.InitBack (h.objs.size + 1) R) ⟨(h.push (PySem.W.kdv_tup rest)).push (PySem.HandSPX.excO C h.objs.size), g, d, t, os⟩) :
    codeAny (model prog w) A (.call (.ref C) ⟨rest, kw⟩) R ⟨h, g, d, t, os⟩ := by
  have f1 := PySem.tc_lookup
  have f2 := PySem.tc_bind (.ref C)
  have hTy : (⟨h, g, d, t, os⟩ : Shared).TypeIs (.ref C) "type" := ⟨_, hC, rfl⟩
  refine codeAny_of_tree ?_
  show wpAny _ _ (callAny (.ref C) _) _ _ _
  repeat (any_goals (first | assumption | with_reducible refine wpAny_loadPart_at hC ?_ | wp_step))
  refine ⟨rfl, codeAny_call_builtin_at (Code.quiet_builtin _ (by decide +kernel)) entry_typeCall (checkTypeK hC (typeCallK F hB hA hN hC hi hb hrest ?_))⟩
  refine codeAny_mono hq fun r s' z => ?_
  rcases r with e | (v | _ | _ | _) <;> exact z
end
end Bk

namespace Bk
open PySem PySem.Spec PySem.Calls PyProof.Rows L2
/-! ## 32. own exceptions as values -/
section
open Builtin Builtin.ObjectAttr
variable {prog : Program} {w : World} {A : Around} {E : Value → Shared → Prop} {R : Result → Shared → Prop} {hp : Heap} {g : Array GenState} {d : Drawn} {t : Nat} {os : OsState}
/-- a further field -/
theorem osaT2 {K : PySem.W.Frag} {b : Bs} {name : Str} {tk : Tok} {v : Value} {x C dx : Addr} {fv : Array Value} {cd : ClassData} {m0 : Str → Option Value} {nl : List Str} (X : K.In hp) (hx : hp.get? x = some { cls := .ref C, dict := some dx, data := .fields fv }) (hns : hp.Ns1 dx m0) (hw : Within m0 nl) (hz : nl.length ≤ 1000) (hcd : PySem.W.clsIn K C = some cd)
    (hm : Tail b cd.mro) (hh : cd.hasDict = true) (ha : PySem.W.findIn K (.ref C) name = some none) (hq : ∀ h' tk', (∀ c o, c ≠ dx → hp.get? c = some o → h'.get? c = some o) → h'.Ns1 dx (fun y => if y = name then some v else m0 y) → R (.ok (.ret .none)) ⟨h', g, d, tk', os⟩) :
    codeAny (model prog w) A (.call (.builtin "object.__setattr__") ⟨[.ref x, .str name tk, v], []⟩) R ⟨hp, g, d, t, os⟩ := by
  obtain ⟨oD, _, _, hoD, _, _⟩ := hns.count hw
  have I : PySem.W.InstAt hp x { cls := .ref C, dict := some dx, data := .fields fv } C (some oD) := ⟨hx, rfl, rfl, hoD⟩
  have SF := F.store_object
  have hob : cd.mro.contains (.type "object") = true := (hm.has "object").trans b.obj
  have isO : PySem.W.Looks (model prog w) hp (isInstance (.ref x) (.type "object")) true :=
    I.type.andThen (PySem.W.looks_mroIn X (by unfold PySem.W.mroIn; rw [hcd, Option.bind_some, if_neg (by rw [hm.ne]; decide), hob]))
  have lineL : PySem.W.Looks (model prog w) hp (mroOf (.ref C)) cd.mro := (PySem.W.looks_clsIn X hcd).andThen .now
  have noTaker : PySem.W.Looks (model prog w) hp (storeTaker? none) none := .now
  have clsL : PySem.W.Looks (model prog w) hp (classData C) cd := PySem.W.looks_clsIn X hcd
  refine codeAny_call_builtin SF.slot.plain SF.entry (@PySem.W.check_slot (model prog w) _ _ ⟨hp, g, d, t, os⟩ "object.__setattr__" "object" "__setattr__" (.ref x) [.str name tk, v] [] _ SF.kind SF.split isO (SF.args (.ref x) (.str name tk) v) ?_)
  rw [PySem.W.osa_eq, refuse_eq]
  refine wpAny_bind (wpAny_bind (I.type.at (wpAny_bind (lineL.at ?_))))
  rw [hm.pass]
  refine wpAny_pure (wpAny_bind (I.type.at (wpAny_bind ((PySem.W.looks_findIn X ha).at (wpAny_bind (noTaker.at ?_))))))
  show wpAny _ _ (storeInOwnDict (.ref x) (.ref C) (.str name tk) name v false) _ _ _
  obtain ⟨nm, bs, mro, ns, qn, hd, sn, sb, ab, col, del⟩ := cd
  dsimp only at hh
  subst hh
  unfold storeInOwnDict ownDictForStores
  repeat (first | with_reducible refine PySem.OEX.store_in_old hns hw hz ?_ | with_reducible refine wpAny_loadPart_at hx ?_ | with_reducible refine clsL.at ?_ | wp_step)
  exact fun h' tk' hn' hs => hq h' tk' (fun c o hc ho => (hs.2 c hc).trans ho) hn'
end
section
variable {X : Cx} {pins : List (Addr × Obj)} {σ : L2.St} {H : Hp} {s : Shared} {a C dx : Addr} {f : Str} {y : V} {u : Value} {b : Bs} {fs : List (Str × V)} {Q : Unit → Shared → Prop} {E : Value → Shared → Prop} {A : Around}
theorem ost_oldT (T : OexT X.K b C) (I : Inv X pins σ H s) (e : H a = some (exo a C (some dx))) (ed : H dx = some (exd dx fs)) (hl : fs.length ≤ 900) (hno : PySem.W.findIn X.K (.ref C) f = some none) (ry : RelV y u)
    (h : ∀ s', Inv X pins σ (upd H dx (exd dx ((f, y) :: fs))) s' → Q () s') : wpAny (model X.prog X.w) A (setAttr (.ref a) f u) Q E s := by
  obtain ⟨nm, q, N, bs, bm, sn, sub, ab, col, dd, k0, k1, k2, k3, k5, hC, hbm⟩ := T.cls
  obtain ⟨t1, ho⟩ := exo_at I.hok e
  obtain ⟨mA, hns, rel⟩ := exd_at I.hok ed
  have hw := within_of rel
  obtain ⟨hp, g, d, t, os⟩ := s
  obtain ⟨oD, _, _, hoD, _, _⟩ := hns.count hw
  have hcl : PySem.W.clsIn X.K C = some { name := nm, bases := bs, mro := .ref C :: bm, ns := N, qualname := q, hasDict := true, slotNames := sn, subclasses := sub, abstract := ab, collection := col, hasDel := false } := by
    unfold PySem.W.clsIn
    rw [hC] <;> rfl
  refine PySem.W.set_plain I.kIn (ox := { cls := .ref C, dict := some dx, data := .fields #[.ref t1, .none, .none, .none, .bool false, .none] }) (od := some oD) ⟨ho, rfl, rfl, hoD⟩ T.sa ?_
  refine osaT2 I.kIn ho hns hw (by rw [List.length_map]; omega) hcl (.own C hbm) rfl hno fun h' tk' k hn => ?_
  have hd : ∃ o, h'.get? dx = some o := by
    obtain ⟨o, _, _, e', _⟩ := hn
    exact ⟨o, e'⟩
  exact h _ (I.write (t' := tk') (x := dx) (e := dx) (o := exd dx ((f, y) :: fs)) (by rw [ed]; exact True.intro) (.inl rfl) k hd (exd_ok hn (relO_put ry rel)))
end
/-- self.f = e, a further one -/
def tOsO (K : PySem.W.Frag) (f : Str) (to te : TE) : TS := fun D σ H => te σ H fun y H1 => to σ H1 fun x H2 => ∃ (b : Bs) (a C dx : Addr) (fs : List (Str × V)), x = .ref a ∧ OexT K b C ∧ PySem.W.findIn K (.ref C) f = some none ∧
  H2 a = some (exo a C (some dx)) ∧ H2 dx = some (exd dx fs) ∧ fs.length ≤ 900 ∧ D.nx σ (upd H2 dx (exd dx ((f, y) :: fs)))
theorem ps_osO {X : Cx} {o e : Expr} {to te : TE} {f : Str} {p' pos : Pos} (ho : PE X o to) (he : PE X e te) (hs : swapsWith e (some (.Attribute o f p')) pos.line X.env = pure false := by rfl) : PS X (.Assign [.Attribute o f p'] e pos) (tOsO X.K f to te) := by
  refine ⟨fun pins s σ H D I h => plainObj_wpAny_Assign_Attribute (thn (he.run pins s σ H _ I h) fun v s1 ⟨y, H1, I1, r1, q1⟩ => thn (ho.run pins s1 σ H1 _ I1 q1) fun u s2 ⟨x, H2, I2, r2, b, a, C, dx, fs, ex, T, hno, ea, ed, hl, q⟩ => ?_) hs⟩
  subst ex
  obtain rfl : u = Value.ref a := r2
  exact ost_oldT T I2 ea ed hl hno r1 fun s' J => ⟨σ, _, J, q⟩
/-- C(..), C an own exception class: a value -/
structure CalO (P : Program) (w : World) (K : PySem.W.Frag) (mg : Str → Option Value) (base : Heap) (k n : Nat) (ks : List Str) (C : Addr) (x : Str) (sp : Sp) (gV : List V → List V → List V) : Prop where
  ex : ∃ (b : Bs) (fI : Addr) (fd : FuncData) (ps : List Str) (g : List Value → List Value → List Value), OexT K b C ∧ PySem.W.findIn K (.ref C) "__init__" = some (some (.ref fI)) ∧ PySem.W.typeIn K (.ref fI) = some (.type "function") ∧ FnOk P w K mg base CX0 k fI fd ps sp ∧ KBn K fd ps (n + 1) ks g gV ∧ mg x = some (.ref C)
theorem kbn_of {K : PySem.W.Frag} {fd : FuncData} {ps : List Str} {m : Nat} (b : Binds K fd ps []) (h : ps.length = m) : KBn K fd ps m [] (fun us _ => us) (fun vs _ => vs) :=
  ⟨fun s us ws X l1 l2 => by
    have z := b s us X (by rw [List.append_nil, l1, h])
    rw [List.append_nil] at z
    exact z, fun r1 _ => r1⟩
def tMkO1 (C : Addr) (n m : Nat) (sp : Sp) (gV : List V → List V → List V) (t tk : TA) : TE := fun σ H Q => t σ H fun vs H1 => tk σ H1 fun zs H2 => vs.length = n ∧ zs.length = m ∧ n ≤ 1000 ∧ ∀ a, H2 a = none →
  sp (gV (.ref a :: vs) zs) (upd H2 a (exo a C none)) (fun v H3 => v = .non ∧ Q (.ref a) H3) (fun _ _ _ => False)
section
variable {X : Cx} {k j n : Nat} {ks : List Str} {C : Addr} {x : Str} {sp : Sp} {gV : List V → List V → List V} {t tk : TA} {e : Expr} {es : List Expr} {kws : List Keyword} {p pos : Pos}
theorem run_oeK {b : Bs} {fI : Addr} {fd : FuncData} {ps : List Str} {g : List Value → List Value → List Value} {pins : List (Addr × Obj)} {σ : L2.St} {H : Hp} {s : Shared} {Q : VK} {us ws : List Value} {vs zs : List V} (T : OexT X.K b C) (iC : PySem.W.findIn X.K (.ref C) "__init__" = some (some (.ref fI))) (tI : PySem.W.typeIn X.K (.ref fI) = some (.type "function"))
    (F1 : FnOk X.prog X.w X.K X.mg X.base CX0 k fI fd ps sp) (hr : Room (k + 1) X.A) (hb : KBn X.K fd ps (n + 1) ks g gV) (I1 : Inv X pins σ H s) (r1 : Vals vs us) (rz : Vals zs ws) (l1 : vs.length = n) (l2 : zs.length = ks.length) (hn : n ≤ 1000)
    (q1 : ∀ a, H a = none → sp (gV (.ref a :: vs) zs) (upd H a (exo a C none)) (fun v H3 => v = .non ∧ Q (.ref a) H3) (fun _ _ _ => False)) : wpAny (model X.prog X.w) X.A (call (.ref C) us (ks.zip ws)) (EP X pins σ Q) X.xe s := by
  obtain ⟨nm, q, N, bs, bm, sn, sub, ab, col, dd, k0, k1, k2, k3, k5, hC, hbm⟩ := T.cls
  obtain ⟨hp, g1, dr, tk, os⟩ := s
  have hsz : hp.objs.size ≤ hp.objs.size + 1 := Nat.le_succ _
  have hq := q1 (hp.objs.size + 1) (I1.hok.fresh hsz)
  have hget : ((hp.push (PySem.W.kdv_tup us)).push (PySem.HandSPX.excO C hp.objs.size)).get? (hp.objs.size + 1) = some (PySem.HandSPX.excO C hp.objs.size) := by heap_get
  have kk : ∀ c o, hp.get? c = some o → ((hp.push (PySem.W.kdv_tup us)).push (PySem.HandSPX.excO C hp.objs.size)).get? c = some o := fun c o z => Heap.get?_push_of_some _ (Heap.get?_push_of_some _ z)
  have I2 : Inv X pins σ (upd H (hp.objs.size + 1) (exo (hp.objs.size + 1) C none)) ⟨(hp.push (PySem.W.kdv_tup us)).push (PySem.HandSPX.excO C hp.objs.size), g1, dr, tk, os⟩ :=
    I1.laid (t' := tk) (a := hp.objs.size + 1) (o := exo (hp.objs.size + 1) C none) (h' := (hp.push (PySem.W.kdv_tup us)).push (PySem.HandSPX.excO C hp.objs.size)) kk hsz (exo_ok hget)
  have rr1 : Vals (V.ref (hp.objs.size + 1) :: vs) (Value.ref (hp.objs.size + 1) :: us) := .cons rfl r1
  have e1 : (Value.ref (hp.objs.size + 1) :: us).length = n + 1 := rr1.length.symm.trans (congrArg Nat.succ l1)
  have e2 : ws.length = ks.length := rz.length.symm.trans l2
  have hus : us.length ≤ sizeLine := by rw [← Paired.length r1, l1, sizeLine_eq]; omega
  obtain ⟨i0, bmB, bf⟩ := b.f
  refine wpAny_call (callK bf ((hbm.has _).trans b.hB) ((hbm.has _).trans b.hA) ((hbm.has _).trans b.hN) (I1.kIn _ _ hC) (PySem.W.looks_findIn I1.kIn iC) (fun self => PySem.W.bind_fn I1.kIn self tI) hus
    (codeAny_mono (F1.run _ X.stack _ _ ⟨Value.ref (hp.objs.size + 1) :: us, ks.zip ws⟩ (g (Value.ref (hp.objs.size + 1) :: us) ws) _ _ (fun _ _ _ => False) (hr.make C us (ks.zip ws)) (I2.env0.make C us (ks.zip ws)) (hb.to _ (Value.ref (hp.objs.size + 1) :: us) ws I2.kIn e1 e2) (hb.rel rr1 rz) hq) fun r s' hq' => ?_))
  match r, hq' with
  | .error er, hq' => exact (hq' : False).elim
  | .ok (.ret u), hq' =>
    obtain ⟨v, H2, I3, rv, ev, q2⟩ := I2.after hq'
    subst ev
    exact ⟨rv, .ref (hp.objs.size + 1), H2, I3, rfl, q2⟩
theorem pe_oeP (c : CalO X.prog X.w X.K X.mg X.base k n [] C x sp gV) (hr : Room j X.A) (hk : k + 1 ≤ j) (hg : Gl X x) (ha : PA X (e :: es) t)
    (hdb : (x == ("__debug__" : Str)) = false := by decide) (he : starEach (e :: es) X.env = (false, eval e X.env) :: starEach es X.env := by rfl) (hpl : (backTo pos (starEach es X.env)).any (·.1) = false := by rfl) :
    PE X (.Call (.Name x p) (e :: es) [] pos) (tMkO1 C n 0 sp gV t tNil) := by
  obtain ⟨b, fI, fd, ps, g, T, iC, tI, F1, hb, hm⟩ := c.ex
  refine ⟨fun pins s σ H Q I h => ?_⟩
  refine wpAny_Call_Name_kw (ld_glob I hg hm ?_ hdb)
  refine PySem.W.callWith_K (h₀ := X.base) I.ok.mod.kin T.kC (thn (ha.run pos pins s σ H _ I h) fun us s1 ⟨vs, H1, I1, r1, l1, l2, hn, q1⟩ => ⟨I1.kIn, ?_⟩) he hpl
  exact run_oeK (ws := []) (zs := []) T iC tI F1 (hr.mono hk) hb I1 r1 .nil l1 rfl hn q1
theorem pe_oe0 (c : CalO X.prog X.w X.K X.mg X.base k 0 [] C x sp gV) (hr : Room j X.A) (hk : k + 1 ≤ j) (hg : Gl X x) (hdb : (x == ("__debug__" : Str)) = false := by decide) :
    PE X (.Call (.Name x p) [] [] pos) (tMkO1 C 0 0 sp gV tNil tNil) := by
  obtain ⟨b, fI, fd, ps, g, T, iC, tI, F1, hb, hm⟩ := c.ex
  refine ⟨fun pins s σ H Q I h => ?_⟩
  obtain ⟨_, _, hn, q1⟩ := h
  refine wpAny_Call_Name_kw (ld_glob I hg hm ?_ hdb)
  exact PySem.W.callWith_K0 I.kIn T.kC (run_oeK (us := []) (vs := []) (ws := []) (zs := []) T iC tI F1 (hr.mono hk) hb I .nil .nil rfl rfl hn q1)
theorem pe_oeK (c : CalO X.prog X.w X.K X.mg X.base k 0 ks C x sp gV) (hr : Room j X.A) (hk : k + 1 ≤ j) (hg : Gl X x) (hkw : PK X kws tk)
    (hall : (backToKw pos (keywordEach kws X.env)).all (·.1.isSome) = true := by rfl) (hks : (backToKw pos (keywordEach kws X.env)).filterMap (·.1) = ks := by rfl)
    (hdb : (x == ("__debug__" : Str)) = false := by decide) (hpl : ((backTo pos (starEach [] X.env)).any (·.1) || (backToKw pos (keywordEach kws X.env)).any (·.1.isNone)) = false := by rfl) :
    PE X (.Call (.Name x p) [] kws pos) (tMkO1 C 0 ks.length sp gV tNil tk) := by
  obtain ⟨b, fI, fd, ps, g, T, iC, tI, F1, hb, hm⟩ := c.ex
  refine ⟨fun pins s σ H Q I h => ?_⟩
  refine wpAny_Call_Name_kw (ld_glob I hg hm ?_ hdb)
  refine PySem.W.callWith_KW0 (h₀ := X.base) I.ok.mod.kin T.kC hall ?_ hpl
  refine thn (hkw.run pos pins s σ H _ I h) fun ws s2 ⟨zs, H2, I2, rz, _, l2, hn, q2⟩ => ⟨I2.kIn, ?_⟩
  rw [hks]
  exact run_oeK (us := []) (vs := []) T iC tI F1 (hr.mono hk) hb I2 .nil rz rfl l2 hn q2
end
section
variable {σ : L2.St} {H : Hp} {Q : VK} {C : Addr} {n m : Nat} {sp : Sp} {gV : List V → List V → List V} {t tk : TA}
theorem r_mkO1 (q : t σ H fun vs H1 => tk σ H1 fun zs H2 => vs.length = n ∧ zs.length = m ∧ n ≤ 1000 ∧ ∀ a, H2 a = none → sp (gV (.ref a :: vs) zs) (upd H2 a (exo a C none)) (fun v H3 => v = .non ∧ Q (.ref a) H3) (fun _ _ _ => False)) : tMkO1 C n m sp gV t tk σ H Q := q
end
/-- at a: an exception of the class at D; its own dict, if it has one, holds fs -/
def XVo (H : Hp) (a D : Addr) (d : Option Addr) (fs : List (Str × V)) : Prop := H a = some (exo a D d) ∧ match d with
  | none => fs = []
  | some dx => H dx = some (exd dx fs)
def rIsV (K : PySem.W.Frag) : List V → Hp → VK → Prop := fun xs H Q => ∃ (a D : Addr) (d : Option Addr) (fs : List (Str × V)) (c : V) (u : Value) (b : Bool), xs = [.ref a, c] ∧ XVo H a D d fs ∧ ExcC K D ∧ ClsV c u ∧ PySem.W.kitOne K (.ref D) u = some b ∧ Q (.bl b) H
theorem call_isV {X : Cx} : CallR X (.builtin "isinstance") (rIsV X.K) := by
  intro pins s σ H xs us Q I r h
  obtain ⟨a, D, d, fs, c, u, b, rfl, xv, C, k, e, q⟩ := h
  obtain ⟨u1, u2, rfl, r1, r2⟩ := vals2 r
  have e2 := k.eq r2
  subst e2
  obtain rfl : u1 = Value.ref a := r1
  obtain ⟨ho, hd⟩ := xv
  match d, ho, hd with
  | none, ho, _ =>
    obtain ⟨t1, g⟩ := exo_at I.hok ho
    exact PySem.W.kia_one (PySem.W.bk_kitx (od := none) C.hg C.hk C.hs C.hd C.ha C.hn C.ht C.hm) I.kIn ⟨g, rfl, rfl, trivial⟩ e (fun z => nomatch z) fun tk => ⟨.bl b, H, I.tok tk, rfl, q⟩
  | some dx, ho, hd =>
    obtain ⟨ox, od, mA, J, _, _⟩ := xv_inst I (show XV H a D dx fs from ⟨ho, hd⟩)
    exact PySem.W.kia_one (PySem.W.bk_kitx (ox := ox) (od := some od) C.hg C.hk C.hs C.hd C.ha C.hn C.ht C.hm) I.kIn J e (fun z => nomatch z) fun tk => ⟨.bl b, H, I.tok tk, rfl, q⟩
def tXv (K : PySem.W.Frag) (f : Str) (te : TE) : TE := fun σ H Q => te σ H fun x H1 => ∃ (a D dx : Addr) (fs : List (Str × V)) (v : V), x = .ref a ∧ XV H1 a D dx fs ∧ XfC K D ∧ PySem.W.findIn K (.ref D) f = some none ∧ fs.lookup f = some v ∧ Q v H1
theorem pe_xv {X : Cx} {e : Expr} {te : TE} {pos : Pos} {n : Str} (he : PE X e te) (hb : attributeBase e n X.env (eval e X.env) = eval e X.env := by rfl) : PE X (.Attribute e n pos) (tXv X.K n te) := by
  refine ⟨fun pins s σ H Q I h => attr_of hb (thn (he.run pins s σ H _ I h) fun u s1 ⟨x, H1, I1, rx, a, D, dx, fs, v, ex, xv, T, hno, l, q⟩ => ?_)⟩
  subst ex
  obtain rfl : u = Value.ref a := rx
  obtain ⟨ox, od, mA, J, hl, hr⟩ := xv_inst I1 xv
  obtain ⟨u, hu, ru⟩ := RelO.some_of (v := v) (o := mA n) (by rw [← l]; exact hr n)
  exact HandSPX.exc_get I1.kIn J T.ga T.gg T.exC (PySem.W.findObj_own T.hdC hno rfl (by rw [hl, hu])) (handed_of ru) ⟨v, H1, I1.tok _, ru, q⟩
theorem r_dispV {σ : L2.St} {H : Hp} {Q : VK} {k : Key} {v : V} {i : Nat} (hv : σ[i]? = some (some v)) (q : ∀ p H', H p = none → Same H H' → H' p = some (.dK [(k, v)]) → Q (.ref p) H') : tDisp [(tC (kV k), tVar i)] σ H Q := by
  intro p np
  refine ⟨v, hv, upd_same, [(k, v)], rfl, (by show 1 ≤ 15; decide), ?_⟩
  refine q p _ np (fun b o e => ?_) upd_same
  rw [upd_ne (ne_of_none e np), upd_ne (ne_of_none e np)]
  exact e
end Bk

namespace Bk
open PySem PySem.Spec PyProof.Rows L2
/-! ## 33. l.remove(x) of data -/
def rRemD (K : PySem.W.Frag) : V → List V → Hp → VK → Prop := fun x vs H Q => ∃ (l : Addr) (xs : List V) (ds : List PyData) (y : V) (d : PyData) (j : Nat), x = .ref l ∧ vs = [y] ∧ H l = some (.lst xs) ∧ DpAll K H xs ds ∧ Dp K H y d ∧
  PyData.plainAll ds = true ∧ d.plain = true ∧ d.depth ≤ 60 ∧ SeqAt.dataPlace ds d = some j ∧ Q .non (upd H l (.lst (xs.eraseIdx j)))
theorem mt_removeD {X : Cx} (hu : X.A.units + 64 < cLine) : MtM X "list.remove" (rRemD X.K) := by
  intro pins s σ H x vs v us Q I rx rv h
  obtain ⟨l, xs, ds, y, d, j, rfl, rfl, hH, hxs, hy, pa, pd, hd, hp, q⟩ := h
  cases rx
  obtain ⟨u, rfl, ru⟩ := rv.one
  obtain ⟨z, its, n, r, hl, e⟩ := I.lstM hH
  obtain ⟨as, h4⟩ := Dp.readsAll I ds _ its hxs r
  obtain ⟨bs, r1⟩ := Dp.reads I d y u hy ru
  have hpl : s.heap.IsList l its.toArray := ⟨_, e, rfl, n, rfl⟩
  refine SeqAt.remove_list_data hpl (show ReadsAll s.heap its.toArray.toList ds as from h4) r1 pa pd ?_ hp (by rw [List.size_toArray, ← hl]; exact z) ?_
  · have h2 : min (PyData.depthAll ds) d.depth ≤ d.depth := Nat.min_le_right _ _
    omega
  · refine ⟨.non, _, I.lset (t' := s.toks) (its' := its.eraseIdx j) hH e ?_ (r.eraseIdx j) ?_, rfl, q⟩
    · show its.toArray.eraseIdxIfInBounds j = (its.eraseIdx j).toArray
      rw [List.eraseIdxIfInBounds_toArray]
    · have := List.length_eraseIdx_le xs j
      omega
end Bk

namespace Bk
open PySem PySem.Spec PyProof.Rows L2
/-! ## 34. a list of asks, tuples of a name and a number -/
def askD (p : Str × Nat) : PyData := .tuple [.str p.1, .int p.2]
structure AL (H : Hp) (l : Addr) (ts : List Addr) (as : List (Str × Nat)) : Prop where
  at_ : H l = some (.lst (ts.map V.ref))
  len : ts.length = as.length
  row : ∀ (k : Nat) (t : Addr) (p : Str × Nat), ts[k]? = some t → as[k]? = some p → H t = some (.tup [.str p.1, .int p.2])
theorem eqv_ask (q p : Str × Nat) : PyData.eqv (askD q) (askD p) = decide (q = p) := by
  obtain ⟨a, i⟩ := q
  obtain ⟨b, j⟩ := p
  simp only [askD, PyData.eqv, PyData.eqvAll, Bool.and_true]
  by_cases h : a = b
  · subst h
    by_cases h2 : i = j
    · subst h2
      rw [beq_self_eq_true, beq_self_eq_true, decide_eq_true rfl]
      rfl
    · rw [beq_self_eq_true, decide_eq_false (fun z => h2 (Prod.mk.inj z).2), Bool.true_and]
      exact beq_eq_false_iff_ne.mpr fun z => h2 (by omega)
  · rw [decide_eq_false (fun z => h (Prod.mk.inj z).1), beq_eq_false_iff_ne.mpr h, Bool.false_and]
theorem in_ask (as : List (Str × Nat)) (p : Str × Nat) : ((as.map askD).any fun z => PyData.eqv z (askD p)) = decide (p ∈ as) := by
  rw [List.any_map]
  induction as with
  | nil => exact (decide_eq_false (fun z => nomatch z)).symm
  | cons q r ih =>
    rw [List.any_cons, ih]
    show (PyData.eqv (askD q) (askD p) || _) = _
    rw [eqv_ask]
    by_cases h : q = p
    · subst h
      rw [decide_eq_true rfl, decide_eq_true List.mem_cons_self, Bool.true_or]
    · rw [decide_eq_false h, Bool.false_or]
      exact decide_eq_decide.mpr ⟨List.mem_cons_of_mem _, fun z => (List.mem_cons.mp z).elim (fun w => absurd w.symm h) id⟩
theorem place_ask (as : List (Str × Nat)) (p : Str × Nat) : SeqAt.dataPlace (as.map askD) (askD p) = as.findIdx? (fun q => decide (q = p)) := by
  unfold SeqAt.dataPlace
  rw [List.findIdx?_map]
  congr 1
  funext q
  exact eqv_ask q p
theorem plain_ask (as : List (Str × Nat)) : PyData.plainAll (as.map askD) = true := by
  induction as with
  | nil => rfl
  | cons q r ih => rw [List.map_cons]; simp only [PyData.plainAll, askD, PyData.plain, ih, Bool.and_true]
def asOk (as : List (Str × Nat)) : Prop := ∀ p ∈ as, PyData.strOk p.1 = true
theorem lay_ask {as : List (Str × Nat)} (h : asOk as) : PyData.canLayAll0 (as.map askD) = true ∧ PyData.depthAll (as.map askD) ≤ 1 := by
  induction as with
  | nil => exact ⟨rfl, Nat.zero_le _⟩
  | cons q r ih =>
    have ih := ih fun p hp => h p (List.mem_cons_of_mem _ hp)
    rw [List.map_cons]
    refine ⟨by simp only [PyData.canLayAll0, askD, PyData.canLay0, ih.1, h q List.mem_cons_self, Bool.and_true], ?_⟩
    have h2 := ih.2
    simp only [PyData.depthAll, askD, PyData.depth]
    omega
theorem sh_ask {as : List (Str × Nat)} (ok : asOk as) : SeqAt.shaped (.list (as.map askD)) = true := by
  have h := (lay_ask ok).2
  unfold SeqAt.shaped
  simp only [PyData.canLay0, (lay_ask ok).1, PyData.depth, Bool.true_and, decide_eq_true_eq]
  exact decide_eq_true (Nat.le_trans (Nat.succ_le_succ h) (show 2 ≤ 64 by decide))
theorem sh_ask1 {p : Str × Nat} (h : PyData.strOk p.1 = true) : SeqAt.shaped (askD p) = true := by
  unfold SeqAt.shaped
  simp only [askD, PyData.canLay0, PyData.canLayAll0, PyData.depth, PyData.depthAll, h, Bool.true_and]
  decide
section
variable {K : PySem.W.Frag} {H H' : Hp} {l : Addr} {ts : List Addr} {as : List (Str × Nat)}
theorem dp_ask {t : Addr} {p : Str × Nat} (e : H t = some (.tup [.str p.1, .int p.2])) : Dp K H (.ref t) (askD p) := .tup (sqT e) (.cons (.str _) (.cons (.int _) .nil))
theorem dps_of {ts : List Addr} {as : List (Str × Nat)} (hl : ts.length = as.length) (hr : ∀ (k : Nat) (t : Addr) (p : Str × Nat), ts[k]? = some t → as[k]? = some p → H t = some (.tup [.str p.1, .int p.2])) : DpAll K H (ts.map V.ref) (as.map askD) := by
  induction ts generalizing as with
  | nil =>
    cases as with
    | nil => exact .nil
    | cons _ _ => exact nomatch hl
  | cons t r ih =>
    cases as with
    | nil => exact nomatch hl
    | cons p q =>
      refine .cons (dp_ask (hr 0 t p rfl rfl)) (ih (Nat.succ.inj hl) fun k u v h1 h2 => hr (k + 1) u v h1 h2)
theorem AL.dps (a : AL H l ts as) : DpAll K H (ts.map V.ref) (as.map askD) := dps_of a.len a.row
theorem AL.dp (a : AL H l ts as) : Dp K H (.ref l) (.list (as.map askD)) := .lst (sqL a.at_) a.dps
theorem AL.keep (a : AL H l ts as) (kl : H' l = H l) (kt : ∀ t ∈ ts, H' t = H t) : AL H' l ts as :=
  ⟨by rw [kl]; exact a.at_, a.len, fun k t p h1 h2 => by rw [kt t (List.mem_of_getElem? h1)]; exact a.row k t p h1 h2⟩
theorem AL.same (a : AL H l ts as) (s : Same H H') : AL H' l ts as := ⟨s _ _ a.at_, a.len, fun k t p h1 h2 => s _ _ (a.row k t p h1 h2)⟩
theorem AL.tup (a : AL H l ts as) : ∀ t ∈ ts, ∃ xs, H t = some (.tup xs) := fun t ht => by
  obtain ⟨k, hk⟩ := List.getElem?_of_mem ht
  have h : k < as.length := by rw [← a.len]; exact (List.getElem?_eq_some_iff.mp hk).1
  exact ⟨_, a.row k t _ hk (List.getElem?_eq_getElem h)⟩
/-- x in l -/
theorem AL.mem (a : AL H l ts as) {x : V} {p : Str × Nat} {Q : VK} (ok : asOk as) (hp : PyData.strOk p.1 = true) (h : Dp K H x (askD p)) (q : Q (.bl (decide (p ∈ as))) H) : rInD K x (.ref l) H Q :=
  ⟨_, _, h, a.dp, sh_ask1 hp, sh_ask ok, by rw [in_ask]; exact q⟩
/-- l.append(t) -/
theorem AL.push (a : AL H l ts as) {t : Addr} {p : Str × Nat} (e : H t = some (.tup [.str p.1, .int p.2])) : AL (upd H l (.lst (ts.map V.ref ++ [.ref t]))) l (ts ++ [t]) (as ++ [p]) := by
  have ne : ∀ {u xs}, H u = some (.tup xs) → u ≠ l := fun e z => by rw [z, a.at_] at e; exact nomatch e
  refine ⟨by rw [upd_same, List.map_append]; rfl, by rw [List.length_append, List.length_append, a.len]; rfl, fun k u v h1 h2 => ?_⟩
  by_cases hk : k < ts.length
  · rw [List.getElem?_append_left hk] at h1
    rw [List.getElem?_append_left (by rw [← a.len]; exact hk)] at h2
    have z := a.row k u v h1 h2
    rw [upd_ne (ne z)]
    exact z
  · rw [List.getElem?_append_right (by omega)] at h1
    rw [List.getElem?_append_right (by rw [← a.len]; omega), ← a.len] at h2
    have k0 : k - ts.length = 0 := by
      have := (List.getElem?_eq_some_iff.mp h1).1
      simp at this
      omega
    rw [k0] at h1 h2
    obtain rfl : t = u := Option.some.inj h1
    obtain rfl : p = v := Option.some.inj h2
    rw [upd_ne (ne e)]
    exact e
theorem map_erase {α β : Type} (f : α → β) : ∀ (l : List α) (j : Nat), (l.map f).eraseIdx j = (l.eraseIdx j).map f
  | [], _ => rfl
  | _ :: _, 0 => rfl
  | x :: r, j + 1 => by
    show f x :: (r.map f).eraseIdx j = f x :: (r.eraseIdx j).map f
    rw [map_erase f r j]
/-- l.remove(x) -/
theorem AL.cut (a : AL H l ts as) (j : Nat) : AL (upd H l (.lst ((ts.map V.ref).eraseIdx j))) l (ts.eraseIdx j) (as.eraseIdx j) := by
  have ne : ∀ {u xs}, H u = some (.tup xs) → u ≠ l := fun e z => by rw [z, a.at_] at e; exact nomatch e
  refine ⟨by rw [upd_same, map_erase], by rw [List.length_eraseIdx, List.length_eraseIdx, a.len], fun k u v h1 h2 => ?_⟩
  rw [List.getElem?_eraseIdx] at h1 h2
  split at h1
  · rename_i hk
    rw [if_pos hk] at h2
    have z := a.row k u v h1 h2
    rw [upd_ne (ne z)]
    exact z
  · rename_i hk
    rw [if_neg hk] at h2
    have z := a.row (k + 1) u v h1 h2
    rw [upd_ne (ne z)]
    exact z
end
end Bk

namespace Bk
open PySem PySem.Spec PyProof.Rows L2
/-! ## 34. l.count(x) of data, a text times a number -/
def rCntD (K : PySem.W.Frag) : V → List V → Hp → VK → Prop := fun x vs H Q => ∃ (l : Addr) (xs : List V) (ds : List PyData) (y : V) (d : PyData), x = .ref l ∧ vs = [y] ∧ H l = some (.lst xs) ∧ DpAll K H xs ds ∧ Dp K H y d ∧
  PyData.plainAll ds = true ∧ d.plain = true ∧ d.depth ≤ 60 ∧ Q (.int (ds.countP (fun z => PyData.eqv z d) : Nat)) H
theorem mt_countD {X : Cx} (hu : X.A.units + 64 < cLine) : MtR X "list.count" (rCntD X.K) := by
  intro pins s σ H x vs v us Q I rx rv h
  obtain ⟨l, xs, ds, y, d, rfl, rfl, hH, hxs, hy, pa, pd, hd, q⟩ := h
  cases rx
  obtain ⟨u, rfl, ru⟩ := rv.one
  obtain ⟨z, its, n, r, hl, e⟩ := I.lstM hH
  obtain ⟨as, h4⟩ := Dp.readsAll I ds _ its hxs r
  obtain ⟨bs, r1⟩ := Dp.reads I d y u hy ru
  have hpl : s.heap.IsList l its.toArray := ⟨_, e, rfl, n, rfl⟩
  refine SeqAt.count_list_data hpl (show ReadsAll s.heap its.toArray.toList ds as from h4) r1 pa pd ?_ ?_
  · have h2 : min (PyData.depthAll ds) d.depth ≤ d.depth := Nat.min_le_right _ _
    omega
  · exact ⟨.int (ds.countP (fun z => PyData.eqv z d) : Nat), H, I.tok _, ⟨_, rfl⟩, q⟩
theorem op_mul01 {X : Cx} : OpR X (binaryOp .Mult) (fun x y H Q => ∃ (z : Str) (k : Int), x = .str z ∧ y = .int k ∧ (k = 0 ∨ k = 1) ∧ Q (.str (if k = 0 then Str.empty else z)) H) := by
  intro pins s σ H x y v u Q I rx ry h
  obtain ⟨z, k, rfl, rfl, hk, q⟩ := h
  obtain ⟨t, rfl⟩ := rx
  obtain ⟨t2, rfl⟩ := ry
  rcases hk with rfl | rfl
  · refine P.mul_str (by decide) (fun h => absurd (by decide) h) (fun h => absurd (by decide) h) ?_
    rw [if_pos (by decide)]
    exact ⟨by decide, V.str Str.empty, H, I.tok _, ⟨_, rfl⟩, q⟩
  · refine P.mul_str (by decide) (fun _ h => ?_) (fun _ h => ?_) ?_
    · simp at h
    · simp at h
    · rw [if_neg (by decide), if_pos (by rfl)]
      exact ⟨.str z, H, I, ⟨_, rfl⟩, q⟩
theorem op_eqDK {X : Cx} {K : PySem.W.Frag} (h : X.K = K) (hu : X.A.units + 64 < cLine) : OpR X (compareOp .Eq) (rEqD K) := by
  subst h
  exact op_eqD hu
theorem op_neDK {X : Cx} {K : PySem.W.Frag} (h : X.K = K) (hu : X.A.units + 64 < cLine) : OpR X (compareOp .NotEq) (rNeD K) := by
  subst h
  exact op_neD hu
/-- len of an own object -/
def rLenO (C : Addr) (sp : Sp) : List V → Hp → VK → Prop := fun xs H Q => ∃ (a dx : Addr) (fs : List (Str × V)), xs = [.ref a] ∧ H a = some (.ins C dx fs) ∧ sp [.ref a] H (fun v H' => ∃ n : Nat, v = .int n ∧ (n : Int) < 2 ^ 63 ∧ Q v H') E0
theorem call_lenO {X : Cx} {k j : Nat} {C : Addr} {sp : Sp} (c : CalM X.prog X.w X.K X.mg X.base CX0 k C "__len__" sp) (hr : Room j X.A) (hk : k + 1 ≤ j) : CallR X (.builtin "len") (rLenO C sp) := by
  obtain ⟨f, fd, ps, hm, F, hb⟩ := c.ex
  intro pins s σ H xs us Q I r h
  obtain ⟨a, dx, fs, rfl, e, h⟩ := h
  obtain ⟨u, rfl, ru⟩ := r.one
  obtain rfl : u = Value.ref a := ru
  have w := I.hok a _ e
  unfold L2.ObjOk at w
  obtain ⟨w1, w2, w3, w4, mA, w5, w6, w7⟩ := w
  obtain ⟨m, fr⟩ := I.fr
  obtain ⟨od, hod⟩ : ∃ od, s.heap.get? dx = some od := by
    obtain ⟨es, ep, h1, h2⟩ := w5
    exact ⟨_, h2.1⟩
  refine PySem.W.len_K (C := C) (f := f) (ox := PySem.W.instObj C dx) (od := some od) fr I.ok.mod.kin ⟨w4, rfl, rfl, hod⟩ hm.at_ hm.fn ?_
  have hrr : Room k X.A.in1 := ⟨hr.hd, by have := hr.dp; show X.A.depth + 3 * k + 5 < _; omega, by have := hr.un; show X.A.units + 1 + 16 * k + 200 < _; omega⟩
  have hl : [Value.ref a].length = ps.length := by
    have e1 := F.len _ _ _ _ h
    exact e1
  have bb := hb s [Value.ref a] I.kIn (by rw [List.append_nil]; exact hl)
  rw [List.append_nil] at bb
  refine wpAny_call (codeAny_mono (F.run X.A.in1 X.stack s H ⟨[.ref a], []⟩ [.ref a] [.ref a] _ E0 hrr I.env0.in1 bb (.cons rfl .nil) h) fun rr s3 z => ?_)
  match rr, z with
  | .ok (.ret u), z =>
    obtain ⟨v, H', I3, rv, n, rfl, hn, q⟩ := I.after z
    obtain ⟨t, rfl⟩ := rv
    exact ⟨⟨by omega, hn⟩, V.int n, H', I3.tok _, ⟨_, rfl⟩, q⟩
  | .error u, z => exact z.elim
end Bk

namespace Bk
open PySem PySem.Spec PyProof.Rows L2
/-! ## 35. names, dicts by names -/
def allW (f l : Nat) (z : Str) : Bool := z.cps.toList.all fun c => decide (f ≤ c) && decide (c ≤ l)
def spAllW : Sp := fun vs H Q _ => ∃ (z F L : Str) (f l : Nat), vs = [.str z, .str F, .str L] ∧ F.cps.toList = [f] ∧ L.cps.toList = [l] ∧ z.length ≤ 1000 ∧ ∀ H', Same H H' → Q (.bl (allW f l z)) H'
def nameOk (z : Str) : Bool := decide (1 ≤ z.length ∧ z.length ≤ 8) && allW 97 122 z
def spName (K : PySem.W.Frag) : Sp := fun vs H Q _ => ∃ x : V, vs = [x] ∧ ((∃ z : Str, x = .str z ∧ z.length ≤ 1000 ∧ ∀ H', Same H H' → Q (.bl (nameOk z)) H') ∨ (IsA K H x "str" false ∧ Q (.bl false) H))
theorem str_of_name {x : Str} (h : nameOk x = true) : PyData.strOk x = true := by
  have h2 := (Bool.and_eq_true_iff.mp h).2
  unfold PyData.strOk
  rw [← Array.all_toList]
  refine List.all_eq_true.mpr fun c hc => decide_eq_true ?_
  have := List.all_eq_true.mp h2 c hc
  rw [Bool.and_eq_true] at this
  have := of_decide_eq_true this.2
  omega
theorem len_of_name {x : Str} (h : nameOk x = true) : 1 ≤ x.length ∧ x.length ≤ 8 := of_decide_eq_true (Bool.and_eq_true_iff.mp h).1
theorem nd_le {α : Type} [DecidableEq α] : ∀ {l m : List α}, l.Nodup → (∀ x ∈ l, x ∈ m) → l.length ≤ m.length
  | [], _, _, _ => Nat.zero_le _
  | a :: r, m, h, s => by
    have h2 := List.nodup_cons.mp h
    have z := nd_le (l := r) (m := m.erase a) h2.2 fun x hx => (List.mem_erase_of_ne (fun e => h2.1 (by rw [← e]; exact hx))).mpr (s x (List.mem_cons_of_mem _ hx))
    have ha := s a List.mem_cons_self
    rw [List.length_erase_of_mem ha] at z
    have : 0 < m.length := List.length_pos_of_mem ha
    rw [List.length_cons]
    omega
theorem inV_str {x : Str} {row : List Str} : inV (.str x) (row.map V.str) = decide (x ∈ row) := by
  unfold inV
  rw [List.any_map]
  induction row with
  | nil => exact (decide_eq_false (fun z => nomatch z)).symm
  | cons y r ih =>
    rw [List.any_cons, ih]
    show (decide (_ = _) || _) = _
    by_cases h : x = y
    · subst h
      rw [decide_eq_true rfl, Bool.true_or, decide_eq_true List.mem_cons_self]
    · rw [decide_eq_false (fun z => h (by first | exact z.symm | (injection z with z; first | exact z | exact z.symm))), Bool.false_or]
      exact decide_eq_decide.mpr ⟨List.mem_cons_of_mem _, fun z => (List.mem_cons.mp z).elim (fun w => absurd w h) id⟩
theorem rng_get {α : Type} (d : α) (l : List α) : (List.range l.length).map (fun i => l.getD i d) = l := by
  refine List.ext_getElem (by rw [List.length_map, List.length_range]) fun i h1 h2 => ?_
  rw [List.getElem_map, List.getElem_range, List.getD_eq_getElem?_getD, List.getElem?_eq_getElem h2]
  rfl
theorem rng_fm {α β : Type} (d : α) (l : List α) (f : α → Option β) : (List.range l.length).filterMap (fun i => f (l.getD i d)) = l.filterMap f := by
  conv => rhs; rw [← rng_get d l]
  rw [List.filterMap_map]
  rfl
section
variable {K : PySem.W.Frag} {σ : L2.St} {H : Hp} {Q : VK} {j : Nat} {vs : List Nat} {tt : TT} {te tl : TE} {a : Addr} {xs : List V}
theorem lcLF (p : Nat → Option V) (hv : ∀ QQ : VK, QQ (.ref a) H → tl σ H QQ) (hs : SqL K H a xs) (hl : xs.length ≤ 10000) (hw : ∀ x, wipe ((wipe σ vs).set j (some x)) vs = wipe σ vs)
    (ht : ∀ (i : Nat) (y : V) (H1 : Hp) (Q' : VK) (R' : Hp → Prop), xs[i]? = some y → Same H H1 → (∀ v, p i = some v → ∀ H3, Same H1 H3 → Q' v H3) → (p i = none → ∀ H3, Same H1 H3 → R' H3) →
      tt ((wipe σ vs).set j (some y)) H1 fun b H4 => if b = true then te ((wipe σ vs).set j (some y)) H4 Q' else R' H4)
    (q : ∀ D H', H D = none → Same H H' → H' D = some (.lst ((List.range xs.length).filterMap p)) → Q (.ref D) H') : tLc (iList K tl) (gName j) tt te vs σ H Q := by
  refine hv _ ⟨a, rfl, ⟨xs, hs⟩, fun D hD => ?_⟩
  refine lc_by (g := gName j) (tt := tt) (te := te) (vs := vs) (σ := σ) (Q := Q) walk_list p hD hl (fun _ s => s.seq hs) (fun i x H1 H2 Q' R' hi sm y h1 h2 => ?_) fun H' s e => q D H' hD s e
  obtain ⟨rfl, hx⟩ := y
  exact ⟨hw _, ht i x _ Q' R' hx sm h1 h2⟩
end
theorem units65 {k : Nat} {A : Around} (r : Room k A) : A.units + 65 < cLine := by
  have := r.un
  omega
theorem putF_old {f : Str} {v u : V} : ∀ {fs : List (Str × V)}, fs.lookup f = some u → (putF f v fs).length = fs.length
  | [], h => nomatch h
  | (g, w) :: r, h => by
    unfold putF
    split
    · rfl
    · rename_i hg
      rw [List.lookup_cons] at h
      have hb : (f == g) = false := beq_eq_false_iff_ne.mpr fun z => hg (by first | exact z | exact z.symm)
      rw [hb] at h
      rw [List.length_cons, List.length_cons, putF_old h]
theorem fm_flt {α β : Type} (c : α → Prop) [DecidablePred c] (g : α → β) : ∀ l : List α, l.filterMap (fun z => if c z then none else some (g z)) = (l.filter fun z => decide (¬ c z)).map g
  | [] => rfl
  | a :: r => by
    rw [List.filterMap_cons, List.filter_cons]
    by_cases h : c a
    · rw [if_pos h, decide_eq_false (fun z => z h), fm_flt c g r]
      simp
    · rw [if_neg h, decide_eq_true h, if_pos rfl, List.map_cons, fm_flt c g r]
theorem r_while {c : TT} {tb : TS} {D : Ends} {σ : L2.St} {H : Hp} (W : Nat → L2.St → Hp → Prop) (h0 : ∃ m, W m σ H) (hs : ∀ m σ H, W m σ H → c σ H fun b H1 => if b = true then ∃ N : L2.St → Hp → Prop, (∀ σ' H', N σ' H' → ∃ m', m' < m ∧ W m' σ' H') ∧ tb { D with nx := N, ct := N, bk := D.nx } σ H1 else D.nx σ H1) : tWhile c tb D σ H := ⟨W, h0, hs⟩
theorem units1 {k : Nat} {A : Around} (r : Room k A) : A.units + 1 < cLine := by
  have := r.un
  omega
theorem r_dget {te ti : TE} {σ : L2.St} {H : Hp} {Q : VK} (h : te σ H fun x H1 => ti σ H1 fun y H2 => ∃ (a : Addr) (v : V), x = .ref a ∧ DGet H2 a y (some v) ∧ Q v H2) : tDGet te ti σ H Q := h
section
variable {K : PySem.W.Frag} {σ : L2.St} {H : Hp} {Q : VK} {j : Nat} {vs : List Nat} {tt : TT} {te tl : TE} {d : Addr} {kvs : List (Key × V)}
theorem lcKeys (p : Nat → Option V) (hd : H d = some (.dK kvs)) (hl : kvs.length ≤ 10000) (hw : ∀ x, wipe ((wipe σ vs).set j (some x)) vs = wipe σ vs)
    (hv : ∀ (od : Obj) (QQ : VK), QQ (.ref d) (upd H d (.frz od (.dK kvs))) → tl σ (upd H d (.frz od (.dK kvs))) QQ)
    (ht : ∀ (i : Nat) (k : Key) (y : V) (od : Obj) (H1 : Hp) (Q' : VK) (R' : Hp → Prop), kvs[i]? = some (k, y) → H1 d = some (.frz od (.dK kvs)) → (∀ b u, b ≠ d → H b = some u → H1 b = some u) → (∀ v, p i = some v → ∀ H3, Same H1 H3 → Q' v H3) → (p i = none → ∀ H3, Same H1 H3 → R' H3) →
      tt ((wipe σ vs).set j (some (kV k))) H1 fun b H4 => if b = true then te ((wipe σ vs).set j (some (kV k))) H4 Q' else R' H4)
    (q : ∀ D H', H D = none → Same H H' → H' D = some (.lst ((List.range kvs.length).filterMap p)) → Q (.ref D) H') : tLockE (tLc (iKeys tl) (gName j) tt te vs) σ H Q := by
  refine ⟨d, .dK kvs, hd, trivial, fun od => ?_⟩
  have f0 : ∀ b u, b ≠ d → H b = some u → upd H d (.frz od (.dK kvs)) b = some u := fun b u nb eb => by rw [upd_ne nb]; exact eb
  have e0 : upd H d (.frz od (.dK kvs)) d = some (.frz od (.dK kvs)) := upd_same
  have z0 : ∀ {D : Addr}, upd H d (.frz od (.dK kvs)) D = none → H D = none ∧ D ≠ d := fun {D} z => by
    by_cases h : D = d
    · rw [h, upd_same] at z; exact nomatch z
    · rw [upd_ne h] at z; exact ⟨z, h⟩
  refine hv od _ ⟨d, od, rfl, .inl ⟨kvs, e0, fun D hD => ?_⟩⟩
  refine lc_by (g := gName j) (tt := tt) (te := te) (vs := vs) (σ := σ) (Q := fun v H' => H' d = some (.frz od (.dK kvs)) ∧ Q v (upd H' d (.dK kvs))) walk_keys p hD hl (fun H' s => s _ _ e0) (fun i x H1 H2 Q' R' hi sm y h1 h2 => ?_) fun H' s e => ?_
  · obtain ⟨rfl, k, v, hk, rfl⟩ := y
    exact ⟨hw _, ht i k v od H2 Q' R' hk (sm _ _ e0) (fun b u nb eb => sm _ _ (f0 b u nb eb)) h1 h2⟩
  · obtain ⟨hD1, hD2⟩ := z0 hD
    refine ⟨s _ _ e0, q D _ hD1 (fun b u eb => ?_) (by rw [upd_ne hD2]; exact e)⟩
    by_cases h : b = d
    · rw [h, upd_same, ← hd, ← h]
      exact eb
    · rw [upd_ne h]
      exact s _ _ (f0 b u h eb)
end
theorem eqv_nil {ds : List PyData} : PyData.eqv (.list ds) (.list []) = decide (ds = []) := by
  cases ds with
  | nil => rfl
  | cons a r => rfl
section
variable {σ : L2.St} {H : Hp} {Q : VK} {i j : Nat} {a b : Addr} {z x : Str} {kvs lvs : List (Key × V)} {y : V}
theorem r_dgT (hv : σ[i]? = some (some (.ref a))) (e : Rd H a (.dK kvs)) (hx : valV kvs (.inr z : Key) = some y) (q : Q y H) : tDGet (tVar i) (tC (.str z)) σ H Q := ⟨_, hv, a, y, rfl, .inl ⟨kvs, .inr z, e, rfl, hx.symm⟩, q⟩
theorem r_dg2 (hv : σ[i]? = some (some (.ref a))) (e : Rd H a (.dK kvs)) (hx : valV kvs (.inr z : Key) = some (.ref b)) (e2 : Rd H b (.dK lvs)) (hj : σ[j]? = some (some (.str x))) (h2 : valV lvs (.inr x : Key) = some y) (q : Q y H) :
    tDGet (tDGet (tVar i) (tC (.str z))) (tVar j) σ H Q := r_dgT hv e hx ⟨_, hj, b, y, rfl, .inl ⟨lvs, .inr x, e2, rfl, h2.symm⟩, q⟩
end
theorem ne_ct {H : Hp} {a b : Addr} {u w : HO} (h : H a = some u) (h2 : H b = some w) (n : u ≠ w) : a ≠ b := fun z => n (by rw [z, h2] at h; exact (Option.some.inj h).symm)
theorem r_dget2 {td ty tx : TE} {σ : L2.St} {H : Hp} {Q : VK} (h : td σ H fun x H1 => ∃ a, x = .ref a ∧ IsD H1 a ∧ ty σ H1 fun y H2 => tx σ H2 fun z H3 => ∃ o, DGet H3 a y o ∧ Q (o.getD z) H3) : tDGet2 td ty tx σ H Q := h
theorem r_dgV {σ : L2.St} {H : Hp} {Q : VK} {i j : Nat} {a : Addr} {x : Str} {kvs : List (Key × V)} {y : V} (hv : σ[i]? = some (some (.ref a))) (hj : σ[j]? = some (some (.str x))) (e : Rd H a (.dK kvs)) (hx : valV kvs (.inr x : Key) = some y) (q : Q y H) : tDGet (tVar i) (tVar j) σ H Q := ⟨_, hv, _, hj, a, y, rfl, .inl ⟨kvs, .inr x, e, rfl, hx.symm⟩, q⟩
def lowS (z : Str) : Prop := ∀ c ∈ z.cps.toList, 97 ≤ c ∧ c ≤ 122
theorem nameOk_of {z : Str} (h : lowS z) (l1 : 1 ≤ z.length) (l2 : z.length ≤ 8) : nameOk z = true := by
  unfold nameOk
  rw [decide_eq_true ⟨l1, l2⟩, Bool.true_and]
  unfold allW
  refine List.all_eq_true.mpr fun c hc => ?_
  obtain ⟨a, b⟩ := h c hc
  rw [decide_eq_true a, decide_eq_true b]
  rfl
theorem low_app {x y : Str} (hx : lowS x) (hy : lowS y) : lowS (x ++ y) := fun c hc => by
  have w : (x ++ y).cps.toList = x.cps.toList ++ y.cps.toList := Array.toList_append
  rw [w] at hc
  exact (List.mem_append.mp hc).elim (hx c) (hy c)
theorem low_cut {z : Str} {lo hi : Option Int} (h : lowS z) : lowS (cutS z lo hi) := fun c hc => by
  unfold cutS at hc
  exact h c (List.mem_of_mem_drop (List.mem_of_mem_take hc))
theorem cut_pre {z : Str} {m : Int} (h : 0 ≤ m) : (cutS z none (some m)).length = min m.toNat z.length := by
  unfold cutS HT.sIx
  show (List.toArray _).size = _
  rw [List.size_toArray, List.length_take]
  simp only [if_neg (show ¬ m < 0 by omega), Nat.sub_zero, List.drop_zero]
  rw [Array.length_toList]
  show min (min m.toNat z.length) z.length = _
  omega
theorem cut_suf {z : Str} {m : Int} (h : 0 ≤ m) : (cutS z (some m) none).length = z.length - min m.toNat z.length := by
  unfold cutS HT.sIx
  show (List.toArray _).size = _
  rw [List.size_toArray, List.length_take, List.length_drop]
  simp only [if_neg (show ¬ m < 0 by omega)]
  rw [Array.length_toList]
  show min (z.length - min m.toNat z.length) (z.length - min m.toNat z.length) = _
  omega
def one1 (z : Str) : Prop := lowS z ∧ z.length = 1
theorem glue_low : ∀ (ys : List Str) (acc : Array Nat), (∀ y ∈ ys, one1 y) → (∀ c ∈ acc.toList, 97 ≤ c ∧ c ≤ 122) →
    (∀ c ∈ (ys.foldl (fun (acc : Array Nat) (p : Str) => acc ++ (Str.ofString "").cps ++ p.cps) acc).toList, 97 ≤ c ∧ c ≤ 122) ∧ (ys.foldl (fun (acc : Array Nat) (p : Str) => acc ++ (Str.ofString "").cps ++ p.cps) acc).size = acc.size + ys.length
  | [], acc, _, h => ⟨h, rfl⟩
  | y :: r, acc, hy, h => by
    obtain ⟨y1, y2⟩ := hy y List.mem_cons_self
    have e : (Str.ofString "").cps = #[] := by decide +kernel
    have y2 : y.cps.size = 1 := y2
    have z := glue_low r (acc ++ (Str.ofString "").cps ++ y.cps) (fun b hb => hy b (List.mem_cons_of_mem _ hb)) fun c hc => by
      rw [e, Array.append_empty, Array.toList_append] at hc
      exact (List.mem_append.mp hc).elim (h c) (y1 c)
    refine ⟨z.1, z.2.trans ?_⟩
    rw [e, Array.append_empty, Array.size_append, y2, List.length_cons]
    omega
theorem join_low {ys : List Str} (h : ∀ y ∈ ys, one1 y) (h0 : 0 < ys.length) : lowS (Txt.join (Str.ofString "") ys) ∧ (Txt.join (Str.ofString "") ys).length = ys.length := by
  cases ys with
  | nil => exact absurd h0 (by decide)
  | cons y r =>
    obtain ⟨y1, y2⟩ := h y List.mem_cons_self
    have z := glue_low r y.cps (fun b hb => h b (List.mem_cons_of_mem _ hb)) y1
    refine ⟨z.1, z.2.trans ?_⟩
    have y2 : y.cps.size = 1 := y2
    rw [y2, List.length_cons]
    omega
theorem strs_of {R : Str → Prop} : ∀ {xs : List V}, (∀ v ∈ xs, ∃ y, v = .str y ∧ R y) → ∃ ys : List Str, xs = ys.map V.str ∧ ys.length = xs.length ∧ ∀ y ∈ ys, R y
  | [], _ => ⟨[], rfl, rfl, fun _ z => nomatch z⟩
  | v :: r, h => by
    obtain ⟨y, rfl, hy⟩ := h v List.mem_cons_self
    obtain ⟨ys, rfl, l, hs⟩ := strs_of (xs := r) fun u hu => h u (List.mem_cons_of_mem _ hu)
    exact ⟨y :: ys, rfl, by rw [List.length_cons, l, List.length_cons], fun z hz => (List.mem_cons.mp hz).elim (fun w => by rw [w]; exact hy) (hs z)⟩
theorem sum1 : ∀ {ys : List Str}, (∀ y ∈ ys, one1 y) → (ys.map fun x => x.length).sum = ys.length
  | [], _ => rfl
  | y :: r, h => by
    rw [List.map_cons, List.sum_cons, (h y List.mem_cons_self).2, sum1 fun z hz => h z (List.mem_cons_of_mem _ hz), List.length_cons]
    omega
theorem signs_low : ∀ c ∈ (Str.ofString "abcdefghijklmnopqrstuvwxyz").cps.toList, 97 ≤ c ∧ c ≤ 122 := by decide +kernel
theorem z_low : lowS (Str.ofString "z") ∧ (Str.ofString "z").length = 1 := by
  constructor
  · unfold lowS
    decide +kernel
  · decide +kernel
theorem e_low : lowS Str.empty := fun c hc => nomatch hc
theorem sign_ok {c : Nat} (h : 97 ≤ c ∧ c ≤ 122) : one1 ⟨#[c]⟩ := ⟨fun d hd => by
  have w : d = c := List.mem_singleton.mp hd
  rw [w]
  exact h, rfl⟩
theorem low_of {z : Str} (h : nameOk z = true) : lowS z := fun c hc => by
  have h2 := (Bool.and_eq_true_iff.mp h).2
  have := List.all_eq_true.mp h2 c hc
  rw [Bool.and_eq_true] at this
  exact ⟨of_decide_eq_true this.1, of_decide_eq_true this.2⟩
theorem a_low : lowS (Str.ofString "a") ∧ (Str.ofString "a").length = 1 := by
  constructor
  · unfold lowS
    decide +kernel
  · decide +kernel
/-! ## 36. a dict by an order of names -/
def dicF (G : List Str) (f : Str → V) : List (Key × V) := G.map fun x => (.inr x, f x)
theorem dicF_get {f : Str → V} {x : Str} : ∀ {G : List Str}, valV (dicF G f) (.inr x : Key) = if x ∈ G then some (f x) else none
  | [] => rfl
  | a :: r => by
    have ih := dicF_get (f := f) (x := x) (G := r)
    by_cases c : a = x
    · rw [if_pos (by rw [c]; exact List.mem_cons_self)]
      refine (valV_pos (p := ((.inr a : Key), f a)) (by rw [c])).trans ?_
      rw [c]
    · refine (valV_neg (p := ((.inr a : Key), f a)) (fun z => c (by injection z))).trans ?_
      show valV (dicF r f) (.inr x) = _
      rw [ih]
      by_cases d : x ∈ r
      · rw [if_pos d, if_pos (List.mem_cons_of_mem _ d)]
      · rw [if_neg d, if_neg (fun z => (List.mem_cons.mp z).elim (fun w => c w.symm) d)]
theorem dicF_len {G : List Str} {f : Str → V} : (dicF G f).length = G.length := List.length_map _
theorem dicF_any {G : List Str} {f : Str → V} {x : Str} : ((dicF G f).any fun kv => decide (kv.1 = (.inr x : Key))) = decide (x ∈ G) := by
  rw [valV_any, dicF_get]
  by_cases c : x ∈ G
  · rw [if_pos c, decide_eq_true c]; rfl
  · rw [if_neg c, decide_eq_false c]; rfl
theorem dicF_put {G : List Str} {f : Str → V} {x : Str} {v : V} : putK (dicF G f) (.inr x : Key) v = dicF (if x ∈ G then G else G ++ [x]) (fun y => if y = x then v else f y) := by
  unfold putK
  rw [dicF_any]
  by_cases c : x ∈ G
  · rw [if_pos (decide_eq_true c), if_pos c]
    unfold dicF
    rw [List.map_map]
    refine List.map_congr_left fun y _ => ?_
    show (if (.inr y : Key) = .inr x then ((.inr y : Key), v) else (.inr y, f y)) = (.inr y, if y = x then v else f y)
    by_cases d : y = x
    · rw [if_pos (by rw [d]), if_pos d]
    · rw [if_neg (fun z => d (by injection z)), if_neg d]
  · rw [if_neg (by rw [decide_eq_false c]; exact Bool.false_ne_true), if_neg c]
    unfold dicF
    rw [List.map_append]
    congr 1
    · refine List.map_congr_left fun y hy => ?_
      show ((.inr y : Key), f y) = (.inr y, if y = x then v else f y)
      rw [if_neg (fun z => c (by rw [← z]; exact hy))]
    · show [((.inr x : Key), v)] = [(.inr x, if x = x then v else f x)]
      rw [if_pos rfl]
theorem dicF_drop {f : Str → V} {x : Str} : ∀ {G : List Str}, dropK (dicF G f) (.inr x : Key) = dicF (G.filter fun y => decide (y ≠ x)) f
  | [] => rfl
  | a :: r => by
    have ih := dicF_drop (f := f) (x := x) (G := r)
    by_cases c : a = x
    · rw [List.filter_cons_of_neg (by simpa using c)]
      exact (dropK_pos (p := ((.inr a : Key), f a)) (by rw [c])).trans ih
    · rw [List.filter_cons_of_pos (by simpa using c)]
      refine (dropK_neg (p := ((.inr a : Key), f a)) (fun z => c (by injection z))).trans ?_
      show (_ :: dropK (dicF r f) (.inr x)) = _
      rw [ih]
      rfl
theorem dicF_congr {G : List Str} {f g : Str → V} (h : ∀ x ∈ G, f x = g x) : dicF G f = dicF G g := List.map_congr_left fun x hx => by rw [h x hx]
end Bk

namespace Bk
open PySem PySem.Spec PyProof.Rows L2
theorem op_in_seqK {X : Cx} {K : PySem.W.Frag} (h : X.K = K) : OpR X (compareOp .In) (rIn K false) := by
  subst h
  exact op_in_seq
/-! ## 36. dicts walked by their values; dict comprehensions -/
section
variable {K : PySem.W.Frag} {σ : L2.St} {H : Hp} {Q : VK} {vs : List Nat} {g : TG} {tt : TT} {te tl : TE} {d : Addr} {kvs : List (Key × V)}
theorem lcVals (p : Nat → Option V) (hd : H d = some (.dK kvs)) (hl : kvs.length ≤ 10000)
    (hv : ∀ (od : Obj) (QQ : VK), QQ (.ref d) (upd H d (.frz od (.dK kvs))) → tl σ (upd H d (.frz od (.dK kvs))) QQ)
    (ht : ∀ (i : Nat) (k : Key) (y : V) (od : Obj) (H1 : Hp) (Q' : VK) (R' : Hp → Prop), kvs[i]? = some (k, y) → H1 d = some (.frz od (.dK kvs)) → (∀ b u, b ≠ d → H b = some u → H1 b = some u) → (∀ v, p i = some v → ∀ H3, Same H1 H3 → Q' v H3) → (p i = none → ∀ H3, Same H1 H3 → R' H3) →
      g y (wipe σ vs) H1 fun σ2 H2 => wipe σ2 vs = wipe σ vs ∧ tt σ2 H2 fun b H4 => if b = true then te σ2 H4 Q' else R' H4)
    (q : ∀ D H', H D = none → Same H H' → H' D = some (.lst ((List.range kvs.length).filterMap p)) → Q (.ref D) H') : tLockE (tLc (iVals tl) g tt te vs) σ H Q := by
  refine ⟨d, .dK kvs, hd, trivial, fun od => ?_⟩
  have f0 : ∀ b u, b ≠ d → H b = some u → upd H d (.frz od (.dK kvs)) b = some u := fun b u nb eb => by rw [upd_ne nb]; exact eb
  have e0 : upd H d (.frz od (.dK kvs)) d = some (.frz od (.dK kvs)) := upd_same
  have z0 : ∀ {D : Addr}, upd H d (.frz od (.dK kvs)) D = none → H D = none ∧ D ≠ d := fun {D} z => by
    by_cases h : D = d
    · rw [h, upd_same] at z; exact nomatch z
    · rw [upd_ne h] at z; exact ⟨z, h⟩
  refine hv od _ ⟨d, od, kvs, rfl, e0, fun D hD => ?_⟩
  refine lc_by (g := g) (tt := tt) (te := te) (vs := vs) (σ := σ) (Q := fun v H' => H' d = some (.frz od (.dK kvs)) ∧ Q v (upd H' d (.dK kvs))) walk_values p hD hl (fun H' s => s _ _ e0) (fun i x H1 H2 Q' R' hi sm y h1 h2 => ?_) fun H' s e => ?_
  · obtain ⟨rfl, k, hk⟩ := y
    exact ht i k x od H2 Q' R' hk (sm _ _ e0) (fun b u nb eb => sm _ _ (f0 b u nb eb)) h1 h2
  · obtain ⟨hD1, hD2⟩ := z0 hD
    refine ⟨s _ _ e0, q D _ hD1 (fun b u eb => ?_) (by rw [upd_ne hD2]; exact e)⟩
    by_cases h : b = d
    · rw [h, upd_same, ← hd, ← h]
      exact eb
    · rw [upd_ne h]
      exact s _ _ (f0 b u h eb)
theorem lcKeysS {tt : TT} {te tl : TE} {D : Ends} {i j : Nat} (p : Nat → Option V) (hd : H d = some (.dK kvs)) (hl : kvs.length ≤ 10000) (hw : ∀ x, wipe ((wipe σ vs).set j (some x)) vs = wipe σ vs)
    (hv : ∀ (od : Obj) (QQ : VK), QQ (.ref d) (upd H d (.frz od (.dK kvs))) → tl σ (upd H d (.frz od (.dK kvs))) QQ)
    (ht : ∀ (i : Nat) (k : Key) (y : V) (od : Obj) (H1 : Hp) (Q' : VK) (R' : Hp → Prop), kvs[i]? = some (k, y) → H1 d = some (.frz od (.dK kvs)) → (∀ b u, b ≠ d → H b = some u → H1 b = some u) → (∀ v, p i = some v → ∀ H3, Same H1 H3 → Q' v H3) → (p i = none → ∀ H3, Same H1 H3 → R' H3) →
      tt ((wipe σ vs).set j (some (kV k))) H1 fun b H4 => if b = true then te ((wipe σ vs).set j (some (kV k))) H4 Q' else R' H4)
    (q : ∀ L H', H L = none → Same H H' → H' L = some (.lst ((List.range kvs.length).filterMap p)) → D.nx (σ.set i (some (.ref L))) H') : tLock (tAsg (tLc (iKeys tl) (gName j) tt te vs) (gName i)) D σ H := by
  have z : tLockE (tLc (iKeys tl) (gName j) tt te vs) σ H fun v H' => D.nx (σ.set i (some v)) H' := lcKeys p hd hl hw hv ht q
  obtain ⟨d2, u, h1, h2, h3⟩ := z
  refine ⟨d2, u, h1, h2, fun od => ?_⟩
  exact h3 od
/-- a dict comprehension over a dict's keys: each name gets v -/
theorem dcKeys {j : Nat} {G : List Str} {f : Str → V} {v : V} (nd : G.Nodup) (hl : G.length ≤ 10000) (hw : ∀ x, wipe ((wipe σ vs).set j (some x)) vs = wipe σ vs)
    (hd : H d = some (.dK (dicF G f)))
    (hv : ∀ (od : Obj) (QQ : VK), QQ (.ref d) (upd H d (.frz od (.dK (dicF G f)))) → tl σ (upd H d (.frz od (.dK (dicF G f)))) QQ)
    (hk : ∀ (x : Str) (H1 : Hp) (QQ : VK), QQ (.str x) H1 → te ((wipe σ vs).set j (some (.str x))) H1 QQ)
    (hz : ∀ (x : Str) (H1 : Hp) (QQ : VK), QQ v H1 → tv ((wipe σ vs).set j (some (.str x))) H1 QQ)
    (q : ∀ D H', H D = none → Same H H' → H' D = some (.dK (dicF G fun _ => v)) → Q (.ref D) H') : tLockE (tDc (iKeys tl) (gName j) tYes te tv vs) σ H Q := by
  refine ⟨d, .dK (dicF G f), hd, trivial, fun od => ?_⟩
  have f0 : ∀ b u, b ≠ d → H b = some u → upd H d (.frz od (.dK (dicF G f))) b = some u := fun b u nb eb => by rw [upd_ne nb]; exact eb
  have e0 : upd H d (.frz od (.dK (dicF G f))) d = some (.frz od (.dK (dicF G f))) := upd_same
  have z0 : ∀ {D : Addr}, upd H d (.frz od (.dK (dicF G f))) D = none → H D = none ∧ D ≠ d := fun {D} z => by
    by_cases h : D = d
    · rw [h, upd_same] at z; exact nomatch z
    · rw [upd_ne h] at z; exact ⟨z, h⟩
  refine hv od _ ⟨d, od, rfl, .inl ⟨_, e0, fun D hD => ?_⟩⟩
  obtain ⟨hD1, hD2⟩ := z0 hD
  refine ⟨fun i m H' => m = G.length - i ∧ i ≤ G.length ∧ H' d = some (.frz od (.dK (dicF G f))) ∧ (∀ b u, b ≠ d → b ≠ D → H b = some u → H' b = some u) ∧ H' D = some (.dK (dicF (G.take i) fun _ => v)), ⟨_, rfl, Nat.zero_le _, by rw [upd_ne hD2.symm]; exact e0, fun b u n1 n2 eb => by rw [upd_ne n2]; exact f0 _ _ n1 eb, upd_same⟩, fun i m H' hW => ?_⟩
  obtain ⟨rfl, hi, ed, fr, eD⟩ := hW
  by_cases hc : i < G.length
  · refine .inr ⟨(walk_keys (d := d) (o := od) (kvs := dicF G f)).goes i H' (by rw [dicF_len]; exact hc) ed, fun H2 => ∃ m', m' < G.length - i ∧ m' = G.length - (i + 1) ∧ i + 1 ≤ G.length ∧ H2 d = some (.frz od (.dK (dicF G f))) ∧ (∀ b u, b ≠ d → b ≠ D → H b = some u → H2 b = some u) ∧ H2 D = some (.dK (dicF (G.take (i + 1)) fun _ => v)), fun H2 h => ?_, fun x H2 y => ?_⟩
    · obtain ⟨m', a, b⟩ := h
      exact ⟨m', a, b⟩
    · obtain ⟨rfl, k, w, hk2, rfl⟩ := (walk_keys (d := d) (o := od) (kvs := dicF G f)).yields i _ x H2 (by rw [dicF_len]; exact hc) ed y
      have hg : k = .inr G[i] := by
        unfold dicF at hk2
        rw [List.getElem?_map, List.getElem?_eq_getElem hc] at hk2
        exact (Prod.mk.inj (Option.some.inj hk2)).1.symm
      subst hg
      refine ⟨hw _, ?_⟩
      refine hk _ _ _ (hz _ _ _ ⟨_, .inr G[i], rfl, eD, ?_, _, Nat.sub_lt_sub_left hc (Nat.lt_succ_self i), rfl, hc, ?_, fun b u n1 n2 eb => ?_, ?_⟩)
      · rw [dicF_len, List.length_take, sizeLine_eq]; omega
      · rw [upd_ne hD2.symm]; exact ed
      · rw [upd_ne n2]; exact fr _ _ n1 n2 eb
      · have hn : G[i] ∉ G.take i := fun z => by
          obtain ⟨k, hk3, e3⟩ := List.getElem_of_mem z
          rw [List.getElem_take] at e3
          have hk4 : k < i := by rw [List.length_take] at hk3; omega
          exact absurd ((List.getElem_inj nd).mp e3) (Nat.ne_of_lt hk4)
        rw [upd_same, dicF_put, if_neg hn, List.take_succ_eq_append_getElem hc]
        refine congrArg (fun l => some (HO.dK l)) (dicF_congr fun x _ => ?_)
        by_cases hx : x = G[i]
        · rw [if_pos hx]
        · rw [if_neg hx]
  · have hi2 : i = (dicF G f).length := by rw [dicF_len]; omega
    refine .inl ⟨by rw [hi2]; exact (walk_keys (d := d) (o := od) (kvs := dicF G f)).stops H' ed, ed, q D _ hD1 (fun b u eb => ?_) ?_⟩
    · by_cases h : b = d
      · rw [h, upd_same, ← hd, ← h]
        exact eb
      · rw [upd_ne h]
        exact fr _ _ h (fun z => by rw [z, hD1] at eb; exact nomatch eb) eb
    · rw [upd_ne hD2, eD, List.take_of_length_le (by omega)]
end
end Bk

namespace Bk
open PySem PySem.Spec PyProof.Rows L2
/-! ## 37. a comprehension over a list of names, some left out as drawn -/
section
variable {K : PySem.W.Frag} {σ : L2.St} {H H0 : Hp} {Q : VK} {j : Nat} {vs : List Nat} {tt : TT} {te tl : TE} {a bx : Addr} {M : List Str} {m : Nat} {q : Str}
theorem lcFltD (hb : Box bx m H) (ea : H a = some (.lst (M.map V.str))) (na : a ≠ bx) (hl : M.length ≤ 1000) (hw : ∀ x, wipe ((wipe σ vs).set j (some x)) vs = wipe σ vs)
    (hv : ∀ QQ : VK, QQ (.ref a) H → tl σ H0 QQ)
    (hte : ∀ (x : Str) (H1 : Hp) (QQ : VK), QQ (.str x) H1 → te ((wipe σ vs).set j (some (.str x))) H1 QQ)
    (ht : ∀ (x : Str) (k : Nat) (H1 : Hp) (Q' : Bool → Hp → Prop), x ∈ M → k < m + M.length → Box bx k H1 → (∀ b H2, (x = q → b = true) → Box bx (k + 1) H2 → But bx H1 H2 → Q' b H2) → tt ((wipe σ vs).set j (some (.str x))) H1 Q')
    (hq : ∀ (D : Addr) (H' : Hp) (ys : List Str), H D = none → But bx H H' → Box bx (m + M.length) H' → H' D = some (.lst (ys.map V.str)) → ys.length ≤ M.length → (∀ y ∈ ys, y ∈ M) → (q ∈ M → q ∈ ys) → Q (.ref D) H') : tLc (iList K tl) (gName j) tt te vs σ H0 Q := by
  refine hv _ ⟨a, rfl, ⟨_, sqL ea⟩, fun D hD => ?_⟩
  have nD : D ≠ bx := hb.ne hD
  have nDa : D ≠ a := (ne_of_none ea hD).symm
  refine lc_it (g := gName j) (tt := tt) (te := te) (vs := vs) (σ := σ) (walk_list (K := K) (a := a) (xs := M.map V.str)) (fun i G => But bx H G ∧ Box bx (m + i) G ∧ ∃ ys : List Str, G D = some (.lst (ys.map V.str)) ∧ ys.length ≤ i ∧ (∀ y ∈ ys, y ∈ M) ∧ ∀ k, k < i → M[k]? = some q → q ∈ ys)
    ⟨.of (same_upd hD), hb.same (same_upd hD), [], upd_same, Nat.le_refl _, (fun _ z => (nomatch z)), fun k hk => absurd hk (Nat.not_lt_zero _)⟩ (fun i G hi ⟨bt, _⟩ => sqL (bt _ _ na ea)) (fun i x H1 H2 hi ⟨bt, hB, ys, e, l, hp, hk⟩ y => ?_) fun G ⟨bt, hB, ys, e, l, hp, hk⟩ => ?_
  · obtain ⟨rfl, hx⟩ := y
    rw [List.getElem?_map] at hx
    cases hm : M[i]? with
    | none => rw [hm] at hx; exact nomatch hx
    | some z =>
      rw [hm] at hx
      obtain rfl := Option.some.inj hx
      rw [List.length_map] at hi
      refine ⟨hw _, ht z (m + i) _ _ (List.mem_of_getElem? hm) (by omega) hB fun b H3 hbq hB3 b3 => ?_⟩
      have e3 := b3 _ _ nD e
      have bt3 := bt.trans b3
      cases b with
      | false =>
        refine ⟨bt3, hB3, ys, e3, by omega, hp, fun k hk2 hkq => ?_⟩
        by_cases c : k = i
        · rw [c, hm] at hkq
          exact absurd (hbq (Option.some.inj hkq)) Bool.false_ne_true
        · exact hk k (by omega) hkq
      | true =>
        rw [if_pos rfl]
        refine hte z H3 _ ⟨_, e3, by rw [List.length_map, sizeLine_eq]; omega, ?_⟩
        refine ⟨fun b o nb eb => by rw [upd_ne (ne_of_none eb hD)]; exact bt3 _ _ nb eb, ?_, ys ++ [z], by rw [upd_same, List.map_append]; rfl, by rw [List.length_append]; exact Nat.succ_le_succ l, fun y hy => ?_, fun k hk2 hkq => ?_⟩
        · obtain ⟨x1, y1, z1, eB, r⟩ := hB3
          exact ⟨x1, y1, z1, by rw [upd_ne nD.symm]; exact eB, r⟩
        · rcases List.mem_append.mp hy with w | w
          · exact hp y w
          · rw [List.mem_singleton.mp w]; exact List.mem_of_getElem? hm
        · by_cases c : k = i
          · rw [c, hm] at hkq
            rw [Option.some.inj hkq]
            exact List.mem_append_right _ (List.mem_singleton.mpr rfl)
          · exact List.mem_append_left _ (hk k (by omega) hkq)
  · rw [List.length_map] at hB l hk
    refine hq D G ys hD bt hB e l hp fun h => ?_
    obtain ⟨k, hk1, hk2⟩ := List.getElem_of_mem h
    exact hk k hk1 (by rw [List.getElem?_eq_getElem hk1, hk2])
theorem lcFltN (hb : Box bx m H0) (hl : M.length ≤ 1000) (hw : ∀ x, wipe ((wipe σ vs).set j (some x)) vs = wipe σ vs)
    (hv : ∀ QQ : VK, (∀ a H, H0 a = none → Same H0 H → H a = some (.lst (M.map V.str)) → QQ (.ref a) H) → tl σ H0 QQ)
    (hte : ∀ (x : Str) (H1 : Hp) (QQ : VK), QQ (.str x) H1 → te ((wipe σ vs).set j (some (.str x))) H1 QQ)
    (ht : ∀ (x : Str) (k : Nat) (H1 : Hp) (Q' : Bool → Hp → Prop), x ∈ M → k < m + M.length → Box bx k H1 → (∀ b H2, (x = q → b = true) → Box bx (k + 1) H2 → But bx H1 H2 → Q' b H2) → tt ((wipe σ vs).set j (some (.str x))) H1 Q')
    (hq : ∀ (D : Addr) (H' : Hp) (ys : List Str), H0 D = none → But bx H0 H' → Box bx (m + M.length) H' → H' D = some (.lst (ys.map V.str)) → ys.length ≤ M.length → (∀ y ∈ ys, y ∈ M) → (q ∈ M → q ∈ ys) → Q (.ref D) H') : tLc (iList K tl) (gName j) tt te vs σ H0 Q := by
  refine hv _ fun a H na s ea => ?_
  have z : tLc (iList K (fun _ H' QQ => QQ (.ref a) H')) (gName j) tt te vs σ H Q := lcFltD (q := q) (hb.same s) ea (hb.ne na) hl hw (fun QQ z => z) hte ht fun D H' ys nD b hB e l h1 h2 => hq D H' ys (s.free nD) (fun c o nb eb => b c o nb (s _ _ eb)) hB e l h1 h2
  exact z
end
/-! ## 38. a list of names as data -/
def strD (l : List Str) : PyData := .list (l.map PyData.str)
theorem lay_strs : ∀ {l : List Str}, (∀ x ∈ l, PyData.strOk x = true) → PyData.canLayAll0 (l.map PyData.str) = true ∧ PyData.depthAll (l.map PyData.str) = 0
  | [], _ => ⟨rfl, rfl⟩
  | a :: r, h => by
    obtain ⟨h1, h2⟩ := lay_strs (l := r) fun x hx => h x (List.mem_cons_of_mem _ hx)
    constructor
    · show (PyData.canLay0 (.str a) && PyData.canLayAll0 _) = true
      rw [h1]
      simp only [PyData.canLay0, h a List.mem_cons_self, Bool.true_and]
    · show max (PyData.depth (.str a)) (PyData.depthAll _) = 0
      rw [h2]
      rfl
theorem sh_strs {l : List Str} (h : ∀ x ∈ l, PyData.strOk x = true) : SeqAt.shaped (strD l) = true := by
  unfold SeqAt.shaped strD
  simp only [PyData.canLay0, (lay_strs h).1, PyData.depth, (lay_strs h).2, Bool.true_and]
  decide
theorem dps_strs {K : PySem.W.Frag} {H : Hp} : ∀ l : List Str, DpAll K H (l.map V.str) (l.map PyData.str)
  | [] => .nil
  | a :: r => .cons (.str _) (dps_strs r)
theorem dp_strs {K : PySem.W.Frag} {H : Hp} {a : Addr} {l : List Str} (h : SqL K H a (l.map V.str)) : Dp K H (.ref a) (strD l) := .lst h (dps_strs l)
theorem sh_nil : SeqAt.shaped (.list []) = true := by decide +kernel
end Bk

namespace Bk
open PySem PySem.Spec PyProof.Rows L2
/-! ## 39. dicts made of pairs -/
theorem dicF_merge {f : Str → V} : ∀ {M G : List Str}, (G ++ M).Nodup → mergeK (dicF G f) (dicF M f) = dicF (G ++ M) f
  | [], G, _ => by rw [List.append_nil]; rfl
  | a :: r, G, h => by
    have ha : a ∉ G := fun z => (List.nodup_append.mp h).2.2 a z a List.mem_cons_self rfl
    have e : putK (dicF G f) (.inr a : Key) (f a) = dicF (G ++ [a]) f := by
      rw [dicF_put, if_neg ha]
      refine dicF_congr fun y _ => ?_
      by_cases c : y = a
      · rw [if_pos c, c]
      · rw [if_neg c]
    show mergeK (putK (dicF G f) (.inr a : Key) (f a)) (dicF r f) = _
    rw [e]
    have h2 : ((G ++ [a]) ++ r).Nodup := by rw [List.append_assoc]; exact h
    rw [dicF_merge h2, List.append_assoc]
    rfl
theorem dicF_new {f : Str → V} {M : List Str} (h : M.Nodup) : mergeK [] (dicF M f) = dicF M f := dicF_merge (G := []) h
theorem paired_dic {R : Addr → Key × V → Prop} {f : Str → V} : ∀ {M : List Str} {ts : List Addr}, ts.length = M.length → (∀ (k : Nat) t x, ts[k]? = some t → M[k]? = some x → R t (.inr x, f x)) → Paired R ts (dicF M f)
  | [], [], _, _ => .nil
  | x :: M, t :: ts, l, h => .cons (h 0 t x rfl rfl) (paired_dic (Nat.succ.inj l) fun k t x a b => h (k + 1) t x a b)
theorem by_name {α : Type} (d : α) {M : List Str} (nd : M.Nodup) {cs : List α} : ∃ f : Str → α, ∀ (k : Nat) x c, M[k]? = some x → cs[k]? = some c → f x = c :=
  ⟨fun x => cs.getD (M.idxOf x) d, fun k x c hx hc => by
    obtain ⟨hk, e⟩ := List.getElem?_eq_some_iff.mp hx
    have : M.idxOf x = k := by rw [← e]; exact List.Nodup.idxOf_getElem nd k hk
    show cs.getD (M.idxOf x) d = c
    rw [this, List.getD_eq_getElem?_getD, hc]
    rfl⟩
section
variable {J : It} {G : Hp → Prop} {Y : Nat → Hp → V → Hp → Prop} {te : TE} {vs : List Nat} {σ : L2.St} {H : Hp} {D : Addr} {Q : VK} {M : List Str} {j : Nat}
/-- each turn lays a pair of a name and a new thing -/
theorem lc_prs (w : Walk J M.length G Y) (o : Str → HO) (hD : H D = none) (hn : M.length ≤ 10000) (hG : ∀ H', Same H H' → G H') (hw : ∀ x, wipe ((wipe σ vs).set j (some x)) vs = wipe σ vs)
    (hY : ∀ i H1 x H2, i < M.length → Y i H1 x H2 → H2 = H1 ∧ ∃ z, M[i]? = some z ∧ x = .str z)
    (hs : ∀ (z : Str) (H1 : Hp) (Q' : VK), z ∈ M → Same H H1 → (∀ t c H3, H1 t = none → H1 c = none → t ≠ c → Same H1 H3 → H3 t = some (.tup [.str z, .ref c]) → H3 c = some (o z) → Q' (.ref t) H3) → te ((wipe σ vs).set j (some (.str z))) H1 Q')
    (q : ∀ H' (ts cs : List Addr), Same H H' → H' D = some (.lst (ts.map V.ref)) → ts.length = M.length → cs.length = M.length → (∀ (k : Nat) t c x, ts[k]? = some t → cs[k]? = some c → M[k]? = some x → H' t = some (.tup [.str x, .ref c]) ∧ H' c = some (o x)) → cs.Nodup → (∀ c ∈ cs, H c = none) → D ∉ cs → Q (.ref D) H') :
    ∃ W : Nat → Nat → Hp → Prop, (∃ m, W 0 m (upd H D (.lst []))) ∧ ∀ i m H, W i m H →
      (J.stop i H ∧ Q (.ref D) H) ∨ (J.go i H ∧ ∃ Nx : Hp → Prop, (∀ H', Nx H' → ∃ m', m' < m ∧ W (i + 1) m' H') ∧ ∀ x H', J.yld i H x H' → gName j x (wipe σ vs) H' fun σ2 H2 => wipe σ2 vs = wipe σ vs ∧ tYes σ2 H2 fun b H3 =>
        if b = true then te σ2 H3 fun y H4 => ∃ acc, H4 D = some (.lst acc) ∧ acc.length < sizeLine ∧ Nx (upd H4 D (.lst (acc ++ [y]))) else Nx H3) := by
  refine lc_it w (fun i G => Same H G ∧ ∃ ts cs : List Addr, G D = some (.lst (ts.map V.ref)) ∧ ts.length = i ∧ cs.length = i ∧ (∀ (k : Nat) t c x, ts[k]? = some t → cs[k]? = some c → M[k]? = some x → G t = some (.tup [.str x, .ref c]) ∧ G c = some (o x)) ∧ cs.Nodup ∧ (∀ c ∈ cs, H c = none ∧ G c ≠ none) ∧ D ∉ cs)
    ⟨same_upd hD, [], [], upd_same, rfl, rfl, (fun _ _ _ _ z => nomatch z), List.nodup_nil, (fun _ z => nomatch z), fun z => nomatch z⟩ (fun i G _ z => hG G z.1) (fun i x H1 H2 hi ⟨sm, ts, cs, e, l1, l2, all, nd, fr, nD⟩ y => ?_) fun G ⟨sm, ts, cs, e, l1, l2, all, nd, fr, nD⟩ => q G ts cs sm e l1 l2 all nd (fun c hc => (fr c hc).1) nD
  obtain ⟨rfl, z, hz, rfl⟩ := hY i H1 x H2 hi y
  refine ⟨hw _, ?_⟩
  refine hs z H2 _ (List.mem_of_getElem? hz) sm fun t c H3 nt nc tc s3 et ec => ?_
  have tD : t ≠ D := fun w => by rw [w, e] at nt; exact nomatch nt
  have cD : c ≠ D := fun w => by rw [w, e] at nc; exact nomatch nc
  have ccs : c ∉ cs := fun w => (fr c w).2 nc
  refine ⟨_, s3 _ _ e, by rw [List.length_map, l1]; exact Nat.lt_of_lt_of_le hi (Nat.le_trans hn (by decide)), sameBut (sm.trans s3) hD, ts ++ [t], cs ++ [c], ?_, by rw [List.length_append, l1]; rfl, by rw [List.length_append, l2]; rfl, fun k u v x hk hv hx => ?_, ?_, fun u hu => ?_, fun w => ?_⟩
  · rw [upd_same, List.map_append]
    rfl
  · have hlt : k < ts.length + 1 := by
      have := (List.getElem?_eq_some_iff.mp hk).1
      rw [List.length_append] at this
      exact this
    by_cases hk2 : k < ts.length
    · rw [List.getElem?_append_left hk2] at hk
      rw [List.getElem?_append_left (by omega)] at hv
      obtain ⟨a1, a2⟩ := all k u v x hk hv hx
      have nu : u ≠ D := fun w => by rw [w, e] at a1; exact nomatch a1
      have nv : v ≠ D := fun w => nD (by rw [← w]; exact List.mem_of_getElem? hv)
      exact ⟨by rw [upd_ne nu]; exact s3 _ _ a1, by rw [upd_ne nv]; exact s3 _ _ a2⟩
    · have e3 : k = i := by omega
      subst e3
      rw [List.getElem?_append_right (by omega), l1, Nat.sub_self] at hk
      rw [List.getElem?_append_right (by omega), l2, Nat.sub_self] at hv
      obtain rfl := Option.some.inj hk
      obtain rfl := Option.some.inj hv
      rw [hz] at hx
      obtain rfl := Option.some.inj hx
      exact ⟨by rw [upd_ne tD]; exact et, by rw [upd_ne cD]; exact ec⟩
  · refine List.nodup_append.mpr ⟨nd, (by simp), fun a ha b hb w => ?_⟩
    rw [List.mem_singleton.mp hb] at w
    exact ccs (by rw [← w]; exact ha)
  · rcases List.mem_append.mp hu with w | w
    · obtain ⟨a1, a2⟩ := fr u w
      refine ⟨a1, ?_⟩
      rw [upd_ne (fun z => nD (by rw [← z]; exact w))]
      cases h : H2 u with
      | none => exact absurd h a2
      | some r => rw [s3 _ _ h]; exact fun z => nomatch z
    · rw [List.mem_singleton.mp w]
      refine ⟨sm.free nc, ?_⟩
      rw [upd_ne cD, ec]
      exact fun z => nomatch z
  · rcases List.mem_append.mp w with w | w
    · exact nD w
    · exact cD (List.mem_singleton.mp w).symm
end
/-- dict(..) of such a list -/
theorem r_dictP {K : PySem.W.Frag} {H : Hp} {Q : VK} {M : List Str} {D : Addr} {ts cs : List Addr} {o : Str → HO} (nd : M.Nodup) (eD : H D = some (.lst (ts.map V.ref))) (lt : ts.length = M.length) (lc : cs.length = M.length)
    (hp : ∀ (k : Nat) t c x, ts[k]? = some t → cs[k]? = some c → M[k]? = some x → H t = some (.tup [.str x, .ref c]) ∧ H c = some (o x)) (cn : cs.Nodup)
    (q : ∀ p (f : Str → Addr) H', H p = none → Same H H' → H' p = some (.dK (dicF M fun x => .ref (f x))) → (∀ x ∈ M, H' (f x) = some (o x) ∧ f x ∈ cs) → (∀ x ∈ M, ∀ y ∈ M, f x = f y → x = y) → Q (.ref p) H') :
    ∃ (a : Addr) (ps : List Addr) (kvs : List (Key × V)), [V.ref D] = [.ref a] ∧ SqL K H a (ps.map V.ref) ∧ Paired (fun p kv => SqT K H p [kV kv.1, kv.2]) ps kvs ∧ ∀ p, H p = none → Q (.ref p) (upd H p (.dK (mergeK [] kvs))) := by
  obtain ⟨f, hf⟩ := by_name (D : Addr) nd (cs := cs)
  have at2 : ∀ {k : Nat} {x : Str}, M[k]? = some x → cs[k]? = some (f x) := fun {k x} hx => by
    obtain ⟨hk, _⟩ := List.getElem?_eq_some_iff.mp hx
    have h2 : cs[k]? = some cs[k] := List.getElem?_eq_getElem (by omega)
    rw [h2, hf k x _ hx h2]
  refine ⟨D, ts, dicF M fun x => .ref (f x), rfl, sqL eD, paired_dic lt fun k t x ht hx => ?_, fun p np => ?_⟩
  · exact sqT (hp k t (f x) x ht (at2 hx) hx).1
  · rw [dicF_new nd]
    refine q p f _ np (same_upd np) upd_same (fun x hx => ?_) fun x hx y hy e => ?_
    · obtain ⟨k, hk⟩ := List.getElem?_of_mem hx
      have h2 := at2 hk
      obtain ⟨hk2, _⟩ := List.getElem?_eq_some_iff.mp hk
      have e := (hp k _ _ x (List.getElem?_eq_getElem (by omega : k < ts.length)) h2 hk).2
      exact ⟨by rw [upd_ne (ne_of_none e np)]; exact e, List.mem_of_getElem? h2⟩
    · obtain ⟨k, hk⟩ := List.getElem?_of_mem hx
      obtain ⟨l, hl⟩ := List.getElem?_of_mem hy
      have h1 := at2 hk
      have h2 := at2 hl
      rw [e] at h1
      obtain ⟨k1, k2⟩ := List.getElem?_eq_some_iff.mp h1
      obtain ⟨l1, l2⟩ := List.getElem?_eq_some_iff.mp h2
      have := (List.getElem_inj cn).mp (k2.trans l2.symm)
      subst this
      rw [hk] at hl
      exact Option.some.inj hl
/-! ## 40. a dict of pairs of a name and a drawn number -/
section
variable {K : PySem.W.Frag} {σ : L2.St} {H : Hp} {Q : VK} {j : Nat} {vs : List Nat} {te tl : TE} {a bx : Addr} {M : List Str} {m : Nat}
theorem lcMood (hb : Box bx m H) (ea : H a = some (.lst (M.map V.str))) (na : a ≠ bx) (hl : M.length ≤ 1000) (hw : ∀ x, wipe ((wipe σ vs).set j (some x)) vs = wipe σ vs)
    (hv : ∀ QQ : VK, QQ (.ref a) H → tl σ H QQ)
    (ht : ∀ (x : Str) (k : Nat) (H1 : Hp) (Q' : VK), x ∈ M → k < m + M.length → Box bx k H1 → (∀ t (v : Int) H2, H1 t = none → Box bx (k + 1) H2 → But bx H1 H2 → H2 t = some (.tup [.str x, .int v]) → Q' (.ref t) H2) → te ((wipe σ vs).set j (some (.str x))) H1 Q')
    (hq : ∀ (D : Addr) (H' : Hp) (ts : List Addr) (ns : List Int), H D = none → But bx H H' → Box bx (m + M.length) H' → H' D = some (.lst (ts.map V.ref)) → ts.length = M.length → ns.length = M.length → (∀ (k : Nat) t x v, ts[k]? = some t → M[k]? = some x → ns[k]? = some v → H' t = some (.tup [.str x, .int v])) → Q (.ref D) H') : tLc (iList K tl) (gName j) tYes te vs σ H Q := by
  refine hv _ ⟨a, rfl, ⟨_, sqL ea⟩, fun D hD => ?_⟩
  have nD : D ≠ bx := hb.ne hD
  refine lc_it (g := gName j) (tt := tYes) (te := te) (vs := vs) (σ := σ) (walk_list (K := K) (a := a) (xs := M.map V.str)) (fun i G => But bx H G ∧ Box bx (m + i) G ∧ ∃ (ts : List Addr) (ns : List Int), G D = some (.lst (ts.map V.ref)) ∧ ts.length = i ∧ ns.length = i ∧ ∀ (k : Nat) t x v, ts[k]? = some t → M[k]? = some x → ns[k]? = some v → G t = some (.tup [.str x, .int v]))
    ⟨.of (same_upd hD), hb.same (same_upd hD), [], [], upd_same, rfl, rfl, (fun _ _ _ _ z => nomatch z)⟩ (fun i G hi ⟨bt, _⟩ => sqL (bt _ _ na ea)) (fun i x H1 H2 hi ⟨bt, hB, ts, ns, e, l1, l2, all⟩ y => ?_) fun G ⟨bt, hB, ts, ns, e, l1, l2, all⟩ => ?_
  · obtain ⟨rfl, hx⟩ := y
    rw [List.getElem?_map] at hx
    cases hm : M[i]? with
    | none => rw [hm] at hx; exact nomatch hx
    | some z =>
      rw [hm] at hx
      obtain rfl := Option.some.inj hx
      rw [List.length_map] at hi
      refine ⟨hw _, ?_⟩
      refine ht z (m + i) _ _ (List.mem_of_getElem? hm) (by omega) hB fun t v H3 nt hB3 b3 et => ?_
      have tD : t ≠ D := fun w => by rw [w, e] at nt; exact nomatch nt
      refine ⟨_, b3 _ _ nD e, by rw [List.length_map, sizeLine_eq]; omega, fun b o nb eb => ?_, ?_, ts ++ [t], ns ++ [v], by rw [upd_same, List.map_append]; rfl, by rw [List.length_append, l1]; rfl, by rw [List.length_append, l2]; rfl, fun k u x v2 hk hx hv2 => ?_⟩
      · rw [upd_ne (ne_of_none eb hD)]
        exact (bt.trans b3) _ _ nb eb
      · obtain ⟨x1, y1, z1, eB, r⟩ := hB3
        exact ⟨x1, y1, z1, by rw [upd_ne nD.symm]; exact eB, r⟩
      · have hlt : k < ts.length + 1 := by
          have := (List.getElem?_eq_some_iff.mp hk).1
          rw [List.length_append] at this
          exact this
        by_cases hk2 : k < ts.length
        · rw [List.getElem?_append_left hk2] at hk
          rw [List.getElem?_append_left (by omega)] at hv2
          have a1 := all k u x v2 hk hx hv2
          have nu : u ≠ D := fun w => by rw [w, e] at a1; exact nomatch a1
          have nub : u ≠ bx := fun w => by
            obtain ⟨x1, y1, z1, eB, r⟩ := hB
            rw [w, eB] at a1
            exact nomatch a1
          rw [upd_ne nu]
          exact b3 _ _ nub a1
        · have e3 : k = i := by omega
          subst e3
          rw [List.getElem?_append_right (by omega), l1, Nat.sub_self] at hk
          rw [List.getElem?_append_right (by omega), l2, Nat.sub_self] at hv2
          obtain rfl := Option.some.inj hk
          obtain rfl := Option.some.inj hv2
          rw [hm] at hx
          obtain rfl := Option.some.inj hx
          rw [upd_ne tD]
          exact et
  · rw [List.length_map] at hB l1 l2
    exact hq D G ts ns hD bt hB e l1 l2 all
end
theorem r_dictN {K : PySem.W.Frag} {H : Hp} {Q : VK} {M : List Str} {D : Addr} {ts : List Addr} {ns : List Int} (nd : M.Nodup) (eD : H D = some (.lst (ts.map V.ref))) (lt : ts.length = M.length) (ln : ns.length = M.length)
    (hp : ∀ (k : Nat) t x v, ts[k]? = some t → M[k]? = some x → ns[k]? = some v → H t = some (.tup [.str x, .int v]))
    (q : ∀ p (f : Str → Int) H', H p = none → Same H H' → H' p = some (.dK (dicF M fun x => .int (f x))) → Q (.ref p) H') :
    ∃ (a : Addr) (ps : List Addr) (kvs : List (Key × V)), [V.ref D] = [.ref a] ∧ SqL K H a (ps.map V.ref) ∧ Paired (fun p kv => SqT K H p [kV kv.1, kv.2]) ps kvs ∧ ∀ p, H p = none → Q (.ref p) (upd H p (.dK (mergeK [] kvs))) := by
  obtain ⟨f, hf⟩ := by_name (0 : Int) nd (cs := ns)
  refine ⟨D, ts, dicF M fun x => .int (f x), rfl, sqL eD, paired_dic lt fun k t x ht hx => ?_, fun p np => ?_⟩
  · obtain ⟨hk, _⟩ := List.getElem?_eq_some_iff.mp hx
    have h2 : ns[k]? = some ns[k] := List.getElem?_eq_getElem (by omega)
    have e := hp k t x _ ht hx h2
    rw [← hf k x _ hx h2] at e
    exact sqT e
  · rw [dicF_new nd]
    exact q p f _ np (same_upd np) upd_same
end Bk

namespace Bk
open PySem PySem.Spec PyProof.Rows L2
/-! ## 41. C(k = e, ..) -/
structure CalCK (P : Program) (w : World) (K : PySem.W.Frag) (mg : Str → Option Value) (base : Heap) (CX : CXT) (k : Nat) (ks : List Str) (C : Addr) (x : Str) (sp : Sp) (gV : List V → List V → List V) : Prop where
  ex : ∃ (f : Addr) (fd : FuncData) (ps : List Str) (g : List Value → List Value → List Value), Mk K C f ∧ FnOk P w K mg base CX k f fd ps sp ∧ KBn K fd ps 1 ks g gV ∧ mg x = some (.ref C)
def tMkK (C : Addr) (j : Nat) (sp : Sp) (gV : List V → List V → List V) (E : L2.St → XK) (tk : TA) : TE := fun σ H Q => tk σ H fun zs H1 => zs.length = j ∧ ∀ x dx, H1 x = none → H1 dx = none → dx ≠ x →
  sp (gV [.ref x] zs) (upd (upd H1 dx (.own x)) x (.ins C dx [])) (fun v H2 => v = .non ∧ Q (.ref x) H2) (E σ)
section
variable {X : Cx} {CX : CXT} {k j n : Nat} {ks : List Str} {f C : Addr} {fd : FuncData} {ps : List Str} {sp : Sp} {E : L2.St → XK} {x m : Str} {p pos apos : Pos} {e o : Expr} {es : List Expr} {kws : List Keyword} {ta : TE} {t tk : TA} {gV : List V → List V → List V} {g : List Value → List Value → List Value}
theorem run_mkNS {pins : List (Addr × Obj)} {σ : L2.St} {H : Hp} {s : Shared} {Q : VK} {ws : List Value} {zs : List V} (M : Mk X.K C f) (F : FnOk X.prog X.w X.K X.mg X.base CX k f fd ps sp) (hr : Room (k + 1) X.A) (hb : KBn X.K fd ps 1 ks g gV)
    (hx : PassesAt CX X σ (E σ)) (I : Inv X pins σ H s) (rz : Vals zs ws) (l2 : zs.length = ks.length)
    (h : ∀ x dx, H x = none → H dx = none → dx ≠ x → sp (gV [.ref x] zs) (upd (upd H dx (.own x)) x (.ins C dx [])) (fun v H2 => v = .non ∧ Q (.ref x) H2) (E σ)) :
    wpAny (model X.prog X.w) X.A (call (.ref C) [] (ks.zip ws)) (EP X pins σ Q) X.xe s := by
  have hq := h (s.heap.objs.size + 1) s.heap.objs.size (I.hok.fresh (Nat.le_succ _)) (I.hok.fresh (Nat.le_refl _)) (Nat.ne_of_lt (Nat.lt_succ_self _))
  have I2 := Inv.made (C := C) I
  have r2 : Vals [V.ref (s.heap.objs.size + 1)] [Value.ref (s.heap.objs.size + 1)] := .cons rfl .nil
  refine wpAny_call (make_map (f := f) I.kIn M.makes M.init (beq_iff_eq.mp M.fn) (codeAny_mono (F.run _ X.stack _ _ ⟨[Value.ref (s.heap.objs.size + 1)], ks.zip ws⟩ (g [Value.ref (s.heap.objs.size + 1)] ws) _ _ (E σ) (hr.make C [] (ks.zip ws))
    (I2.env0.make C [] (ks.zip ws)) (hb.to { s with heap := _ } [Value.ref (s.heap.objs.size + 1)] ws I2.kIn rfl (rz.length.symm.trans l2)) (hb.rel r2 rz) hq) fun r s' hq' => ?_))
  cases r with
  | error e => exact hx pins _ _ e s' I2 hq'
  | ok fl =>
    cases fl with
    | ret u =>
      obtain ⟨v, H', I3, rv, ev, q3⟩ := I2.after hq'
      subst ev
      exact ⟨rv, ⟨V.ref (s.heap.objs.size + 1), H', I3, rfl, q3⟩⟩
    | next => exact False.elim hq'
    | brk => exact False.elim hq'
    | cont => exact False.elim hq'
theorem pe_mkK (c : CalCK X.prog X.w X.K X.mg X.base CX k ks C x sp gV) (hr : Room j X.A) (hk : k + 1 ≤ j) (hg : Gl X x) (hx : ∀ σ, PassesAt CX X σ (E σ)) (hkw : PK X kws tk)
    (hall : (backToKw pos (keywordEach kws X.env)).all (·.1.isSome) = true := by rfl) (hks : (backToKw pos (keywordEach kws X.env)).filterMap (·.1) = ks := by rfl)
    (hpl : ((backTo pos (starEach [] X.env)).any (·.1) || (backToKw pos (keywordEach kws X.env)).any (·.1.isNone)) = false := by rfl)
    (hdb : (x == ("__debug__" : Str)) = false := by decide) : PE X (.Call (.Name x p) [] kws pos) (tMkK C ks.length sp gV E tk) := by
  obtain ⟨f, fd, ps, g, M, F, hb, hm⟩ := c.ex
  refine ⟨fun pins s σ H Q I h => ?_⟩
  refine wpAny_Call_Name_kw (ld_glob I hg hm ?_ hdb)
  refine PySem.W.callWith_KW0 (first := []) (h₀ := X.base) I.ok.mod.kin M.kp hall ?_ hpl
  refine thn (hkw.run pos pins s σ H _ I h) fun ws s2 ⟨zs, H2, I2, rz, l2, q2⟩ => ⟨I2.kIn, ?_⟩
  rw [hks]
  exact run_mkNS M F (hr.mono hk) hb (hx σ) I2 rz l2 q2
end
theorem sl_listK {X : Cx} {K : PySem.W.Frag} (h : X.K = K) : SlR X (rSlL K) := by
  subst h
  exact sl_list
/-- for over a list or a tuple, whichever it is -/
theorem r_forA {K : PySem.W.Frag} {a : Addr} {xs : List V} {g : TG} {tb : TS} {D : Ends} {σ : L2.St} {H : Hp} (hq : SqL K H a xs ∨ SqT K H a xs) (Pv : Nat → L2.St → Hp → Prop) (h0 : Pv 0 σ H) (hG : ∀ i σ G, i ≤ xs.length → Pv i σ G → Same H G)
    (hs : ∀ i x σ G, xs[i]? = some x → Pv i σ G → g x σ G fun σ2 H2 => tb { D with nx := Pv (i + 1), ct := Pv (i + 1), bk := D.nx } σ2 H2) (hd : ∀ σ G, Pv xs.length σ G → D.nx σ G) :
    ∃ a' xs', V.ref a = .ref a' ∧ ((SqL K H a' xs' ∧ (∃ W : Nat → Nat → L2.St → Hp → Prop, (∃ m, W 0 m σ H) ∧ ∀ i m σ H, W i m σ H →
      ((Itl K a').stop i H ∧ D.nx σ H) ∨ ((Itl K a').go i H ∧ ∃ N : L2.St → Hp → Prop, (∀ σ' H', N σ' H' → ∃ m', m' < m ∧ W (i + 1) m' σ' H') ∧ ∀ x H', (Itl K a').yld i H x H' → g x σ H' fun σ2 H2 => tb { D with nx := N, ct := N, bk := D.nx } σ2 H2))) ∨
      (SqT K H a' xs' ∧ (∃ W : Nat → Nat → L2.St → Hp → Prop, (∃ m, W 0 m σ H) ∧ ∀ i m σ H, W i m σ H →
      ((Itt K a').stop i H ∧ D.nx σ H) ∨ ((Itt K a').go i H ∧ ∃ N : L2.St → Hp → Prop, (∀ σ' H', N σ' H' → ∃ m', m' < m ∧ W (i + 1) m' σ' H') ∧ ∀ x H', (Itt K a').yld i H x H' → g x σ H' fun σ2 H2 => tb { D with nx := N, ct := N, bk := D.nx } σ2 H2)))) := by
  rcases hq with hq | hq
  · exact ⟨a, xs, rfl, .inl ⟨hq, for_it walk_list Pv h0 (fun i σ G hi h => (hG i σ G hi h).seq hq) (fun i x σ G G' hi h y => by obtain ⟨rfl, y⟩ := y; exact hs i x σ _ y h) hd⟩⟩
  · exact ⟨a, xs, rfl, .inr ⟨hq, for_it walk_tup Pv h0 (fun i σ G hi h => seqT (hG i σ G hi h) hq) (fun i x σ G G' hi h y => by obtain ⟨rfl, y⟩ := y; exact hs i x σ _ y h) hd⟩⟩
end Bk

namespace Bk
open PySem PySem.Spec PyProof.Rows L2
/-! ## 42. what a locked dict leaves behind -/
section
variable {H H' : Hp} {d bx : Addr} {kvs : List (Key × V)} {od : Obj}
theorem unlock_same (hd : H d = some (.dK kvs)) (s : Same (upd H d (.frz od (.dK kvs))) H') : Same H (upd H' d (.dK kvs)) := fun b u eb => by
  by_cases h : b = d
  · rw [h, upd_same, ← hd, ← h]
    exact eb
  · rw [upd_ne h]
    exact s _ _ (by rw [upd_ne h]; exact eb)
theorem unlock_but (hd : H d = some (.dK kvs)) (s : But bx (upd H d (.frz od (.dK kvs))) H') : But bx H (upd H' d (.dK kvs)) := fun b u nb eb => by
  by_cases h : b = d
  · rw [h, upd_same, ← hd, ← h]
    exact eb
  · rw [upd_ne h]
    exact s _ _ nb (by rw [upd_ne h]; exact eb)
theorem lock_but : But d H (upd H d (.frz od (.dK kvs))) := fun b u nb eb => by rw [upd_ne nb]; exact eb
theorem lock_none {D : Addr} (z : upd H d (.frz od (.dK kvs)) D = none) : H D = none ∧ D ≠ d := by
  by_cases h : D = d
  · rw [h, upd_same] at z; exact nomatch z
  · rw [upd_ne h] at z; exact ⟨z, h⟩
theorem lockS {t : TE} {D : Ends} {i : Nat} {σ : L2.St} (h : tLockE t σ H fun v H' => D.nx (σ.set i (some v)) H') : tLock (tAsg t (gName i)) D σ H := by
  obtain ⟨d2, u, h1, h2, h3⟩ := h
  exact ⟨d2, u, h1, h2, fun od => h3 od⟩
end
/-! ## 43. comprehensions over a locked dict that lay new things -/
section
variable {K : PySem.W.Frag} {σ : L2.St} {H : Hp} {Q : VK} {j : Nat} {vs : List Nat} {g : TG} {tt : TT} {te tl : TE} {d bx : Addr} {kvs : List (Key × V)}
theorem lcNewV (c : Nat → HO) (hd : H d = some (.dK kvs)) (hl : kvs.length ≤ 10000) (hw : ∀ x, wipe ((wipe σ vs).set j (some x)) vs = wipe σ vs)
    (hv : ∀ (od : Obj) (QQ : VK), QQ (.ref d) (upd H d (.frz od (.dK kvs))) → tl σ (upd H d (.frz od (.dK kvs))) QQ)
    (ht : ∀ (i : Nat) (k : Key) (y : V) (od : Obj) (H1 : Hp) (Q' : VK), kvs[i]? = some (k, y) → H1 d = some (.frz od (.dK kvs)) → (∀ b u, b ≠ d → H b = some u → H1 b = some u) → (∀ t H3, H1 t = none → Same H1 H3 → H3 t = some (c i) → Q' (.ref t) H3) → te ((wipe σ vs).set j (some y)) H1 Q')
    (q : ∀ D H' (ts : List Addr), H D = none → Same H H' → H' D = some (.lst (ts.map V.ref)) → ts.length = kvs.length → (∀ k t, ts[k]? = some t → H' t = some (c k)) → Q (.ref D) H') : tLockE (tLc (iVals tl) (gName j) tYes te vs) σ H Q := by
  refine ⟨d, .dK kvs, hd, trivial, fun od => ?_⟩
  have e0 : upd H d (.frz od (.dK kvs)) d = some (.frz od (.dK kvs)) := upd_same
  refine hv od _ ⟨d, od, kvs, rfl, e0, fun D hD => ?_⟩
  obtain ⟨hD1, hD2⟩ := lock_none hD
  refine lc_new (g := gName j) (te := te) (vs := vs) (σ := σ) (Q := fun v H' => H' d = some (.frz od (.dK kvs)) ∧ Q v (upd H' d (.dK kvs))) walk_values c hD hl (fun H' s => s _ _ e0) (fun i x H1 H2 Q' R' hi sm y h => ?_) fun H' ts s e l all nd fr => ?_
  · obtain ⟨rfl, k, hk⟩ := y
    exact ⟨hw _, r_yes (ht i k x od H2 Q' hk (sm _ _ e0) (fun b u nb eb => sm _ _ (lock_but _ _ nb eb)) h)⟩
  · refine ⟨s _ _ e0, q D _ ts hD1 (unlock_same hd s) (by rw [upd_ne hD2]; exact e) l fun k t hk => ?_⟩
    rw [upd_ne (lock_none (fr t (List.mem_of_getElem? hk))).2]
    exact all k t hk
theorem lcNewK (c : Nat → HO) (hd : H d = some (.dK kvs)) (hl : kvs.length ≤ 10000) (hw : ∀ x, wipe ((wipe σ vs).set j (some x)) vs = wipe σ vs)
    (hv : ∀ (od : Obj) (QQ : VK), QQ (.ref d) (upd H d (.frz od (.dK kvs))) → tl σ (upd H d (.frz od (.dK kvs))) QQ)
    (ht : ∀ (i : Nat) (k : Key) (y : V) (od : Obj) (H1 : Hp) (Q' : VK), kvs[i]? = some (k, y) → H1 d = some (.frz od (.dK kvs)) → (∀ b u, b ≠ d → H b = some u → H1 b = some u) → (∀ t H3, H1 t = none → Same H1 H3 → H3 t = some (c i) → Q' (.ref t) H3) → te ((wipe σ vs).set j (some (kV k))) H1 Q')
    (q : ∀ D H' (ts : List Addr), H D = none → Same H H' → H' D = some (.lst (ts.map V.ref)) → ts.length = kvs.length → (∀ k t, ts[k]? = some t → H' t = some (c k)) → Q (.ref D) H') : tLockE (tLc (iKeys tl) (gName j) tYes te vs) σ H Q := by
  refine ⟨d, .dK kvs, hd, trivial, fun od => ?_⟩
  have e0 : upd H d (.frz od (.dK kvs)) d = some (.frz od (.dK kvs)) := upd_same
  refine hv od _ ⟨d, od, rfl, .inl ⟨kvs, e0, fun D hD => ?_⟩⟩
  obtain ⟨hD1, hD2⟩ := lock_none hD
  refine lc_new (g := gName j) (te := te) (vs := vs) (σ := σ) (Q := fun v H' => H' d = some (.frz od (.dK kvs)) ∧ Q v (upd H' d (.dK kvs))) walk_keys c hD hl (fun H' s => s _ _ e0) (fun i x H1 H2 Q' R' hi sm y h => ?_) fun H' ts s e l all nd fr => ?_
  · obtain ⟨rfl, k, v, hk, rfl⟩ := y
    exact ⟨hw _, r_yes (ht i k v od H2 Q' hk (sm _ _ e0) (fun b u nb eb => sm _ _ (lock_but _ _ nb eb)) h)⟩
  · refine ⟨s _ _ e0, q D _ ts hD1 (unlock_same hd s) (by rw [upd_ne hD2]; exact e) l fun k t hk => ?_⟩
    rw [upd_ne (lock_none (fr t (List.mem_of_getElem? hk))).2]
    exact all k t hk
/-- tuples stay -/
def TS (H H' : Hp) : Prop := ∀ a xs, H a = some (.tup xs) → H' a = some (.tup xs)
theorem Same.ts {H H' : Hp} (s : Same H H') : TS H H' := fun _ _ e => s _ _ e
theorem TS.trans {A B C : Hp} (a : TS A B) (b : TS B C) : TS A C := fun x xs e => b x xs (a x xs e)
section
variable {J : It} {n : Nat} {G : Hp → Prop} {Y : Nat → Hp → V → Hp → Prop} {D : Addr}
/-- each turn gives a thing of which Pr tells, by tuples -/
theorem lc_any (w : Walk J n G Y) (Pr : Nat → V → Hp → Prop) (st : ∀ i v H1 H2, TS H1 H2 → Pr i v H1 → Pr i v H2) (hD : H D = none) (hn : n ≤ 10000) (hG : ∀ H', Same H H' → G H')
    (hY : ∀ i H1 x H2, i < n → Y i H1 x H2 → Same H1 H2)
    (hs : ∀ i x H1 H2 (Q' : VK) (R' : Hp → Prop), i < n → Same H H1 → Y i H1 x H2 → (∀ v H3, Same H2 H3 → Pr i v H3 → Q' v H3) → g x (wipe σ vs) H2 fun τ H3 => wipe τ vs = wipe σ vs ∧ tYes τ H3 fun b H4 => if b = true then te τ H4 Q' else R' H4)
    (q : ∀ H' (xs : List V), Same H H' → H' D = some (.lst xs) → xs.length = n → (∀ k v, xs[k]? = some v → Pr k v H') → Q (.ref D) H') :
    ∃ W : Nat → Nat → Hp → Prop, (∃ m, W 0 m (upd H D (.lst []))) ∧ ∀ i m H, W i m H →
      (J.stop i H ∧ Q (.ref D) H) ∨ (J.go i H ∧ ∃ Nx : Hp → Prop, (∀ H', Nx H' → ∃ m', m' < m ∧ W (i + 1) m' H') ∧ ∀ x H', J.yld i H x H' → g x (wipe σ vs) H' fun σ2 H2 => wipe σ2 vs = wipe σ vs ∧ tYes σ2 H2 fun b H3 =>
        if b = true then te σ2 H3 fun y H4 => ∃ acc, H4 D = some (.lst acc) ∧ acc.length < sizeLine ∧ Nx (upd H4 D (.lst (acc ++ [y]))) else Nx H3) := by
  refine lc_it w (fun i G => Same H G ∧ ∃ xs : List V, G D = some (.lst xs) ∧ xs.length = i ∧ (∀ k v, xs[k]? = some v → Pr k v G))
    ⟨same_upd hD, [], upd_same, rfl, fun _ _ z => nomatch z⟩ (fun i G _ z => hG G z.1) (fun i x H1 H2 hi ⟨sm, xs, e, l, all⟩ y => ?_) fun G ⟨sm, xs, e, l, all⟩ => q G xs sm e l all
  have s12 := hY i H1 x H2 hi y
  refine hs i x H1 H2 _ _ hi sm y fun v H3 s3 pv => ?_
  have e3 := s3 _ _ (s12 _ _ e)
  have tD : TS H3 (upd H3 D (.lst (xs ++ [v]))) := fun a ys ea => by
    rw [upd_ne (fun z => by rw [z, e3] at ea; exact nomatch ea)]
    exact ea
  refine ⟨_, e3, by rw [l]; exact Nat.lt_of_lt_of_le hi (Nat.le_trans hn (by decide)), sameBut (sm.trans (s12.trans s3)) hD, xs ++ [v], upd_same, by rw [List.length_append, l]; rfl, fun k u hk => ?_⟩
  by_cases hk2 : k < xs.length
  · rw [List.getElem?_append_left hk2] at hk
    exact st _ _ _ _ (((Same.ts s12).trans (Same.ts s3)).trans tD) (all k u hk)
  · have e4 : k = i := by
      have := (List.getElem?_eq_some_iff.mp hk).1
      rw [List.length_append, List.length_singleton] at this
      omega
    subst e4
    rw [List.getElem?_append_right (by omega), l, Nat.sub_self] at hk
    obtain rfl := Option.some.inj hk
    exact st _ _ _ _ tD pv
end
theorem lcAnyK (Pr : Nat → V → Hp → Prop) (st : ∀ i v H1 H2, TS H1 H2 → Pr i v H1 → Pr i v H2) (hd : H d = some (.dK kvs)) (hl : kvs.length ≤ 10000) (hw : ∀ x, wipe ((wipe σ vs).set j (some x)) vs = wipe σ vs)
    (hv : ∀ (od : Obj) (QQ : VK), QQ (.ref d) (upd H d (.frz od (.dK kvs))) → tl σ (upd H d (.frz od (.dK kvs))) QQ)
    (ht : ∀ (i : Nat) (k : Key) (y : V) (od : Obj) (H1 : Hp) (Q' : VK), kvs[i]? = some (k, y) → H1 d = some (.frz od (.dK kvs)) → (∀ b u, b ≠ d → H b = some u → H1 b = some u) → (∀ v H3, Same H1 H3 → Pr i v H3 → Q' v H3) → te ((wipe σ vs).set j (some (kV k))) H1 Q')
    (q : ∀ D H' (xs : List V), H D = none → Same H H' → H' D = some (.lst xs) → xs.length = kvs.length → (∀ k v, xs[k]? = some v → Pr k v H') → Q (.ref D) H') : tLockE (tLc (iKeys tl) (gName j) tYes te vs) σ H Q := by
  refine ⟨d, .dK kvs, hd, trivial, fun od => ?_⟩
  have e0 : upd H d (.frz od (.dK kvs)) d = some (.frz od (.dK kvs)) := upd_same
  refine hv od _ ⟨d, od, rfl, .inl ⟨kvs, e0, fun D hD => ?_⟩⟩
  obtain ⟨hD1, hD2⟩ := lock_none hD
  refine lc_any (g := gName j) (te := te) (vs := vs) (σ := σ) (Q := fun v H' => H' d = some (.frz od (.dK kvs)) ∧ Q v (upd H' d (.dK kvs))) walk_keys Pr st hD hl (fun H' s => s _ _ e0) (fun i H1 x H2 _ y => by rw [y.1]; exact Same.refl _) (fun i x H1 H2 Q' R' hi sm y h => ?_) fun H' xs s e l all => ?_
  · obtain ⟨rfl, k, v, hk, rfl⟩ := y
    exact ⟨hw _, r_yes (ht i k v od H2 Q' hk (sm _ _ e0) (fun b u nb eb => sm _ _ (lock_but _ _ nb eb)) h)⟩
  · refine ⟨s _ _ e0, q D _ xs hD1 (unlock_same hd s) (by rw [upd_ne hD2]; exact e) l fun k t hk => st _ _ _ _ (fun a ys ea => ?_) (all k t hk)⟩
    rw [upd_ne (fun z => by rw [z, s _ _ e0] at ea; exact nomatch ea)]
    exact ea
theorem lcAnyV (Pr : Nat → V → Hp → Prop) (st : ∀ i v H1 H2, TS H1 H2 → Pr i v H1 → Pr i v H2) (hd : H d = some (.dK kvs)) (hl : kvs.length ≤ 10000) (hw : ∀ x, wipe ((wipe σ vs).set j (some x)) vs = wipe σ vs)
    (hv : ∀ (od : Obj) (QQ : VK), QQ (.ref d) (upd H d (.frz od (.dK kvs))) → tl σ (upd H d (.frz od (.dK kvs))) QQ)
    (ht : ∀ (i : Nat) (k : Key) (y : V) (od : Obj) (H1 : Hp) (Q' : VK), kvs[i]? = some (k, y) → H1 d = some (.frz od (.dK kvs)) → (∀ b u, b ≠ d → H b = some u → H1 b = some u) → (∀ v H3, Same H1 H3 → Pr i v H3 → Q' v H3) → te ((wipe σ vs).set j (some y)) H1 Q')
    (q : ∀ D H' (xs : List V), H D = none → Same H H' → H' D = some (.lst xs) → xs.length = kvs.length → (∀ k v, xs[k]? = some v → Pr k v H') → Q (.ref D) H') : tLockE (tLc (iVals tl) (gName j) tYes te vs) σ H Q := by
  refine ⟨d, .dK kvs, hd, trivial, fun od => ?_⟩
  have e0 : upd H d (.frz od (.dK kvs)) d = some (.frz od (.dK kvs)) := upd_same
  refine hv od _ ⟨d, od, kvs, rfl, e0, fun D hD => ?_⟩
  obtain ⟨hD1, hD2⟩ := lock_none hD
  refine lc_any (g := gName j) (te := te) (vs := vs) (σ := σ) (Q := fun v H' => H' d = some (.frz od (.dK kvs)) ∧ Q v (upd H' d (.dK kvs))) walk_values Pr st hD hl (fun H' s => s _ _ e0) (fun i H1 x H2 _ y => by rw [y.1]; exact Same.refl _) (fun i x H1 H2 Q' R' hi sm y h => ?_) fun H' xs s e l all => ?_
  · obtain ⟨rfl, k, hk⟩ := y
    exact ⟨hw _, r_yes (ht i k x od H2 Q' hk (sm _ _ e0) (fun b u nb eb => sm _ _ (lock_but _ _ nb eb)) h)⟩
  · refine ⟨s _ _ e0, q D _ xs hD1 (unlock_same hd s) (by rw [upd_ne hD2]; exact e) l fun k t hk => st _ _ _ _ (fun a ys ea => ?_) (all k t hk)⟩
    rw [upd_ne (fun z => by rw [z, s _ _ e0] at ea; exact nomatch ea)]
    exact ea
/-- over items; what stands in the list is known ahead -/
theorem lcItems (p : Nat → Option V) (hd : H d = some (.dK kvs)) (hl : kvs.length ≤ 10000)
    (hv : ∀ (od : Obj) (QQ : VK), QQ (.ref d) (upd H d (.frz od (.dK kvs))) → tl σ (upd H d (.frz od (.dK kvs))) QQ)
    (ht : ∀ (i : Nat) (k : Key) (y : V) (T : Addr) (od : Obj) (H1 : Hp) (Q' : VK) (R' : Hp → Prop), kvs[i]? = some (k, y) → H1 T = some (.tup [kV k, y]) → H1 d = some (.frz od (.dK kvs)) → (∀ b u, b ≠ d → H b = some u → H1 b = some u) → (∀ v, p i = some v → ∀ H3, Same H1 H3 → Q' v H3) → (p i = none → ∀ H3, Same H1 H3 → R' H3) →
      g (.ref T) (wipe σ vs) H1 fun σ2 H2 => wipe σ2 vs = wipe σ vs ∧ tt σ2 H2 fun b H4 => if b = true then te σ2 H4 Q' else R' H4)
    (q : ∀ D H', H D = none → Same H H' → H' D = some (.lst ((List.range kvs.length).filterMap p)) → Q (.ref D) H') : tLockE (tLc (iItems tl) g tt te vs) σ H Q := by
  refine ⟨d, .dK kvs, hd, trivial, fun od => ?_⟩
  have e0 : upd H d (.frz od (.dK kvs)) d = some (.frz od (.dK kvs)) := upd_same
  refine hv od _ ⟨d, od, kvs, rfl, e0, fun D hD => ?_⟩
  obtain ⟨hD1, hD2⟩ := lock_none hD
  refine lc_by (g := g) (tt := tt) (te := te) (vs := vs) (σ := σ) (Q := fun v H' => H' d = some (.frz od (.dK kvs)) ∧ Q v (upd H' d (.dK kvs))) walk_items p hD hl (fun H' s => s _ _ e0) (fun i x H1 H2 Q' R' hi sm y h1 h2 => ?_) fun H' s e => ?_
  · obtain ⟨T, a, b, rfl, nT, rfl, ha, hb⟩ := y
    have ha : kvs[i]?.map (fun kv => kV kv.1) = some a := ha
    have hb : kvs[i]?.map Prod.snd = some b := hb
    cases hk : kvs[i]? with
    | none => rw [hk] at ha; exact nomatch ha
    | some kv =>
      rw [hk] at ha hb
      obtain rfl := Option.some.inj ha
      obtain rfl := Option.some.inj hb
      have sT : Same H1 (upd H1 T (.tup [kV kv.1, kv.2])) := same_upd nT
      exact ht i kv.1 kv.2 T od _ Q' R' hk upd_same (sT _ _ (sm _ _ e0)) (fun b u nb eb => sT _ _ (sm _ _ (lock_but _ _ nb eb))) (fun v hv H3 s3 => h1 v hv H3 (sT.trans s3)) fun hn H3 s3 => h2 hn H3 (sT.trans s3)
  · exact ⟨s _ _ e0, q D _ hD1 (unlock_same hd s) (by rw [upd_ne hD2]; exact e)⟩
end
section
variable {J : It} {G : Hp → Prop} {Y : Nat → Hp → V → Hp → Prop} {g : TG} {te tl : TE} {vs : List Nat} {σ : L2.St} {H : Hp} {D d : Addr} {Q : VK} {M : List Str}
/-- each turn lays a pair of a name and a new thing -/
theorem lc_prsG (w : Walk J M.length G Y) (o : Str → HO) (hD : H D = none) (hn : M.length ≤ 10000) (hG : ∀ H', Same H H' → G H')
    (hY : ∀ i H1 x H2, i < M.length → Y i H1 x H2 → Same H1 H2)
    (hs : ∀ i x (H1 H2 : Hp) (Q' : VK) (R' : Hp → Prop), i < M.length → Same H H1 → Y i H1 x H2 → (∀ z t c H3, M[i]? = some z → H2 t = none → H2 c = none → t ≠ c → Same H2 H3 → H3 t = some (.tup [.str z, .ref c]) → H3 c = some (o z) → Q' (.ref t) H3) →
      g x (wipe σ vs) H2 fun τ H3 => wipe τ vs = wipe σ vs ∧ tYes τ H3 fun b H4 => if b = true then te τ H4 Q' else R' H4)
    (q : ∀ H' (ts cs : List Addr), Same H H' → H' D = some (.lst (ts.map V.ref)) → ts.length = M.length → cs.length = M.length → (∀ (k : Nat) t c x, ts[k]? = some t → cs[k]? = some c → M[k]? = some x → H' t = some (.tup [.str x, .ref c]) ∧ H' c = some (o x)) → cs.Nodup → (∀ c ∈ cs, H c = none) → D ∉ cs → Q (.ref D) H') :
    ∃ W : Nat → Nat → Hp → Prop, (∃ m, W 0 m (upd H D (.lst []))) ∧ ∀ i m H, W i m H →
      (J.stop i H ∧ Q (.ref D) H) ∨ (J.go i H ∧ ∃ Nx : Hp → Prop, (∀ H', Nx H' → ∃ m', m' < m ∧ W (i + 1) m' H') ∧ ∀ x H', J.yld i H x H' → g x (wipe σ vs) H' fun σ2 H2 => wipe σ2 vs = wipe σ vs ∧ tYes σ2 H2 fun b H3 =>
        if b = true then te σ2 H3 fun y H4 => ∃ acc, H4 D = some (.lst acc) ∧ acc.length < sizeLine ∧ Nx (upd H4 D (.lst (acc ++ [y]))) else Nx H3) := by
  refine lc_it w (fun i G => Same H G ∧ ∃ ts cs : List Addr, G D = some (.lst (ts.map V.ref)) ∧ ts.length = i ∧ cs.length = i ∧ (∀ (k : Nat) t c x, ts[k]? = some t → cs[k]? = some c → M[k]? = some x → G t = some (.tup [.str x, .ref c]) ∧ G c = some (o x)) ∧ cs.Nodup ∧ (∀ c ∈ cs, H c = none ∧ G c ≠ none) ∧ D ∉ cs)
    ⟨same_upd hD, [], [], upd_same, rfl, rfl, (fun _ _ _ _ z => nomatch z), List.nodup_nil, (fun _ z => nomatch z), fun z => nomatch z⟩ (fun i G _ z => hG G z.1) (fun i x H1 H2 hi ⟨sm, ts, cs, e, l1, l2, all, nd, fr, nD⟩ y => ?_) fun G ⟨sm, ts, cs, e, l1, l2, all, nd, fr, nD⟩ => q G ts cs sm e l1 l2 all nd (fun c hc => (fr c hc).1) nD
  have s12 := hY i H1 x H2 hi y
  refine hs i x H1 H2 _ _ hi sm y fun z t c H3 hz nt nc tc s3 et ec => ?_
  have sm2 := sm.trans s12
  replace e := s12 _ _ e
  replace all : ∀ (k : Nat) t c x, ts[k]? = some t → cs[k]? = some c → M[k]? = some x → H2 t = some (.tup [.str x, .ref c]) ∧ H2 c = some (o x) := fun k t c x h1 h2 h3 => ⟨s12 _ _ (all k t c x h1 h2 h3).1, s12 _ _ (all k t c x h1 h2 h3).2⟩
  replace fr : ∀ c ∈ cs, H c = none ∧ H2 c ≠ none := fun c hc => ⟨(fr c hc).1, fun w => by
    cases h : H1 c with
    | none => exact (fr c hc).2 h
    | some r => rw [s12 _ _ h] at w; exact nomatch w⟩
  have tD : t ≠ D := fun w => by rw [w, e] at nt; exact nomatch nt
  have cD : c ≠ D := fun w => by rw [w, e] at nc; exact nomatch nc
  have ccs : c ∉ cs := fun w => (fr c w).2 nc
  refine ⟨_, s3 _ _ e, by rw [List.length_map, l1]; exact Nat.lt_of_lt_of_le hi (Nat.le_trans hn (by decide)), sameBut (sm2.trans s3) hD, ts ++ [t], cs ++ [c], ?_, by rw [List.length_append, l1]; rfl, by rw [List.length_append, l2]; rfl, fun k u v x hk hv hx => ?_, ?_, fun u hu => ?_, fun w => ?_⟩
  · rw [upd_same, List.map_append]
    rfl
  · have hlt : k < ts.length + 1 := by
      have := (List.getElem?_eq_some_iff.mp hk).1
      rw [List.length_append] at this
      exact this
    by_cases hk2 : k < ts.length
    · rw [List.getElem?_append_left hk2] at hk
      rw [List.getElem?_append_left (by omega)] at hv
      obtain ⟨a1, a2⟩ := all k u v x hk hv hx
      have nu : u ≠ D := fun w => by rw [w, e] at a1; exact nomatch a1
      have nv : v ≠ D := fun w => nD (by rw [← w]; exact List.mem_of_getElem? hv)
      exact ⟨by rw [upd_ne nu]; exact s3 _ _ a1, by rw [upd_ne nv]; exact s3 _ _ a2⟩
    · have e3 : k = i := by omega
      subst e3
      rw [List.getElem?_append_right (by omega), l1, Nat.sub_self] at hk
      rw [List.getElem?_append_right (by omega), l2, Nat.sub_self] at hv
      obtain rfl := Option.some.inj hk
      obtain rfl := Option.some.inj hv
      rw [hz] at hx
      obtain rfl := Option.some.inj hx
      exact ⟨by rw [upd_ne tD]; exact et, by rw [upd_ne cD]; exact ec⟩
  · refine List.nodup_append.mpr ⟨nd, (by simp), fun a ha b hb w => ?_⟩
    rw [List.mem_singleton.mp hb] at w
    exact ccs (by rw [← w]; exact ha)
  · rcases List.mem_append.mp hu with w | w
    · obtain ⟨a1, a2⟩ := fr u w
      refine ⟨a1, ?_⟩
      rw [upd_ne (fun z => nD (by rw [← z]; exact w))]
      cases h : H2 u with
      | none => exact absurd h a2
      | some r => rw [s3 _ _ h]; exact fun z => nomatch z
    · rw [List.mem_singleton.mp w]
      refine ⟨sm2.free nc, ?_⟩
      rw [upd_ne cD, ec]
      exact fun z => nomatch z
  · rcases List.mem_append.mp w with w | w
    · exact nD w
    · exact cD (List.mem_singleton.mp w).symm
/-- over the items of a locked dict by names -/
theorem lcPrsI {f : Str → V} (o : Str → HO) (hl : M.length ≤ 10000) (hd : H d = some (.dK (dicF M f)))
    (hv : ∀ (od : Obj) (QQ : VK), QQ (.ref d) (upd H d (.frz od (.dK (dicF M f)))) → tl σ (upd H d (.frz od (.dK (dicF M f)))) QQ)
    (ht : ∀ (z : Str) (T : Addr) (od : Obj) (H1 : Hp) (Q' : VK) (R' : Hp → Prop), z ∈ M → H1 T = some (.tup [.str z, f z]) → H1 d = some (.frz od (.dK (dicF M f))) → (∀ b u, b ≠ d → H b = some u → H1 b = some u) → (∀ t c H3, H1 t = none → H1 c = none → t ≠ c → Same H1 H3 → H3 t = some (.tup [.str z, .ref c]) → H3 c = some (o z) → Q' (.ref t) H3) →
      g (.ref T) (wipe σ vs) H1 fun τ H3 => wipe τ vs = wipe σ vs ∧ tYes τ H3 fun b H4 => if b = true then te τ H4 Q' else R' H4)
    (q : ∀ D H' (ts cs : List Addr), H D = none → Same H H' → H' D = some (.lst (ts.map V.ref)) → ts.length = M.length → cs.length = M.length → (∀ (k : Nat) t c x, ts[k]? = some t → cs[k]? = some c → M[k]? = some x → H' t = some (.tup [.str x, .ref c]) ∧ H' c = some (o x)) → cs.Nodup → (∀ c ∈ cs, H c = none) → Q (.ref D) H') : tLockE (tLc (iItems tl) g tYes te vs) σ H Q := by
  refine ⟨d, .dK (dicF M f), hd, trivial, fun od => ?_⟩
  have e0 : upd H d (.frz od (.dK (dicF M f))) d = some (.frz od (.dK (dicF M f))) := upd_same
  refine hv od _ ⟨d, od, _, rfl, e0, fun D hD => ?_⟩
  obtain ⟨hD1, hD2⟩ := lock_none hD
  have wl : Walk (Iti d od (dicF M f)) M.length (fun H => H d = some (.frz od (.dK (dicF M f)))) (YPair (fun i => (dicF M f)[i]?.map fun kv => kV kv.1) (fun i => (dicF M f)[i]?.map Prod.snd)) := by
    have w := walk_items (d := d) (o := od) (kvs := dicF M f)
    rwa [dicF_len] at w
  refine lc_prsG (g := g) (te := te) (vs := vs) (σ := σ) (Q := fun v H' => H' d = some (.frz od (.dK (dicF M f))) ∧ Q v (upd H' d (.dK (dicF M f)))) wl o hD hl (fun H' s => s _ _ e0) (fun i H1 x H2 _ y => ?_) (fun i x H1 H2 Q' R' hi sm y h => ?_) fun H' ts cs s e l1 l2 all nd fr nD => ?_
  · obtain ⟨T, a, b, rfl, nT, rfl, ha, hb⟩ := y
    exact same_upd nT
  · obtain ⟨T, a, b, rfl, nT, rfl, ha, hb⟩ := y
    have ha : (M.map fun x => ((Sum.inr x : Key), f x))[i]?.map (fun kv => kV kv.1) = some a := ha
    have hb : (M.map fun x => ((Sum.inr x : Key), f x))[i]?.map Prod.snd = some b := hb
    rw [List.getElem?_map, List.getElem?_eq_getElem hi] at ha hb
    obtain rfl := Option.some.inj ha
    obtain rfl := Option.some.inj hb
    have sT : Same H1 (upd H1 T (.tup [.str M[i], f M[i]])) := same_upd nT
    exact ht M[i] T od _ Q' R' (List.getElem_mem hi) upd_same (sT _ _ (sm _ _ e0)) (fun b u nb eb => sT _ _ (sm _ _ (lock_but _ _ nb eb))) fun t c H3 n1 n2 tc s3 et ec => h _ t c H3 (List.getElem?_eq_getElem hi) n1 n2 tc s3 et ec
  · refine ⟨s _ _ e0, q D _ ts cs hD1 (unlock_same hd s) (by rw [upd_ne hD2]; exact e) l1 l2 (fun k t c x h1 h2 h3 => ?_) nd fun c hc => (lock_none (fr c hc)).1⟩
    obtain ⟨a1, a2⟩ := all k t c x h1 h2 h3
    have nt : t ≠ d := fun z => by rw [z, s _ _ e0] at a1; exact nomatch a1
    exact ⟨by rw [upd_ne nt]; exact a1, by rw [upd_ne (lock_none (fr c (List.mem_of_getElem? h2))).2]; exact a2⟩
end
/-! ## 44. a comprehension over a locked dict by names, some left out as drawn -/
section
variable {K : PySem.W.Frag} {σ : L2.St} {H : Hp} {Q : VK} {j m : Nat} {vs : List Nat} {tt : TT} {te tl : TE} {d bx : Addr} {M : List Str} {f : Str → V}
theorem lcFltK (hb : Box bx m H) (hl : M.length ≤ 1000) (hw : ∀ x, wipe ((wipe σ vs).set j (some x)) vs = wipe σ vs) (hd : H d = some (.dK (dicF M f)))
    (hv : ∀ (od : Obj) (QQ : VK), QQ (.ref d) (upd H d (.frz od (.dK (dicF M f)))) → tl σ (upd H d (.frz od (.dK (dicF M f)))) QQ)
    (hte : ∀ (x : Str) (H1 : Hp) (QQ : VK), QQ (.str x) H1 → te ((wipe σ vs).set j (some (.str x))) H1 QQ)
    (ht : ∀ (x : Str) (k : Nat) (H1 : Hp) (Q' : Bool → Hp → Prop), x ∈ M → k < m + M.length → Box bx k H1 → (∀ b H2, Box bx (k + 1) H2 → But bx H1 H2 → Q' b H2) → tt ((wipe σ vs).set j (some (.str x))) H1 Q')
    (hq : ∀ (D : Addr) (H' : Hp) (ys : List Str), H D = none → But bx H H' → Box bx (m + M.length) H' → H' D = some (.lst (ys.map V.str)) → ys.length ≤ M.length → (∀ y ∈ ys, y ∈ M) → Q (.ref D) H') : tLockE (tLc (iKeys tl) (gName j) tt te vs) σ H Q := by
  refine ⟨d, .dK (dicF M f), hd, trivial, fun od => ?_⟩
  have e0 : upd H d (.frz od (.dK (dicF M f))) d = some (.frz od (.dK (dicF M f))) := upd_same
  have nbd : bx ≠ d := by
    rintro rfl
    obtain ⟨x, y, z, e, _⟩ := hb
    rw [hd] at e
    exact nomatch e
  refine hv od _ ⟨d, od, rfl, .inl ⟨_, e0, fun D hD => ?_⟩⟩
  obtain ⟨hD1, hD2⟩ := lock_none hD
  have hbL : Box bx m (upd H d (.frz od (.dK (dicF M f)))) := by
    obtain ⟨x, y, z, e, r⟩ := hb
    exact ⟨x, y, z, by rw [upd_ne nbd]; exact e, r⟩
  have nD : D ≠ bx := hbL.ne hD
  generalize hHL : upd H d (.frz od (.dK (dicF M f))) = HL at e0 hD hbL ⊢
  refine lc_it (g := gName j) (tt := tt) (te := te) (vs := vs) (σ := σ) (walk_keys (d := d) (o := od) (kvs := dicF M f)) (fun i G => But bx HL G ∧ Box bx (m + i) G ∧ ∃ ys : List Str, G D = some (.lst (ys.map V.str)) ∧ ys.length ≤ i ∧ ∀ y ∈ ys, y ∈ M)
    ⟨.of (same_upd hD), hbL.same (same_upd hD), [], upd_same, Nat.le_refl _, fun _ z => nomatch z⟩ (fun i G hi ⟨bt, _⟩ => bt _ _ nbd.symm e0) (fun i x H1 H2 hi ⟨bt, hB, ys, e, l, hp⟩ y => ?_) fun G ⟨bt, hB, ys, e, l, hp⟩ => ?_
  · obtain ⟨rfl, k, v, hk, rfl⟩ := y
    rw [dicF_len] at hi
    unfold dicF at hk
    rw [List.getElem?_map, List.getElem?_eq_getElem hi] at hk
    obtain ⟨rfl, _⟩ := Prod.mk.inj (Option.some.inj hk)
    refine ⟨hw _, ht M[i] (m + i) _ _ (List.getElem_mem hi) (by omega) hB fun b H3 hB3 b3 => ?_⟩
    have e3 := b3 _ _ nD e
    have bt3 := bt.trans b3
    cases b with
    | false => exact ⟨bt3, hB3, ys, e3, by omega, hp⟩
    | true =>
      rw [if_pos rfl]
      refine hte M[i] H3 _ ⟨_, e3, by rw [List.length_map, sizeLine_eq]; omega, ?_⟩
      refine ⟨fun b o nb eb => by rw [upd_ne (ne_of_none eb hD)]; exact bt3 _ _ nb eb, ?_, ys ++ [M[i]], by rw [upd_same, List.map_append]; rfl, by rw [List.length_append]; exact Nat.succ_le_succ l, fun y hy => ?_⟩
      · obtain ⟨x1, y1, z1, eB, r⟩ := hB3
        exact ⟨x1, y1, z1, by rw [upd_ne nD.symm]; exact eB, r⟩
      · rcases List.mem_append.mp hy with w | w
        · exact hp y w
        · rw [List.mem_singleton.mp w]; exact List.getElem_mem hi
  · rw [dicF_len] at hB l
    refine ⟨bt _ _ nbd.symm e0, hq D _ ys hD1 (unlock_but hd (by rw [hHL]; exact bt)) ?_ (by rw [upd_ne hD2]; exact e) l hp⟩
    obtain ⟨x1, y1, z1, eB, r⟩ := hB
    exact ⟨x1, y1, z1, by rw [upd_ne nbd]; exact eB, r⟩
end
end Bk

namespace Bk
open PySem PySem.Spec PyProof.Rows L2
/-! ## 45. no thing of ours stands where the modules' dict does -/
theorem nsm {X : Cx} {pins : List (Addr × Obj)} {σ : L2.St} {H : Hp} {s : Shared} {o : Obj} (k : X.K.lookup sysModules = some o) (I : Inv X pins σ H s) {a : Addr} {u : HO} (e : H a = some u) : a ≠ sysModules := by
  rintro rfl
  have h := I.mod.kin _ _ k
  rw [(I.bs _ _ h).2] at e
  exact nomatch e
/-- repr of a thing with dicts among lists, wherever these stand -/
theorem call_repr_shz {X : Cx} {j : Nat} (k : ∃ o : Obj, X.K.lookup sysModules = some o) (ga : X.A.guards = some []) (hr : Room j X.A) : CallR X (.builtin "repr") (fun xs H Q => ∃ v z, xs = [v] ∧ ((∀ a u, H a = some u → a ≠ sysModules) → Shq X.K H v z) ∧ Q (.str z) H) := by
  intro pins s σ H xs us Q I r h
  obtain ⟨o, k⟩ := k
  obtain ⟨v, z, e, hz, q⟩ := h
  exact call_repr_shq ga hr pins s σ H xs us Q I r ⟨v, z, e, hz fun a u e => nsm k I e, q⟩
/-! ## 46. != of what is data or plain -/
def rNeS (K : PySem.W.Frag) : R2 := fun x y H Q => rNe x y H Q ∨ rNeD K x y H Q
theorem op_neS {X : Cx} (hu : X.A.units + 64 < cLine) : OpR X (compareOp .NotEq) (rNeS X.K) := OpR.or op_ne (op_neD hu)
/-! ## 47. slices of a list or a tuple -/
def rSlQ (K : PySem.W.Frag) : V → Option Int → Option Int → Hp → VK → Prop := fun x lo hi H Q => rSlL K x lo hi H Q ∨ rSlA K x lo hi H Q
theorem sl_seqA {X : Cx} : SlR X (rSlQ X.K) := SlR.or sl_list sl_tupA
/-! ## 48. a comprehension over a list or a tuple -/
def SqA (K : PySem.W.Frag) (H : Hp) (a : Addr) (xs : List V) : Prop := SqL K H a xs ∨ SqT K H a xs
theorem SqA.same {K : PySem.W.Frag} {H H' : Hp} {a : Addr} {xs : List V} (h : SqA K H a xs) (s : Same H H') : SqA K H' a xs := h.elim (fun z => .inl (Same.seq s z)) fun z => .inr (seqT s z)
section
variable {K : PySem.W.Frag} {σ : L2.St} {H : Hp} {Q : VK} {g : TG} {tt : TT} {te tl : TE} {vs : List Nat} {a : Addr} {xs : List V}
theorem lcQ (p : Nat → Option V) (hs : SqA K H a xs) (hl : xs.length ≤ 10000) (hv : ∀ QQ : VK, QQ (.ref a) H → tl σ H QQ)
    (ht : ∀ i x (H1 : Hp) (Q' : VK) (R' : Hp → Prop), xs[i]? = some x → Same H H1 → (∀ v, p i = some v → ∀ H3, Same H1 H3 → Q' v H3) → (p i = none → ∀ H3, Same H1 H3 → R' H3) →
      g x (wipe σ vs) H1 fun τ H3 => wipe τ vs = wipe σ vs ∧ tt τ H3 fun b H4 => if b = true then te τ H4 Q' else R' H4)
    (q : ∀ D H', H D = none → Same H H' → H' D = some (.lst ((List.range xs.length).filterMap p)) → Q (.ref D) H') : tLc (iSeqA K tl) g tt te vs σ H Q := by
  refine hv _ ⟨a, xs, rfl, ?_⟩
  rcases hs with hs | hs
  · refine .inl ⟨hs, fun D hD => ?_⟩
    exact lc_by (walk_list (xs := xs)) p hD hl (fun H' s => Same.seq s hs) (fun i x H1 H2 Q' R' hi sm y h1 h2 => by
      obtain ⟨rfl, hx⟩ := y
      exact ht i x _ Q' R' hx sm h1 h2) fun H' s e => q D H' hD s e
  · refine .inr ⟨hs, fun D hD => ?_⟩
    exact lc_by (walk_tup (xs := xs)) p hD hl (fun H' s => seqT s hs) (fun i x H1 H2 Q' R' hi sm y h1 h2 => by
      obtain ⟨rfl, hx⟩ := y
      exact ht i x _ Q' R' hx sm h1 h2) fun H' s e => q D H' hD s e
/-- over enumerate of a list or a tuple -/
theorem lcEnumA {ta : TA} (p : Nat → Option V) (hs : SqA K H a xs) (hl : xs.length ≤ 10000) (hv : ∀ QQ : List V → Hp → Prop, QQ [.ref a] H → ta σ H QQ)
    (ht : ∀ i x T (H1 : Hp) (Q' : VK) (R' : Hp → Prop), xs[i]? = some x → Same H H1 → H1 T = some (.tup [.int (i : Nat), x]) → (∀ v, p i = some v → ∀ H3, Same H1 H3 → Q' v H3) → (p i = none → ∀ H3, Same H1 H3 → R' H3) →
      g (.ref T) (wipe σ vs) H1 fun τ H3 => wipe τ vs = wipe σ vs ∧ tt τ H3 fun b H4 => if b = true then te τ H4 Q' else R' H4)
    (q : ∀ D H', H D = none → Same H H' → H' D = some (.lst ((List.range xs.length).filterMap p)) → Q (.ref D) H') : tLc (iEnumA K ta) g tt te vs σ H Q := by
  refine hv _ ⟨a, xs, rfl, ?_⟩
  rcases hs with hs | hs
  · refine .inl ⟨hs, fun D hD => ?_⟩
    refine lc_by (walk_enum (xs := xs)) p hD hl (fun H' s => Same.seq s hs) (fun i x H1 H2 Q' R' hi sm y h1 h2 => ?_) fun H' s e => q D H' hD s e
    obtain ⟨T, b, c, rfl, nT, rfl, hb, hc⟩ := y
    obtain rfl := Option.some.inj hb
    have sT : Same H1 (upd H1 T (.tup [.int (i : Nat), c])) := same_upd nT
    exact ht i c T _ Q' R' hc (sm.trans sT) upd_same (fun v hv H3 s3 => h1 v hv H3 (sT.trans s3)) fun hn H3 s3 => h2 hn H3 (sT.trans s3)
  · refine .inr ⟨hs, fun D hD => ?_⟩
    refine lc_by (walk_enumT (xs := xs)) p hD hl (fun H' s => seqT s hs) (fun i x H1 H2 Q' R' hi sm y h1 h2 => ?_) fun H' s e => q D H' hD s e
    obtain ⟨T, b, c, rfl, nT, rfl, hb, hc⟩ := y
    obtain rfl := Option.some.inj hb
    have sT : Same H1 (upd H1 T (.tup [.int (i : Nat), c])) := same_upd nT
    exact ht i c T _ Q' R' hc (sm.trans sT) upd_same (fun v hv H3 s3 => h1 v hv H3 (sT.trans s3)) fun hn H3 s3 => h2 hn H3 (sT.trans s3)
end
end Bk

namespace Bk
open PySem PySem.Spec PyProof.Rows L2 HT
/-! ## 49. xs[i:j] = ys, j beyond the end too -/
section
variable {prog : Program} {w : World} {A : Around} {E : Value → Shared → Prop} {s : Shared}
theorem cut_bounds {i j m : Nat} (h : i ≤ j) (l : i ≤ m) : sliceBounds (some (i : Int)) (some (j : Int)) none m = ((i : Int), ((min j m : Nat) : Int), 1) := by
  have a : ¬ (i : Int) < 0 := by omega
  have b : ¬ (j : Int) < 0 := by omega
  have c : max 0 (min (i : Int) m) = i := by omega
  have d : max 0 (min (j : Int) m) = ((min j m : Nat) : Int) := by omega
  show (_, _, _) = (_, _, _)
  simp [a, b]
  exact ⟨c, d⟩
theorem store_cut {p q z : Addr} {xs ys : Array Value} {m m2 : Nat} {u v : Value} {i j : Nat} {Q : Unit → Shared → Prop}
    (ep : s.heap.get? p = some { cls := .type "list", data := .seq xs m }) (eq : s.heap.get? q = some { cls := .type "list", data := .seq ys m2 }) (npq : p ≠ q) (hz : s.heap.IsSliceOf z u v .none)
    (pi : IsPart u (some (i : Int))) (pj : IsPart v (some (j : Int))) (ij : i ≤ j) (im : i ≤ xs.size) (sz : xs.size + ys.size ≤ sizeLine)
    (k : Q () { s with heap := s.heap.update p (Obj.mapSeq fun zs => zs.extract 0 i ++ ys ++ zs.extract (min j xs.size) zs.size) }) : wpAny (model prog w) A (setItem (.ref p) (.ref z) (.ref q)) Q E s := by
  have lp : s.heap.IsList p xs := PySem.IsL.isList ep
  have lq : s.heap.IsList q ys := PySem.IsL.isList eq
  obtain ⟨oz, h1, h2, h3⟩ := id hz
  have tz : s.TypeIs (.ref z) "slice" := ⟨oz, h1, h2⟩
  have ns : Builtin.List.listSameRef (.ref p) (.ref q) = false := beq_eq_false_iff_ne.mpr npq
  have n0 : ¬ ((rawPart none == rawInt 0) = true) := fun h => Bool.false_ne_true h
  have mx : (max (i : Int) ((min j xs.size : Nat) : Int)).toNat = min j xs.size := by omega
  have zz : ((fun zs : Array Value => zs.extract 0 i ++ ys ++ zs.extract (min j xs.size) zs.size) xs).size ≤ sizeLine + 1 := by
    simp only [Array.size_append, Array.size_extract]; omega
  unfold setItem
  (try with_reducible refine wpAny_holding ?_); (first | refine wpAny_bind (wpAny_pure ?_) | skip)
  refine wpAny_bind (wpAny_sequenceKey lp.typeIs (by decide) ?_); refine wpAny_bind (wpAny_callSpecial?_slot (name := Str.ofString "__setitem__") lp.typeIs slot_list_setitem (wpAny_call_entry slot_list_setitem lp.typeIs entry_list_setitem ?_ (args_list_setitem _ _ _)))
  show wpAny _ _ (Builtin.List.listSubscript? (.ref z) >>= _) _ _ s; refine wpAny_bind ?_; unfold Builtin.List.listSubscript?
  refine wpAny_bind (wpAny_specialOf tz slice_no_index ?_); simp only [Option.isNone_none, if_true]; refine wpAny_pure ?_
  show wpAny _ _ (typeOf (.ref z) >>= _) _ _ s; refine wpAny_bind (wpAny_typeOf tz ?_)
  (first | rw [if_neg (by decide)] | refine PySem.W.KFB.if_not (by decide) ?_); rw [listSliceParts_eq]
  refine wpAny_bind (wpAny_bind (wpAny_field h1 h3 (x := .none) rfl (wpAny_bind (wpAny_listPart .none ?_)))); rw [if_neg n0]
  refine wpAny_bind (wpAny_field h1 h3 (x := u) rfl (wpAny_bind (wpAny_listPart pi ?_))); refine wpAny_bind (wpAny_field h1 h3 (x := v) rfl (wpAny_bind (wpAny_listPart pj (wpAny_pure ?_))))
  (first | simp only [ns, Bool.false_eq_true, if_false] | refine PySem.W.KFB.if_not ns ?_ | (dsimp only; rw [if_neg (by rw [ns]; exact Bool.false_ne_true)]))
  refine wpAny_bind (m := Builtin.List.listAllItems (.ref q) "must assign iterable to extended slice") ?_; unfold Builtin.List.listAllItems; refine wpAny_bind (wpAny_typeOf lq.typeIs ?_)
  (first | refine PySem.W.KFB.if_so (by decide) ?_ | rw [if_pos (by decide)] | simp only [beq_self_eq_true, Bool.true_or, if_true]); unfold Builtin.List.listItems
  refine wpAny_bind (wpAny_seqItems eq rfl (wpAny_pure ?_)); refine wpAny_bind (wpAny_bind (wpAny_seqItems ep rfl (wpAny_pure ?_)))
  refine wpAny_bind (wpAny_of_eq ((sliceIndices_raw (some (i : Int)) (some (j : Int)) none xs.size (by simp)).trans (congrArg (pure : Int × Int × Int → Sem (Int × Int × Int)) (cut_bounds ij im))) ?_)
  show wpAny _ _ (if ((1 : Int) == 1) = true then _ else _) _ _ s; rw [if_pos (by decide)]; refine wpAny_bind (wpAny_rule ?_)
  (first | simp only [notLongL sz, Bool.false_eq_true, if_false] | refine PySem.W.KFB.if_not (notLongL sz) ?_); (first | refine wpAny_bind (wpAny_pure ?_) | skip)
  show wpAny _ _ (updateSeq p (fun zs => zs.extract 0 ((i : Int)).toNat ++ ys ++ zs.extract (max (i : Int) ((min j xs.size : Nat) : Int)).toNat zs.size) >>= _) _ _ s; rw [mx, Int.toNat_natCast]
  refine wpAny_bind (wpAny_updateSeq (hz := Nat.le_trans (Nat.le_add_right _ _) sz) (_hz' := zz) ep rfl ?_); refine wpAny_bind (wpAny_letGo ?_)
  (first | exact wpAny_bind (wpAny_pure (wpAny_pure ⟨.none, rfl, wpAny_pure k⟩)) | exact wpAny_pure ⟨.none, rfl, wpAny_pure k⟩)
end
section
variable {X : Cx}
theorem put_cut {pins : List (Addr × Obj)} {s : Shared} {σ : L2.St} {H : Hp} {p q z : Addr} {xs ys : List V} {i j : Nat} {u v : Value} {Q : Unit → Shared → Prop} (I : Inv X pins σ H s)
    (ep : H p = some (.lst xs)) (eq : H q = some (.lst ys)) (npq : p ≠ q) (hz : s.heap.IsSliceOf z u v .none) (pu : IsPart u (some (i : Int))) (pv : IsPart v (some (j : Int))) (ij : i ≤ j) (im : i ≤ xs.length) (sz : xs.length + ys.length ≤ sizeLine)
    (k : ∀ s', Inv X pins σ (upd H p (.lst (xs.take i ++ ys ++ xs.drop j))) s' → Q () s') : wpAny (model X.prog X.w) X.A (setItem (.ref p) (.ref z) (.ref q)) Q X.xe s := by
  obtain ⟨_, us, n, r, l1, e1⟩ := I.lstM ep
  obtain ⟨_, vs, n2, r2, l2, e2⟩ := I.lstM eq
  have len := r.length
  have len2 := r2.length
  refine store_cut (i := i) (j := j) e1 e2 npq hz pu pv ij (by rw [List.size_toArray, ← len]; exact im) (by rw [List.size_toArray, List.size_toArray, ← len, ← len2]; exact sz) (k _ ?_)
  refine I.lset (its' := us.take i ++ vs ++ us.drop (min j us.length)) (t' := s.toks) ep e1 (by rw [List.size_toArray]; exact splice_eq us vs i (min j us.length)) ?_ ?_
  · have d : xs.drop j = xs.drop (min j us.length) := by
      rw [← len]
      by_cases h : j ≤ xs.length
      · rw [Nat.min_eq_left h]
      · rw [Nat.min_eq_right (by omega), List.drop_of_length_le (by omega), List.drop_of_length_le (Nat.le_refl _)]
    rw [d]
    exact Vals.append (Vals.append (r.take _) r2) (r.drop _)
  · rw [List.length_append, List.length_append, List.length_take, List.length_drop]
    omega
/-- xs[i:j] = .. as a target -/
def gCut (to : TE) (tl th : TO) : TG := fun v σ H Q => to σ H fun o H1 => tl σ H1 fun a H2 => th σ H2 fun c H3 => ∃ (p q : Addr) (xs ys : List V) (i j : Nat), o = .ref p ∧ v = .ref q ∧ a = some (i : Int) ∧ c = some (j : Int) ∧ H3 p = some (.lst xs) ∧ H3 q = some (.lst ys) ∧ p ≠ q ∧ i ≤ j ∧ i ≤ xs.length ∧ xs.length + ys.length ≤ sizeLine ∧ Q σ (upd H3 p (.lst (xs.take i ++ ys ++ xs.drop j)))
theorem pg_cut {o : Expr} {lo hi : Option Expr} {to : TE} {tl th : TO} {pos p2 : Pos} (ho : PE X o to) (hl : PO X lo tl) (hh : PO X hi th)
    (ha : ∀ v, assign (.Subscript o (.Slice lo hi none p2) pos) X.env v = (do
      let ov ← holding [v] (eval o X.env)
      let iv ← holding [v, ov] (eval (.Slice lo hi none p2) X.env)
      standAt pos
      holding [v, ov, iv] (setItem ov iv v)
      release [iv, v, ov] []) := by intro _; rfl) : PG X (.Subscript o (.Slice lo hi none p2) pos) (gCut to tl th) := by
  refine ⟨fun pins s σ H v u Q I r h => ?_⟩
  rw [ha]
  refine wpAny_bind (wpAny_holding (thn (ho.run pins s σ H _ I h) fun ov s1 ⟨x, H1, I1, r1, q1⟩ => ?_))
  refine wpAny_bind (wpAny_holding ?_)
  refine wpAny_Slice (thn (hl.run pins s1 σ H1 _ I1 q1) fun vl s2 ⟨l, H2, I2, pl, q2⟩ => thn (hh.run pins s2 σ H2 _ I2 q2) fun vu s3 ⟨c, H3, I3, pu, q3⟩ => ?_)
  rw [evalPart_none]
  refine wpAny_pure ?_
  have I4 : Inv X pins σ H3 { s3 with heap := s3.heap.push { cls := .type "slice", data := .fields #[vl, vu, .none] } } := I3.kept (t' := s3.toks) fun b ob q => Heap.get?_push_of_some _ q
  obtain ⟨p, q, xs, ys, i, j, rfl, rfl, rfl, rfl, ep, eq, npq, ij, im, sz, fin⟩ := q3
  cases (show ov = Value.ref p from r1)
  cases (show u = Value.ref q from r)
  refine wpAny_bind (wpAny_standAt (wpAny_bind (wpAny_holding (put_cut I4 ep eq npq (Heap.IsSliceOf.new ..) pl pu ij im sz fun s' I5 => ?_))))
  exact wpAny_release ⟨σ, _, I5, fin⟩
end
end Bk

namespace Bk
open PySem PySem.Spec PyProof.Rows L2
/-! ## 50. the text of a list whose things have dicts among them, wherever lists stand -/
inductive EachQ (K : PySem.W.Frag) (H : Hp) : List V → List PyData → Prop
  | nil : EachQ K H [] []
  | cons {b : Bool} {v : V} {vs : List V} {d : PyData} {ds : List PyData} : Dq b K H v d → EachQ K H vs ds → EachQ K H (v :: vs) (d :: ds)
def ShL (K : PySem.W.Frag) (H : Hp) (v : V) (z : Str) : Prop := ∃ p vs ds, v = .ref p ∧ vs ≠ [] ∧ SqL K H p vs ∧ EachQ K H vs ds ∧ (PyData.list ds).showable = true ∧ (PyData.list ds).shown.length ≤ sizeLine ∧ (PyData.list ds).depth ≤ 60 ∧ z = (PyData.list ds).shown
theorem shl_of {K : PySem.W.Frag} {H : Hp} {p : Addr} {vs : List V} {ds : List PyData} (hl : SqL K H p vs) (nv : vs ≠ []) (he : EachQ K H vs ds) (s : smQ (PyData.list ds) = true) (l : (PyData.list ds).bulk ≤ 390000) (e : (PyData.list ds).depth ≤ 60) : ShL K H (.ref p) (PyData.list ds).shown := by
  obtain ⟨h1, h2⟩ := smQ_ok _ s
  have h3 := PyData.shown_le_bulk 40 (by decide) _ h2
  exact ⟨p, vs, ds, rfl, nv, hl, he, h1, by rw [sizeLine_eq]; omega, e, rfl⟩
section
variable {X : Cx} {pins : List (Addr × Obj)} {σ : L2.St} {H : Hp} {s : Shared}
theorem each_reads (I : Inv X pins σ H s) : ∀ {ds : List PyData} {vs : List V} {us : List Value}, EachQ X.K H vs ds → Vals vs us → PyData.showableAll ds = true → (∀ t ∈ PyData.shownAll ds, t.length ≤ sizeLine) →
    ∃ as bs, ReadsAll s.heap us ds as ∧ ReadAtMost s.heap (PyData.depthAll ds) bs ∧ ReprAllK X.prog X.w bs s.heap (PyData.depthAll ds) us (PyData.shownAll ds)
  | _, _, _, .nil, r, _, _ => by
    cases r
    exact ⟨_, [], ReadsAll.nil, (fun _ h => nomatch h), by simp only [PyData.shownAll]; exact .nil⟩
  | d :: ds, _, _, .cons (b := b) h1 h2, r, hs, hz => by
    cases r with
    | cons r1 r2 =>
      obtain ⟨as, q1, n1⟩ := Dq.reads I h1 r1
      obtain ⟨g1, g2⟩ := Bool.and_eq_true_iff.mp (show (d.showable && PyData.showableAll ds) = true by simpa only [PyData.showableAll] using hs)
      have z1 : d.shown.length ≤ sizeLine := hz _ (by simp only [PyData.shownAll]; exact List.mem_cons_self ..)
      have hsm : d.hasDict = true → sysModules ∉ as := fun hh => by
        cases b with
        | true => exact n1 rfl
        | false => rw [dq_flat d _ h1] at hh; exact nomatch hh
      obtain ⟨b1, m1, k1⟩ := ReprK.of_reads (prog := X.prog) (w := X.w) q1 g1 hsm z1
      obtain ⟨as2, b2, q2, m2, k2⟩ := each_reads I h2 r2 g2 fun t ht => hz t (by simp only [PyData.shownAll]; exact List.mem_cons_of_mem _ ht)
      have l1 : d.depth ≤ PyData.depthAll (d :: ds) := by simp only [PyData.depthAll]; omega
      have l2 : PyData.depthAll ds ≤ PyData.depthAll (d :: ds) := by simp only [PyData.depthAll]; omega
      refine ⟨_, b1 ++ b2, ReadsAll.cons q1 q2, (m1.mono l1).append (m2.mono l2), ?_⟩
      simp only [PyData.shownAll]
      exact .cons ((k1.more fun c hc => List.mem_append_left _ hc).level_le l1) (k2.more_le (fun c hc => List.mem_append_right _ hc) l2)
theorem call_repr_shl {j : Nat} (ga : X.A.guards = some []) (hr : Room j X.A) : CallR X (.builtin "repr") (fun xs H Q => ∃ v z, xs = [v] ∧ ShL X.K H v z ∧ Q (.str z) H) := by
  intro pins s σ H xs us Q I r h
  obtain ⟨v, z, rfl, ⟨p, vs, ds, rfl, nv, hl, he, h1, h2, h3, rfl⟩, q⟩ := h
  obtain ⟨u, rfl, rv⟩ := vals1 r
  obtain rfl : u = Value.ref p := rv
  have hu := hr.units
  have hz : (listText (PyData.shownAll ds)).length ≤ sizeLine := by simpa only [PyData.shown] using h2
  have fin : ∀ h' u tk, (∀ b o, s.heap.get? b = some o → h'.get? b = some o) → EP X pins σ Q (.str (PyData.list ds).shown u) { s with heap := h', toks := tk } := fun h' u tk hk => ⟨.str _, H, I.kept hk, ⟨_, rfl⟩, q⟩
  simp only [PyData.depth] at h3
  obtain ⟨its, rv, ⟨o, n, ho, hc, _, hd⟩, _⟩ := I.list hl
  obtain ⟨as, bs, qr, qm, qk⟩ := each_reads I he rv (by simpa only [PyData.showable] using h1) fun t ht => Nat.le_trans (listText_mem_le ht) hz
  have na : p ∉ bs := not_mem_of_deeper (.list ho hc hd qr) (by simp only [PyData.depth]; omega) qm
  cases its with
  | nil =>
    cases rv
    exact absurd rfl nv
  | cons y its =>
    refine call_repr_slot (T := "list") (by omega) ⟨o, ho, hc⟩ PySem.F.slot_list_repr.toG ?_
    refine call_list_reprK ho hc hd na (by simpa using qk.length_eq) (fun i y e => qk.item i y (by simpa using e)) (g := []) ga (fun b _ => Clear.nil b) (by show X.A.units + 1 + _ < cLine; omega) (fun _ _ e => e) (fun h' u tk hk => ⟨_, _, rfl, ?_⟩) hz
    have f := fin h' u tk hk
    simp only [PyData.shown] at f
    exact f
theorem call_repr_any {j : Nat} (ga : X.A.guards = some []) (hr : Room j X.A) : CallR X (.builtin "repr") (fun xs H Q => ∃ v z, xs = [v] ∧ (Shq X.K H v z ∨ ShL X.K H v z) ∧ Q (.str z) H) := by
  intro pins s σ H xs us Q I r h
  obtain ⟨v, z, e, hz | hz, q⟩ := h
  · exact call_repr_shq ga hr pins s σ H xs us Q I r ⟨v, z, e, hz, q⟩
  · exact call_repr_shl ga hr pins s σ H xs us Q I r ⟨v, z, e, hz, q⟩
end
end Bk

namespace Bk
open PySem PySem.Spec PyProof.Rows L2
/-! ## 51. a, b = a list, in a comprehension; a def that keeps two words -/
theorem pg_lstK {X : Cx} {K : PySem.W.Frag} {es : List Expr} {k : Nat} {t : TGs} {n : Nat} {pos : Pos} (e : X.K = K) (hc : X.calm = true) (h : PGs X es t) (hn : (assignEach es X.env).length = n := by rfl) (hst : (assignEach es X.env).findIdx? (·.1) = none := by rfl) :
    PG X (.Tuple es k pos) (gLst K n t) := by
  subst e
  exact pg_lst hc h hn hst
theorem _root_.L2.FnOk.or {P : Program} {w : World} {K : PySem.W.Frag} {mg : Str → Option Value} {base : Heap} {CX : CXT} {k : Nat} {f : Addr} {fd : FuncData} {ps : List Str} {sp sq : Sp} (F : FnOk P w K mg base CX k f fd ps sp) (G : FnOk P w K mg base CX k f fd ps sq) :
    FnOk P w K mg base CX k f fd ps (fun vs H Q E => sp vs H Q E ∨ sq vs H Q E) :=
  ⟨fun vs H Q E h => h.elim (F.len vs H Q E) (G.len vs H Q E), fun A outer s H args us vs Q E hr he hb hv hs => hs.elim (F.run A outer s H args us vs Q E hr he hb hv) (G.run A outer s H args us vs Q E hr he hb hv)⟩
end Bk

namespace Bk
open PySem PySem.Spec PyProof.Rows L2
/-! ## 52. texts in parts and together -/
theorem fold_list (sep : Str) : ∀ (rest : List Str) (a : Array Nat), (rest.foldl (fun (acc : Array Nat) (p : Str) => acc ++ sep.cps ++ p.cps) a).toList = a.toList ++ rest.flatMap fun p => sep.cps.toList ++ p.cps.toList
  | [], a => by simp
  | p :: r, a => by
    rw [List.foldl_cons, fold_list sep r]
    simp only [Array.toList_append, List.flatMap_cons, List.append_assoc]
theorem join_list (sep x : Str) (rest : List Str) : (Txt.join sep (x :: rest)).cps.toList = x.cps.toList ++ rest.flatMap fun p => sep.cps.toList ++ p.cps.toList := by
  show (Builtin.Str.glued sep (x :: rest)).cps.toList = _
  unfold Builtin.Str.glued
  exact fold_list sep rest x.cps
theorem str_len (z : Str) : z.length = z.cps.toList.length := (Array.length_toList).symm
theorem part_in {sep y : Str} {ys : List Str} (h : y ∈ ys) {c : Nat} (hc : c ∈ y.cps.toList) : c ∈ (Txt.join sep ys).cps.toList := by
  cases ys with
  | nil => exact nomatch h
  | cons x r =>
    rw [join_list]
    rcases List.mem_cons.mp h with rfl | h
    · exact List.mem_append_left _ hc
    · exact List.mem_append_right _ (List.mem_flatMap.mpr ⟨y, h, List.mem_append_right _ hc⟩)
theorem join_in {sep : Str} {ys : List Str} {c : Nat} (h : c ∈ (Txt.join sep ys).cps.toList) : c ∈ sep.cps.toList ∨ ∃ y ∈ ys, c ∈ y.cps.toList := by
  cases ys with
  | nil => exact nomatch h
  | cons x r =>
    rw [join_list] at h
    rcases List.mem_append.mp h with h | h
    · exact .inr ⟨x, List.mem_cons_self, h⟩
    · obtain ⟨p, hp, h⟩ := List.mem_flatMap.mp h
      rcases List.mem_append.mp h with h | h
      · exact .inl h
      · exact .inr ⟨p, List.mem_cons_of_mem _ hp, h⟩
theorem rest_len (sep : Str) : ∀ rest : List Str, (rest.flatMap fun p => sep.cps.toList ++ p.cps.toList).length = (rest.map (·.length)).sum + rest.length * sep.length
  | [] => by simp
  | p :: r => by
    have h := rest_len sep r
    simp only [List.flatMap_cons, List.length_append, h, List.map_cons, List.sum_cons, List.length_cons, Nat.add_mul, Nat.one_mul, str_len p, str_len sep]
    omega
theorem join_len (sep : Str) {ys : List Str} (h : ys ≠ []) : (Txt.join sep ys).length + sep.length = (ys.map (·.length)).sum + ys.length * sep.length := by
  cases ys with
  | nil => exact absurd rfl h
  | cons x r =>
    rw [str_len (Txt.join sep (x :: r)), join_list, List.length_append, rest_len]
    simp only [List.map_cons, List.sum_cons, List.length_cons, Nat.add_mul, Nat.one_mul, str_len x]
    omega
theorem split_ne (x y : Str) : Txt.split x y ≠ [] := by
  unfold Txt.split
  split
  · exact fun z => nomatch z
  · split
    · exact fun z => nomatch z
    · exact fun z => by
        have h := length_partsBetween x (Builtin.Str.occurrences x y 0 x.length (x.length + 1)) y.length
        rw [z] at h
        exact nomatch h
theorem split_join (x y : Str) : Txt.join y (Txt.split x y) = x := by
  have one : Txt.join y [x] = x := rfl
  unfold Txt.split
  split
  · exact one
  · split
    · exact one
    · exact StrLaws.glued_between_self x y (x.length + 1)
theorem split_count (x y : Str) : (Txt.split x y).length ≤ x.length + 2 := by
  unfold Txt.split
  split
  · exact Nat.le_add_left 1 (x.length + 1)
  · split
    · exact Nat.le_add_left 1 (x.length + 1)
    · rw [length_partsBetween]
      have := StrLaws.occ_length_le x y 0 x.length (x.length + 1)
      omega
theorem split_sum (x y : Str) : ((Txt.split x y).map (·.length)).sum + (Txt.split x y).length * y.length = x.length + y.length := by
  have h := join_len y (split_ne x y)
  rw [split_join] at h
  omega
theorem mem_le_sum : ∀ {ys : List Str} {y : Str}, y ∈ ys → y.length ≤ (ys.map (·.length)).sum
  | x :: r, y, h => by
    rw [List.map_cons, List.sum_cons]
    rcases List.mem_cons.mp h with rfl | h
    · omega
    · have := mem_le_sum h
      omega
theorem split_part {x y z : Str} (h : z ∈ Txt.split x y) : z.length ≤ x.length + y.length := by
  have h1 := mem_le_sum h
  have h2 := split_sum x y
  omega
theorem split_in {x y z : Str} (h : z ∈ Txt.split x y) {c : Nat} (hc : c ∈ z.cps.toList) : c ∈ x.cps.toList := by
  have w := part_in (sep := y) h hc
  rwa [split_join] at w
/-- signs that repr can tell shortly -/
def okS (z : Str) : Prop := ∀ c ∈ z.cps.toList, c < 1114112
theorem okS_sm {z : Str} (h : okS z) : smQ (.str z) = true := by
  simp only [smQ, List.all_eq_true, decide_eq_true_eq]
  exact fun c hc => Nat.lt_trans (h c hc) (by decide)
theorem okS_str {z : Str} (h : okS z) : PyData.strOk z = true := by
  unfold PyData.strOk
  rw [← Array.all_toList]
  exact List.all_eq_true.mpr fun c hc => decide_eq_true (h c hc)
theorem eqv_strsA : ∀ l m : List Str, PyData.eqvAll (l.map PyData.str) (m.map PyData.str) = decide (l = m)
  | [], [] => rfl
  | [], _ :: _ => rfl
  | _ :: _, [] => rfl
  | a :: l, b :: m => by
    simp only [List.map_cons, PyData.eqvAll, PyData.eqv, eqv_strsA l m]
    by_cases h : a = b
    · subst h
      by_cases g : l = m
      · subst g; simp
      · rw [decide_eq_false g, decide_eq_false fun z : a :: l = a :: m => g (List.cons.inj z).2, Bool.and_false]
    · rw [show (a == b) = false from beq_false_of_ne h, Bool.false_and, decide_eq_false fun z : a :: l = b :: m => h (List.cons.inj z).1]
theorem eqv_strs (l m : List Str) : PyData.eqv (strD l) (strD m) = decide (l = m) := by
  unfold strD
  simp only [PyData.eqv]
  exact eqv_strsA l m
theorem cut2 (xs : List V) : cutV xs (some 2) none = xs.drop 2 := by
  match xs with
  | [] => rfl
  | [_] => rfl
  | a :: b :: r => exact cut_from (m := 2) (by simp)
theorem okS_app {x y : Str} (hx : okS x) (hy : okS y) : okS (x ++ y) := fun c hc => by
  have e : (x ++ y).cps.toList = x.cps.toList ++ y.cps.toList := by
    show (x.cps ++ y.cps).toList = _
    exact Array.toList_append
  rw [e] at hc
  exact (List.mem_append.mp hc).elim (hx c) (hy c)
theorem okS_cut {z : Str} {lo hi : Option Int} (h : okS z) : okS (cutS z lo hi) := fun c hc => by
  unfold cutS at hc
  exact h c (List.mem_of_mem_drop (List.mem_of_mem_take hc))
theorem okS_join {sep : Str} {ys : List Str} (hs : okS sep) (h : ∀ y ∈ ys, okS y) : okS (Txt.join sep ys) := fun c hc => by
  rcases join_in hc with z | ⟨y, hy, z⟩
  · exact hs c z
  · exact h y hy c z
theorem okS_split {x y z : Str} (h : okS x) (hz : z ∈ Txt.split x y) : okS z := fun c hc => h c (split_in hz hc)
/-- a text so many times -/
def mulS (z : Str) (n : Nat) : Str := ⟨(List.replicate n z.cps).foldl (fun x y => x ++ y) #[]⟩
theorem mul_list (z : Array Nat) : ∀ (n : Nat) (a : Array Nat), ((List.replicate n z).foldl (fun x y => x ++ y) a).toList = a.toList ++ (List.replicate n z.toList).flatten
  | 0, a => by simp
  | n + 1, a => by
    rw [List.replicate_succ, List.foldl_cons, mul_list z n]
    simp only [Array.toList_append, List.replicate_succ, List.flatten_cons, List.append_assoc]
theorem mulS_len {z : Str} {n : Nat} : (mulS z n).length = n * z.length := by
  rw [str_len, str_len z]
  show ((List.replicate n z.cps).foldl (fun x y => x ++ y) #[]).toList.length = _
  rw [mul_list, List.length_append, List.length_flatten]
  simp
theorem okS_mul {z : Str} {n : Nat} (h : okS z) : okS (mulS z n) := fun c hc => by
  have hc : c ∈ ((List.replicate n z.cps).foldl (fun x y => x ++ y) #[]).toList := hc
  rw [mul_list] at hc
  rcases List.mem_append.mp hc with w | w
  · exact nomatch w
  · obtain ⟨l, hl, w⟩ := List.mem_flatten.mp w
    rw [(List.mem_replicate.mp hl).2] at w
    exact h c w
theorem mulS_one {z : Str} : mulS z 1 = z := by
  have h : (mulS z 1).cps.toList = z.cps.toList := by
    show ((List.replicate 1 z.cps).foldl (fun x y => x ++ y) #[]).toList = _
    rw [mul_list]
    simp
  obtain ⟨a⟩ := z
  show (⟨_⟩ : Str) = _
  exact congrArg Str.mk (Array.toList_inj.mp h)
theorem mulS_nil {z : Str} {n : Nat} (h : z.length = 0) : mulS z n = z := by
  have h0 : z.cps.toList = [] := List.eq_nil_of_length_eq_zero (by rw [← str_len]; exact h)
  have h : (mulS z n).cps.toList = z.cps.toList := by
    show ((List.replicate n z.cps).foldl (fun x y => x ++ y) #[]).toList = _
    rw [mul_list, h0]
    simp
  obtain ⟨a⟩ := z
  show (⟨_⟩ : Str) = _
  exact congrArg Str.mk (Array.toList_inj.mp h)
theorem op_mulS {X : Cx} : OpR X (binaryOp .Mult) (fun x y H Q => ∃ (z : Str) (n : Nat), x = .str z ∧ y = .int n ∧ n ≤ 100000 ∧ z.length ≤ 100 ∧ Q (.str (mulS z n)) H) := by
  intro pins s σ H x y v u Q I rx ry h
  obtain ⟨z, n, rfl, rfl, hn, hz, q⟩ := h
  obtain ⟨t, rfl⟩ := rx
  obtain ⟨t2, rfl⟩ := ry
  have hz' : z.length * n ≤ 10000000 := Nat.le_trans (Nat.mul_le_mul hz hn) (by decide)
  refine P.mul_str (by simp only [Bool.or_eq_false_iff, decide_eq_false_iff_not]; omega) (fun h1 _ => ?_) (fun h1 _ => ?_) ?_
  · have h2 : (0 : Int) < n := by omega
    have h3 : (92233720368547 : Int) ≤ (2 ^ 63 - 1) / n := (Int.le_ediv_iff_mul_le h2).mpr (by omega)
    omega
  · unfold Builtin.Str.tooLong
    rw [Int.toNat_natCast, sizeLine_eq]
    exact decide_eq_false (by omega)
  · by_cases h0 : (n : Int) < 1
    · rw [if_pos h0]
      obtain rfl : n = 0 := by omega
      exact ⟨by decide, V.str (mulS z 0), H, I.tok _, ⟨_, rfl⟩, q⟩
    · rw [if_neg h0]
      by_cases h1 : ((n : Int) == 1 || z.length == 0) = true
      · rw [if_pos h1]
        have e : mulS z n = z := by
          rw [Bool.or_eq_true] at h1
          rcases h1 with h1 | h1
          · have : (n : Int) = 1 := by simpa using h1
            obtain rfl : n = 1 := by omega
            exact mulS_one
          · exact mulS_nil (by simpa using h1)
        rw [e] at q
        exact ⟨.str z, H, I, ⟨_, rfl⟩, q⟩
      · rw [if_neg h1, Int.toNat_natCast]
        refine ⟨?_, V.str (mulS z n), H, I.tok _, ⟨_, rfl⟩, q⟩
        show (mulS z n).length ≤ _
        rw [mulS_len, sizeLine_eq, Nat.mul_comm]
        omega
/-! ## 53. enumerate(list, start=0) -/
def iEnumK (K : PySem.W.Frag) (ta tk : TA) : TI := fun σ H R => ta σ H fun vs H1 => tk σ H1 fun zs H2 => ∃ a xs, vs = [.ref a] ∧ zs = [.int 0] ∧ SqL K H2 a xs ∧ R (Ite K a) H2
section
variable {X : Cx} {e e2 : Expr} {ta tk : TA} {p pos tpos : Pos} {elts : List Expr} {kk : Nat} {kws : List Keyword}
theorem pi_enumK (hg : Gl X "enumerate") (hm : X.mg "enumerate" = none) (ha : PA X [e] ta) (hk : PK X kws tk)
    (hall : (backToKw pos (keywordEach kws X.env)).all (·.1.isSome) = true := by rfl) (hks : (backToKw pos (keywordEach kws X.env)).filterMap (·.1) = ([("start" : Str)] : List Str) := by rfl)
    (hpl : ((backTo pos (starEach [e] X.env)).any (·.1) || (backToKw pos (keywordEach kws X.env)).any (·.1.isNone)) = false := by rfl) (hs : starEach [e] X.env = [(false, eval e X.env)] := by rfl) :
    PI X (.Tuple elts kk tpos) (.Call (.Name "enumerate" p) [e] kws pos) (iEnumK X.K ta tk) := by
  refine ⟨fun pins s σ H R I h => wpAny_Call_Name_kw (ld_blt I hg hm boot_enumerate ?_)⟩
  refine PySem.W.callWith_of (P := fun _ => True) hpl (fun h _ => ⟨Keeper.machine, .inr (.inl rfl), fun A Q E s k q => wpAny_pure q⟩) ?_
  refine PyProof.Rows.evalArgs_kw2 hall (thn (ha.run pos pins s σ H _ I h) fun us s1 ⟨vs, H1, I1, r1, q1⟩ => thn (hk.run pos pins s1 σ H1 _ I1 q1) fun ws s2 ⟨zs, H2, I2, r2, q2⟩ => ?_) hs
  obtain ⟨a, xs, rfl, rfl, hq, q⟩ := q2
  obtain ⟨u, rfl, rv⟩ := vals1 r1
  obtain rfl : u = Value.ref a := rv
  obtain ⟨u2, rfl, rv2⟩ := vals1 r2
  obtain ⟨t2, rfl⟩ := rv2
  rw [hks]
  have near : ∀ {b : Addr}, b ∈ [s2.heap.objs.size + 1, s2.heap.objs.size] → FpOk X pins H2 b := fun {b} hb => by
    have le : s2.heap.objs.size ≤ b := by
      rcases List.mem_cons.mp hb with z | z
      · rw [z]; exact Nat.le_succ _
      · rw [List.mem_singleton.mp z]; exact Nat.le_refl _
    exact I2.fpOk le (I2.hok.fresh le)
  obtain ⟨its, rv, p', hz⟩ := I2.list hq
  refine ⟨trivial, ?_⟩
  show wpAny _ _ (call (.type "enumerate") [.ref a] [(Str.ofString "start", .int 0 t2)]) _ _ _
  refine enum_begins_start (begins_list a its.toArray) p'.isList (by decide) (by decide) fun h' he hit _ hk' => wpAny_pyIter_enum he ?_
  exact ⟨s2.heap.objs.size + 1, [s2.heap.objs.size + 1, s2.heap.objs.size], _, _, H2, rfl, I2.kept (t' := s2.toks) hk', turn_enum a (s2.heap.objs.size + 1) s2.heap.objs.size, ⟨⟨.none, he⟩, ⟨_, hit, rfl, rfl⟩, Nat.succ_ne_self _⟩, fun b hb => near hb, q⟩
end
/-! ## 54. data in a tuple of data -/
def rInDT (K : PySem.W.Frag) : R2 := fun x y H Q => ∃ d ds, Dp K H x d ∧ Dp K H y (.tuple ds) ∧ d.plain = true ∧ PyData.plainAll ds = true ∧ d.depth ≤ 60 ∧ Q (.bl (ds.any fun z => z.eqv d)) H
theorem op_inDT {X : Cx} (hu : X.A.units + 65 < cLine) : OpR X (compareOp .In) (rInDT X.K) := by
  intro pins s σ H x y v u Q I rx ry h
  obtain ⟨d, ds, hx, hy, pd, pa, hd, q⟩ := h
  obtain ⟨as, r1⟩ := Dp.reads I (.tuple ds) y u hy ry
  obtain ⟨bs, r2⟩ := Dp.reads I d x v hx rx
  refine SeqAt.in_tuple_data r1 r2 pa pd ?_ ⟨.bl _, H, I, rfl, q⟩
  have := Nat.min_le_right (PyData.depthAll ds) d.depth
  omega
theorem plain_strsA : ∀ l : List Str, PyData.plainAll (l.map PyData.str) = true ∧ PyData.depthAll (l.map PyData.str) = 0
  | [] => ⟨rfl, rfl⟩
  | a :: l => by
    obtain ⟨h1, h2⟩ := plain_strsA l
    constructor
    · simp only [List.map_cons, PyData.plainAll, PyData.plain, h1, Bool.and_true]
    · simp only [List.map_cons, PyData.depthAll, PyData.depth, h2]
      rfl
theorem plain_strs (l : List Str) : (strD l).plain = true ∧ (strD l).depth = 1 := by
  obtain ⟨h1, h2⟩ := plain_strsA l
  unfold strD
  constructor
  · simp only [PyData.plain, h1]
  · simp only [PyData.depth, h2]
theorem call_tuple_ofK {X : Cx} {K : PySem.W.Frag} (h : X.K = K) : CallR X (.type "tuple") (fun xs H Q => ∃ p ys, xs = [.ref p] ∧ ((SqL K H p ys ∧ ∀ l, H l = none → Q (.ref l) (upd H l (.tup ys))) ∨ (SqT K H p ys ∧ Q (.ref p) H))) := by
  subst h
  exact call_tuple_of
end Bk

open PySem PySem.Spec PyProof.Rows L2 Bk
local macro_rules | `(tactic| walk_at "go1") => `(tactic| with_reducible first
  | refine r_seq ?_ | refine r_asg ?_ | refine r_name ?_ | refine r_if ?_ | refine r_ret ?_ | refine r_next ?_ | refine r_drop ?_
  | refine r_op ?_ | refine r_un ?_ | refine r_c ?_ | refine r_I0 ?_ | refine r_lstB ?_ | refine r_mth ?_ | refine r_mthK ?_ | refine r_mkS ?_ | refine r_fld ?_ | refine r_par ?_ | refine r_U ?_ | refine r_nil ?_ | refine r_cons ?_ | refine r_call ?_ | refine r_callN ?_ | refine r_for ?_ | refine r_iList ?_ | refine r_iTup ?_ | refine r_iRng1 ?_ | refine r_iRng2 ?_ | refine r_mkV ?_ | refine r_dnewK ?_ | refine r_cb ?_
  | refine r_test ?_ | refine r_tB ?_ | refine r_isb ?_ | refine r_isv ?_ | refine r_not ?_ | refine r_and ?_ | refine r_or ?_ | refine r_andV ?_ | refine r_orV ?_ | refine r_notV ?_ | refine r_chain ?_ | refine r_ifE ?_
  | refine r_lst ?_ | refine r_tup ?_ | refine r_gSub ?_ | refine r_bm ?_
  | (apply r_var; focus (with_unfolding_all rfl))
  | refine iteT ?_ | refine iteF ?_ | refine iteNF ?_ | refine iteNT ?_ | refine r_m1 ?_ | refine r_sl ?_ | refine r_noPart ?_ | refine r_part ?_ | refine r_isi ?_
  | (refine r_eq ?_ ?_; focus (with_unfolding_all (first | rfl | decide))) | (refine r_ne ?_ ?_; focus (with_unfolding_all (first | rfl | decide))))
local macro_rules | `(tactic| walk_at "go") => `(tactic| repeat (walk_at "go1"))
namespace K06
open PySem PySem.Spec PyProof.Rows L2 Bk


def topS (i : Nat) : Stmt := PySem.Challenge.pw_guestsalone_k06_image_texts_refused.main.body.getD i (.Pass ⟨0, 0, 0, 0⟩)
abbrev s_GuestError_init : Stmt := inClass (topS 1) 0
abbrev s_Missing_init : Stmt := inClass (topS 2) 0
abbrev s_Barred_init : Stmt := inClass (topS 3) 0
abbrev s_NoNumber_init : Stmt := inClass (topS 4) 0
abbrev s_NoOp_init : Stmt := inClass (topS 5) 0
abbrev s_NoTruth_init : Stmt := inClass (topS 6) 0
abbrev s_NoText_init : Stmt := inClass (topS 7) 0
abbrev s_NoRow_init : Stmt := inClass (topS 8) 0
abbrev s_is_whole : Stmt := topS 12
abbrev s_number_in : Stmt := topS 13
abbrev s_written : Stmt := topS 14
abbrev s_all_within : Stmt := topS 15
abbrev s_check_number : Stmt := topS 17
abbrev s_code : Stmt := topS 20
abbrev s_op_of : Stmt := topS 21
abbrev s_entry : Stmt := topS 22
abbrev s_read_image : Stmt := topS 26
abbrev s_cut_rows : Stmt := topS 27
abbrev s_image_in : Stmt := topS 28
abbrev s_filled : Stmt := topS 29
abbrev s_number_begun : Stmt := topS 30
abbrev s_word_in : Stmt := topS 31
abbrev s_entry_in : Stmt := topS 32
abbrev s_code_in : Stmt := topS 33
abbrev s_cell_L : Stmt := topS 35
abbrev s_box_L : Stmt := topS 36
abbrev s_take_L : Stmt := topS 37
abbrev s_ops_L : Stmt := topS 38
abbrev s_drawn_row_L : Stmt := topS 39
abbrev s_other_word_L : Stmt := topS 40
abbrev s_sign_L : Stmt := topS 41
abbrev s_bent_L : Stmt := topS 42
abbrev s_plain_L : Stmt := topS 43
abbrev s_word_L : Stmt := topS 44
abbrev s_due_L : Stmt := topS 45
abbrev s_told_L : Stmt := topS 46
abbrev s_law : Stmt := topS 47
theorem sc_GuestError_init : FnScope ["self", "text"] ["self", "text"] (defScope s_GuestError_init) := ⟨rfl, rfl, rfl, by decide +kernel, rfl, by decide +kernel, by decide +kernel⟩
theorem sc_Missing_init : FnScope ["self", "text"] ["self", "text"] (defScope s_Missing_init) := ⟨rfl, rfl, rfl, by decide +kernel, rfl, by decide +kernel, by decide +kernel⟩
theorem sc_Barred_init : FnScope ["self", "text"] ["self", "text"] (defScope s_Barred_init) := ⟨rfl, rfl, rfl, by decide +kernel, rfl, by decide +kernel, by decide +kernel⟩
theorem sc_NoNumber_init : FnScope ["self", "found"] ["self", "found"] (defScope s_NoNumber_init) := ⟨rfl, rfl, rfl, by decide +kernel, rfl, by decide +kernel, by decide +kernel⟩
theorem sc_NoOp_init : FnScope ["self", "found"] ["self", "found"] (defScope s_NoOp_init) := ⟨rfl, rfl, rfl, by decide +kernel, rfl, by decide +kernel, by decide +kernel⟩
theorem sc_NoTruth_init : FnScope ["self", "found"] ["self", "found"] (defScope s_NoTruth_init) := ⟨rfl, rfl, rfl, by decide +kernel, rfl, by decide +kernel, by decide +kernel⟩
theorem sc_NoText_init : FnScope ["self", "found"] ["self", "found"] (defScope s_NoText_init) := ⟨rfl, rfl, rfl, by decide +kernel, rfl, by decide +kernel, by decide +kernel⟩
theorem sc_NoRow_init : FnScope ["self", "at"] ["self", "at"] (defScope s_NoRow_init) := ⟨rfl, rfl, rfl, by decide +kernel, rfl, by decide +kernel, by decide +kernel⟩
theorem sc_is_whole : FnScope ["thing", "low", "high"] ["thing", "low", "high"] (defScope s_is_whole) := ⟨rfl, rfl, rfl, by decide +kernel, rfl, by decide +kernel, by decide +kernel⟩
theorem sc_number_in : FnScope ["thing", "least", "most", "number"] ["thing", "least", "most"] (defScope s_number_in) := ⟨rfl, rfl, rfl, by decide +kernel, rfl, by decide +kernel, by decide +kernel⟩
theorem sc_written : FnScope ["thing", "figures"] ["thing", "figures"] (defScope s_written) := ⟨rfl, rfl, rfl, by decide +kernel, rfl, by decide +kernel, by decide +kernel⟩
theorem sc_all_within : FnScope ["text", "first", "last", "sign"] ["text", "first", "last"] (defScope s_all_within) := ⟨rfl, rfl, rfl, by decide +kernel, rfl, by decide +kernel, by decide +kernel⟩
theorem sc_check_number : FnScope ["thing", "low", "high"] ["thing", "low", "high"] (defScope s_check_number) := ⟨rfl, rfl, rfl, by decide +kernel, rfl, by decide +kernel, by decide +kernel⟩
theorem sc_code : FnScope ["op", "which", "rest"] ["op", "which", "rest"] (defScope s_code) := ⟨rfl, rfl, rfl, by decide +kernel, rfl, by decide +kernel, by decide +kernel⟩
theorem sc_op_of : FnScope ["name", "number", "op"] ["name"] (defScope s_op_of) := ⟨rfl, rfl, rfl, by decide +kernel, rfl, by decide +kernel, by decide +kernel⟩
theorem sc_entry : FnScope ["room", "write"] ["room", "write"] (defScope s_entry) := ⟨rfl, rfl, rfl, by decide +kernel, rfl, by decide +kernel, by decide +kernel⟩
theorem sc_read_image : FnScope ["text"] ["text"] (defScope s_read_image) := ⟨rfl, rfl, rfl, by decide +kernel, rfl, by decide +kernel, by decide +kernel⟩
theorem sc_cut_rows : FnScope ["rows", "first", "cut", "at", "row", "parts", "part"] ["rows", "first"] (defScope s_cut_rows) := ⟨rfl, rfl, rfl, by decide +kernel, rfl, by decide +kernel, by decide +kernel⟩
theorem sc_image_in : FnScope ["rows", "told", "words", "at", "parts", "number", "word"] ["rows"] (defScope s_image_in) := ⟨rfl, rfl, rfl, by decide +kernel, rfl, by decide +kernel, by decide +kernel⟩
theorem sc_filled : FnScope ["told", "rows", "number", "words"] ["told"] (defScope s_filled) := ⟨rfl, rfl, rfl, by decide +kernel, rfl, by decide +kernel, by decide +kernel⟩
theorem sc_number_begun : FnScope ["parts"] ["parts"] (defScope s_number_begun) := ⟨rfl, rfl, rfl, by decide +kernel, rfl, by decide +kernel, by decide +kernel⟩
theorem sc_word_in : FnScope ["parts"] ["parts"] (defScope s_word_in) := ⟨rfl, rfl, rfl, by decide +kernel, rfl, by decide +kernel, by decide +kernel⟩
theorem sc_entry_in : FnScope ["parts", "write", "room"] ["parts"] (defScope s_entry_in) := ⟨rfl, rfl, rfl, by decide +kernel, rfl, by decide +kernel, by decide +kernel⟩
theorem sc_code_in : FnScope ["parts", "which", "rest"] ["parts"] (defScope s_code_in) := ⟨rfl, rfl, rfl, by decide +kernel, rfl, by decide +kernel, by decide +kernel⟩
theorem sc_cell_L : FnScope ["_law_script", "_law_k"] ["_law_script", "_law_k"] (defScope s_cell_L) := ⟨rfl, rfl, rfl, by decide +kernel, rfl, by decide +kernel, by decide +kernel⟩
theorem sc_box_L : FnScope ["_law_cell_here"] ["_law_cell_here"] (defScope s_box_L) := ⟨rfl, rfl, rfl, by decide +kernel, rfl, by decide +kernel, by decide +kernel⟩
theorem sc_take_L : FnScope ["_law_box_here", "_law_many", "_law_digit", "_law_one", "_law_two"] ["_law_box_here", "_law_many"] (defScope s_take_L) := ⟨rfl, rfl, rfl, by decide +kernel, rfl, by decide +kernel, by decide +kernel⟩
theorem sc_ops_L : FnScope ["_law_some"] [] (defScope s_ops_L) := ⟨rfl, rfl, rfl, by decide +kernel, rfl, by decide +kernel, by decide +kernel⟩
theorem sc_drawn_row_L : FnScope ["_law_box_here", "_law_way", "_law_op", "_law_slot", "_law_rest"] ["_law_box_here"] (defScope s_drawn_row_L) := ⟨rfl, rfl, rfl, by decide +kernel, rfl, by decide +kernel, by decide +kernel⟩
theorem sc_other_word_L : FnScope ["_law_box_here", "_law_words", "_law_way", "_law_at", "_law_some"] ["_law_box_here", "_law_words"] (defScope s_other_word_L) := ⟨rfl, rfl, rfl, by decide +kernel, rfl, by decide +kernel, by decide +kernel⟩
theorem sc_sign_L : FnScope ["_law_box_here", "_law_page"] ["_law_box_here"] (defScope s_sign_L) := ⟨rfl, rfl, rfl, by decide +kernel, rfl, by decide +kernel, by decide +kernel⟩
theorem sc_bent_L : FnScope ["_law_box_here", "_law_rows", "_law_way", "_law_at", "_law_to", "_law_row", "_law_spot", "_law_sign_here", "_law_words"] ["_law_box_here", "_law_rows"] (defScope s_bent_L) := ⟨rfl, rfl, rfl, by decide +kernel, rfl, by decide +kernel, by decide +kernel⟩
theorem sc_plain_L : FnScope ["_law_word_here", "_law_most", "_law_sign_here"] ["_law_word_here", "_law_most"] (defScope s_plain_L) := ⟨rfl, rfl, rfl, by decide +kernel, rfl, by decide +kernel, by decide +kernel⟩
theorem sc_word_L : FnScope ["_law_words", "_law_slot", "_law_rest", "_law_good"] ["_law_words"] (defScope s_word_L) := ⟨rfl, rfl, rfl, by decide +kernel, rfl, by decide +kernel, by decide +kernel⟩
theorem sc_due_L : FnScope ["_law_text", "_law_found", "_law_filling", "_law_number", "_law_row", "_law_words", "_law_parts", "_law_head", "_law_word_here"] ["_law_text"] (defScope s_due_L) := ⟨rfl, rfl, rfl, by decide +kernel, rfl, by decide +kernel, by decide +kernel⟩
theorem sc_told_L : FnScope ["_law_text", "e"] ["_law_text"] (defScope s_told_L) := ⟨rfl, rfl, rfl, by decide +kernel, rfl, by decide +kernel, by decide +kernel⟩
theorem sc_law : FnScope ["_law_script", "_law_k", "_law_box_here", "_law_rows", "_law_turn", "_law_ahead", "_law_text", "_law_odd", "_law_found"] ["_law_script"] (defScope s_law) := ⟨rfl, rfl, rfl, by decide +kernel, rfl, by decide +kernel, by decide +kernel⟩
structure Ad where
  CG : Addr
  fG : Addr
  aOPS : Addr
  CM : Addr
  fM : Addr
  CO : Addr
  fO : Addr
  CT : Addr
  fT : Addr
  CX : Addr
  fX : Addr
  CR : Addr
  fR : Addr
def opsL : List Str := ["halt", "set", "load", "save", "from", "into", "add", "sub", "part", "jump", "base", "trap", "time", "out", "in", "wait"]
structure Txt (K : PySem.W.Frag) (mg : Str → Option Value) (A : Ad) : Prop where
  m_isinstance : mg "isinstance" = none
  m_int : mg "int" = none
  m_bool : mg "bool" = none
  m_str : mg "str" = none
  m_list : mg "list" = none
  m_tuple : mg "tuple" = none
  m_len : mg "len" = none
  m_max : mg "max" = none
  m_min : mg "min" = none
  m_range : mg "range" = none
  m_all : mg "all" = none
  m_enumerate : mg "enumerate" = none
  m_repr : mg "repr" = none
  m_ValueError : mg "ValueError" = none
  c_SHORT : ∃ u, mg "SHORT" = some u ∧ RelV (.int 6) u
  c_EIGHT : ∃ u, mg "EIGHT" = some u ∧ RelV (.int 8) u
  c_LAST : ∃ u, mg "LAST" = some u ∧ RelV (.int 7) u
  c_OPS : ∃ u, mg "OPS" = some u ∧ RelV (.ref A.aOPS) u
  ops : ∀ H : Hp, SqT K H A.aOPS (opsL.map V.str)
  g_GuestError : mg "GuestError" = some (.ref A.CG)
  rd_GuestError : PySem.W.readsIn K A.CG (.type "type") = true
  ga_GuestError : PySem.W.specialIn K (.ref A.CG) "__getattribute__" = some (some (.builtin "type.__getattribute__"))
  at_GuestError : PySem.W.findCls K (.ref A.CG) (.type "type") "__init__" = some (.val (.ref A.fG))
  vV : PySem.W.findCls K (.type "ValueError") (.type "type") "__init__" = some (.val (.builtin "ValueError.__init__"))
  g_NoNumber : mg "NoNumber" = some (.ref A.CM)
  xM : ExcA K .ve "found" A.CM A.fM
  g_NoOp : mg "NoOp" = some (.ref A.CO)
  xO : ExcA K .ve "found" A.CO A.fO
  g_NoTruth : mg "NoTruth" = some (.ref A.CT)
  xT : ExcA K .ve "found" A.CT A.fT
  g_NoText : mg "NoText" = some (.ref A.CX)
  xX : ExcA K .ve "found" A.CX A.fX
  g_NoRow : mg "NoRow" = some (.ref A.CR)
  xR : ExcA K .ve "at" A.CR A.fR
  eRR : PySem.W.exmOne K (.ref A.CR) (.ref A.CR) = some true
  eXR : PySem.W.exmOne K (.ref A.CX) (.ref A.CR) = some false
  eXX : PySem.W.exmOne K (.ref A.CX) (.ref A.CX) = some true
section
variable {K : PySem.W.Frag} {mg : Str → Option Value} {A : Ad}
theorem Txt.nf_NoNumber (T : Txt K mg A) : PySem.W.findIn K (.ref A.CM) "found" = some none := T.xM.nf
theorem Txt.ox_NoNumber (T : Txt K mg A) : OexT K .ve A.CM := T.xM.ox
theorem Txt.i_NoNumber (T : Txt K mg A) : PySem.W.findIn K (.ref A.CM) "__init__" = some (some (.ref A.fM)) := T.xM.i
theorem Txt.t_NoNumber (T : Txt K mg A) : PySem.W.typeIn K (.ref A.fM) = some (.type "function") := T.xM.t
theorem Txt.xf_NoNumber (T : Txt K mg A) : XfC K A.CM := T.xM.xf
theorem Txt.nf_NoOp (T : Txt K mg A) : PySem.W.findIn K (.ref A.CO) "found" = some none := T.xO.nf
theorem Txt.ox_NoOp (T : Txt K mg A) : OexT K .ve A.CO := T.xO.ox
theorem Txt.i_NoOp (T : Txt K mg A) : PySem.W.findIn K (.ref A.CO) "__init__" = some (some (.ref A.fO)) := T.xO.i
theorem Txt.t_NoOp (T : Txt K mg A) : PySem.W.typeIn K (.ref A.fO) = some (.type "function") := T.xO.t
theorem Txt.xf_NoOp (T : Txt K mg A) : XfC K A.CO := T.xO.xf
theorem Txt.nf_NoTruth (T : Txt K mg A) : PySem.W.findIn K (.ref A.CT) "found" = some none := T.xT.nf
theorem Txt.ox_NoTruth (T : Txt K mg A) : OexT K .ve A.CT := T.xT.ox
theorem Txt.i_NoTruth (T : Txt K mg A) : PySem.W.findIn K (.ref A.CT) "__init__" = some (some (.ref A.fT)) := T.xT.i
theorem Txt.t_NoTruth (T : Txt K mg A) : PySem.W.typeIn K (.ref A.fT) = some (.type "function") := T.xT.t
theorem Txt.xf_NoTruth (T : Txt K mg A) : XfC K A.CT := T.xT.xf
theorem Txt.nf_NoText (T : Txt K mg A) : PySem.W.findIn K (.ref A.CX) "found" = some none := T.xX.nf
theorem Txt.ox_NoText (T : Txt K mg A) : OexT K .ve A.CX := T.xX.ox
theorem Txt.i_NoText (T : Txt K mg A) : PySem.W.findIn K (.ref A.CX) "__init__" = some (some (.ref A.fX)) := T.xX.i
theorem Txt.t_NoText (T : Txt K mg A) : PySem.W.typeIn K (.ref A.fX) = some (.type "function") := T.xX.t
theorem Txt.xf_NoText (T : Txt K mg A) : XfC K A.CX := T.xX.xf
theorem Txt.nf_NoRow (T : Txt K mg A) : PySem.W.findIn K (.ref A.CR) "at" = some none := T.xR.nf
theorem Txt.ox_NoRow (T : Txt K mg A) : OexT K .ve A.CR := T.xR.ox
theorem Txt.i_NoRow (T : Txt K mg A) : PySem.W.findIn K (.ref A.CR) "__init__" = some (some (.ref A.fR)) := T.xR.i
theorem Txt.t_NoRow (T : Txt K mg A) : PySem.W.typeIn K (.ref A.fR) = some (.type "function") := T.xR.t
theorem Txt.xf_NoRow (T : Txt K mg A) : XfC K A.CR := T.xR.xf
end
/-! ### what texts write -/
def spAllW : Sp := fun vs H Q _ => ∃ (z F L : Str) (f l : Nat), vs = [.str z, .str F, .str L] ∧ F.cps.toList = [f] ∧ L.cps.toList = [l] ∧ z.length ≤ 20000 ∧ ∀ H', Same H H' → Q (.bl (allW f l z)) H'
/-- what figures write, -1 of what is none -/
def valOf (z : Str) : Int := if (1 ≤ z.length ∧ z.length ≤ 6) ∧ allW 48 57 z = true then (if z.cps.toList[0]? = some 48 ∧ 1 < z.length then -1 else ((NumText.digitsVal z.cps.toList : Nat) : Int)) else -1
def wrV (z : Str) : V := if valOf z = -1 then .non else .int (valOf z)
def spWr : Sp := fun vs H Q _ => ∃ z : Str, vs = [.str z, .int 6] ∧ z.length ≤ 20000 ∧ ∀ H', Same H H' → Q (wrV z) H'
def numN (z : Str) (hi : Nat) : Option Nat := if 0 ≤ valOf z ∧ valOf z ≤ hi then some (valOf z).toNat else none
def optV : Option Nat → V
  | some n => .int n
  | none => .non
def spNum : Sp := fun vs H Q _ => ∃ (z : Str) (hi : Nat), vs = [.str z, .int 0, .int hi] ∧ z.length ≤ 20000 ∧ ∀ H', Same H H' → Q (optV (numN z hi)) H'
theorem valOf_ge {z : Str} (h : valOf z ≠ -1) : 0 ≤ valOf z := by
  unfold valOf at h ⊢
  split at h
  · rename_i c
    rw [if_pos c]
    split at h
    · exact absurd rfl h
    · rename_i d
      rw [if_neg d]
      omega
  · exact absurd rfl h
theorem digits_of_allW {z : Str} (h : allW 48 57 z = true) : NumText.AllDigits z.cps.toList := fun c hc => by
  have q := List.all_eq_true.mp h c hc
  rw [Bool.and_eq_true] at q
  exact ⟨of_decide_eq_true q.1, of_decide_eq_true q.2⟩
theorem int_text {z : Str} (h : allW 48 57 z = true) (h1 : 1 ≤ z.length) (h2 : z.length ≤ 6) : PySem.intText? z = some ((NumText.digitsVal z.cps.toList : Nat) : Int) := by
  have l : z.cps.toList.length = z.length := Array.length_toList
  exact PySem.intText_digits (digits_of_allW h) (fun e => by rw [e] at l; rw [← l] at h1; exact absurd h1 (by decide)) (by omega)
/-- int(z) of what writes a number -/
theorem int_val {z : Str} (h : 0 ≤ valOf z) : PySem.intText? z = some (valOf z) ∧ z.length ≤ 6 := by
  unfold valOf at h ⊢
  split at h
  · rename_i c
    rw [if_pos c]
    split at h
    · exact absurd h (by decide)
    · rename_i d
      rw [if_neg d]
      exact ⟨int_text c.2 c.1.1 c.1.2, c.1.2⟩
  · exact absurd h (by decide)
/-! ### rows of a text -/
def begun : List Str → Option (Bool × Nat)
  | [a, b] => if a = ("room" : Str) then (numN b 7).map fun n => (true, n) else if a = ("block" : Str) then (numN b 7).map fun n => (false, n) else none
  | _ => none
def entryOf : List Str → Option Nat
  | [_, b] => (numN b 7).map fun n => n * 4 + 1
  | [_, b, c] => if c = ("write" : Str) then (numN b 7).map fun n => n * 4 + 3 else none
  | _ => none
def codeOf : List Str → Option Nat
  | [a, b, c] => if a ∈ opsL then (match numN b 3, numN c 63 with
    | some j, some k => some (opsL.idxOf a * 256 + j * 64 + k)
    | _, _ => none) else none
  | _ => none
def oneOf : List Str → Option Nat
  | [b] => numN b 4095
  | _ => none
def headOf : List Str → Option Nat
  | [] => none
  | a :: r => if a = ("leaf" : Str) then entryOf (a :: r) else if a = ("word" : Str) then oneOf r else codeOf (a :: r)
def wordOf (ps : List Str) : Option Nat := if ps = [("none" : Str)] then some 0 else headOf ps
def spGood4 (lo : Int) : Sp := fun vs H Q _ => ∃ x hi : Int, vs = [.int x, .int lo, .int hi] ∧ lo ≤ x ∧ x ≤ hi ∧ Q .non H
def spWh : Sp := fun vs H Q _ => ∃ x lo hi : Int, vs = [.int x, .int lo, .int hi] ∧ Q (.bl (decide (lo ≤ x ∧ x ≤ hi))) H
def spCkN : Sp := fun vs H Q _ => ∃ x lo hi : Int, vs = [.int x, .int lo, .int hi] ∧ lo ≤ x ∧ x ≤ hi ∧ Q .non H
def spCode : Sp := fun vs H Q _ => ∃ i j k : Nat, vs = [.int i, .int j, .int k] ∧ i ≤ 15 ∧ j ≤ 3 ∧ k ≤ 63 ∧ Q (.int ((i * 256 + j * 64 + k : Nat) : Int)) H
def spOp : Sp := fun vs H Q _ => ∃ a : Str, vs = [.str a] ∧ a ∈ opsL ∧ ∀ H', Same H H' → Q (.int (opsL.idxOf a : Nat)) H'
def spEntry : Sp := fun vs H Q _ => ∃ (i : Nat) (c : Bool), vs = [.int i, .bl c] ∧ i ≤ 7 ∧ Q (.int ((i * 4 + (if c then 3 else 1) : Nat) : Int)) H
section
variable {P : Program} {w : World} {K : PySem.W.Frag} {mg : Str → Option Value} {base : Heap} {A : Ad}
theorem ok_cell {f : Addr} {fd : FuncData} (F : Fun K "_law_cell" "_law_cell" s_cell_L f fd) (T : Txt K mg A) : FnOk P w K mg base CX0 1 f fd ["_law_script", "_law_k"] (Bk.spCell K) := by
  refine F.ok sc_cell_L (fun vs H Q E h => ?_) (fun cdv A' outer s H vs Q E hr h => ⟨_, (pss_cons (ps_if (pt_cmpR op_lt (pv 1) (pe_callB call_len_seq (by rfl) T.m_len (by decide +kernel) (pa_cons (pv 0) pa_nil)) (nomark _)) (pss_one (ps_ret (pe_ix ix_list (pv 0) (pv 1) (fun _ _ => rfl)))) pss_nil)
    (pss_one (ps_ret (pe_op op_add (pe_op op_mulW pe_int (pv 1)) pe_int)))), ?_⟩)
  · obtain ⟨a, ns, k, rfl, _⟩ := h
    rfl
  · obtain ⟨a, ns, k, rfl, hS, hk, q⟩ := h
    walk_at "go"
    refine ⟨a, _, rfl, .inl hS, ?_⟩
    walk_at "go"
    refine ite2 (fun e => ?_) (fun e => ?_)
    · walk_at "go"
      have hl : k < ns.length := by
        have z := of_decide_eq_true e
        rw [List.length_map] at z
        omega
      exact r_ixL hS (at_map hl) (q _)
    · walk_at "go"
      refine r_I (cmul (by decide) (by decide) (by omega) (by omega)) ?_
      walk_at "go"
      exact q _
theorem ok_box {f : Addr} {fd : FuncData} (F : Fun K "_law_box" "_law_box" s_box_L f fd) (T : Txt K mg A) : FnOk P w K mg base CX0 1 f fd ["_law_cell_here"] spBox := by
  refine F.ok sc_box_L (fun vs H Q E h => ?_) (fun cdv A' outer s H vs Q E hr h => ⟨_, (pss_one (ps_ret (pe_lstB (pa_cons (pe_callB (call_max2 rfl) (by rfl) T.m_max (by decide +kernel) (pa_cons pe_int (pa_cons (pe_op op_sub (pv 0) (pe_op op_pow pe_int pe_int)) pa_nil))) (pa_cons (pe_op op_mod (pv 0) pe_int) (pa_cons pe_int pa_nil)))))), ?_⟩)
  · obtain ⟨c, rfl, _⟩ := h
    rfl
  · obtain ⟨c, rfl, q⟩ := h
    walk_at "go"
    refine r_I ⟨by decide, by decide, by decide⟩ ?_
    walk_at "go"
    refine ⟨_, _, rfl, ?_⟩
    walk_at "go"
    refine r_I (by decide) ?_
    walk_at "go"
    refine newLB fun p H' np ns sm e => q p H' np sm ⟨_, _, _, e, ?_, ?_, ?_, ?_, ?_⟩ <;> first | omega | (split <;> omega)
theorem ok_take {f : Addr} {fd : FuncData} (F : Fun K "_law_take" "_law_take" s_take_L f fd) (T : Txt K mg A) : FnOk P w K mg base CX0 1 f fd ["_law_box_here", "_law_many"] spTake := by
  refine F.ok sc_take_L (fun vs H Q E h => ?_) (fun cdv A' outer s H vs Q E hr h => ⟨_, (pss_cons (ps_if (pt_cmpR op_gt (pe_ix ix_list (pv 0) pe_int (fun _ _ => rfl)) pe_int (nomark _)) (pss_cons (ps_set (i := 2) sc_take_L.nd rfl (.inl rfl) (pe_op op_mod (pe_ix ix_list (pv 0) pe_int (fun _ _ => rfl)) (pv 1)))
    (pss_cons (ps_asg (pe_op op_fdivW (pe_ix ix_list (pv 0) pe_int (fun _ _ => rfl)) (pv 1)) (pg_sub (pv 0) pe_int set_list))
    (pss_one (ps_ret (pv 2))))) pss_nil)
    (pss_cons (ps_asg (pe_op op_add (pe_ix ix_list (pv 0) pe_int (fun _ _ => rfl)) pe_int) (pg_sub (pv 0) pe_int set_list))
    (pss_cons (ps_set (i := 3) sc_take_L.nd rfl (.inl rfl) (pe_op op_mod (pe_op op_pow (pe_op op_add (pe_op op_add (pe_ix ix_list (pv 0) pe_int (fun _ _ => rfl)) (pe_op op_mulW pe_int (pe_ix ix_list (pv 0) pe_int (fun _ _ => rfl)))) pe_int) pe_int) pe_int))
    (pss_cons (ps_set (i := 4) sc_take_L.nd rfl (.inl rfl) (pe_op op_mod (pe_op op_pow (pe_op op_add (pe_op op_add (pe_op op_fdivW (pv 3) pe_int) (pe_op op_mulW pe_int (pe_ix ix_list (pv 0) pe_int (fun _ _ => rfl)))) pe_int) pe_int) pe_int))
    (pss_one (ps_ret (pe_op op_mod (pe_op op_add (pe_op op_fdivW (pv 3) pe_int) (pe_op op_mulW pe_int (pe_op op_fdivW (pv 4) pe_int))) (pv 1)))))))), ?_⟩)
  · obtain ⟨a, n, size, rfl, _⟩ := h
    rfl
  · obtain ⟨a, n, size, rfl, ⟨x, y, z, e, hx, hy, hy2, hz, hz2⟩, hn, h0, h1, q⟩ := h
    have i0 : SqL K H a [.int x, .int y, .int z] := sqL e
    walk_at "go"
    refine r_ixL i0 (v := .int x) rfl ?_
    walk_at "go"
    refine ite2 (fun hp => ?_) (fun hp => ?_)
    · walk_at "go"
      refine r_ixL i0 (v := .int x) rfl ?_
      walk_at "go"
      refine r_I h0 ?_
      walk_at "go"
      refine r_ixL i0 (v := .int x) rfl ?_
      walk_at "go"
      refine r_I (cdiv h0 h1) ?_
      walk_at "go"
      refine ⟨a, _, 0, 0, rfl, rfl, e, rfl, ?_⟩
      walk_at "go"
      exact q _ _ (Int.emod_nonneg _ (by omega)) (Int.emod_lt_of_pos _ h0) ⟨x / size, y, z, upd_same, Int.ediv_nonneg hx (by omega), hy, hy2, hz, by omega⟩ But.upd
    · walk_at "go"
      refine r_ixL i0 (v := .int z) rfl ?_
      walk_at "go"
      refine ⟨a, _, 2, 2, rfl, rfl, e, rfl, ?_⟩
      have i1 : SqL K (upd H a (.lst [.int x, .int y, .int (z + 1)])) a [.int x, .int y, .int (z + 1)] := sqL upd_same
      walk_at "go"
      refine r_ixL i1 (v := .int y) rfl ?_
      walk_at "go"
      refine r_ixL i1 (v := .int (z + 1)) rfl ?_
      refine r_I (cmul (by decide) (by decide) (by omega) (by omega)) ?_
      walk_at "go"
      have g1 : (y + 7919 * (z + 1) + 29).natAbs < 2 ^ 64 := by omega
      refine r_I ⟨by decide, by decide, g1⟩ ?_
      walk_at "go"
      refine r_I (by decide) ?_
      walk_at "go"
      generalize hone : (y + 7919 * (z + 1) + 29) ^ (Int.toNat 5) % 2147483647 = one
      have o1 : 0 ≤ one := by rw [← hone]; exact Int.emod_nonneg _ (by decide)
      have o2 : one < 2147483647 := by rw [← hone]; exact Int.emod_lt_of_pos _ (by decide)
      refine r_I (cdiv (by decide) (by decide)) ?_
      walk_at "go"
      refine r_ixL i1 (v := .int (z + 1)) rfl ?_
      refine r_I (cmul (by decide) (by decide) (by omega) (by omega)) ?_
      walk_at "go"
      have g2 : (one / 8 + 104729 * (z + 1) + 11).natAbs < 2 ^ 64 := by omega
      refine r_I ⟨by decide, by decide, g2⟩ ?_
      walk_at "go"
      refine r_I (by decide) ?_
      walk_at "go"
      generalize htwo : (one / 8 + 104729 * (z + 1) + 11) ^ (Int.toNat 3) % 2147483629 = two
      have t1 : 0 ≤ two := by rw [← htwo]; exact Int.emod_nonneg _ (by decide)
      have t2 : two < 2147483629 := by rw [← htwo]; exact Int.emod_lt_of_pos _ (by decide)
      refine r_I (cdiv (by decide) (by decide)) ?_
      walk_at "go"
      refine r_I (cdiv (by decide) (by decide)) ?_
      refine r_I (cmul (by decide) (by decide) (by omega) (by omega)) ?_
      walk_at "go"
      refine r_I h0 ?_
      exact q _ _ (Int.emod_nonneg _ (by omega)) (Int.emod_lt_of_pos _ h0) ⟨x, y, z + 1, upd_same, hx, hy, hy2, by omega, by omega⟩ But.upd

theorem ok_GE {f : Addr} {fd : FuncData} (F : Fun K "__init__" "GuestError.__init__" s_GuestError_init f fd) (T : Txt K mg A) : FnOk P w K mg base CX0 1 f fd ["self", "text"] (spGT K .ve) := by
  refine F.ok sc_GuestError_init (fun vs H Q E h => ?_) (fun cdv A' outer s H vs Q E hr h => ⟨_, (pss_one (ps_expr (pe_veI (by rfl) T.m_ValueError T.vV (pa_cons (pv 0) (pa_cons (pv 1) pa_nil))))), ?_⟩)
  · obtain ⟨a, C, x, rfl, _⟩ := h
    rfl
  · obtain ⟨a, C, x, rfl, hC, e, q⟩ := h
    exact ⟨_, rfl, _, rfl, a, C, [x], rfl, Nat.le_of_ble_eq_true rfl, hC, e, q⟩
theorem ok_iM {f : Addr} {fd fdG : FuncData} (F : Fun K "__init__" "NoNumber.__init__" s_NoNumber_init f fd) (T : Txt K mg A) (c_GuestError_init : Own P w K mg base CX0 1 A.fG fdG ["self", "text"] (spGT K .ve)) : FnOk P w K mg base CX0 2 f fd ["self", "found"] (spInitN "found" A.CM) := by
  refine F.ok sc_NoNumber_init (fun vs H Q E h => ?_) (fun cdv A' outer s H vs Q E hr h => ⟨_, (pss_cons (ps_expr (pe_cdef c_GuestError_init.ok hr (by rfl) T.g_GuestError T.rd_GuestError T.ga_GuestError T.at_GuestError c_GuestError_init.kp c_GuestError_init.bd .nil pass0 (pa_cons (pv 0) (pa_cons pe_str pa_nil))))
    (pss_one (ps_osN (pv 0) (pv 1)))), ?_⟩)
  · obtain ⟨a, x, rfl, _⟩ := h
    rfl
  · obtain ⟨a, x, rfl, e, q⟩ := h
    walk_at "go"
    exact ⟨a, A.CM, _, rfl, T.ox_NoNumber, e, x, rfl, .ref a, rfl, .ve, a, A.CM, rfl, T.ox_NoNumber, T.nf_NoNumber, e, q⟩
theorem ok_iO {f : Addr} {fd fdG : FuncData} (F : Fun K "__init__" "NoOp.__init__" s_NoOp_init f fd) (T : Txt K mg A) (c_GuestError_init : Own P w K mg base CX0 1 A.fG fdG ["self", "text"] (spGT K .ve)) : FnOk P w K mg base CX0 2 f fd ["self", "found"] (spInitN "found" A.CO) := by
  refine F.ok sc_NoOp_init (fun vs H Q E h => ?_) (fun cdv A' outer s H vs Q E hr h => ⟨_, (pss_cons (ps_expr (pe_cdef c_GuestError_init.ok hr (by rfl) T.g_GuestError T.rd_GuestError T.ga_GuestError T.at_GuestError c_GuestError_init.kp c_GuestError_init.bd .nil pass0 (pa_cons (pv 0) (pa_cons pe_str pa_nil))))
    (pss_one (ps_osN (pv 0) (pv 1)))), ?_⟩)
  · obtain ⟨a, x, rfl, _⟩ := h
    rfl
  · obtain ⟨a, x, rfl, e, q⟩ := h
    walk_at "go"
    exact ⟨a, A.CO, _, rfl, T.ox_NoOp, e, x, rfl, .ref a, rfl, .ve, a, A.CO, rfl, T.ox_NoOp, T.nf_NoOp, e, q⟩
theorem ok_iT {f : Addr} {fd fdG : FuncData} (F : Fun K "__init__" "NoTruth.__init__" s_NoTruth_init f fd) (T : Txt K mg A) (c_GuestError_init : Own P w K mg base CX0 1 A.fG fdG ["self", "text"] (spGT K .ve)) : FnOk P w K mg base CX0 2 f fd ["self", "found"] (spInitN "found" A.CT) := by
  refine F.ok sc_NoTruth_init (fun vs H Q E h => ?_) (fun cdv A' outer s H vs Q E hr h => ⟨_, (pss_cons (ps_expr (pe_cdef c_GuestError_init.ok hr (by rfl) T.g_GuestError T.rd_GuestError T.ga_GuestError T.at_GuestError c_GuestError_init.kp c_GuestError_init.bd .nil pass0 (pa_cons (pv 0) (pa_cons pe_str pa_nil))))
    (pss_one (ps_osN (pv 0) (pv 1)))), ?_⟩)
  · obtain ⟨a, x, rfl, _⟩ := h
    rfl
  · obtain ⟨a, x, rfl, e, q⟩ := h
    walk_at "go"
    exact ⟨a, A.CT, _, rfl, T.ox_NoTruth, e, x, rfl, .ref a, rfl, .ve, a, A.CT, rfl, T.ox_NoTruth, T.nf_NoTruth, e, q⟩
theorem ok_iX {f : Addr} {fd fdG : FuncData} (F : Fun K "__init__" "NoText.__init__" s_NoText_init f fd) (T : Txt K mg A) (c_GuestError_init : Own P w K mg base CX0 1 A.fG fdG ["self", "text"] (spGT K .ve)) : FnOk P w K mg base CX0 2 f fd ["self", "found"] (spInitN "found" A.CX) := by
  refine F.ok sc_NoText_init (fun vs H Q E h => ?_) (fun cdv A' outer s H vs Q E hr h => ⟨_, (pss_cons (ps_expr (pe_cdef c_GuestError_init.ok hr (by rfl) T.g_GuestError T.rd_GuestError T.ga_GuestError T.at_GuestError c_GuestError_init.kp c_GuestError_init.bd .nil pass0 (pa_cons (pv 0) (pa_cons pe_str pa_nil))))
    (pss_one (ps_osN (pv 0) (pv 1)))), ?_⟩)
  · obtain ⟨a, x, rfl, _⟩ := h
    rfl
  · obtain ⟨a, x, rfl, e, q⟩ := h
    walk_at "go"
    exact ⟨a, A.CX, _, rfl, T.ox_NoText, e, x, rfl, .ref a, rfl, .ve, a, A.CX, rfl, T.ox_NoText, T.nf_NoText, e, q⟩
theorem ok_iR {f : Addr} {fd fdG : FuncData} (F : Fun K "__init__" "NoRow.__init__" s_NoRow_init f fd) (T : Txt K mg A) (c_GuestError_init : Own P w K mg base CX0 1 A.fG fdG ["self", "text"] (spGT K .ve)) : FnOk P w K mg base CX0 2 f fd ["self", "at"] (spInitN "at" A.CR) := by
  refine F.ok sc_NoRow_init (fun vs H Q E h => ?_) (fun cdv A' outer s H vs Q E hr h => ⟨_, (pss_cons (ps_expr (pe_cdef c_GuestError_init.ok hr (by rfl) T.g_GuestError T.rd_GuestError T.ga_GuestError T.at_GuestError c_GuestError_init.kp c_GuestError_init.bd .nil pass0 (pa_cons (pv 0) (pa_cons pe_str pa_nil))))
    (pss_one (ps_osN (pv 0) (pv 1)))), ?_⟩)
  · obtain ⟨a, x, rfl, _⟩ := h
    rfl
  · obtain ⟨a, x, rfl, e, q⟩ := h
    walk_at "go"
    exact ⟨a, A.CR, _, rfl, T.ox_NoRow, e, x, rfl, .ref a, rfl, .ve, a, A.CR, rfl, T.ox_NoRow, T.nf_NoRow, e, q⟩
theorem ok_whole {f : Addr} {fd : FuncData} (F : Fun K "is_whole" "is_whole" s_is_whole f fd) (T : Txt K mg A) : FnOk P w K mg base CX0 1 f fd ["thing", "low", "high"] spWh := by
  refine F.ok sc_is_whole (fun vs H Q E h => ?_) (fun cdv A' outer s H vs Q E hr h => ⟨_, (pss_one (ps_ret (pe_and (pe_callB call_is (by rfl) T.m_isinstance (by decide +kernel) (pa_cons (pv 0) (pa_cons (pe_bltn (v := .ty "int") (by rfl) T.m_int (by decide +kernel) rfl) pa_nil))) (pe_and (pe_not (pe_callB call_is (by rfl) T.m_isinstance (by decide +kernel) (pa_cons (pv 0) (pa_cons (pe_bltn (v := .ty "bool") (by rfl) T.m_bool (by decide +kernel) rfl) pa_nil)))) (pe_one (pe_chain op_le op_le (pv 1) (pv 0) (pv 2))))))), ?_⟩)
  · obtain ⟨x, lo, hi, rfl, _⟩ := h
    rfl
  · obtain ⟨x, lo, hi, rfl, q⟩ := h
    walk_at "go"
    refine r_is (isa_int (b := true)) ?_
    walk_at "go"
    refine r_is (isa_int (b := false)) ?_
    walk_at "go"
    by_cases h1 : lo ≤ x
    · rw [decide_eq_true h1]
      walk_at "go"
      by_cases h2 : x ≤ hi
      · rw [decide_eq_true h2]
        rw [decide_eq_true ⟨h1, h2⟩] at q
        exact q
      · rw [decide_eq_false h2]
        rw [decide_eq_false fun z => h2 z.2] at q
        exact q
    · rw [decide_eq_false h1]
      walk_at "go"
      rw [decide_eq_false fun z => h1 z.1] at q
      exact q
theorem ok_cknum {f : Addr} {fd fdM : FuncData} (F : Fun K "check_number" "check_number" s_check_number f fd) (T : Txt K mg A) (c_is_whole : CalD P w K mg base CX0 1 "is_whole" spWh [])
    (c_NoNumber_init : Own P w K mg base CX0 2 A.fM fdM ["self", "found"] (spInitN "found" A.CM)) : FnOk P w K mg base (L2.CX P w) 4 f fd ["thing", "low", "high"] spCkN := by
  refine F.okX sc_check_number (fun vs H Q E h => ?_) (fun cdv A' outer s H vs Q E hr h => ⟨_, (pss_one (ps_if (pt_not (pt_val (pe_cal c_is_whole hr (by decide) (by rfl) (pa_cons (pv 0) (pa_cons (pv 1) (pa_cons (pv 2) pa_nil)))))) (pss_one (ps_raise rfl (takes_of rfl rfl rfl rfl) (pmk_oexT T.ox_NoNumber T.i_NoNumber T.t_NoNumber c_NoNumber_init.ok (hr.mono (by decide)) c_NoNumber_init.bd .nil pass0 (by rfl) T.g_NoNumber (pa_cons (pv 0) pa_nil)))) pss_nil)), ?_⟩)
  · obtain ⟨x, lo, hi, rfl, _⟩ := h
    rfl
  · obtain ⟨x, lo, hi, rfl, h1, h2, q⟩ := h
    walk_at "go"
    refine ⟨x, lo, hi, rfl, ?_⟩
    rw [decide_eq_true ⟨h1, h2⟩]
    walk_at "go"
    exact q
end
end K06

namespace K06
open PySem PySem.Spec PyProof.Rows L2 Bk


section
variable {P : Program} {w : World} {K : PySem.W.Frag} {mg : Str → Option Value} {base : Heap} {A : Ad}
theorem ok_allW {f : Addr} {fd : FuncData} (F : Fun K "_all_within" "_all_within" s_all_within f fd) (T : Txt K mg A) : FnOk P w K mg base CX0 1 f fd ["text", "first", "last"] spAllW := by
  refine F.ok sc_all_within (fun vs H Q E h => ?_) (fun cdv A' outer s H vs Q E hr h => ⟨_, (pss_one (ps_ret (pe_callB (cr_all rfl) (by rfl) T.m_all (by decide +kernel) (pa_cons (pe_lc (own := [("sign", 3)]) rfl sc_all_within.nd (pi_str (pv 0)) (blkOk_by (N := ["text", "first", "last", "sign"]) (sc := defScope s_all_within) (by decide +kernel)) (fun _ _ _ _ _ => (pg_name (i := 3) sc_all_within.nd rfl (.inl rfl))) (fun _ _ _ _ _ => pts_nil) (fun _ _ _ _ _ => (pe_chain op_le_str op_le_str (pv 1) (pv 3) (pv 2)))) pa_nil)))), ?_⟩)
  · obtain ⟨z, F, L, f, l, rfl, _⟩ := h
    rfl
  · obtain ⟨z, F, L, f, l, rfl, hf, hl, hz, q⟩ := h
    refine r_ret (r_allStr (fun c => decide (f ≤ c) && decide (c ≤ l)) rfl (by omega) (fun _ => rfl) (fun c H' Q' _ _ k => ?_) q)
    walk_at "go"
    refine ⟨_, _, rfl, rfl, ?_⟩
    walk_at "go"
    rw [hf, sign_tl, lt1]
    have k' := k H' (Same.refl _)
    by_cases h1 : c < f
    · rw [decide_eq_true h1]
      rw [decide_eq_false (by omega : ¬ f ≤ c)] at k'
      exact k'
    · rw [decide_eq_false h1]
      refine ⟨_, rfl, ?_⟩
      walk_at "go"
      refine ⟨_, _, rfl, rfl, ?_⟩
      rw [hl, sign_tl, lt1]
      rw [decide_eq_true (by omega : f ≤ c), Bool.true_and] at k'
      by_cases h2 : l < c
      · rw [decide_eq_true h2]
        rw [decide_eq_false (by omega : ¬ c ≤ l)] at k'
        exact k'
      · rw [decide_eq_false h2]
        rw [decide_eq_true (by omega : c ≤ l)] at k'
        exact k'
theorem ok_wr {f : Addr} {fd : FuncData} (F : Fun K "_written" "_written" s_written f fd) (T : Txt K mg A) (c_all_within : CalD P w K mg base CX0 1 "_all_within" spAllW []) : FnOk P w K mg base CX0 2 f fd ["thing", "figures"] spWr := by
  refine F.ok sc_written (fun vs H Q E h => ?_) (fun cdv A outer s H vs Q E hr h => ⟨_, (pss_cons (ps_if (PW.pt (pw_or (pt_not (pt_val (pe_callB call_is (by rfl) T.m_isinstance (by decide +kernel) (pa_cons (pv 0) (pa_cons (pe_bltn (v := .ty "str") (by rfl) T.m_str (by decide +kernel) rfl) pa_nil))))) (pw_or (pt_not (pt_chain op_le op_le pe_int (pe_callB call_len_str (by rfl) T.m_len (by decide +kernel) (pa_cons (pv 0) pa_nil)) (pv 1))) (pw_or1 (pt_not (pt_val (pe_cal c_all_within hr (by decide) (by rfl) (pa_cons (pv 0) (pa_cons pe_str (pa_cons pe_str pa_nil)))))))))) (pss_one (ps_ret pe_non)) pss_nil)
    (pss_one (ps_ret (pe_ifExp (PW.pt (pw_or (pt_cmpR op_eq (pe_callB call_len_str (by rfl) T.m_len (by decide +kernel) (pa_cons (pv 0) pa_nil)) pe_int (nomark _)) (pw_or1 (pt_not (pt_val (pe_m1 PySem.F.slot_str_startswith PySem.F.type_str_startswith mt_startswith (pv 0) pe_str)))))) (pe_callTy call_int_str (by rfl) T.m_int (by decide +kernel) (pa_cons (pv 0) pa_nil)) pe_non)))), ?_⟩)
  · obtain ⟨x, rfl, _⟩ := h
    rfl
  · obtain ⟨z, rfl, hz, q⟩ := h
    walk_at "go"
    refine r_is (isa_str (b := true)) ?_
    walk_at "go"
    refine ⟨z, rfl, Nat.le_trans hz (by decide), ?_⟩
    walk_at "go"
    have bad : valOf z = -1 → ∀ H', Same H H' → Q .non H' := fun e H' s' => by
      have q' := q H' s'
      unfold wrV at q'
      rw [if_pos e] at q'
      exact q'
    refine iteC (fun h1 => ?_) (fun h1 => ?_)
    · walk_at "go"
      refine iteNC (fun h2 => ?_) (fun h2 => ?_)
      · walk_at "go"
        exact bad (if_neg (by omega)) _ (Same.refl _)
      · walk_at "go"
        refine ⟨z, _, _, 48, 57, rfl, rfl, rfl, hz, fun H1 s1 => ?_⟩
        walk_at "go"
        refine iteNB (fun h3 => ?_) (fun h3 => ?_)
        · walk_at "go"
          have e : valOf z = -1 := if_neg (fun c => by rw [h3] at c; exact Bool.false_ne_true c.2)
          exact bad e _ s1
        · walk_at "go"
          have hv : valOf z = if z.cps.toList[0]? = some 48 ∧ 1 < z.length then -1 else ((NumText.digitsVal z.cps.toList : Nat) : Int) := if_pos ⟨⟨by omega, by omega⟩, h3⟩
          have good : ¬ (z.cps.toList[0]? = some 48 ∧ 1 < z.length) → Q (.int ((NumText.digitsVal z.cps.toList : Nat) : Int)) H1 := fun hn => by
            rw [if_neg hn] at hv
            have q' := q H1 s1
            unfold wrV at q'
            rw [hv, if_neg (by omega)] at q'
            exact q'
          refine ⟨z, rfl, Nat.le_trans hz (by decide), ?_⟩
          walk_at "go"
          refine iteC (fun h4 => ?_) (fun h4 => ?_)
          · walk_at "go"
            refine ⟨z, _, rfl, int_text h3 (by omega) (by omega), by omega, ?_⟩
            injection h4 with h4
            exact good fun c => by omega
          · have h4' : z.length ≠ 1 := fun e => h4 (by rw [e]; rfl)
            walk_at "go"
            refine ⟨⟨z, rfl⟩, ?_⟩
            walk_at "go"
            refine ⟨z, _, rfl, rfl, ?_⟩
            rw [show (Str.ofString "0" : Str) = ⟨#[48]⟩ by decide +kernel, starts1]
            walk_at "go"
            refine iteNB (fun h5 => ?_) (fun h5 => ?_)
            · walk_at "go"
              refine ⟨z, _, rfl, int_text h3 (by omega) (by omega), by omega, ?_⟩
              exact good fun c => (of_decide_eq_false h5) c.1
            · walk_at "go"
              rw [if_pos ⟨of_decide_eq_true h5, by omega⟩] at hv
              exact bad hv _ s1
    · walk_at "go"
      exact bad (if_neg (by omega)) _ (Same.refl _)
theorem ok_num {f : Addr} {fd : FuncData} {D : Addr} {kws : List (Str × V)} (F : FunD K "number_in" "number_in" (defArgs s_number_in) (defBody s_number_in) (defScope s_number_in) [] kws f fd) (T : Txt K mg A) (c_written : CalD P w K mg base CX0 2 "_written" spWr []) :
    FnOk P w K mg base CX0 3 f fd ["thing", "least", "most"] spNum := by
  refine F.ok sc_number_in (fun vs H Q E h => ?_) (fun cdv A outer s H vs Q E hr h => ?_)
  · obtain ⟨z, hi, rfl, _⟩ := h
    rfl
  · suffices hs : ∃ t, PSs (cxOf CX0 P w K mg base _ "number_in" (defScope s_number_in) f cdv A outer s H E).nox (defBody s_number_in) t ∧ t { nx := fun _ H' => Q .non H', rt := Q } (start ["thing", "least", "most", "number"] vs) H from
      let ⟨t, h1, h2⟩ := hs
      ⟨t, h1.nox, h2⟩
    refine ⟨_, (pss_cons (ps_set (i := 3) sc_number_in.nd rfl (.inl rfl) (pe_cal c_written hr (by decide) (by rfl) (pa_cons (pv 0) (pa_cons (C8.pe_gc (by rfl) T.c_SHORT) pa_nil))))
    (pss_one (ps_ret (pe_ifExp (PW.pt (pw_and (pt_cmpR op_notN (pv 3) pe_non (nomark _)) (pw_and1 (pt_chain op_le op_le (pv 1) (pv 3) (pv 2))))) (pv 3) pe_non)))), ?_⟩
    obtain ⟨z, hi, rfl, hz, q⟩ := h
    walk_at "go"
    refine ⟨z, rfl, hz, fun H1 s1 => ?_⟩
    have q' := q H1 s1
    unfold wrV
    unfold numN at q'
    by_cases e : valOf z = -1
    · rw [if_pos e]
      rw [if_neg (by omega)] at q'
      walk_at "go"
      refine ⟨rfl, _, rfl, iteND rfl (iteF ?_)⟩
      walk_at "go"
      exact q'
    · rw [if_neg e]
      have hv : 0 ≤ valOf z := valOf_ge e
      walk_at "go"
      refine ⟨rfl, _, rfl, iteNDn (fun z => nomatch z) ?_⟩
      walk_at "go"
      refine iteC (fun h4 => ?_) (fun h4 => absurd hv h4)
      walk_at "go"
      refine iteC (fun h5 => ?_) (fun h5 => ?_)
      · walk_at "go"
        rw [if_pos ⟨hv, h5⟩] at q'
        have q' : Q (.int ((valOf z).toNat : Nat)) H1 := q'
        rw [Int.toNat_of_nonneg hv] at q'
        exact q'
      · walk_at "go"
        rw [if_neg (fun c => h5 c.2)] at q'
        exact q'
theorem ok_code {f : Addr} {fd : FuncData} (F : Fun K "code" "code" s_code f fd) (T : Txt K mg A) (c_check_number : CalX P w K mg base 4 "check_number" spCkN) : FnOk P w K mg base (L2.CX P w) 5 f fd ["op", "which", "rest"] spCode := by
  refine F.okX sc_code (fun vs H Q E h => ?_) (fun cdv A' outer s H vs Q E hr h => ⟨_, (pss_cons (ps_expr (pe_calX c_check_number hr (by decide) (by rfl) (takes_of rfl rfl rfl rfl) (pa_cons (pv 0) (pa_cons pe_int (pa_cons pe_int pa_nil)))))
    (pss_cons (ps_expr (pe_calX c_check_number hr (by decide) (by rfl) (takes_of rfl rfl rfl rfl) (pa_cons (pv 1) (pa_cons pe_int (pa_cons pe_int pa_nil)))))
    (pss_cons (ps_expr (pe_calX c_check_number hr (by decide) (by rfl) (takes_of rfl rfl rfl rfl) (pa_cons (pv 2) (pa_cons pe_int (pa_cons pe_int pa_nil)))))
    (pss_one (ps_ret (pe_op op_add (pe_op op_add (pe_op op_mulW (pv 0) pe_int) (pe_op op_mulW (pv 1) pe_int)) (pv 2))))))), ?_⟩)
  · obtain ⟨i, j, k, rfl, _⟩ := h
    rfl
  · obtain ⟨i, j, k, rfl, hi, hj, hk, q⟩ := h
    walk_at "go"
    refine ⟨i, 0, 15, rfl, by omega, by omega, ?_⟩
    walk_at "go"
    refine ⟨j, 0, 3, rfl, by omega, by omega, ?_⟩
    walk_at "go"
    refine ⟨k, 0, 63, rfl, by omega, by omega, ?_⟩
    walk_at "go"
    refine r_I (cmul (by omega) (by omega) (by decide) (by decide)) ?_
    walk_at "go"
    refine r_I (cmul (by omega) (by omega) (by decide) (by decide)) ?_
    walk_at "go"
    have e : ((i * 256 + j * 64 + k : Nat) : Int) = (i : Int) * 256 + (j : Int) * 64 + (k : Int) := by omega
    rw [e] at q
    exact q
theorem ok_opof {f : Addr} {fd fdO : FuncData} (F : Fun K "op_of" "op_of" s_op_of f fd) (T : Txt K mg A) (c_NoOp_init : Own P w K mg base CX0 2 A.fO fdO ["self", "found"] (spInitN "found" A.CO)) : FnOk P w K mg base (L2.CX P w) 4 f fd ["name"] spOp := by
  refine F.okX sc_op_of (fun vs H Q E h => ?_) (fun cdv A' outer s H vs Q E hr h => ⟨_, (pss_cons (ps_for (passes_of rfl) rfl (pi_enumA (by rfl) T.m_enumerate (pa_cons (C8.pe_gc (by rfl) T.c_OPS) pa_nil)) (pg_tup rfl (pgs_cons (pg_name (i := 1) sc_op_of.nd rfl (.inl rfl)) (pgs_cons (pg_name (i := 2) sc_op_of.nd rfl (.inl rfl)) pgs_nil)))
      (pss_one (ps_if (pt_cmpR op_eq (pv 2) (pv 0) (nomark _)) (pss_one (ps_ret (pv 1))) pss_nil)))
    (pss_one (ps_raise rfl (takes_of rfl rfl rfl rfl) (pmk_oexT T.ox_NoOp T.i_NoOp T.t_NoOp c_NoOp_init.ok (hr.mono (by decide)) c_NoOp_init.bd .nil pass0 (by rfl) T.g_NoOp (pa_cons (pv 0) pa_nil))))), ?_⟩)
  · obtain ⟨a, rfl, _⟩ := h
    rfl
  · obtain ⟨a, rfl, ha, q⟩ := h
    walk_at "go"
    refine ⟨A.aOPS, _, rfl, .inr ⟨T.ops H, ?_⟩⟩
    have hlt : opsL.idxOf a < opsL.length := List.idxOf_lt_length_iff.mpr ha
    refine for_it walk_enumT (fun i σ H' => (∃ x1 x2, σ = [some (.str a), x1, x2]) ∧ Same H H' ∧ i ≤ opsL.idxOf a) ⟨⟨none, none, rfl⟩, Same.refl _, Nat.zero_le _⟩ (fun i σ H' _ h => T.ops H') ?_ ?_
    · rintro i y σ H1 H2 hi ⟨⟨x1, x2, rfl⟩, sm, lo⟩ ⟨Tn, u, v, rfl, nT, rfl, hu, hv⟩
      injection hu with hu
      subst hu
      have sT := same_upd (o := .tup [.int i, v]) nT
      obtain ⟨z, hz, rfl⟩ : ∃ z, opsL[i]? = some z ∧ v = .str z := by
        have hv : (opsL.map V.str)[i]? = some v := hv
        rw [List.getElem?_map] at hv
        cases hq : opsL[i]? with
        | none => rw [hq] at hv; exact nomatch hv
        | some z => rw [hq] at hv; exact ⟨z, rfl, (Option.some.inj hv).symm⟩
      refine ⟨Tn, _, rfl, sqT upd_same, rfl, .int i, _, rfl, .str z, _, rfl, rfl, ?_⟩
      walk_at "go"
      have hz' : ∀ h : i < opsL.length, opsL[i] = z := fun h => by rw [List.getElem?_eq_getElem h] at hz; exact Option.some.inj hz
      have il : i < opsL.length := by omega
      by_cases e : z = a
      · rw [decide_eq_true (by rw [e])]
        walk_at "go"
        have ie : opsL.idxOf a = i := by
          have h1 : opsL.idxOf a ≤ i := Classical.byContradiction fun h => by
            have w := List.not_of_lt_findIdx (p := fun x => x == a) (xs := opsL) (i := i) (Nat.lt_of_not_le h)
            simp only [hz' il, e, beq_self_eq_true] at w
            exact absurd w (by simp)
          omega
        rw [ie] at q
        exact q _ (sm.trans sT)
      · rw [decide_eq_false (fun c => e (by injection c))]
        walk_at "go"
        refine ⟨⟨_, _, rfl⟩, sm.trans sT, ?_⟩
        have : i ≠ opsL.idxOf a := fun c => e (by rw [← hz' il]; have w := List.getElem_idxOf hlt; simp only [← c] at w; exact w)
        omega
    · rintro σ H' ⟨_, _, hle⟩
      exact absurd hle (by rw [List.length_map]; omega)
theorem ok_entry {f : Addr} {fd fdT : FuncData} {kws : List (Str × V)} (F : FunD K "entry" "entry" (defArgs s_entry) (defBody s_entry) (defScope s_entry) [] kws f fd) (T : Txt K mg A) (c_check_number : CalX P w K mg base 4 "check_number" spCkN)
    (c_NoTruth_init : Own P w K mg base CX0 2 A.fT fdT ["self", "found"] (spInitN "found" A.CT)) : FnOk P w K mg base (L2.CX P w) 5 f fd ["room", "write"] spEntry := by
  refine F.ok sc_entry (fun vs H Q E h => ?_) (fun cdv A' outer s H vs Q E hr h => ⟨_, (pss_cons (ps_expr (pe_calX c_check_number hr (by decide) (by rfl) (takes_of rfl rfl rfl rfl) (pa_cons (pv 0) (pa_cons pe_int (pa_cons pe_int pa_nil)))))
    (pss_cons (ps_if (pt_not (pt_val (pe_callB call_is (by rfl) T.m_isinstance (by decide +kernel) (pa_cons (pv 1) (pa_cons (pe_bltn (v := .ty "bool") (by rfl) T.m_bool (by decide +kernel) rfl) pa_nil))))) (pss_one (ps_raise rfl (takes_of rfl rfl rfl rfl) (pmk_oexT T.ox_NoTruth T.i_NoTruth T.t_NoTruth c_NoTruth_init.ok (hr.mono (by decide)) c_NoTruth_init.bd .nil pass0 (by rfl) T.g_NoTruth (pa_cons (pv 1) pa_nil)))) pss_nil)
    (pss_one (ps_ret (pe_op op_add (pe_op op_mulW (pv 0) pe_int) (pe_ifExp (pt_val (pv 1)) pe_int pe_int)))))), ?_⟩)
  · obtain ⟨x, y, rfl, _⟩ := h
    rfl
  · obtain ⟨i, c, rfl, hi, q⟩ := h
    walk_at "go"
    refine ⟨i, 0, 7, rfl, by omega, by omega, ?_⟩
    walk_at "go"
    refine r_is (isa_bl (b := true)) ?_
    walk_at "go"
    refine r_I (cmul (by omega) (by omega) (by decide) (by decide)) ?_
    walk_at "go"
    cases c
    · walk_at "go"
      have e : ((i * 4 + 1 : Nat) : Int) = (i : Int) * 4 + 1 := by omega
      have q : Q (.int ((i * 4 + 1 : Nat) : Int)) H := q
      rw [e] at q
      exact q
    · walk_at "go"
      have e : ((i * 4 + 3 : Nat) : Int) = (i : Int) * 4 + 3 := by omega
      have q : Q (.int ((i * 4 + 3 : Nat) : Int)) H := q
      rw [e] at q
      exact q
end
end K06

namespace K06
open PySem PySem.Spec PyProof.Rows L2 Bk


/-- at pa: a row's parts -/
def Row (H : Hp) (pa : Addr) (ps : List Str) : Prop := H pa = some (.lst (ps.map V.str)) ∧ ps.length ≤ 20000 ∧ ∀ p ∈ ps, p.length ≤ 20000 ∧ okS p
theorem Row.same {H H' : Hp} {pa : Addr} {ps : List Str} (h : Row H pa ps) (s : Same H H') : Row H' pa ps := ⟨s _ _ h.1, h.2⟩
def begN (ps : List Str) : Option Nat := (begun ps).map (·.2)
theorem begun_two {a b : Str} : begun [a, b] = if a = ("room" : Str) then (numN b 7).map fun n => (true, n) else if a = ("block" : Str) then (numN b 7).map fun n => (false, n) else none := rfl
def spRow (f : List Str → Option Nat) : Sp := fun vs H Q _ => ∃ (pa : Addr) (ps : List Str), vs = [.ref pa] ∧ Row H pa ps ∧ ps ≠ [] ∧ ∀ H', Same H H' → Q (optV (f ps)) H'
theorem begun_no {ps : List Str} (h : ps.length ≠ 2) : begun ps = none := by
  match ps, h with
  | [], _ => rfl
  | [_], _ => rfl
  | [_, _], h => exact absurd rfl h
  | _ :: _ :: _ :: _, _ => rfl
theorem optV_non {x : Option Nat} : decide (optV x = V.non) = x.isNone := by
  cases x with
  | none => rfl
  | some n => exact decide_eq_false fun z => nomatch z
theorem two_of {ps : List Str} (h : ps.length = 2) : ∃ a b, ps = [a, b] := by
  match ps, h with
  | [a, b], _ => exact ⟨a, b, rfl⟩
theorem three_of {ps : List Str} (h : ps.length = 3) : ∃ a b c, ps = [a, b, c] := by
  match ps, h with
  | [a, b, c], _ => exact ⟨a, b, c, rfl⟩
theorem int_ne {a b : Nat} (h : ¬ V.int (a : Nat) = V.int (b : Nat)) : a ≠ b := fun z => h (by rw [z])
theorem int_eq {a b : Nat} (h : V.int (a : Nat) = V.int (b : Nat)) : a = b := by
  injection h with h
  omega
section
variable {P : Program} {w : World} {K : PySem.W.Frag} {mg : Str → Option Value} {base : Heap} {A : Ad}
theorem ok_begun {f : Addr} {fd : FuncData} (F : Fun K "_number_begun" "_number_begun" s_number_begun f fd) (T : Txt K mg A) (k_number_in_1_most : CalN P w K mg base CX0 3 1 ["most"] "number_in" spNum (fun vs zs => vs ++ [.int 0] ++ zs)) : FnOk P w K mg base CX0 4 f fd ["parts"] (spRow begN) := by
  refine F.ok sc_number_begun (fun vs H Q E h => ?_) (fun cdv A' outer s H vs Q E hr h => ⟨_, (pss_cons (ps_if (PW.pt (pw_or (pt_cmpR op_ne (pe_callB call_len_seq (by rfl) T.m_len (by decide +kernel) (pa_cons (pv 0) pa_nil)) pe_int (nomark _)) (pw_or1 (pt_cmpR op_notIn_seq (pe_ix ix_list (pv 0) pe_int (fun _ _ => rfl)) (pe_tup (pa_cons pe_str (pa_cons pe_str pa_nil))) (by rfl))))) (pss_one (ps_ret pe_non)) pss_nil)
    (pss_one (ps_ret (pe_calN k_number_in_1_most (hr.mono (by decide)) (by rfl) (pa_cons (pe_ix ix_list (pv 0) pe_int (fun _ _ => rfl)) pa_nil) (pk_cons (C8.pe_gc (by rfl) T.c_LAST) pk_nil))))), ?_⟩)
  · obtain ⟨pa, ps, rfl, _⟩ := h
    rfl
  · obtain ⟨pa, ps, rfl, ⟨e, l1, l2⟩, hne, q⟩ := h
    have fin : ∀ {r : Option Nat} {H' : Hp}, begN ps = r → Same H H' → Q (optV r) H' := fun e s => e ▸ q _ s
    walk_at "go"
    refine ⟨pa, _, rfl, .inl (sqL e), ?_⟩
    rw [List.length_map]
    walk_at "go"
    refine iteNC (fun h2 => ?_) (fun h2 => ?_)
    · walk_at "go"
      exact fin (r := none) (by unfold begN; rw [begun_no (int_ne (b := 2) h2)]; rfl) (Same.refl _)
    · obtain ⟨a, b, rfl⟩ := two_of (int_eq (b := 2) h2)
      walk_at "go"
      refine r_ixL (sqL e) (v := .str a) rfl ?_
      walk_at "go"
      refine newT fun t H1 nt s1 et => ?_
      refine ⟨t, _, rfl, .inr (sqT et), rfl, rfl, ?_⟩
      rw [show inV (V.str a) [V.str "room", V.str "block"] = decide (a ∈ [("room" : Str), "block"]) from inV_str (row := ["room", "block"])]
      walk_at "go"
      refine iteNC (fun h3 => ?_) (fun h3 => ?_)
      · walk_at "go"
        exact fin (r := none) (by unfold begN; rw [begun_two, if_neg fun z => h3 (by rw [z]; simp), if_neg fun z => h3 (by rw [z]; simp)]; rfl) s1
      · walk_at "go"
        refine r_ixL (sqL (s1 _ _ e)) (v := .str b) rfl ?_
        walk_at "go"
        refine ⟨rfl, rfl, b, 7, rfl, (l2 b (by simp)).1, fun H2 s2 => ?_⟩
        refine fin ?_ (s1.trans s2)
        simp only [List.mem_cons, List.not_mem_nil, or_false] at h3
        unfold begN
        rw [begun_two]
        rcases h3 with rfl | rfl
        · rw [if_pos rfl]
          cases numN b 7 <;> rfl
        · rw [if_neg (by decide +kernel), if_pos rfl]
          cases numN b 7 <;> rfl
theorem ok_entryin {f : Addr} {fd : FuncData} (F : Fun K "_entry_in" "_entry_in" s_entry_in f fd) (T : Txt K mg A) (k_number_in_1_most : CalN P w K mg base CX0 3 1 ["most"] "number_in" spNum (fun vs zs => vs ++ [.int 0] ++ zs)) (k_entry_1_write : CalMX P w K mg base 5 1 ["write"] "entry" spEntry (fun vs zs => vs ++ zs)) : FnOk P w K mg base CX0 6 f fd ["parts"] (spRow entryOf) := by
  refine F.ok sc_entry_in (fun vs H Q E h => ?_) (fun cdv A' outer s H vs Q E hr h => have hu64 := hr.units; ⟨_, (pss_cons (ps_set (i := 1) sc_entry_in.nd rfl (.inl rfl) (pe_cmpR (op_eqD hu64) (pe_slice sl_list (pv 0) (po_some pe_int) po_none) (pe_lstB (pa_cons pe_str pa_nil)) (nomark _)))
    (pss_cons (ps_set (i := 2) sc_entry_in.nd rfl (.inl rfl) (pe_ifExp (pt_cmpR op_eq (pe_callB call_len_seq (by rfl) T.m_len (by decide +kernel) (pa_cons (pv 0) pa_nil)) (pe_ifExp (pt_val (pv 1)) pe_int pe_int) (nomark _)) (pe_calN k_number_in_1_most (hr.mono (by decide)) (by rfl) (pa_cons (pe_ix ix_list (pv 0) pe_int (fun _ _ => rfl)) pa_nil) (pk_cons (C8.pe_gc (by rfl) T.c_LAST) pk_nil)) pe_non))
    (pss_one (ps_ret (pe_ifExp (pt_cmpR op_isN (pv 2) pe_non (nomark _)) pe_non (pe_calMY k_entry_1_write hr (by decide) (by rfl) (pa_cons (pv 2) pa_nil) (pk_cons (pv 1) pk_nil))))))), ?_⟩)
  · obtain ⟨pa, ps, rfl, _⟩ := h
    rfl
  · obtain ⟨pa, ps, rfl, ⟨e, l1, l2⟩, hne, q⟩ := h
    have fin : ∀ {r : Option Nat} {H' : Hp}, entryOf ps = r → Same H H' → Q (optV r) H' := fun e s => e ▸ q _ s
    walk_at "go"
    refine r_slL (sqL e) (cut2 _) fun p1 H1 n1 s1 e1 => ?_
    rw [← List.map_drop] at e1
    walk_at "go"
    refine newLB fun p2 H2 n2 g2 s2 e2 => ?_
    have hd : ∀ x ∈ ps.drop 2, PyData.strOk x = true := fun x hx => okS_str (l2 x (List.mem_of_mem_drop hx)).2
    refine ⟨_, strD ["write"], dp_strs (sqL (s2 _ _ e1)), dp_strs (l := ["write"]) (sqL e2), sh_strs hd, sh_strs (by decide +kernel), ?_⟩
    rw [eqv_strs]
    have e3 := s2 _ _ (s1 _ _ e)
    have s12 := s1.trans s2
    walk_at "go"
    refine ⟨pa, _, rfl, .inl (sqL e3), ?_⟩
    rw [List.length_map]
    walk_at "go"
    by_cases hw : ps.drop 2 = [("write" : Str)]
    · have h3 : ps.length = 3 := by
        have w := congrArg List.length hw
        rw [List.length_drop] at w
        have w : ps.length - 2 = 1 := w
        omega
      obtain ⟨a, b, c, rfl⟩ := three_of h3
      obtain rfl : c = "write" := by injection hw
      rw [decide_eq_true hw]
      walk_at "go"
      rw [decide_eq_true (show V.int (([a, b, ("write" : Str)] : List Str).length : Nat) = V.int 3 from rfl)]
      walk_at "go"
      refine r_ixL (sqL e3) (v := .str b) rfl ?_
      walk_at "go"
      refine ⟨rfl, rfl, b, 7, rfl, (l2 b (by simp)).1, fun H3 s3 => ?_⟩
      have fin := fin (r := (numN b 7).map fun n => n * 4 + 3) (H' := H3) rfl (s12.trans s3)
      walk_at "go"
      refine ⟨rfl, _, rfl, ?_⟩
      cases hn : numN b 7 with
      | none =>
        rw [hn] at fin
        rw [decide_eq_true (show optV none = V.non from rfl)]
        walk_at "go"
        exact fin
      | some n =>
        rw [hn] at fin
        rw [decide_eq_false (fun z => nomatch z)]
        walk_at "go"
        have n7 : n ≤ 7 := by
          unfold numN at hn
          split at hn
          · rename_i c
            have := Option.some.inj hn
            omega
          · exact nomatch hn
        exact ⟨rfl, rfl, n, true, rfl, n7, fin⟩
    · rw [decide_eq_false hw]
      walk_at "go"
      by_cases h2 : ps.length = 2
      · obtain ⟨a, b, rfl⟩ := two_of h2
        rw [decide_eq_true (show V.int (([a, b] : List Str).length : Nat) = V.int 2 from rfl)]
        walk_at "go"
        refine r_ixL (sqL e3) (v := .str b) rfl ?_
        walk_at "go"
        refine ⟨rfl, rfl, b, 7, rfl, (l2 b (by simp)).1, fun H3 s3 => ?_⟩
        have fin := fin (r := (numN b 7).map fun n => n * 4 + 1) (H' := H3) rfl (s12.trans s3)
        walk_at "go"
        refine ⟨rfl, _, rfl, ?_⟩
        cases hn : numN b 7 with
        | none =>
          rw [hn] at fin
          rw [decide_eq_true (show optV none = V.non from rfl)]
          walk_at "go"
          exact fin
        | some n =>
          rw [hn] at fin
          rw [decide_eq_false (fun z => nomatch z)]
          walk_at "go"
          have n7 : n ≤ 7 := by
            unfold numN at hn
            split at hn
            · rename_i c
              have := Option.some.inj hn
              omega
            · exact nomatch hn
          exact ⟨rfl, rfl, n, false, rfl, n7, fin⟩
      · rw [decide_eq_false fun z : V.int (ps.length : Nat) = V.int 2 => h2 (int_eq (b := 2) z)]
        walk_at "go"
        refine ⟨rfl, _, rfl, ?_⟩
        rw [decide_eq_true rfl]
        walk_at "go"
        refine fin (r := none) ?_ s12
        match ps, hw, h2 with
        | [], _, _ => rfl
        | [_], _, _ => rfl
        | [_, _], _, h2 => exact absurd rfl h2
        | [_, _, c], hw, _ => exact if_neg fun z => hw (by rw [z]; rfl)
        | _ :: _ :: _ :: _ :: _, _, _ => rfl
theorem ok_codein {f : Addr} {fd : FuncData} (F : Fun K "_code_in" "_code_in" s_code_in f fd) (T : Txt K mg A) (k_number_in_1_most : CalN P w K mg base CX0 3 1 ["most"] "number_in" spNum (fun vs zs => vs ++ [.int 0] ++ zs)) (c_code : CalX P w K mg base 5 "code" spCode) (c_op_of : CalX P w K mg base 4 "op_of" spOp) : FnOk P w K mg base CX0 6 f fd ["parts"] (spRow codeOf) := by
  refine F.ok sc_code_in (fun vs H Q E h => ?_) (fun cdv A' outer s H vs Q E hr h => have hu64 := hr.units; ⟨_, (pss_cons (ps_if (PW.pt (pw_or (pt_cmpR op_ne (pe_callB call_len_seq (by rfl) T.m_len (by decide +kernel) (pa_cons (pv 0) pa_nil)) pe_int (nomark _)) (pw_or1 (pt_cmpR op_notIn_seq (pe_ix ix_list (pv 0) pe_int (fun _ _ => rfl)) (C8.pe_gc (by rfl) T.c_OPS) (by rfl))))) (pss_one (ps_ret pe_non)) pss_nil)
    (pss_cons (ps_set (i := 1) sc_code_in.nd rfl (.inl rfl) (pe_calN k_number_in_1_most (hr.mono (by decide)) (by rfl) (pa_cons (pe_ix ix_list (pv 0) pe_int (fun _ _ => rfl)) pa_nil) (pk_cons pe_int pk_nil)))
    (pss_cons (ps_set (i := 2) sc_code_in.nd rfl (.inl rfl) (pe_calN k_number_in_1_most (hr.mono (by decide)) (by rfl) (pa_cons (pe_ix ix_list (pv 0) pe_int (fun _ _ => rfl)) pa_nil) (pk_cons pe_int pk_nil)))
    (pss_cons (ps_if (PW.pt (pw_or (pt_cmpR op_isN (pv 1) pe_non (nomark _)) (pw_or1 (pt_cmpR op_isN (pv 2) pe_non (nomark _))))) (pss_one (ps_ret pe_non)) pss_nil)
    (pss_one (ps_ret (pe_calY c_code hr (by decide) (by rfl) (pa_cons (pe_calY c_op_of hr (by decide) (by rfl) (pa_cons (pe_ix ix_list (pv 0) pe_int (fun _ _ => rfl)) pa_nil)) (pa_cons (pv 1) (pa_cons (pv 2) pa_nil)))))))))), ?_⟩)
  · obtain ⟨pa, ps, rfl, _⟩ := h
    rfl
  · obtain ⟨pa, ps, rfl, ⟨e, l1, l2⟩, hne, q⟩ := h
    have fin : ∀ {r : Option Nat} {H' : Hp}, codeOf ps = r → Same H H' → Q (optV r) H' := fun e s => e ▸ q _ s
    walk_at "go"
    refine ⟨pa, _, rfl, .inl (sqL e), ?_⟩
    rw [List.length_map]
    walk_at "go"
    refine iteNC (fun h3 => ?_) (fun h3 => ?_)
    · walk_at "go"
      refine fin (r := none) ?_ (Same.refl _)
      have h3 := int_ne (b := 3) h3
      match ps, h3 with
      | [], _ => rfl
      | [_], _ => rfl
      | [_, _], _ => rfl
      | [_, _, _], h3 => exact absurd rfl h3
      | _ :: _ :: _ :: _ :: _, _ => rfl
    · obtain ⟨a, b, c, rfl⟩ := three_of (int_eq (b := 3) h3)
      have ec : codeOf [a, b, c] = if a ∈ opsL then (match numN b 3, numN c 63 with
        | some j, some k => some (opsL.idxOf a * 256 + j * 64 + k)
        | _, _ => none) else none := rfl
      walk_at "go"
      refine r_ixL (sqL e) (v := .str a) rfl ?_
      walk_at "go"
      refine ⟨A.aOPS, _, rfl, .inr (T.ops _), rfl, by decide +kernel, ?_⟩
      rw [inV_str]
      walk_at "go"
      refine iteNC (fun h4 => ?_) (fun h4 => ?_)
      · walk_at "go"
        exact fin (r := none) (by rw [ec, if_neg h4]) (Same.refl _)
      · rw [if_pos h4] at ec
        walk_at "go"
        refine r_ixL (sqL e) (v := .str b) rfl ?_
        walk_at "go"
        refine ⟨rfl, rfl, b, 3, rfl, (l2 b (by simp)).1, fun H1 s1 => ?_⟩
        walk_at "go"
        refine r_ixL (sqL (s1 _ _ e)) (v := .str c) rfl ?_
        walk_at "go"
        refine ⟨rfl, rfl, c, 63, rfl, (l2 c (by simp)).1, fun H2 s2 => ?_⟩
        have s12 := s1.trans s2
        have bnd : ∀ {z : Str} {hi n : Nat}, numN z hi = some n → n ≤ hi := fun {z hi n} hn => by
          unfold numN at hn
          split at hn
          · rename_i c
            have := Option.some.inj hn
            omega
          · exact nomatch hn
        walk_at "go"
        refine ⟨rfl, _, rfl, ?_⟩
        cases hj : numN b 3 with
        | none =>
          rw [decide_eq_true (show optV none = V.non from rfl)]
          walk_at "go"
          exact fin (r := none) (by rw [ec, hj]) s12
        | some j =>
          rw [decide_eq_false (fun z => nomatch z)]
          walk_at "go"
          refine ⟨rfl, _, rfl, ?_⟩
          cases hk : numN c 63 with
          | none =>
            rw [decide_eq_true (show optV none = V.non from rfl)]
            walk_at "go"
            exact fin (r := none) (by rw [ec, hj, hk]) s12
          | some k =>
            rw [decide_eq_false (fun z => nomatch z)]
            walk_at "go"
            refine r_ixL (sqL (s12 _ _ e)) (v := .str a) rfl ?_
            walk_at "go"
            refine ⟨a, rfl, h4, fun H3 s3 => ?_⟩
            walk_at "go"
            have hi : opsL.idxOf a ≤ 15 := by
              have := List.idxOf_lt_length_iff.mpr h4
              have l16 : opsL.length = 16 := rfl
              omega
            refine ⟨opsL.idxOf a, j, k, rfl, hi, bnd hj, bnd hk, ?_⟩
            exact fin (r := some (opsL.idxOf a * 256 + j * 64 + k)) (by rw [ec, hj, hk]) (s12.trans s3)
theorem ok_wordin {f : Addr} {fd : FuncData} (F : Fun K "_word_in" "_word_in" s_word_in f fd) (T : Txt K mg A) (c_entry_in : CalD P w K mg base CX0 6 "_entry_in" (spRow entryOf) []) (c_number_in : CalD P w K mg base CX0 3 "number_in" spNum [.int 0, .int 4095]) (c_code_in : CalD P w K mg base CX0 6 "_code_in" (spRow codeOf) []) : FnOk P w K mg base CX0 7 f fd ["parts"] (spRow wordOf) := by
  refine F.ok sc_word_in (fun vs H Q E h => ?_) (fun cdv A' outer s H vs Q E hr h => have hu64 := hr.units; ⟨_, (pss_cons (ps_if (pt_cmpR (op_eqD hu64) (pv 0) (pe_lstB (pa_cons pe_str pa_nil)) (nomark _)) (pss_one (ps_ret pe_int)) pss_nil)
    (pss_cons (ps_if (pt_cmpR op_eq (pe_ix ix_list (pv 0) pe_int (fun _ _ => rfl)) pe_str (nomark _)) (pss_one (ps_ret (pe_cal c_entry_in hr (by decide) (by rfl) (pa_cons (pv 0) pa_nil)))) pss_nil)
    (pss_cons (ps_if (pt_cmpR op_eq (pe_ix ix_list (pv 0) pe_int (fun _ _ => rfl)) pe_str (nomark _)) (pss_one (ps_ret (pe_ifExp (pt_cmpR op_eq (pe_callB call_len_seq (by rfl) T.m_len (by decide +kernel) (pa_cons (pv 0) pa_nil)) pe_int (nomark _)) (pe_calD c_number_in hr (by decide) (by rfl) (pa_cons (pe_ix ix_list (pv 0) pe_int (fun _ _ => rfl)) pa_nil)) pe_non))) pss_nil)
    (pss_one (ps_ret (pe_cal c_code_in hr (by decide) (by rfl) (pa_cons (pv 0) pa_nil))))))), ?_⟩)
  · obtain ⟨pa, ps, rfl, _⟩ := h
    rfl
  · obtain ⟨pa, ps, rfl, ⟨e, l1, l2⟩, hne, q⟩ := h
    have fin : ∀ {r : Option Nat} {H' : Hp}, wordOf ps = r → Same H H' → Q (optV r) H' := fun e s => e ▸ q _ s
    walk_at "go"
    refine newLB fun p2 H2 n2 g2 s2 e2 => ?_
    have hd : ∀ x ∈ ps, PyData.strOk x = true := fun x hx => okS_str (l2 x hx).2
    walk_at "go"
    refine ⟨_, strD ["none"], dp_strs (sqL (s2 _ _ e)), dp_strs (l := ["none"]) (sqL e2), sh_strs hd, sh_strs (by decide +kernel), ?_⟩
    rw [eqv_strs]
    walk_at "go"
    by_cases h0 : ps = [("none" : Str)]
    · rw [decide_eq_true h0]
      walk_at "go"
      exact fin (r := some 0) (if_pos h0) s2
    · rw [decide_eq_false h0]
      obtain ⟨a, r, rfl⟩ : ∃ a r, ps = a :: r := by
        cases ps with
        | nil => exact absurd rfl hne
        | cons a r => exact ⟨a, r, rfl⟩
      have e2' := s2 _ _ e
      have at0 : atI ((a :: r).map V.str) 0 = some (.str a) := atI_nat (j := 0) rfl
      have ew : wordOf (a :: r) = if a = ("leaf" : Str) then entryOf (a :: r) else if a = ("word" : Str) then oneOf r else codeOf (a :: r) := if_neg h0
      walk_at "go"
      refine r_ixL (sqL e2') at0 ?_
      walk_at "go"
      refine iteC (fun h1 => ?_) (fun h1 => ?_)
      · have h1 : a = ("leaf" : Str) := by injection h1
        walk_at "go"
        refine ⟨pa, _, rfl, ⟨e2', l1, l2⟩, hne, fun H3 s3 => ?_⟩
        exact fin (by rw [ew, if_pos h1]) (s2.trans s3)
      · have h1 : a ≠ ("leaf" : Str) := fun z => h1 (by rw [z])
        rw [if_neg h1] at ew
        walk_at "go"
        refine r_ixL (sqL e2') at0 ?_
        walk_at "go"
        refine iteC (fun h3 => ?_) (fun h3 => ?_)
        · have h3 : a = ("word" : Str) := by injection h3
          rw [if_pos h3] at ew
          walk_at "go"
          refine ⟨pa, _, rfl, .inl (sqL e2'), ?_⟩
          rw [List.length_map]
          walk_at "go"
          refine iteC (fun h4 => ?_) (fun h4 => ?_)
          · obtain ⟨a', b, hab⟩ := two_of (int_eq (b := 2) h4)
            obtain rfl : r = [b] := by injection hab
            walk_at "go"
            refine r_ixL (sqL e2') (v := .str b) rfl ?_
            walk_at "go"
            refine ⟨b, 4095, rfl, (l2 b (by simp)).1, fun H3 s3 => ?_⟩
            exact fin ew (s2.trans s3)
          · walk_at "go"
            refine fin (r := none) ?_ s2
            have h4 := int_ne (b := 2) h4
            rw [ew]
            match r, h4 with
            | [], _ => rfl
            | [_], h4 => exact absurd rfl h4
            | _ :: _ :: _, _ => rfl
        · have h3 : a ≠ ("word" : Str) := fun z => h3 (by rw [z])
          rw [if_neg h3] at ew
          walk_at "go"
          refine ⟨pa, _, rfl, ⟨e2', l1, l2⟩, hne, fun H3 s3 => ?_⟩
          exact fin ew (s2.trans s3)
end
end K06

namespace K06
open PySem PySem.Spec PyProof.Rows L2 Bk


/-! ### rooms or blocks that are being told -/
abbrev Im := List (Nat × List Nat)
def getI (m : Im) (n : Nat) : Option (List Nat) := (m.find? fun e => decide (e.1 = n)).map (·.2)
def setI (m : Im) (n : Nat) : Im := if (getI m n).isSome = true then m else m ++ [(n, [])]
def pushI (m : Im) (n w : Nat) : Im := m.map fun e => if e.1 = n then (e.1, e.2 ++ [w]) else e
structure S where
  r : Im
  b : Im
  cur : Option (Bool × Nat)
def S.side (s : S) (k : Bool) : Im := if k = true then s.r else s.b
def S.with (s : S) (k : Bool) (m : Im) : S := if k = true then { s with r := m } else { s with b := m }
def stp (s : S) (ps : List Str) : Option S :=
  match begun ps with
  | some (k, n) => some { s.with k (setI (s.side k) n) with cur := some (k, n) }
  | none => match wordOf ps, s.cur with
    | some w, some (k, n) => if ((getI (s.side k) n).getD []).length = 8 then none else some (s.with k (pushI (s.side k) n w))
    | _, _ => none
def go : S → List (Nat × List Str) → S ⊕ Nat
  | s, [] => .inl s
  | s, (i, ps) :: L => match stp s ps with
    | none => .inr i
    | some s' => go s' L
def partsOf (row : Str) : List Str := (Txt.split row " ").filter fun p => decide (p ≠ Str.ofString "")
def cutR : Nat → List Str → List (Nat × List Str)
  | _, [] => []
  | k, row :: R => if partsOf row = [] then cutR (k + 1) R else (k, partsOf row) :: cutR (k + 1) R
def goR : Nat → S → List Str → S ⊕ Nat
  | _, s, [] => .inl s
  | k, s, row :: R => if partsOf row = [] then goR (k + 1) s R else match stp s (partsOf row) with
    | none => .inr k
    | some s' => goR (k + 1) s' R
theorem goR_cut : ∀ (R : List Str) (k : Nat) (s : S), goR k s R = go s (cutR k R)
  | [], _, _ => rfl
  | row :: R, k, s => by
    unfold goR cutR
    split
    · exact goR_cut R (k + 1) s
    · unfold go
      cases stp s (partsOf row) with
      | none => rfl
      | some s' => exact goR_cut R (k + 1) s'
def s0 : S := ⟨[], [], none⟩
def pad (ws : List Nat) : List Nat := ws ++ List.replicate (8 - ws.length) 0
def rowD (ws : List Nat) : PyData := .tuple (ws.map fun (i : Nat) => .int i)
def filD (m : Im) : PyData := .tuple ((List.range 8).map fun n => rowD (pad ((getI m n).getD [])))
def imgD (s : S) : PyData := .tuple [filD s.r, filD s.b]
/-- as it should be -/
structure Im.Ok (m : Im) : Prop where
  nd : (m.map (·.1)).Nodup
  lt : ∀ e ∈ m, e.1 < 8 ∧ e.2.length ≤ 8 ∧ ∀ w ∈ e.2, w ≤ 4095
structure S.Ok (s : S) : Prop where
  r : Im.Ok s.r
  b : Im.Ok s.b
theorem getI_mem {m : Im} {n : Nat} {ws : List Nat} (h : getI m n = some ws) : (n, ws) ∈ m := by
  unfold getI at h
  cases hf : m.find? fun e => decide (e.1 = n) with
  | none => rw [hf] at h; exact nomatch h
  | some e =>
    rw [hf] at h
    have h1 := List.mem_of_find?_eq_some hf
    have h2 : e.1 = n := of_decide_eq_true (List.find?_some (p := fun e : Nat × List Nat => decide (e.1 = n)) hf)
    have h3 : e.2 = ws := Option.some.inj h
    rw [← h2, ← h3]
    exact h1
theorem getI_none {m : Im} {n : Nat} (h : getI m n = none) : n ∉ m.map (·.1) := fun z => by
  obtain ⟨e, he, rfl⟩ := List.mem_map.mp z
  unfold getI at h
  rw [Option.map_eq_none_iff, List.find?_eq_none] at h
  exact h e he (decide_eq_true rfl)
theorem getI_some {m : Im} (nd : (m.map (·.1)).Nodup) {n : Nat} {ws : List Nat} (h : (n, ws) ∈ m) : getI m n = some ws := by
  cases hg : getI m n with
  | none => exact absurd (List.mem_map.mpr ⟨_, h, rfl⟩) (getI_none hg)
  | some v =>
    have h2 := getI_mem hg
    have : ∀ {l : Im}, (l.map (·.1)).Nodup → (n, v) ∈ l → (n, ws) ∈ l → v = ws := by
      intro l
      induction l with
      | nil => exact fun _ z => nomatch z
      | cons e r ih =>
        intro nd a b
        rw [List.map_cons, List.nodup_cons] at nd
        rcases List.mem_cons.mp a with a | a <;> rcases List.mem_cons.mp b with b | b
        · rw [← a] at b; exact (Prod.mk.inj b).2.symm
        · exact absurd (List.mem_map.mpr ⟨_, b, rfl⟩) (by rw [← a] at nd; exact nd.1)
        · exact absurd (List.mem_map.mpr ⟨_, a, rfl⟩) (by rw [← b] at nd; exact nd.1)
        · exact ih nd.2 a b
    rw [this nd h2 h]
theorem numN_le {z : Str} {hi n : Nat} (hn : numN z hi = some n) : n ≤ hi := by
  unfold numN at hn
  split at hn
  · have := Option.some.inj hn
    omega
  · exact nomatch hn
theorem begun_lt {ps : List Str} {k : Bool} {n : Nat} (h : begun ps = some (k, n)) : n < 8 := by
  match ps with
  | [] => exact nomatch h
  | [_] => exact nomatch h
  | _ :: _ :: _ :: _ => exact nomatch h
  | [a, b] =>
    rw [begun_two] at h
    have go : ∀ {k' : Bool}, (numN b 7).map (fun n => (k', n)) = some (k, n) → n < 8 := fun h => by
      cases hn : numN b 7 with
      | none => rw [hn] at h; exact nomatch h
      | some m =>
        rw [hn] at h
        have := numN_le hn
        have e : m = n := (Prod.mk.inj (Option.some.inj h)).2
        omega
    split at h
    · exact go h
    · split at h
      · exact go h
      · exact nomatch h
theorem code_le {ps : List Str} {w : Nat} (h : codeOf ps = some w) : w ≤ 4095 := by
  match ps with
  | [] => exact nomatch h
  | [_] => exact nomatch h
  | [_, _] => exact nomatch h
  | _ :: _ :: _ :: _ :: _ => exact nomatch h
  | [a, b, c] =>
    have ec : codeOf [a, b, c] = if a ∈ opsL then (match numN b 3, numN c 63 with
      | some j, some k => some (opsL.idxOf a * 256 + j * 64 + k)
      | _, _ => none) else none := rfl
    rw [ec] at h
    split at h
    · rename_i hm
      cases hj : numN b 3 with
      | none => rw [hj] at h; exact nomatch h
      | some j =>
        cases hk : numN c 63 with
        | none => rw [hj, hk] at h; exact nomatch h
        | some k =>
          rw [hj, hk] at h
          have h1 := numN_le hj
          have h2 := numN_le hk
          have h3 := List.idxOf_lt_length_iff.mpr hm
          have l16 : opsL.length = 16 := rfl
          have := Option.some.inj h
          omega
    · exact nomatch h
theorem entry_le {ps : List Str} {w : Nat} (h : entryOf ps = some w) : w ≤ 4095 := by
  have go : ∀ {b : Str} {f : Nat → Nat}, (∀ n, n ≤ 7 → f n ≤ 4095) → (numN b 7).map f = some w → w ≤ 4095 := fun {b f} hf h => by
    cases hn : numN b 7 with
    | none => rw [hn] at h; exact nomatch h
    | some m =>
      rw [hn] at h
      have := hf m (numN_le hn)
      have e : f m = w := Option.some.inj h
      omega
  match ps with
  | [] => exact nomatch h
  | [_] => exact nomatch h
  | _ :: _ :: _ :: _ :: _ => exact nomatch h
  | [a, b] => exact go (f := fun n => n * 4 + 1) (fun n hn => by omega) h
  | [a, b, c] =>
    have ee : entryOf [a, b, c] = if c = ("write" : Str) then (numN b 7).map fun n => n * 4 + 3 else none := rfl
    rw [ee] at h
    split at h
    · exact go (f := fun n => n * 4 + 3) (fun n hn => by omega) h
    · exact nomatch h
theorem word_le {ps : List Str} {w : Nat} (h : wordOf ps = some w) : w ≤ 4095 := by
  unfold wordOf at h
  split at h
  · have := Option.some.inj h
    omega
  · cases ps with
    | nil => exact nomatch h
    | cons a r =>
      have h : (if a = ("leaf" : Str) then entryOf (a :: r) else if a = ("word" : Str) then oneOf r else codeOf (a :: r)) = some w := h
      split at h
      · exact entry_le h
      · split at h
        · cases r with
          | nil => exact nomatch h
          | cons b q =>
            cases q with
            | nil => exact numN_le h
            | cons _ _ => exact nomatch h
        · exact code_le h
theorem Im.Ok.set {m : Im} (h : Im.Ok m) {n : Nat} (hn : n < 8) : Im.Ok (setI m n) := by
  unfold setI
  split
  · exact h
  · rename_i c
    have hg : getI m n = none := by
      cases e : getI m n with
      | none => rfl
      | some v => rw [e] at c; exact absurd rfl c
    refine ⟨?_, fun e he => ?_⟩
    · rw [List.map_append, List.map_cons, List.map_nil, List.nodup_append]
      exact ⟨h.nd, by simp, fun a ha b hb z => getI_none hg (by rw [List.mem_singleton] at hb; have hb : b = n := hb; rw [← hb, ← z]; exact ha)⟩
    · rcases List.mem_append.mp he with z | z
      · exact h.lt e z
      · rw [List.mem_singleton.mp z]
        exact ⟨hn, Nat.zero_le _, fun _ w => nomatch w⟩
theorem Im.Ok.push {m : Im} (h : Im.Ok m) {n w : Nat} (hw : w ≤ 4095) (hl : ((getI m n).getD []).length ≠ 8) : Im.Ok (pushI m n w) := by
  refine ⟨?_, fun e he => ?_⟩
  · unfold pushI
    rw [List.map_map, show ((fun (e : Nat × List Nat) => e.1) ∘ fun e => if e.1 = n then (e.1, e.2 ++ [w]) else e) = fun e => e.1 from funext fun e => by
      show (if e.1 = n then (e.1, e.2 ++ [w]) else e).1 = e.1
      split <;> rfl]
    exact h.nd
  · unfold pushI at he
    obtain ⟨c, hc, rfl⟩ := List.mem_map.mp he
    obtain ⟨a1, a2, a3⟩ := h.lt c hc
    split
    · rename_i e
      have hg := getI_some h.nd (n := c.1) (ws := c.2) hc
      rw [e] at hg
      rw [hg] at hl
      have hl : c.2.length ≠ 8 := hl
      refine ⟨a1, by show (c.2 ++ [w]).length ≤ 8; rw [List.length_append]; show c.2.length + 1 ≤ 8; omega, fun x hx => ?_⟩
      rcases List.mem_append.mp hx with z | z
      · exact a3 x z
      · rw [List.mem_singleton.mp z]; exact hw
    · exact ⟨a1, a2, a3⟩
theorem S.Ok.side {s : S} (h : s.Ok) (k : Bool) : Im.Ok (s.side k) := by
  cases k
  · exact h.b
  · exact h.r
theorem S.Ok.with {s : S} (h : s.Ok) {k : Bool} {m : Im} (hm : Im.Ok m) : (s.with k m).Ok := by
  cases k
  · exact ⟨h.r, hm⟩
  · exact ⟨hm, h.b⟩
theorem S.Ok.stp {s s' : S} {ps : List Str} (h : s.Ok) (e : stp s ps = some s') : s'.Ok := by
  unfold K06.stp at e
  split at e
  · rename_i k n hb
    obtain rfl := Option.some.inj e
    have w := h.with (k := k) ((h.side k).set (begun_lt hb))
    exact ⟨w.r, w.b⟩
  · split at e
    · rename_i w k n hw hc
      split at e
      · exact nomatch e
      · rename_i hl
        obtain rfl := Option.some.inj e
        exact h.with ((h.side k).push (word_le hw) hl)
    · exact nomatch e
theorem ok0 : s0.Ok := ⟨⟨List.nodup_nil, fun _ z => nomatch z⟩, ⟨List.nodup_nil, fun _ z => nomatch z⟩⟩
end K06

namespace K06
open PySem PySem.Spec PyProof.Rows L2 Bk


/-! ### what is told, in memory -/
abbrev Es := List (Nat × Addr × List Nat)
def intsV (l : List Nat) : List V := l.map fun (i : Nat) => V.int i
def kvE (es : Es) : List (Key × V) := es.map fun e => (.inl (e.1 : Int), .ref e.2.1)
def imE (es : Es) : Im := es.map fun e => (e.1, e.2.2)
def Sd (H : Hp) (d : Addr) (es : Es) : Prop := H d = some (.dK (kvE es)) ∧ ∀ e ∈ es, H e.2.1 = some (.lst (intsV e.2.2))
theorem Sd.same {H H' : Hp} {d : Addr} {es : Es} (h : Sd H d es) (s : Same H H') : Sd H' d es := ⟨s _ _ h.1, fun e he => s _ _ (h.2 e he)⟩
theorem val_kv {n : Nat} : ∀ es : Es, valV (kvE es) (.inl (n : Int) : Key) = (es.find? fun e => decide (e.1 = n)).map fun e => V.ref e.2.1
  | [] => rfl
  | e :: r => by
    have ih := val_kv (n := n) r
    unfold valV kvE at ih ⊢
    rw [List.map_cons, List.find?_cons, List.find?_cons]
    by_cases h : e.1 = n
    · rw [decide_eq_true (show (.inl (e.1 : Int) : Key) = .inl (n : Int) by rw [h]), decide_eq_true h]
      rfl
    · rw [decide_eq_false (show ¬ (.inl (e.1 : Int) : Key) = .inl (n : Int) from fun z => h (by have := Sum.inl.inj z; omega)), decide_eq_false h]
      exact ih
theorem get_im {n : Nat} : ∀ es : Es, getI (imE es) n = (es.find? fun e => decide (e.1 = n)).map fun e => e.2.2
  | [] => rfl
  | e :: r => by
    have ih := get_im (n := n) r
    unfold getI imE at ih ⊢
    rw [List.map_cons, List.find?_cons, List.find?_cons]
    by_cases h : e.1 = n
    · rw [decide_eq_true (show (e.1, e.2.2).1 = n from h)]
      rfl
    · rw [decide_eq_false (show ¬ (e.1, e.2.2).1 = n from h)]
      exact ih
mutual
theorem dq_same {K : PySem.W.Frag} {H H' : Hp} (s : Same H H') : ∀ (d : PyData) (v : V), Dq false K H v d → Dq false K H' v d
  | .none, _, .non => .non
  | .bool _, _, .bl c => .bl c
  | .int _, _, .int i => .int i
  | .str _, _, .str x => .str x
  | .list ds, _, .lst n q h => .lst n (s.seq q) (dq_sameA s ds _ h)
  | .tuple ds, _, .tup q h => .tup (seqT s q) (dq_sameA s ds _ h)
  | .dict _, _, .dK bt _ _ _ => nomatch bt
theorem dq_sameA {K : PySem.W.Frag} {H H' : Hp} (s : Same H H') : ∀ (ds : List PyData) (vs : List V), DqAll false K H vs ds → DqAll false K H' vs ds
  | [], _, .nil => .nil
  | d :: ds, _, .cons a b => .cons (dq_same s d _ a) (dq_sameA s ds _ b)
end
theorem dq_ints {K : PySem.W.Frag} {H : Hp} : ∀ l : List Nat, DqAll false K H (intsV l) (l.map fun (k : Nat) => PyData.int k)
  | [] => .nil
  | _ :: l => .cons (.int _) (dq_ints l)
theorem dq_tups {K : PySem.W.Frag} {H : Hp} {f : Nat → List Nat} : ∀ {ns : List Nat} {ts : List Addr}, ts.length = ns.length → (∀ (j : Nat) t n, ts[j]? = some t → ns[j]? = some n → H t = some (.tup (intsV (f n)))) → DqAll false K H (ts.map V.ref) (ns.map fun n => rowD (f n))
  | [], [], _, _ => .nil
  | n :: ns, t :: ts, l, h => .cons (.tup (sqT (h 0 t n rfl rfl)) (dq_ints _)) (dq_tups (by simpa using l) fun j u m h1 h2 => h (j + 1) u m h1 h2)
/-- rows of parts, each with its number -/
def Rws (H : Hp) (ts : List Addr) (L : List (Nat × List Str)) : Prop := ts.length = L.length ∧ ∀ (k : Nat) (t : Addr) (q : Nat × List Str), ts[k]? = some t → L[k]? = some q → ∃ pa, H t = some (.tup [.int q.1, .ref pa]) ∧ Row H pa q.2 ∧ q.2 ≠ []
theorem Rws.same {H H' : Hp} {ts : List Addr} {L : List (Nat × List Str)} (h : Rws H ts L) (s : Same H H') : Rws H' ts L := ⟨h.1, fun k t q h1 h2 => by
  obtain ⟨pa, a, b, c⟩ := h.2 k t q h1 h2
  exact ⟨pa, s _ _ a, b.same s, c⟩⟩
theorem Rws.add {H : Hp} {ts : List Addr} {L : List (Nat × List Str)} (h : Rws H ts L) {t pa : Addr} {q : Nat × List Str} (et : H t = some (.tup [.int q.1, .ref pa])) (hr : Row H pa q.2) (hq : q.2 ≠ []) : Rws H (ts ++ [t]) (L ++ [q]) := by
  refine ⟨by rw [List.length_append, List.length_append, h.1]; rfl, fun k u p h1 h2 => ?_⟩
  rcases Nat.lt_trichotomy k ts.length with c | c | c
  · rw [List.getElem?_append_left c] at h1
    rw [List.getElem?_append_left (by rw [← h.1]; exact c)] at h2
    exact h.2 k u p h1 h2
  · rw [c, List.getElem?_append_right (Nat.le_refl _), Nat.sub_self] at h1
    rw [c, h.1, List.getElem?_append_right (Nat.le_refl _), Nat.sub_self] at h2
    obtain rfl := Option.some.inj h1
    obtain rfl := Option.some.inj h2
    exact ⟨pa, et, hr, hq⟩
  · rw [List.getElem?_eq_none (by rw [List.length_append]; show ts.length + 1 ≤ k; omega)] at h1
    exact nomatch h1
theorem row_ne {H : Hp} {pa cl : Addr} {ps : List Str} {us : List Addr} (h : H pa = some (.lst (ps.map V.str))) (n : ps ≠ []) (e : H cl = some (.lst (us.map V.ref))) : pa ≠ cl := fun z => by
  rw [z, e] at h
  injection h with h
  injection h with h
  cases ps with
  | nil => exact n rfl
  | cons a r =>
    cases us with
    | nil => exact nomatch h
    | cons b q => exact nomatch (List.cons.inj h).1
theorem Rws.put {H : Hp} {ts us : List Addr} {L : List (Nat × List Str)} {cl : Addr} {ys : List V} (h : Rws H ts L) (e : H cl = some (.lst (us.map V.ref))) : Rws (upd H cl (.lst ys)) ts L := ⟨h.1, fun k t q h1 h2 => by
  obtain ⟨pa, a, b, c⟩ := h.2 k t q h1 h2
  refine ⟨pa, ?_, ⟨?_, b.2⟩, c⟩
  · rw [upd_ne (fun z => by rw [z, e] at a; exact nomatch a)]; exact a
  · rw [upd_ne (row_ne b.1 c e)]; exact b.1⟩
theorem lcNewF {K : PySem.W.Frag} {σ : L2.St} {H0 : Hp} {Q : VK} {j : Nat} {vs : List Nat} {tt : TT} {te tl : TE} {xs : List V} (p : Nat → Option V) (hv : ∀ QQ : VK, (∀ a H, H0 a = none → Same H0 H → H a = some (.lst xs) → QQ (.ref a) H) → tl σ H0 QQ) (hl : xs.length ≤ 10000) (hw : ∀ x, wipe ((wipe σ vs).set j (some x)) vs = wipe σ vs)
    (ht : ∀ (i : Nat) (y : V) (H1 : Hp) (Q' : VK) (R' : Hp → Prop), xs[i]? = some y → (∀ v, p i = some v → ∀ H3, Same H1 H3 → Q' v H3) → (p i = none → ∀ H3, Same H1 H3 → R' H3) →
      tt ((wipe σ vs).set j (some y)) H1 fun b H4 => if b = true then te ((wipe σ vs).set j (some y)) H4 Q' else R' H4)
    (q : ∀ D H', H0 D = none → Same H0 H' → H' D = some (.lst ((List.range xs.length).filterMap p)) → Q (.ref D) H') : tLc (iList K tl) (gName j) tt te vs σ H0 Q := by
  refine r_iList (hv _ fun a H na s ea => ?_)
  have w : tLc (iList K (tC (.ref a))) (gName j) tt te vs σ H Q := lcLF p (fun QQ z => z) (sqL ea) hl hw (fun i y H1 Q' R' hy _ h1 h2 => ht i y H1 Q' R' hy h1 h2) fun D H' nD s' eD => q D H' (s.free nD) (s.trans s') eD
  obtain ⟨p', hp, _, body⟩ := w
  obtain rfl : a = p' := V.ref.inj hp
  exact ⟨a, rfl, ⟨xs, sqL ea⟩, body⟩
def spCut : Sp := fun vs H Q _ => ∃ (pr : Addr) (R : List Str), vs = [.ref pr, .int 0] ∧ H pr = some (.lst (R.map V.str)) ∧ R.length ≤ 9950 ∧ (∀ r ∈ R, r.length ≤ 9950 ∧ okS r) ∧
  ∀ (p : Addr) (ts : List Addr) H', H p = none → Same H H' → H' p = some (.lst (ts.map V.ref)) → Rws H' ts (cutR 0 R) → Q (.ref p) H'
def spFil (K : PySem.W.Frag) : Sp := fun vs H Q _ => ∃ (d : Addr) (es : Es), vs = [.ref d] ∧ Sd H d es ∧ Im.Ok (imE es) ∧ ∀ p H', Same H H' → Dq false K H' (.ref p) (filD (imE es)) → Q (.ref p) H'
theorem parts_fm (sp : List Str) : (List.range (sp.map V.str).length).filterMap (fun i => (fun y : Str => if y = Str.ofString "" then none else some (V.str y)) (sp.getD i Str.empty)) = (sp.filter fun p => decide (p ≠ Str.ofString "")).map V.str := by
  rw [List.length_map, rng_fm Str.empty sp (fun y : Str => if y = Str.ofString "" then none else some (V.str y)), fm_flt (fun y : Str => y = Str.ofString "") V.str]
theorem row_parts {H : Hp} {p : Addr} {row : Str} (hl : row.length ≤ 9950) (ho : okS row) (e : H p = some (.lst ((partsOf row).map V.str))) : Row H p (partsOf row) := by
  have l1 : (Str.ofString " ").length = 1 := by decide +kernel
  refine ⟨e, ?_, fun x hx => ?_⟩
  · have := split_count row " "
    have := List.length_filter_le (fun p => decide (p ≠ Str.ofString "")) (Txt.split row " ")
    show ((Txt.split row " ").filter _).length ≤ _
    omega
  · have hx := (List.mem_filter.mp hx).1
    have h := split_part hx
    exact ⟨by omega, okS_split ho hx⟩
section
variable {P : Program} {w : World} {K : PySem.W.Frag} {mg : Str → Option Value} {base : Heap} {A : Ad}
theorem ok_filled {f : Addr} {fd : FuncData} (F : Fun K "_filled" "_filled" s_filled f fd) (T : Txt K mg A) : FnOk P w K mg base CX0 1 f fd ["told"] (spFil K) := by
  refine F.ok sc_filled (fun vs H Q E h => ?_) (fun cdv A' outer s H vs Q E hr h => have hu := units1 hr; ⟨_, (pss_cons (ps_set (i := 1) sc_filled.nd rfl (.inl rfl) (pe_lstB pa_nil))
    (pss_cons (ps_for PassesOwn.never rfl (pi_range1 (by rfl) T.m_range (pa_cons (C8.pe_gc (by rfl) T.c_EIGHT) pa_nil)) (pg_name (i := 2) sc_filled.nd rfl (.inl rfl))
      (pss_cons (ps_set (i := 3) sc_filled.nd rfl (.inl rfl) (pe_callTy call_list_of (by rfl) T.m_list (by decide +kernel) (pa_cons (pe_dget2 hu (pv 0) (pv 2) (pe_tup pa_nil) ⟨rfl, rfl, rfl, rfl⟩) pa_nil)))
    (pss_one (ps_expr (pe_bm PySem.F.plainAttrs_list PySem.F.slot_list_append PySem.F.type_list_append mt_append (pv 1) (pa_cons (pe_callTy call_tuple_of (by rfl) T.m_tuple (by decide +kernel) (pa_cons (pe_op op_cat (pv 3) (pe_op op_rep (pe_lstB (pa_cons pe_int pa_nil)) (pe_op op_sub (C8.pe_gc (by rfl) T.c_EIGHT) (pe_callB call_len_seq (by rfl) T.m_len (by decide +kernel) (pa_cons (pv 3) pa_nil))))) pa_nil)) pa_nil))))))
    (pss_one (ps_ret (pe_callTy call_tuple_of (by rfl) T.m_tuple (by decide +kernel) (pa_cons (pv 1) pa_nil)))))), ?_⟩)
  · obtain ⟨d, es, rfl, _⟩ := h
    rfl
  · obtain ⟨d, es, rfl, hd, hok, q⟩ := h
    walk_at "go"
    refine newLB fun rl H1 nrl grl s1 erl => ?_
    walk_at "go"
    refine ⟨8, rfl, by decide, by decide, ?_⟩
    refine for_range (n := 8) (fun k σ G => (∃ x2 x3, σ = [some (.ref d), some (.ref rl), x2, x3]) ∧ Same H G ∧ ∃ ts : List Addr, G rl = some (.lst (ts.map V.ref)) ∧ ts.length = k ∧ ∀ (j : Nat) t, ts[j]? = some t → G t = some (.tup (intsV (pad ((getI (imE es) j).getD [])))))
      ⟨⟨_, _, rfl⟩, s1, [], erl, rfl, fun _ _ z => nomatch z⟩ ?_ ?_
    · rintro k σ G hk ⟨⟨x2, x3, rfl⟩, sG, ts, ets, lts, hts⟩
      rw [Int.zero_add]
      have hdG := hd.same sG
      walk_at "go"
      refine r_dget2 ⟨_, rfl, d, rfl, .inl ⟨_, .inl hdG.1⟩, _, rfl, ?_⟩
      walk_at "go"
      refine newT fun t0 G1 nt0 s1' et0 => ?_
      refine ⟨_, .inl ⟨_, .inl (k : Int), .inl (s1' _ _ hdG.1), rfl, rfl⟩, ?_⟩
      rw [val_kv]
      have hd1 := hdG.same s1'
      obtain ⟨ws, hws⟩ : ∃ ws, ws = (getI (imE es) k).getD [] := ⟨_, rfl⟩
      have w8 : ws.length ≤ 8 := by
        rw [hws]
        cases hg : getI (imE es) k with
        | none => exact Nat.zero_le _
        | some v => exact (hok.lt _ (getI_mem hg)).2.1
      have hval : ∃ a : Addr, (((es.find? fun e => decide (e.1 = k)).map fun e => V.ref e.2.1).getD (V.ref t0)) = V.ref a ∧ (SqL K G1 a (intsV ws) ∨ SqT K G1 a (intsV ws)) := by
        rw [hws, get_im]
        cases hf : es.find? fun e => decide (e.1 = k) with
        | none => exact ⟨t0, rfl, .inr (sqT et0)⟩
        | some e => exact ⟨e.2.1, rfl, .inl (sqL (hd1.2 e (List.mem_of_find?_eq_some hf)))⟩
      obtain ⟨a, ea, hsq⟩ := hval
      rw [ea]
      walk_at "go"
      refine ⟨a, _, rfl, hsq, fun l nl => ?_⟩
      have sl := same_upd (o := .lst (intsV ws)) nl
      have el : upd G1 l (.lst (intsV ws)) l = some (.lst (intsV ws)) := upd_same
      generalize upd G1 l (.lst (intsV ws)) = G2 at sl el ⊢
      have sG2 := sG.trans (s1'.trans sl)
      have erl2 : G2 rl = some (.lst (ts.map V.ref)) := sl _ _ (s1' _ _ ets)
      walk_at "go"
      refine ⟨.inl ⟨rfl, _, sqL erl2⟩, ?_⟩
      walk_at "go"
      refine newLB fun z1 G3 nz1 gz1 sz1 ez1 => ?_
      walk_at "go"
      refine ⟨l, _, rfl, .inl (sqL (sz1 _ _ el)), ?_⟩
      rw [show (intsV ws).length = ws.length from List.length_map _]
      walk_at "go"
      refine ⟨z1, _, _, rfl, rfl, ez1, by omega, by omega, ?_, fun z2 nz2 => ?_⟩
      · rw [sizeLine_eq]
        show 1 * (8 - (ws.length : Int)).toNat ≤ _
        omega
      have ez2v : (List.replicate (8 - (ws.length : Int)).toNat [V.int 0]).flatten = intsV (List.replicate (8 - ws.length) 0) := by
        rw [show (8 - (ws.length : Int)).toNat = 8 - ws.length by omega]
        generalize 8 - ws.length = m
        induction m with
        | zero => rfl
        | succ m ih => rw [List.replicate_succ, List.flatten_cons, ih, List.replicate_succ]; rfl
      rw [ez2v]
      have sz2 := same_upd (o := .lst (intsV (List.replicate (8 - ws.length) 0))) nz2
      have ez2 : upd G3 z2 (.lst (intsV (List.replicate (8 - ws.length) 0))) z2 = some (.lst (intsV (List.replicate (8 - ws.length) 0))) := upd_same
      generalize upd G3 z2 (.lst (intsV (List.replicate (8 - ws.length) 0))) = G4 at sz2 ez2 ⊢
      refine r_cat (sz2 _ _ (sz1 _ _ el)) ez2 (fun z3 G5 nz3 sz3 ez3 => ?_) (by rw [show (intsV ws).length = ws.length from List.length_map _, show (intsV (List.replicate (8 - ws.length) 0)).length = 8 - ws.length by rw [show (intsV (List.replicate (8 - ws.length) 0)).length = (List.replicate (8 - ws.length) 0).length from List.length_map _, List.length_replicate]]; omega)
      have epad : intsV ws ++ intsV (List.replicate (8 - ws.length) 0) = intsV (pad ws) := by
        unfold pad intsV
        rw [List.map_append]
      rw [epad] at ez3
      walk_at "go"
      refine ⟨z3, _, rfl, .inl ⟨sqL ez3, fun q nq => ?_⟩⟩
      have sq := same_upd (o := .tup (intsV (pad ws))) nq
      have eq : upd G5 q (.tup (intsV (pad ws))) q = some (.tup (intsV (pad ws))) := upd_same
      generalize upd G5 q (.tup (intsV (pad ws))) = G6 at sq eq ⊢
      have s26 : Same G2 G6 := sz1.trans (sz2.trans (sz3.trans sq))
      have erl6 := s26 _ _ erl2
      walk_at "go"
      refine ⟨rl, _, _, rfl, rfl, erl6, by rw [List.length_map, sizeLine_eq]; omega, ?_⟩
      have nrl0 : H rl = none := nrl
      refine ⟨⟨_, _, rfl⟩, fun b u z => by rw [upd_ne (ne_of_none z nrl0)]; exact s26 _ _ (sG2 _ _ z), ts ++ [q], by rw [upd_same, List.map_append]; rfl, by rw [List.length_append, lts]; rfl, fun j t ht => ?_⟩
      have tn : ∀ {t : Addr} {xs : List V}, G6 t = some (.tup xs) → t ≠ rl := fun e z => by rw [z, erl6] at e; exact nomatch e
      rcases Nat.lt_trichotomy j ts.length with c | c | c
      · rw [List.getElem?_append_left c] at ht
        have e := s26 _ _ (sl _ _ (s1' _ _ (hts j t ht)))
        rw [upd_ne (tn e)]
        exact e
      · rw [c, List.getElem?_append_right (Nat.le_refl _), Nat.sub_self] at ht
        obtain rfl := Option.some.inj ht
        rw [upd_ne (tn eq), eq, c, lts, ← hws]
      · rw [List.getElem?_eq_none (by rw [List.length_append]; show ts.length + 1 ≤ j; omega)] at ht
        exact nomatch ht
    · rintro σ G ⟨⟨x2, x3, rfl⟩, sG, ts, ets, lts, hts⟩
      walk_at "go"
      refine ⟨rl, _, rfl, .inl ⟨sqL ets, fun p np => ?_⟩⟩
      have sp := same_upd (o := .tup (ts.map V.ref)) np
      have ep : upd G p (.tup (ts.map V.ref)) p = some (.tup (ts.map V.ref)) := upd_same
      generalize upd G p (.tup (ts.map V.ref)) = G2 at sp ep ⊢
      refine q _ _ (sG.trans sp) (.tup (sqT ep) (dq_tups (f := fun n => pad ((getI (imE es) n).getD [])) (by rw [lts]; rfl) fun j t n h1 h2 => ?_))
      have hj : j < 8 := by rw [← lts]; exact (List.getElem?_eq_some_iff.mp h1).1
      rw [List.getElem?_range hj] at h2
      obtain rfl := Option.some.inj h2
      exact sp _ _ (hts j t h1)
theorem ok_cut {f : Addr} {fd : FuncData} {kws : List (Str × V)} (F : FunD K "cut_rows" "cut_rows" (defArgs s_cut_rows) (defBody s_cut_rows) (defScope s_cut_rows) [] kws f fd) (T : Txt K mg A) : FnOk P w K mg base CX0 1 f fd ["rows", "first"] spCut := by
  refine F.ok sc_cut_rows (fun vs H Q E h => ?_) (fun cdv A outer s H vs Q E hr h => ?_)
  · obtain ⟨pr, R, rfl, _⟩ := h
    rfl
  · suffices hs : ∃ t, PSs (cxOf CX0 P w K mg base _ "cut_rows" (defScope s_cut_rows) f cdv A outer s H E).nox (defBody s_cut_rows) t ∧ t { nx := fun _ H' => Q .non H', rt := Q } (start ["rows", "first", "cut", "at", "row", "parts", "part"] vs) H from
      let ⟨t, h1, h2⟩ := hs
      ⟨t, h1.nox, h2⟩
    refine ⟨_, (pss_cons (ps_set (i := 2) sc_cut_rows.nd rfl (.inl rfl) (pe_lstB pa_nil))
    (pss_cons (ps_for PassesOwn.never rfl (pi_enumK (by rfl) T.m_enumerate (pa_cons (pv 0) pa_nil) (pk_cons (pv 1) pk_nil)) (pg_tup rfl (pgs_cons (pg_name (i := 3) sc_cut_rows.nd rfl (.inl rfl)) (pgs_cons (pg_name (i := 4) sc_cut_rows.nd rfl (.inl rfl)) pgs_nil)))
      (pss_cons (ps_setLc (i := 5) (own := [("part", 6)]) rfl sc_cut_rows.nd rfl rfl (sw_true rfl rfl rfl (by decide +kernel)) (pi_list (pe_split (pv 4) pe_str)) (blkOk_by (N := ["rows", "first", "cut", "at", "row", "parts", "part"]) (sc := defScope s_cut_rows) (by decide +kernel)) (fun _ _ _ _ _ => (pg_name (i := 6) sc_cut_rows.nd rfl (.inl rfl))) (fun _ _ _ _ _ => pts_one (pt_cmpR op_ne (pv 6) pe_str (nomark _))) (fun _ _ _ _ _ => (pv 6)))
    (pss_one (ps_if (pt_truth (pv 5) (fun _ => rfl)) (pss_one (ps_expr (pe_bm PySem.F.plainAttrs_list PySem.F.slot_list_append PySem.F.type_list_append mt_append (pv 2) (pa_cons (pe_tup (pa_cons (pv 3) (pa_cons (pv 5) pa_nil))) pa_nil)))) pss_nil))))
    (pss_one (ps_ret (pv 2))))), ?_⟩
    obtain ⟨pr, R, rfl, eR, lR, hR, q⟩ := h
    walk_at "go"
    refine newLB fun cl H1 ncl gcl s1 ecl => ?_
    walk_at "go"
    unfold iEnumK
    walk_at "go"
    refine ⟨pr, _, rfl, rfl, sqL (s1 _ _ eR), ?_⟩
    refine for_it walk_enum (fun i σ G => (∃ x3 x4 x5 x6, σ = [some (.ref pr), some (.int 0), some (.ref cl), x3, x4, x5, x6]) ∧ Same H G ∧ ∃ (ts : List Addr) (L : List (Nat × List Str)), G cl = some (.lst (ts.map V.ref)) ∧ Rws G ts L ∧ cutR 0 R = L ++ cutR i (R.drop i) ∧ L.length ≤ i)
      ⟨⟨_, _, _, _, rfl⟩, s1, [], [], ecl, ⟨rfl, fun _ _ _ z => nomatch z⟩, rfl, Nat.le_refl _⟩ (fun i σ G _ h => sqL (h.2.1 _ _ eR)) ?_ ?_
    · rintro i y σ G G2 hi ⟨⟨x3, x4, x5, x6, rfl⟩, sG, ts, L, ecG, hL, hcut, lL⟩ ⟨Tn, u, v, rfl, nT, rfl, hu, hv⟩
      injection hu with hu
      subst hu
      have sT := same_upd (o := .tup [.int i, v]) nT
      have hi2 : i < R.length := by rw [← List.length_map (f := V.str)]; exact hi
      obtain ⟨row, hrow, rfl⟩ : ∃ z, R[i]? = some z ∧ v = .str z := by
        have hv : (R.map V.str)[i]? = some v := hv
        rw [List.getElem?_map] at hv
        cases hq : R[i]? with
        | none => rw [hq] at hv; exact nomatch hv
        | some z => rw [hq] at hv; exact ⟨z, rfl, (Option.some.inj hv).symm⟩
      obtain ⟨hl, ho⟩ := hR row (List.mem_of_getElem? hrow)
      have hdrop : R.drop i = row :: R.drop (i + 1) := by
        rw [List.drop_eq_getElem_cons hi2]
        rw [List.getElem?_eq_getElem hi2] at hrow
        rw [Option.some.inj hrow]
      have l1 : (Str.ofString " ").length = 1 := by decide +kernel
      refine ⟨Tn, _, rfl, sqT upd_same, rfl, .int i, _, rfl, .str row, _, rfl, rfl, ?_⟩
      generalize upd G Tn (.tup [.int i, .str row]) = G2 at sT ⊢
      walk_at "go"
      refine lcNewF (xs := (Txt.split row " ").map V.str) (fun i => (fun y : Str => if y = Str.ofString "" then none else some (V.str y)) ((Txt.split row " ").getD i Str.empty)) (fun QQ z => ?_) (by rw [List.length_map]; have := split_count row " "; omega) (fun _ => rfl) (fun k y H3 Q' R' hy h1 h2 => ?_) fun D G3 nD s3 eD => ?_
      · walk_at "go"
        refine ⟨⟨row, rfl⟩, ?_⟩
        walk_at "go"
        exact ⟨row, _, rfl, rfl, by decide +kernel, by rw [sizeLine_eq]; omega, fun p np => z p _ np (same_upd np) upd_same⟩
      · rw [List.getElem?_map] at hy
        cases hk : (Txt.split row " ")[k]? with
        | none => rw [hk] at hy; exact nomatch hy
        | some x =>
          rw [hk] at hy
          obtain rfl := Option.some.inj hy
          have hg : (Txt.split row " ").getD k Str.empty = x := by rw [List.getD_eq_getElem?_getD, hk]; rfl
          rw [hg] at h1 h2
          walk_at "go"
          refine iteNC (fun hx => ?_) (fun hx => ?_)
          · walk_at "go"
            exact h1 _ (if_neg fun z => hx (by rw [z])) _ (Same.refl _)
          · walk_at "go"
            exact h2 (if_pos (by injection hx)) _ (Same.refl _)
      · rw [parts_fm] at eD
        have hrw := row_parts hl ho eD
        have sG3 := sG.trans (sT.trans s3)
        have ecG3 := s3 _ _ (sT _ _ ecG)
        have hcons : cutR i (R.drop i) = if partsOf row = [] then cutR (i + 1) (R.drop (i + 1)) else (i, partsOf row) :: cutR (i + 1) (R.drop (i + 1)) := by rw [hdrop]; rfl
        walk_at "go"
        refine ⟨decide (partsOf row ≠ []), .inl ⟨_, sqL hrw.1, by cases partsOf row <;> rfl⟩, ?_⟩
        by_cases hp : partsOf row = []
        · rw [decide_eq_false (fun z => z hp)]
          walk_at "go"
          rw [if_pos hp] at hcons
          exact ⟨⟨_, _, _, _, rfl⟩, sG3, ts, L, ecG3, (hL.same sT).same s3, by rw [hcut, hcons], Nat.le_succ_of_le lL⟩
        · rw [decide_eq_true hp]
          rw [if_neg hp] at hcons
          walk_at "go"
          refine ⟨.inl ⟨rfl, _, sqL ecG3⟩, ?_⟩
          walk_at "go"
          refine newT fun t G4 nt s4 et => ?_
          have ecG4 := s4 _ _ ecG3
          walk_at "go"
          refine ⟨cl, _, _, rfl, rfl, ecG4, by rw [List.length_map, sizeLine_eq, hL.1]; omega, ?_⟩
          have ncl0 : H cl = none := ncl
          have hL5 := (((hL.same sT).same s3).same s4).put (ys := ts.map V.ref ++ [.ref t]) ecG4
          refine ⟨⟨_, _, _, _, rfl⟩, fun b u z => by rw [upd_ne (ne_of_none z ncl0)]; exact s4 _ _ (sG3 _ _ z), ts ++ [t], L ++ [(i, partsOf row)], by rw [upd_same, List.map_append]; rfl, hL5.add (pa := D) ?_ ⟨?_, hrw.2⟩ hp, by rw [hcut, hcons, List.append_assoc]; rfl, by rw [List.length_append]; exact Nat.succ_le_succ lL⟩
          · rw [upd_ne (fun z => by rw [z, ecG4] at et; exact nomatch et)]; exact et
          · rw [upd_ne (row_ne (s4 _ _ hrw.1) hp ecG4)]; exact s4 _ _ hrw.1
    · rintro σ G ⟨⟨x3, x4, x5, x6, rfl⟩, sG, ts, L, ecG, hL, hcut, lL⟩
      walk_at "go"
      have e : cutR 0 R = L := by
        rw [hcut, List.length_map, List.drop_length]
        exact List.append_nil L
      exact q cl ts G ncl sG ecG (e ▸ hL)
end
end K06

namespace K06
open PySem PySem.Spec PyProof.Rows L2 Bk


/-! ### both dicts in memory -/
def setE (es : Bool → Es) (k : Bool) (l : Es) : Bool → Es := fun j => if j = k then l else es j
def pushE (es : Es) (n w : Nat) : Es := es.map fun e => if e.1 = n then (e.1, e.2.1, e.2.2 ++ [w]) else e
theorem imE_push {es : Es} {n w : Nat} : imE (pushE es n w) = pushI (imE es) n w := by
  unfold imE pushE pushI
  rw [List.map_map, List.map_map]
  refine List.map_congr_left fun e _ => ?_
  show ((if e.1 = n then (e.1, e.2.1, e.2.2 ++ [w]) else e).1, (if e.1 = n then (e.1, e.2.1, e.2.2 ++ [w]) else e).2.2) = if e.1 = n then (e.1, e.2.2 ++ [w]) else (e.1, e.2.2)
  split <;> rfl
theorem kv_push {es : Es} {n w : Nat} : kvE (pushE es n w) = kvE es := by
  unfold kvE pushE
  rw [List.map_map]
  refine List.map_congr_left fun e _ => ?_
  show ((.inl ((if e.1 = n then (e.1, e.2.1, e.2.2 ++ [w]) else e).1 : Int), V.ref (if e.1 = n then (e.1, e.2.1, e.2.2 ++ [w]) else e).2.1) : Key × V) = (.inl (e.1 : Int), V.ref e.2.1)
  split <;> rfl
theorem getI_e {es : Es} (nd : ((imE es).map (·.1)).Nodup) {e : Nat × Addr × List Nat} (h : e ∈ es) : getI (imE es) e.1 = some e.2.2 := getI_some nd (List.mem_map.mpr ⟨e, h, rfl⟩)
structure Rl (H0 H : Hp) (t : Addr) (dd : Bool → Addr) (es : Bool → Es) (s : S) (wv : V) : Prop where
  top : H t = some (.dK [(.inr ("room" : Str), .ref (dd true)), (.inr ("block" : Str), .ref (dd false))])
  sd : ∀ k, Sd H (dd k) (es k)
  im : ∀ k, imE (es k) = s.side k
  inj : ∀ j c j' c', c ∈ es j → c' ∈ es j' → c.2.1 = c'.2.1 → j = j' ∧ c = c'
  td : ∀ k, t ≠ dd k
  ne : dd true ≠ dd false
  cur : match s.cur with
    | none => wv = .non
    | some (k, n) => ∃ e ∈ es k, e.1 = n ∧ wv = .ref e.2.1
  ft : H0 t = none
  fd : ∀ k, H0 (dd k) = none
  fe : ∀ k, ∀ e ∈ es k, H0 e.2.1 = none
  sm : Same H0 H
section
variable {H0 H H' : Hp} {t : Addr} {dd : Bool → Addr} {es : Bool → Es} {s : S} {wv : V} {k : Bool} {n w : Nat}
theorem Rl.same (h : Rl H0 H t dd es s wv) (c : Same H H') : Rl H0 H' t dd es s wv :=
  { h with top := c _ _ h.top, sd := fun k => (h.sd k).same c, sm := h.sm.trans c }
/-- words told already -/
theorem Rl.old (h : Rl H0 H t dd es s wv) {e : Nat × Addr × List Nat} (he : e ∈ es k) (hn : e.1 = n) (nd : ((s.side k).map (·.1)).Nodup) : Rl H0 H t dd es { s.with k (setI (s.side k) n) with cur := some (k, n) } (.ref e.2.1) := by
  have hg : getI (s.side k) n = some e.2.2 := by
    rw [← h.im k] at nd ⊢
    rw [← hn]
    exact getI_e nd he
  have e1 : setI (s.side k) n = s.side k := by
    unfold setI
    rw [hg]
    rfl
  refine { h with im := fun j => ?_, cur := ⟨e, he, hn, rfl⟩ }
  rw [e1, h.im j]
  cases k <;> cases j <;> rfl
/-- none told yet -/
theorem Rl.new (h : Rl H0 H t dd es s wv) {l : Addr} (el : H l = some (.lst [])) (nl : H0 l = none) (nle : ∀ j, ∀ e ∈ es j, e.2.1 ≠ l) (hg : getI (s.side k) n = none) :
    Rl H0 (upd H (dd k) (.dK (kvE (es k) ++ [(.inl (n : Int), .ref l)]))) t dd (setE es k (es k ++ [(n, l, [])])) { s.with k (setI (s.side k) n) with cur := some (k, n) } (.ref l) := by
  have e1 : setI (s.side k) n = s.side k ++ [(n, [])] := by
    unfold setI
    rw [hg]
    rfl
  have lst_ne : ∀ {b : Addr} {xs : List V}, H b = some (.lst xs) → b ≠ dd k := fun {b xs} e z => by rw [z, (h.sd k).1] at e; exact nomatch e
  have dne : ∀ {j : Bool}, j ≠ k → dd j ≠ dd k := fun {j} jk z => by
    cases j <;> cases k
    · exact jk rfl
    · exact h.ne z.symm
    · exact h.ne z
    · exact jk rfl
  have mem : ∀ {j : Bool} {c : Nat × Addr × List Nat}, c ∈ setE es k (es k ++ [(n, l, [])]) j → c ∈ es j ∨ (j = k ∧ c = (n, l, [])) := fun {j c} hc => by
    unfold setE at hc
    split at hc
    · rename_i jk
      subst jk
      rcases List.mem_append.mp hc with z | z
      · exact .inl z
      · exact .inr ⟨rfl, List.mem_singleton.mp z⟩
    · exact .inl hc
  refine ⟨by rw [upd_ne (h.td k)]; exact h.top, fun j => ?_, fun j => ?_, fun j c j' c' hc hc' e => ?_, h.td, h.ne, ?_, h.ft, h.fd, fun j c hc => ?_, fun b u z => ?_⟩
  · by_cases jk : j = k
    · subst jk
      refine ⟨?_, fun c hc => ?_⟩
      · rw [upd_same]
        unfold setE
        rw [if_pos rfl]
        unfold kvE
        rw [List.map_append]
        rfl
      · rcases mem hc with z | ⟨_, rfl⟩
        · have e := (h.sd j).2 c z
          rw [upd_ne (lst_ne e)]; exact e
        · rw [upd_ne (lst_ne el)]; exact el
    · have es' : setE es k (es k ++ [(n, l, [])]) j = es j := if_neg jk
      rw [es']
      refine ⟨by rw [upd_ne (dne jk)]; exact (h.sd j).1, fun c hc => ?_⟩
      have e := (h.sd j).2 c hc
      rw [upd_ne (lst_ne e)]; exact e
  · rw [e1]
    by_cases jk : j = k
    · subst jk
      have es' : setE es j (es j ++ [(n, l, [])]) j = es j ++ [(n, l, [])] := if_pos rfl
      rw [es']
      have e2 : imE (es j ++ [(n, l, [])]) = s.side j ++ [(n, [])] := by rw [← h.im j]; unfold imE; rw [List.map_append]; rfl
      rw [e2]
      cases j <;> rfl
    · have es' : setE es k (es k ++ [(n, l, [])]) j = es j := if_neg jk
      rw [es', h.im j]
      cases j <;> cases k
      · exact absurd rfl jk
      · rfl
      · rfl
      · exact absurd rfl jk
  · rcases mem hc with z | ⟨rfl, rfl⟩ <;> rcases mem hc' with z' | ⟨rfl, rfl⟩
    · exact h.inj j c j' c' z z' e
    · exact absurd e (nle j c z)
    · exact absurd e.symm (nle j' c' z')
    · exact ⟨rfl, rfl⟩
  · refine ⟨(n, l, []), ?_, rfl, rfl⟩
    unfold setE
    rw [if_pos rfl]
    exact List.mem_append_right _ List.mem_cons_self
  · rcases mem hc with z | ⟨_, rfl⟩
    · exact h.fe j c z
    · exact nl
  · rw [upd_ne (fun w => by rw [w, h.fd k] at z; exact nomatch z)]
    exact h.sm _ _ z
/-- a word more -/
theorem Rl.push (h : Rl H0 H t dd es s wv) {e : Nat × Addr × List Nat} (he : e ∈ es k) (hn : e.1 = n) (hc : s.cur = some (k, n)) (hw : wv = .ref e.2.1) (nd : ((s.side k).map (·.1)).Nodup) :
    Rl H0 (upd H e.2.1 (.lst (intsV e.2.2 ++ [.int w]))) t dd (setE es k (pushE (es k) n w)) (s.with k (pushI (s.side k) n w)) wv := by
  have ea := (h.sd k).2 e he
  have dk_ne : ∀ {b : Addr} {kvs : List (Key × V)}, H b = some (.dK kvs) → b ≠ e.2.1 := fun {b kvs} w z => by rw [z, ea] at w; exact nomatch w
  have only : ∀ c ∈ es k, c.1 = n → c = e := fun c hc' hcn => by
    have nd' : ((imE (es k)).map (·.1)).Nodup := by rw [h.im k]; exact nd
    have : ∀ {l : Es}, ((imE l).map (·.1)).Nodup → c ∈ l → e ∈ l → c.1 = e.1 → c = e := by
      intro l
      induction l with
      | nil => exact fun _ z => nomatch z
      | cons a r ih =>
        intro nd a1 a2 eq
        have nd : (a.1 :: (imE r).map (·.1)).Nodup := nd
        rw [List.nodup_cons] at nd
        have inn : ∀ {x : Nat × Addr × List Nat}, x ∈ r → x.1 ∈ (imE r).map (·.1) := fun {x} hx => List.mem_map.mpr ⟨(x.1, x.2.2), List.mem_map.mpr ⟨x, hx, rfl⟩, rfl⟩
        rcases List.mem_cons.mp a1 with z | z <;> rcases List.mem_cons.mp a2 with z' | z'
        · rw [z, z']
        · exact absurd (inn z') (by rw [← eq, z]; exact nd.1)
        · exact absurd (inn z) (by rw [eq, z']; exact nd.1)
        · exact ih nd.2 z z' eq
    exact this nd' hc' he (by rw [hcn, hn])
  have mem : ∀ {j : Bool} {c : Nat × Addr × List Nat}, c ∈ setE es k (pushE (es k) n w) j → ∃ c0 ∈ es j, c.2.1 = c0.2.1 ∧ c.1 = c0.1 ∧ ((j = k ∧ c0 = e ∧ c.2.2 = e.2.2 ++ [w]) ∨ (¬ (j = k ∧ c0 = e) ∧ c = c0)) := fun {j c} hc => by
    unfold setE at hc
    split at hc
    · rename_i jk
      subst jk
      unfold pushE at hc
      obtain ⟨c0, h0, rfl⟩ := List.mem_map.mp hc
      by_cases hcn : c0.1 = n
      · rw [if_pos hcn]
        obtain rfl := only c0 h0 hcn
        exact ⟨c0, h0, rfl, rfl, .inl ⟨rfl, rfl, rfl⟩⟩
      · rw [if_neg hcn]
        exact ⟨c0, h0, rfl, rfl, .inr ⟨fun z => hcn (by rw [z.2, hn]), rfl⟩⟩
    · rename_i jk
      exact ⟨c, hc, rfl, rfl, .inr ⟨fun z => jk z.1, rfl⟩⟩
  refine ⟨by rw [upd_ne (dk_ne h.top)]; exact h.top, fun j => ⟨?_, fun c hc => ?_⟩, fun j => ?_, fun j c j' c' hc hc' eq => ?_, h.td, h.ne, ?_, h.ft, h.fd, fun j c hc => ?_, fun b u z => ?_⟩
  · rw [upd_ne (dk_ne (h.sd j).1)]
    have e0 : kvE (setE es k (pushE (es k) n w) j) = kvE (es j) := by
      unfold setE
      split
      · rename_i jk
        subst jk
        exact kv_push
      · rfl
    rw [e0]
    exact (h.sd j).1
  · obtain ⟨c0, h0, a1, a2, z⟩ := mem hc
    rcases z with ⟨jk, ce, e2⟩ | ⟨nce, rfl⟩
    · rw [a1, ce, upd_same, e2]
      unfold intsV
      rw [List.map_append]
      rfl
    · have na : c.2.1 ≠ e.2.1 := fun z => nce (h.inj _ _ _ _ h0 he z)
      rw [upd_ne na]
      exact (h.sd j).2 c h0
  · by_cases jk : j = k
    · subst jk
      have es' : setE es j (pushE (es j) n w) j = pushE (es j) n w := if_pos rfl
      rw [es', imE_push, h.im j]
      cases j <;> rfl
    · have es' : setE es k (pushE (es k) n w) j = es j := if_neg jk
      rw [es', h.im j]
      cases j <;> cases k
      · exact absurd rfl jk
      · rfl
      · rfl
      · exact absurd rfl jk
  · obtain ⟨c0, h0, a1, a2, z⟩ := mem hc
    obtain ⟨c1, h1, b1, b2, z'⟩ := mem hc'
    obtain ⟨rfl, rfl⟩ := h.inj _ _ _ _ h0 h1 (by rw [← a1, ← b1]; exact eq)
    refine ⟨rfl, ?_⟩
    have c22 : c.2.2 = c'.2.2 := by
      rcases z with ⟨_, _, z⟩ | ⟨z0, z⟩ <;> rcases z' with ⟨y1, y2, z'⟩ | ⟨y0, z'⟩
      · rw [z, z']
      · rename_i x1 x2; exact absurd ⟨x1, x2⟩ y0
      · exact absurd ⟨y1, y2⟩ z0
      · rw [z, z']
    exact Prod.ext (by rw [a2, b2]) (Prod.ext eq c22)
  · have hcur : (s.with k (pushI (s.side k) n w)).cur = some (k, n) := by
      rw [← hc]
      cases k <;> rfl
    rw [hcur]
    refine ⟨(e.1, e.2.1, e.2.2 ++ [w]), ?_, hn, hw⟩
    unfold setE pushE
    rw [if_pos rfl]
    exact List.mem_map.mpr ⟨e, he, if_pos hn⟩
  · obtain ⟨c0, h0, a1, _, _⟩ := mem hc
    rw [a1]
    exact h.fe j c0 h0
  · rw [upd_ne (fun w => by rw [w, h.fe k e he] at z; exact nomatch z)]
    exact h.sm _ _ z
end
theorem begun_at {ps : List Str} {k : Bool} {n : Nat} (h : begun ps = some (k, n)) : ∃ b, ps = [if k = true then ("room" : Str) else "block", b] ∧ numN b 7 = some n := by
  match ps with
  | [] => exact nomatch h
  | [_] => exact nomatch h
  | _ :: _ :: _ :: _ => exact nomatch h
  | [a, b] =>
    rw [begun_two] at h
    have go : ∀ {k' : Bool}, (numN b 7).map (fun n => (k', n)) = some (k, n) → k' = k ∧ numN b 7 = some n := fun h => by
      cases hn : numN b 7 with
      | none => rw [hn] at h; exact nomatch h
      | some m =>
        rw [hn] at h
        have e := Prod.mk.inj (Option.some.inj h)
        exact ⟨e.1, by rw [e.2]⟩
    split at h
    · rename_i ha
      obtain ⟨rfl, e⟩ := go h
      exact ⟨b, by rw [ha]; rfl, e⟩
    · split at h
      · rename_i ha
        obtain ⟨rfl, e⟩ := go h
        exact ⟨b, by rw [ha]; rfl, e⟩
      · exact nomatch h
end K06

namespace K06
open PySem PySem.Spec PyProof.Rows L2 Bk


def spImg (K : PySem.W.Frag) (A : Ad) : Sp := fun vs H Q E => ∃ (pr : Addr) (ts : List Addr) (L : List (Nat × List Str)), vs = [.ref pr] ∧ H pr = some (.lst (ts.map V.ref)) ∧ Rws H ts L ∧
  (∀ s, go s0 L = .inl s → ∀ p H', Same H H' → Dq false K H' (.ref p) (imgD s) → Q (.ref p) H') ∧ ∀ i, go s0 L = .inr i → RefuseN "at" A.CR (.int i) H E
def spRead (K : PySem.W.Frag) (A : Ad) : Sp := fun vs H Q E => ∃ v : V, vs = [v] ∧ ((IsA K H v "str" false ∧ RefuseN "found" A.CX v H E) ∨ ∃ z : Str, v = .str z ∧ z.length ≤ 9900 ∧ okS z ∧
  (∀ s, goR 0 s0 (Txt.split z "\n") = .inl s → ∀ p H', Same H H' → Dq false K H' (.ref p) (imgD s) → Q (.ref p) H') ∧ ∀ i, goR 0 s0 (Txt.split z "\n") = .inr i → RefuseN "at" A.CR (.int i) H E)
theorem go_ok : ∀ {L : List (Nat × List Str)} {s s' : S}, s.Ok → go s L = .inl s' → s'.Ok
  | [], s, s', h, e => by
    obtain rfl := Sum.inl.inj e
    exact h
  | (i, ps) :: L, s, s', h, e => by
    unfold go at e
    cases hs : stp s ps with
    | none => rw [hs] at e; exact nomatch e
    | some s2 =>
      rw [hs] at e
      exact go_ok (h.stp hs) e
theorem Im.Ok.len {m : Im} (h : Im.Ok m) : m.length ≤ 8 := by
  have w := nd_le h.nd (m := List.range 8) fun x hx => by
    obtain ⟨e, he, rfl⟩ := List.mem_map.mp hx
    exact List.mem_range.mpr (h.lt e he).1
  rw [List.length_map, List.length_range] at w
  exact w
theorem put_new {kvs : List (Key × V)} {k : Key} {v : V} (h : valV kvs k = none) : putK kvs k v = kvs ++ [(k, v)] := by
  unfold putK
  refine if_neg fun z => ?_
  unfold valV at h
  rw [Option.map_eq_none_iff, List.find?_eq_none] at h
  obtain ⟨x, hx, hk⟩ := List.any_eq_true.mp z
  exact h x hx hk
theorem top_val {a b : V} {k : Bool} : valV [((.inr (Str.ofString "room") : Key), a), (.inr (Str.ofString "block"), b)] (.inr (if k = true then Str.ofString "room" else Str.ofString "block")) = some (if k = true then a else b) := by
  cases k
  · show valV [((.inr (Str.ofString "room") : Key), a), (.inr (Str.ofString "block"), b)] (.inr (Str.ofString "block")) = some b
    unfold valV
    rw [List.find?_cons, show decide ((Sum.inr (Str.ofString "room") : Key) = .inr (Str.ofString "block")) = false from decide_eq_false (fun z => absurd (Sum.inr.inj z) (by decide +kernel))]
    show ((List.find? _ [((.inr (Str.ofString "block") : Key), b)]).map _) = _
    rw [List.find?_cons, show decide ((Sum.inr (Str.ofString "block") : Key) = .inr (Str.ofString "block")) = true from decide_eq_true rfl]
    rfl
  · show valV [((.inr (Str.ofString "room") : Key), a), (.inr (Str.ofString "block"), b)] (.inr (Str.ofString "room")) = some a
    unfold valV
    rw [List.find?_cons, show decide ((Sum.inr (Str.ofString "room") : Key) = .inr (Str.ofString "room")) = true from decide_eq_true rfl]
    rfl
/-- {a: {}, b: {}} -/
theorem r_disp2 {σ : L2.St} {H : Hp} {Q : VK} {a b : Str} (hab : a ≠ b) (q : ∀ p d1 d2 H', H p = none → H d1 = none → H d2 = none → p ≠ d1 → p ≠ d2 → d1 ≠ d2 → Same H H' → H' p = some (.dK [(.inr a, .ref d1), (.inr b, .ref d2)]) → H' d1 = some (.dK []) → H' d2 = some (.dK []) → Q (.ref p) H') :
    tDisp [(tC (.str a), tDNewK), (tC (.str b), tDNewK)] σ H Q := by
  intro p np
  intro d1 n1
  intro d2 n2
  have p1 : p ≠ d1 := fun z => by rw [← z, upd_same] at n1; exact nomatch n1
  have h1 : H d1 = none := by rw [upd_ne p1.symm] at n1; exact n1
  have p12 : d1 ≠ d2 := fun z => by rw [← z, upd_same] at n2; exact nomatch n2
  have n2' : upd H p (.dK []) d2 = none := by rw [upd_ne p12.symm] at n2; exact n2
  have p2 : p ≠ d2 := fun z => by rw [← z, upd_same] at n2'; exact nomatch n2'
  have h2 : H d2 = none := by rw [upd_ne p2.symm] at n2'; exact n2'
  refine ⟨by rw [upd_ne p2, upd_ne p1]; exact upd_same, [(.inr a, .ref d1), (.inr b, .ref d2)], rfl, (by show 2 ≤ 15; decide), ?_⟩
  have e : mergeK [] [((.inr a : Key), V.ref d1), (.inr b, V.ref d2)] = [(.inr a, .ref d1), (.inr b, .ref d2)] := by
    have nd : ([a, b] : List Str).Nodup := by simp [hab]
    have w := dicF_new (f := fun x => if x = a then V.ref d1 else V.ref d2) nd
    have e2 : dicF [a, b] (fun x => if x = a then V.ref d1 else V.ref d2) = [((.inr a : Key), V.ref d1), (.inr b, V.ref d2)] := by
      unfold dicF
      simp only [List.map_cons, List.map_nil, if_true, if_neg (Ne.symm hab)]
    rw [e2] at w
    exact w
  rw [e]
  refine q p d1 d2 _ np h1 h2 p1 p2 p12 (fun x o z => ?_) upd_same ?_ ?_
  · rw [upd_ne (ne_of_none z np), upd_ne (ne_of_none z h2), upd_ne (ne_of_none z h1), upd_ne (ne_of_none z np)]
    exact z
  · rw [upd_ne p1.symm, upd_ne p12]; exact upd_same
  · rw [upd_ne p2.symm]; exact upd_same
section
variable {P : Program} {w : World} {K : PySem.W.Frag} {mg : Str → Option Value} {base : Heap} {A : Ad}
theorem ok_image {f : Addr} {fd fdR : FuncData} (F : Fun K "image_in" "image_in" s_image_in f fd) (T : Txt K mg A) (c_number_begun : CalD P w K mg base CX0 4 "_number_begun" (spRow begN) []) (c_word_in : CalD P w K mg base CX0 7 "_word_in" (spRow wordOf) []) (c_filled : CalD P w K mg base CX0 1 "_filled" (spFil K) [])
    (c_NoRow_init : Own P w K mg base CX0 2 A.fR fdR ["self", "at"] (spInitN "at" A.CR)) : FnOk P w K mg base (L2.CX P w) 8 f fd ["rows"] (spImg K A) := by
  refine F.okX sc_image_in (fun vs H Q E h => ?_) (fun cdv A' outer s H vs Q E hr h => have hu := units1 hr; have hu64 := hr.units; ⟨_, (pss_cons (ps_set (i := 1) sc_image_in.nd rfl (.inl rfl) (pe_disp (pps_cons pe_str pe_dnewK (pps_cons pe_str pe_dnewK pps_nil)) rfl rfl (by simp) (by decide)))
    (pss_cons (ps_set (i := 2) sc_image_in.nd rfl (.inl rfl) pe_non)
    (pss_cons (ps_for (passes_of rfl) rfl (pi_list (pv 0)) (pg_tup rfl (pgs_cons (pg_name (i := 3) sc_image_in.nd rfl (.inl rfl)) (pgs_cons (pg_name (i := 4) sc_image_in.nd rfl (.inl rfl)) pgs_nil)))
      (pss_cons (ps_set (i := 5) sc_image_in.nd rfl (.inl rfl) (pe_cal c_number_begun hr (by decide) (by rfl) (pa_cons (pv 4) pa_nil)))
    (pss_cons (ps_if (pt_cmpR op_notN (pv 5) pe_non (nomark _)) (pss_cons (ps_set (i := 2) sc_image_in.nd rfl (.inl rfl) (pe_dsetd (pe_dget hu (pv 1) (pe_ix ix_list (pv 4) pe_int (fun _ _ => rfl)) (fun _ _ => rfl)) (pv 5) (pe_lstB pa_nil) ⟨rfl, rfl, rfl, rfl⟩))
    (pss_one ps_continue)) pss_nil)
    (pss_cons (ps_set (i := 6) sc_image_in.nd rfl (.inl rfl) (pe_cal c_word_in hr (by decide) (by rfl) (pa_cons (pv 4) pa_nil)))
    (pss_cons (ps_if (PW.pt (pw_or (pt_cmpR op_isN (pv 6) pe_non (nomark _)) (pw_or (pt_cmpR op_isN (pv 2) pe_non (nomark _)) (pw_or1 (pt_cmpR op_eq (pe_callB call_len_seq (by rfl) T.m_len (by decide +kernel) (pa_cons (pv 2) pa_nil)) (C8.pe_gc (by rfl) T.c_EIGHT) (nomark _)))))) (pss_one (ps_raise rfl (takes_of rfl rfl rfl rfl) (pmk_oexT T.ox_NoRow T.i_NoRow T.t_NoRow c_NoRow_init.ok (hr.mono (by decide)) c_NoRow_init.bd .nil pass0 (by rfl) T.g_NoRow (pa_cons (pv 3) pa_nil)))) pss_nil)
    (pss_one (ps_expr (pe_bm PySem.F.plainAttrs_list PySem.F.slot_list_append PySem.F.type_list_append mt_append (pv 2) (pa_cons (pv 6) pa_nil)))))))))
    (pss_one (ps_ret (pe_tup (pa_cons (pe_cal c_filled hr (by decide) (by rfl) (pa_cons (pe_dget hu (pv 1) pe_str (fun _ _ => rfl)) pa_nil)) (pa_cons (pe_cal c_filled hr (by decide) (by rfl) (pa_cons (pe_dget hu (pv 1) pe_str (fun _ _ => rfl)) pa_nil)) pa_nil)))))))), ?_⟩)
  · obtain ⟨pr, ts, L, rfl, _⟩ := h
    rfl
  · obtain ⟨pr, ts, L, rfl, epr, hL, qi, qr⟩ := h
    walk_at "go"
    refine r_disp2 (by decide +kernel) fun t d1 d2 H1 nt n1 n2 t1 t2 d12 s1 et e1 e2 => ?_
    have R0 : Rl H H1 t (fun k => if k = true then d1 else d2) (fun _ => []) s0 .non :=
      ⟨et, fun k => by cases k <;> exact ⟨by assumption, fun _ z => nomatch z⟩, fun k => by cases k <;> rfl, fun _ _ _ _ z => (nomatch z), fun k => by cases k <;> assumption, d12, rfl, nt, fun k => by cases k <;> assumption, fun _ _ z => (nomatch z), s1⟩
    obtain ⟨dd, hdd⟩ : ∃ dd : Bool → Addr, dd = fun k => if k = true then d1 else d2 := ⟨_, rfl⟩
    rw [← hdd] at R0
    clear et e1 e2 hdd t1 t2 d12 nt n1 n2
    walk_at "go"
    refine ⟨pr, rfl, ⟨_, sqL (s1 _ _ epr)⟩, for_list (K := K) (a := pr) (xs := ts.map V.ref) (fun i σ G => ∃ (es : Bool → Es) (st : S) (wv : V), (∃ x3 x4 x5 x6, σ = [some (.ref pr), some (.ref t), some wv, x3, x4, x5, x6]) ∧ Rl H G t dd es st wv ∧ st.Ok ∧ go s0 L = go st (L.drop i))
      ⟨_, s0, .non, ⟨_, _, _, _, rfl⟩, R0, ok0, rfl⟩ (fun i σ G _ h => by obtain ⟨_, _, _, _, R, _⟩ := h; exact sqL (R.sm _ _ epr)) ?_ ?_⟩
    · clear R0 s1
      rintro i y σ G hi ⟨es, st, wv, ⟨x3, x4, x5, x6, rfl⟩, R, hok, hgo⟩
      rw [List.getElem?_map] at hi
      obtain ⟨tq, htq, rfl⟩ : ∃ tq, ts[i]? = some tq ∧ y = .ref tq := by
        cases h : ts[i]? with
        | none => rw [h] at hi; exact nomatch hi
        | some u => rw [h] at hi; exact ⟨u, rfl, (Option.some.inj hi).symm⟩
      have il : i < L.length := by rw [← hL.1]; exact (List.getElem?_eq_some_iff.mp htq).1
      obtain ⟨pa, etq, hrow, hne⟩ := hL.2 i tq _ htq (List.getElem?_eq_getElem il)
      have hdrop : L.drop i = L[i] :: L.drop (i + 1) := List.drop_eq_getElem_cons il
      generalize L[i] = q at etq hrow hne hdrop
      obtain ⟨at_, ps⟩ := q
      have etq : H tq = some (.tup [.int at_, .ref pa]) := etq
      have hrow : Row H pa ps := hrow
      have hne : ps ≠ [] := hne
      have hgo2 : go s0 L = match stp st ps with
        | none => .inr at_
        | some s' => go s' (L.drop (i + 1)) := by rw [hgo, hdrop]; rfl
      refine ⟨tq, _, rfl, sqT (R.sm _ _ etq), rfl, .int at_, _, rfl, .ref pa, _, rfl, rfl, ?_⟩
      walk_at "go"
      refine ⟨pa, ps, rfl, hrow.same R.sm, hne, fun G1 s1 => ?_⟩
      have R1 := R.same s1
      have hrow1 := (hrow.same R.sm).same s1
      walk_at "go"
      cases hb : begun ps with
      | some kn =>
        obtain ⟨k, n⟩ := kn
        have ev : optV (begN ps) = .int n := by unfold begN; rw [hb]; rfl
        obtain ⟨b, rfl, _⟩ := begun_at hb
        rw [ev]
        refine ⟨rfl, _, rfl, iteNDn (fun z => nomatch z) ?_⟩
        have hstp : stp st [if k = true then Str.ofString "room" else Str.ofString "block", b] = some { st.with k (setI (st.side k) n) with cur := some (k, n) } := by unfold stp; rw [hb]
        rw [hstp] at hgo2
        have hok2 := hok.stp hstp
        have hend : ((st.side k).map (·.1)).Nodup := (hok.side k).nd
        have lk : (es k).length ≤ 8 := by
          have w := (hok.side k).len
          rw [← R1.im k] at w
          unfold imE at w
          rw [List.length_map] at w
          exact w
        walk_at "go"
        unfold tDSetd
        refine r_dget ?_
        walk_at "go"
        refine r_ixL (sqL hrow1.1) (v := .str (if k = true then Str.ofString "room" else Str.ofString "block")) rfl ?_
        refine ⟨t, .ref (dd k), rfl, .inl ⟨_, .inr (if k = true then Str.ofString "room" else Str.ofString "block"), .inl R1.top, rfl, ?_⟩, ?_⟩
        · rw [top_val]
          cases k <;> rfl
        refine ⟨dd k, rfl, .inl ⟨_, .inl (R1.sd k).1⟩, ?_⟩
        walk_at "go"
        refine newLB fun l G2 nl gl s2 el => ?_
        have R2 := R1.same s2
        refine ⟨_, .inl (n : Int), (R2.sd k).1, rfl, by unfold kvE; rw [List.length_map, sizeLine_eq]; omega, fun v hv => ?_, fun hv => ?_⟩
        · rw [val_kv] at hv
          cases hf : (es k).find? fun e => decide (e.1 = n) with
          | none => rw [hf] at hv; exact nomatch hv
          | some e =>
            rw [hf] at hv
            obtain rfl := Option.some.inj hv
            have he := List.mem_of_find?_eq_some hf
            have hn : e.1 = n := of_decide_eq_true (List.find?_some (p := fun e : Nat × Addr × List Nat => decide (e.1 = n)) hf)
            walk_at "go"
            exact ⟨es, _, _, ⟨_, _, _, _, rfl⟩, R2.old he hn hend, hok2, hgo2⟩
        · have hg : getI (st.side k) n = none := by
            rw [← R1.im k, get_im]
            rw [val_kv] at hv
            cases hf : (es k).find? fun e => decide (e.1 = n) with
            | none => rfl
            | some e => rw [hf] at hv; exact nomatch hv
          rw [put_new hv]
          walk_at "go"
          exact ⟨_, _, _, ⟨_, _, _, _, rfl⟩, R2.new el (R1.sm.free nl) (fun j e he z => by have w := (R1.sd j).2 e he; rw [z, nl] at w; exact nomatch w) hg, hok2, hgo2⟩
      | none =>
        have ev : optV (begN ps) = .non := by unfold begN; rw [hb]; rfl
        rw [ev]
        refine ⟨rfl, _, rfl, iteND rfl ?_⟩
        walk_at "go"
        refine ⟨pa, ps, rfl, hrow1, hne, fun G2 s2 => ?_⟩
        have R2 := R1.same s2
        walk_at "go"
        refine ⟨rfl, _, rfl, ?_⟩
        have raise : ∀ {H' : Hp}, stp st ps = none → Same H H' → RefuseN "at" A.CR (.int at_) H' E := fun {H'} e s' => by
          rw [e] at hgo2
          exact (qr _ hgo2).on s'
        cases hw : wordOf ps with
        | none =>
          rw [decide_eq_true (show optV none = V.non from rfl)]
          walk_at "go"
          unfold tMkO
          walk_at "go"
          exact r_mkN (raise (by unfold stp; rw [hb, hw]) R2.sm)
        | some wd =>
          rw [decide_eq_false (fun z => nomatch z)]
          walk_at "go"
          refine ⟨rfl, _, rfl, ?_⟩
          have hcur := R2.cur
          cases hc : st.cur with
          | none =>
            rw [hc] at hcur
            have hcur : wv = .non := hcur
            rw [hcur]
            rw [decide_eq_true rfl]
            walk_at "go"
            unfold tMkO
            walk_at "go"
            exact r_mkN (raise (by unfold stp; rw [hb, hw, hc]) R2.sm)
          | some kn =>
            obtain ⟨k, n⟩ := kn
            rw [hc] at hcur
            obtain ⟨e, he, hn, hwv⟩ := hcur
            have ea := (R2.sd k).2 e he
            have hend : ((st.side k).map (·.1)).Nodup := (hok.side k).nd
            have hg : getI (st.side k) n = some e.2.2 := by
              have w := hend
              rw [← R2.im k] at w ⊢
              rw [← hn]
              exact getI_e w he
            have l8 : e.2.2.length ≤ 8 := ((hok.side k).lt _ (getI_mem hg)).2.1
            have le : (intsV e.2.2).length = e.2.2.length := List.length_map _
            subst hwv
            rw [decide_eq_false (fun z => nomatch z)]
            walk_at "go"
            refine ⟨e.2.1, _, rfl, .inl (sqL ea), ?_⟩
            rw [le]
            walk_at "go"
            by_cases h8 : e.2.2.length = 8
            · rw [decide_eq_true (show V.int (e.2.2.length : Nat) = V.int 8 by rw [h8]; rfl)]
              walk_at "go"
              unfold tMkO
              walk_at "go"
              exact r_mkN (raise (by unfold stp; rw [hb, hw, hc]; exact if_pos (by rw [hg]; exact h8)) R2.sm)
            · rw [decide_eq_false (fun z : V.int (e.2.2.length : Nat) = V.int 8 => h8 (int_eq (b := 8) z))]
              have hstp : stp st ps = some (st.with k (pushI (st.side k) n wd)) := by
                unfold stp
                rw [hb, hw, hc]
                exact if_neg (by rw [hg]; exact h8)
              rw [hstp] at hgo2
              walk_at "go"
              refine ⟨.inl ⟨rfl, _, sqL ea⟩, ?_⟩
              walk_at "go"
              refine ⟨e.2.1, _, _, rfl, rfl, ea, by rw [le, sizeLine_eq]; omega, ?_⟩
              rw [show optV (some wd) = .int wd from rfl]
              exact ⟨_, _, _, ⟨_, _, _, _, rfl⟩, R2.push he hn hc rfl hend, hok.stp hstp, hgo2⟩
    · rintro σ G ⟨es, st, wv, ⟨x3, x4, x5, x6, rfl⟩, R, hok, hgo⟩
      have hgo : go s0 L = .inl st := by
        rw [hgo, List.length_map, hL.1, List.drop_length]
        rfl
      walk_at "go"
      refine r_dgT rfl (.inl R.top) (top_val (k := true)) ?_
      refine ⟨dd true, es true, rfl, R.sd true, by rw [R.im true]; exact hok.side true, fun p1 H2 s2 q1 => ?_⟩
      walk_at "go"
      refine r_dgT rfl (.inl (s2 _ _ R.top)) (top_val (k := false)) ?_
      refine ⟨dd false, es false, rfl, (R.sd false).same s2, by rw [R.im false]; exact hok.side false, fun p2 H3 s3 q2 => ?_⟩
      walk_at "go"
      refine newT fun p H4 np s4 ep => ?_
      rw [R.im true] at q1
      rw [R.im false] at q2
      refine qi st hgo p H4 (R.sm.trans (s2.trans (s3.trans s4))) (.tup (sqT ep) (.cons ?_ (.cons ?_ .nil)))
      · exact dq_same (s3.trans s4) _ _ q1
      · exact dq_same s4 _ _ q2
end
end K06

namespace K06
open PySem PySem.Spec PyProof.Rows L2 Bk


theorem caught_l2 {K : PySem.W.Frag} {C d : Addr} {i : Nat} {σ : L2.St} {H' : Hp} {D : Ends} {l : List ClA} {v : V} {tag nm : Str} (e : PySem.W.exmOne K (.ref C) (.ref C) = some true) (hi : i < σ.length) (ed : H' d = some (.xd [(nm, v)]))
    (q : ∀ p H2, H' p = none → p ≠ sysModules → Same H' H2 → H2 p = some (.lst [.str tag, v]) → D.rt (.ref p) H2) :
    wAM K D ((.ref C, i, fun a cls d => tRet (tLstB (tCons (tC (.str tag)) (tCons (tXf a cls d C nm (tVar i)) tNil)))) :: l) (.ref C) (some d) σ H' := by
  refine w_hit e fun a na => ?_
  show tRet (tLstB (tCons (tC (.str tag)) (tCons (tXf a (.ref C) (some d) C nm (tVar i)) tNil))) (offI i D) (σ.set i (some (.ref a))) H'
  refine r_ret (r_lstB (r_cons (r_c (r_cons ?_))))
  refine ⟨.ref a, List.getElem?_set_self hi, rfl, rfl, d, _, v, rfl, ed, by rw [List.lookup_cons, beq_self_eq_true], ?_⟩
  exact r_nil (newLB fun p H2 np ns s2 e2 => q p H2 np ns s2 e2)
/-- what is told of a text -/
def dueD (z : Str) : List PyData := match goR 0 s0 (Txt.split z "\n") with
  | .inl s => [.str (Str.ofString "told"), imgD s]
  | .inr i => [.str (Str.ofString "row"), .int i]
def spTold (K : PySem.W.Frag) : Sp := fun vs H Q _ => ∃ v : V, vs = [v] ∧ ((IsA K H v "str" false ∧ ∀ p H', p ≠ sysModules → Same H H' → H' p = some (.lst [.str (Str.ofString "text"), v]) → Q (.ref p) H') ∨
  ∃ z : Str, v = .str z ∧ z.length ≤ 9900 ∧ okS z ∧ ∀ p H' us, Same H H' → H' p = some (.lst us) → DqAll false K H' us (dueD z) → Q (.ref p) H')
section
variable {P : Program} {w : World} {K : PySem.W.Frag} {mg : Str → Option Value} {base : Heap} {A : Ad}
theorem ok_read {f : Addr} {fd fdX : FuncData} (F : Fun K "read_image" "read_image" s_read_image f fd) (T : Txt K mg A) (c_cut_rows : CalD P w K mg base CX0 1 "cut_rows" spCut [.int 0]) (c_image_in : CalX P w K mg base 8 "image_in" (spImg K A))
    (c_NoText_init : Own P w K mg base CX0 2 A.fX fdX ["self", "found"] (spInitN "found" A.CX)) : FnOk P w K mg base (L2.CX P w) 9 f fd ["text"] (spRead K A) := by
  refine F.okX sc_read_image (fun vs H Q E h => ?_) (fun cdv A' outer s H vs Q E hr h => have hu := units1 hr; have hu64 := hr.units; ⟨_, (pss_cons (ps_if (pt_not (pt_val (pe_callB call_is (by rfl) T.m_isinstance (by decide +kernel) (pa_cons (pv 0) (pa_cons (pe_bltn (v := .ty "str") (by rfl) T.m_str (by decide +kernel) rfl) pa_nil))))) (pss_one (ps_raise rfl (takes_of rfl rfl rfl rfl) (pmk_oexT T.ox_NoText T.i_NoText T.t_NoText c_NoText_init.ok (hr.mono (by decide)) c_NoText_init.bd .nil pass0 (by rfl) T.g_NoText (pa_cons (pv 0) pa_nil)))) pss_nil)
    (pss_one (ps_ret (pe_calX c_image_in hr (by decide) (by rfl) (takes_of rfl rfl rfl rfl) (pa_cons (pe_calD c_cut_rows hr (by decide) (by rfl) (pa_cons (pe_split (pv 0) pe_str) pa_nil)) pa_nil))))), ?_⟩)
  · obtain ⟨v, rfl, _⟩ := h
    rfl
  · obtain ⟨v, rfl, hv⟩ := h
    walk_at "go"
    rcases hv with ⟨hx, q⟩ | ⟨z, rfl, hl, ho, q1, q2⟩
    · refine r_is hx ?_
      walk_at "go"
      unfold tMkO
      walk_at "go"
      exact r_mkN q
    · refine r_is (isa_str (b := true)) ?_
      walk_at "go"
      refine ⟨⟨z, rfl⟩, ?_⟩
      walk_at "go"
      have l1 : (Str.ofString "\n").length = 1 := by decide +kernel
      refine ⟨z, _, rfl, rfl, by decide +kernel, by rw [sizeLine_eq]; omega, fun p np => ?_⟩
      have sp := same_upd (o := .lst ((Txt.split z (Str.ofString "\n")).map V.str)) np
      have ep : upd H p (.lst ((Txt.split z (Str.ofString "\n")).map V.str)) p = some (.lst ((Txt.split z (Str.ofString "\n")).map V.str)) := upd_same
      generalize upd H p (.lst ((Txt.split z (Str.ofString "\n")).map V.str)) = H1 at sp ep ⊢
      walk_at "go"
      refine ⟨p, _, rfl, ep, by have := split_count z (Str.ofString "\n"); omega, fun r hr => ⟨by have := split_part hr; omega, okS_split ho hr⟩, fun p2 ts H2 np2 s2 ep2 hL => ?_⟩
      walk_at "go"
      have s02 := sp.trans s2
      refine ⟨p2, ts, _, rfl, ep2, hL, fun s hs p3 H3 s3 d3 => ?_, fun i hi => ?_⟩
      · exact q1 s (by rw [goR_cut]; exact hs) p3 H3 (s02.trans s3) d3
      · exact (q2 i (by rw [goR_cut]; exact hi)).on s02
theorem ok_told {f : Addr} {fd : FuncData} (F : Fun K "_law_told" "_law_told" s_told_L f fd) (T : Txt K mg A) (c_read_image : CalX P w K mg base 9 "read_image" (spRead K A)) : FnOk P w K mg base CX0 10 f fd ["_law_text"] (spTold K) := by
  refine F.ok sc_told_L (fun vs H Q E h => ?_) (fun cdv A' outer s H vs Q E hr h => ⟨_, (pss_one (ps_try_asM rfl rfl sc_told_L.nd (fun W pn xe tk po => (pss_one (ps_ret (pe_lstB (pa_cons pe_str (pa_cons (pe_calT c_read_image hr (by decide) (by rfl) tk (pa_cons (pv 0) pa_nil)) pa_nil))))))
      (.more ⟨by rfl, by decide, .inl T.g_NoRow⟩ (i := 1) rfl rfl (fun a oe cls d pn hz hf => (pss_one (ps_ret (pe_lstB (pa_cons pe_str (pa_cons (pe_xf T.xf_NoRow T.nf_NoRow hz hf (pv 1)) pa_nil))))))
      (.more ⟨by rfl, by decide, .inl T.g_NoText⟩ (i := 1) rfl rfl (fun a oe cls d pn hz hf => (pss_one (ps_ret (pe_lstB (pa_cons pe_str (pa_cons (pe_xf T.xf_NoText T.nf_NoText hz hf (pv 1)) pa_nil))))))
      .stop)))), ?_⟩)
  · obtain ⟨v, rfl, _⟩ := h
    rfl
  · obtain ⟨v, rfl, hv⟩ := h
    walk_at "go"
    rcases hv with ⟨hx, q⟩ | ⟨z, rfl, hl, ho, q⟩
    · refine ⟨v, rfl, v, rfl, .inl ⟨hx, fun d H' nd s1 ed => ?_⟩⟩
      refine w_miss T.eXR (caught_l2 T.eXX (Nat.le_of_ble_eq_true rfl) ed fun p H2 np ns s2 e2 => ?_)
      exact q p H2 ns (s1.trans s2) e2
    · have hdue : ∀ {r}, goR 0 s0 (Txt.split z (Str.ofString "\n")) = r → dueD z = match r with
        | .inl s => [.str (Str.ofString "told"), imgD s]
        | .inr i => [.str (Str.ofString "row"), .int i] := fun e => by unfold dueD; rw [e]
      refine ⟨.str z, rfl, .str z, rfl, .inr ⟨z, rfl, hl, ho, fun s hs p H1 s1 d1 => ?_, fun i hi d H' nd s1 ed => ?_⟩⟩
      · walk_at "go"
        refine newLB fun p2 H2 n2 g2 s2 e2 => ?_
        exact q p2 H2 _ (s1.trans s2) e2 (by rw [hdue hs]; exact .cons (.str _) (.cons (dq_same s2 _ _ d1) .nil))
      · refine caught_l2 T.eRR (Nat.le_of_ble_eq_true rfl) ed fun p H2 np ns s2 e2 => ?_
        exact q p H2 _ (s1.trans s2) e2 (by rw [hdue hi]; exact .cons (.str _) (.cons (.int _) .nil))
end
end K06

namespace K06
open PySem PySem.Spec PyProof.Rows L2 Bk


def intO : Option Nat → Int
  | some n => n
  | none => -1
theorem intO_num {z : Str} {hi : Nat} : intO (numN z hi) = if 0 ≤ valOf z ∧ valOf z ≤ hi then valOf z else -1 := by
  unfold numN
  split
  · rename_i h
    show ((valOf z).toNat : Int) = valOf z
    exact Int.toNat_of_nonneg h.1
  · rfl
def spOpsL : Sp := fun vs H Q _ => vs = [] ∧ ∀ p H', H p = none → Same H H' → H' p = some (.lst (opsL.map V.str)) → Q (.ref p) H'
def spPlain : Sp := fun vs H Q _ => ∃ (z : Str) (hi : Nat), vs = [.str z, .int hi] ∧ z.length ≤ 20000 ∧ okS z ∧ ∀ H', Same H H' → Q (.int (intO (numN z hi))) H'
def spWordL : Sp := fun vs H Q _ => ∃ (pa : Addr) (ps : List Str), vs = [.ref pa] ∧ Row H pa ps ∧ ps ≠ [] ∧ ∀ H', Same H H' → Q (.int (intO (wordOf ps))) H'
theorem one_str {c : Nat} {z : Str} (h : z.cps.toList[0]? = some c) : z.length = 1 ↔ z = ⟨#[c]⟩ := by
  constructor
  · intro l
    rw [str_len] at l
    obtain ⟨⟨a⟩⟩ := z
    have h : a[0]? = some c := h
    have l : a.length = 1 := l
    match a, h, l with
    | [x], h, _ => rw [Option.some.inj h]
  · rintro rfl
    rfl
theorem r_lcStrF {σ : L2.St} {H : Hp} {Q : VK} {i0 j : Nat} {vs : List Nat} {z : Str} {tt : TT} {te : TE} (p : Nat → Option V) (hv : σ[i0]? = some (some (.str z))) (hz : z.length ≤ 10000) (hw : ∀ x, wipe ((wipe σ vs).set j (some x)) vs = wipe σ vs)
    (ht : ∀ (c : Nat) (H' : Hp) (Q' : VK) (R' : Hp → Prop), c ∈ z.cps.toList → (∀ v, p c = some v → ∀ H2, Same H' H2 → Q' v H2) → (p c = none → ∀ H2, Same H' H2 → R' H2) →
      tt ((wipe σ vs).set j (some (.str ⟨#[c]⟩))) H' fun b H4 => if b = true then te ((wipe σ vs).set j (some (.str ⟨#[c]⟩))) H4 Q' else R' H4)
    (q : ∀ D H', H D = none → Same H H' → H' D = some (.lst (z.cps.toList.filterMap p)) → Q (.ref D) H') : tLc (iStr (tVar i0)) (gName j) tt te vs σ H Q := by
  refine ⟨_, hv, z, rfl, fun D hD => ?_⟩
  refine lc_by (g := gName j) (tt := tt) (te := te) (vs := vs) (σ := σ) (Q := Q) (walk_str (z := z)) (fun i => p (z.cps.toList.getD i 0)) hD hz (fun _ _ => trivial) (fun i x H1 H2 Q' R' hi' s1 hy k1 k2 => ?_) fun H1 s1 e1 => q D H1 hD s1 ?_
  · obtain ⟨rfl, c, hc, rfl⟩ := hy
    have hc1 : z.cps.toList[i]? = some c := by rw [Array.getElem?_toList]; exact hc
    have hc' : z.cps.toList.getD i 0 = c := by rw [List.getD_eq_getElem?_getD, hc1]; rfl
    rw [hc'] at k1 k2
    exact ⟨hw _, ht c _ Q' R' (List.mem_of_getElem? hc1) k1 k2⟩
  · rw [e1, show z.cps.size = z.cps.toList.length from (Array.length_toList).symm, rng_fm 0 z.cps.toList p]
section
variable {P : Program} {w : World} {K : PySem.W.Frag} {mg : Str → Option Value} {base : Heap} {A : Ad}
theorem ok_opsL {f : Addr} {fd : FuncData} (F : Fun K "_law_ops" "_law_ops" s_ops_L f fd) (T : Txt K mg A) : FnOk P w K mg base CX0 1 f fd [] spOpsL := by
  refine F.ok sc_ops_L (fun vs H Q E h => ?_) (fun cdv A' outer s H vs Q E hr h => ⟨_, (pss_cons (ps_set (i := 0) sc_ops_L.nd rfl (.inl rfl) pe_str)
    (pss_one (ps_ret (pe_split (pv 0) pe_str)))), ?_⟩)
  · obtain ⟨rfl, _⟩ := h
    rfl
  · obtain ⟨rfl, q⟩ := h
    walk_at "go"
    refine ⟨⟨_, rfl⟩, ?_⟩
    walk_at "go"
    refine ⟨_, _, rfl, rfl, by decide +kernel, by decide +kernel, fun p np => ?_⟩
    have e : Txt.split (Str.ofString "halt set load save from into add sub part jump base trap time out in wait") (Str.ofString " ") = opsL := by decide +kernel
    rw [e]
    exact q p _ np (same_upd np) upd_same
theorem ok_plain {f : Addr} {fd : FuncData} (F : Fun K "_law_plain" "_law_plain" s_plain_L f fd) (T : Txt K mg A) : FnOk P w K mg base CX0 1 f fd ["_law_word_here", "_law_most"] spPlain := by
  refine F.ok sc_plain_L (fun vs H Q E h => ?_) (fun cdv A' outer s H vs Q E hr h => have hu64 := hr.units; ⟨_, (pss_cons (ps_if (PW.pt (pw_or (pt_not (pt_chain op_le op_le pe_int (pe_callB call_len_str (by rfl) T.m_len (by decide +kernel) (pa_cons (pv 0) pa_nil)) pe_int)) (pw_or1 (pt_cmpR (op_neD hu64) (pe_lc (own := [("_law_sign_here", 2)]) rfl sc_plain_L.nd (pi_str (pv 0)) (blkOk_by (N := ["_law_word_here", "_law_most", "_law_sign_here"]) (sc := defScope s_plain_L) (by decide +kernel)) (fun _ _ _ _ _ => (pg_name (i := 2) sc_plain_L.nd rfl (.inl rfl))) (fun _ _ _ _ _ => pts_one (pt_not (pt_chain op_le_str op_le_str pe_str (pv 2) pe_str))) (fun _ _ _ _ _ => (pv 2))) (pe_lstB pa_nil) (nomark _))))) (pss_one (ps_ret (pe_un un_neg pe_int))) pss_nil)
    (pss_cons (ps_if (PW.pt (pw_or (PW.pt (pw_and (pt_cmpR op_eq (pe_ix ix_str (pv 0) pe_int (fun _ _ => rfl)) pe_str (nomark _)) (pw_and1 (pt_cmpR op_ne (pv 0) pe_str (nomark _))))) (pw_or1 (pt_cmpR op_gt (pe_callTy call_int_str (by rfl) T.m_int (by decide +kernel) (pa_cons (pv 0) pa_nil)) (pv 1) (nomark _))))) (pss_one (ps_ret (pe_un un_neg pe_int))) pss_nil)
    (pss_one (ps_ret (pe_callTy call_int_str (by rfl) T.m_int (by decide +kernel) (pa_cons (pv 0) pa_nil)))))), ?_⟩)
  · obtain ⟨z, hi, rfl, _⟩ := h
    rfl
  · obtain ⟨z, hi, rfl, hz, ho, q⟩ := h
    have bad : valOf z = -1 → ∀ H', Same H H' → Q (.int (-1)) H' := fun e H' s' => by
      have w := q H' s'
      rw [intO_num, if_neg (by omega)] at w
      exact w
    walk_at "go"
    refine ⟨z, rfl, Nat.le_trans hz (by decide), ?_⟩
    walk_at "go"
    refine iteC (fun h1 => ?_) (fun h1 => ?_)
    · walk_at "go"
      refine iteNC (fun h2 => ?_) (fun h2 => ?_)
      · walk_at "go"
        exact bad (if_neg (by omega)) _ (Same.refl _)
      · walk_at "go"
        refine r_lcStrF (fun c : Nat => if 48 ≤ c ∧ c ≤ 57 then none else some (V.str ⟨#[c]⟩)) rfl (by omega) (fun _ => rfl) (fun c H1 Q' R' hc k1 k2 => ?_) fun D H1 nD s1 eD => ?_
        · walk_at "go"
          refine ⟨_, _, rfl, rfl, ?_⟩
          rw [show (Str.ofString "0" : Str).cps.toList = [48] by decide +kernel, sign_tl, lt1]
          by_cases c1 : c < 48
          · rw [decide_eq_true c1]
            walk_at "go"
            exact k1 _ (if_neg (by omega)) _ (Same.refl _)
          · rw [decide_eq_false c1]
            walk_at "go"
            refine ⟨_, _, rfl, rfl, ?_⟩
            rw [show (Str.ofString "9" : Str).cps.toList = [57] by decide +kernel, sign_tl, lt1]
            by_cases c2 : 57 < c
            · rw [decide_eq_true c2]
              exact ⟨_, rfl, _, rfl, k1 _ (if_neg (by omega)) _ (Same.refl _)⟩
            · rw [decide_eq_false c2]
              walk_at "go"
              exact k2 (if_pos (by omega)) _ (Same.refl _)
        · have efm : z.cps.toList.filterMap (fun c : Nat => if 48 ≤ c ∧ c ≤ 57 then none else some (V.str ⟨#[c]⟩)) = ((z.cps.toList.filter fun c => decide (¬ (48 ≤ c ∧ c ≤ 57))).map fun c => (⟨#[c]⟩ : Str)).map V.str := by
            rw [fm_flt (fun c : Nat => 48 ≤ c ∧ c ≤ 57) fun c => V.str ⟨#[c]⟩, List.map_map]
            rfl
          rw [efm] at eD
          walk_at "go"
          refine newLB fun l H2 nl gl s2 el => ?_
          walk_at "go"
          refine ⟨_, .list [], dp_strs (sqL (s2 _ _ eD)), .lst (sqL el) .nil, sh_strs fun x hx => ?_, sh_nil, ?_⟩
          · obtain ⟨c, hc, rfl⟩ := List.mem_map.mp hx
            refine okS_str fun c' hc' => ?_
            rw [sign_tl] at hc'
            rw [List.mem_singleton.mp hc']
            exact ho c (List.mem_filter.mp hc).1
          unfold strD
          rw [eqv_nil]
          have s12 := s1.trans s2
          by_cases ha : allW 48 57 z = true
          · have e0 : (z.cps.toList.filter fun c => decide (¬ (48 ≤ c ∧ c ≤ 57))) = [] := by
              rw [List.filter_eq_nil_iff]
              intro c hc
              have w := List.all_eq_true.mp ha c hc
              rw [Bool.and_eq_true] at w
              rw [decide_eq_true_eq]
              exact fun z => z ⟨of_decide_eq_true w.1, of_decide_eq_true w.2⟩
            rw [e0, show decide ((([] : List Nat).map fun c => (⟨#[c]⟩ : Str)).map PyData.str = []) = true from decide_eq_true rfl]
            have hv : valOf z = if z.cps.toList[0]? = some 48 ∧ 1 < z.length then -1 else ((NumText.digitsVal z.cps.toList : Nat) : Int) := if_pos ⟨⟨by omega, by omega⟩, ha⟩
            walk_at "go"
            have h0 : 0 < z.cps.toList.length := by rw [← str_len]; omega
            refine r_ixS (by decide) (by omega) (by omega) fun c hc => ?_
            have hc : z.cps.toList[0]? = some c := hc
            have it := int_text ha (by omega) (by omega)
            have fin : ¬ (z.cps.toList[0]? = some 48 ∧ 1 < z.length) → valOf z = ((NumText.digitsVal z.cps.toList : Nat) : Int) := fun hn => by rw [hv, if_neg hn]
            have big : ¬ (z.cps.toList[0]? = some 48 ∧ 1 < z.length) → ((NumText.digitsVal z.cps.toList : Nat) : Int) > hi → Q (.int (-1)) H2 := fun hn hg => by
              have w := q _ s12
              rw [intO_num, fin hn, if_neg (by omega)] at w
              exact w
            have fits : ¬ (z.cps.toList[0]? = some 48 ∧ 1 < z.length) → ¬ ((NumText.digitsVal z.cps.toList : Nat) : Int) > hi → Q (.int ((NumText.digitsVal z.cps.toList : Nat) : Int)) H2 := fun hn hg => by
              have w := q _ s12
              rw [intO_num, fin hn, if_pos (by omega)] at w
              exact w
            walk_at "go"
            have e48 : (Str.ofString "0" : Str) = ⟨#[48]⟩ := by decide +kernel
            by_cases h48 : c = 48
            · rw [decide_eq_true (by rw [h48, e48])]
              rw [h48] at hc
              walk_at "go"
              refine iteNC (fun hz0 => ?_) (fun hz0 => ?_)
              · walk_at "go"
                have lead : 1 < z.length := by
                  have w : z.length ≠ 1 := fun l => hz0 (by rw [(one_str hc).mp l, e48])
                  omega
                rw [if_pos ⟨hc, lead⟩] at hv
                exact bad hv _ s12
              · have hz0 : z = ⟨#[48]⟩ := by rw [← e48]; injection hz0
                have l1 := (one_str hc).mpr hz0
                have nl : ¬ (z.cps.toList[0]? = some 48 ∧ 1 < z.length) := fun w => by omega
                have big := big nl
                have fits := fits nl
                walk_at "go"
                refine ⟨z, _, rfl, it, by omega, ?_⟩
                walk_at "go"
                refine iteC (fun hg => ?_) (fun hg => ?_)
                · walk_at "go"
                  exact big hg
                · walk_at "go"
                  exact ⟨z, _, rfl, it, by omega, fits hg⟩
            · rw [decide_eq_false fun w => h48 (by rw [e48] at w; injection w with w; have w := congrArg (fun (x : Str) => x.cps.toList) w; exact (List.cons.inj w).1)]
              have nl : ¬ (z.cps.toList[0]? = some 48 ∧ 1 < z.length) := fun w => h48 (by rw [hc] at w; exact Option.some.inj w.1)
              have big := big nl
              have fits := fits nl
              walk_at "go"
              refine ⟨z, _, rfl, it, by omega, ?_⟩
              walk_at "go"
              refine iteC (fun hg => ?_) (fun hg => ?_)
              · walk_at "go"
                exact big hg
              · walk_at "go"
                exact ⟨z, _, rfl, it, by omega, fits hg⟩
          · have e0 : (z.cps.toList.filter fun c => decide (¬ (48 ≤ c ∧ c ≤ 57))) ≠ [] := fun e => ha (by
              rw [List.filter_eq_nil_iff] at e
              refine List.all_eq_true.mpr fun c hc => ?_
              have w := e c hc
              rw [decide_eq_true_eq] at w
              have w := Classical.not_not.mp w
              rw [decide_eq_true w.1, decide_eq_true w.2]
              rfl)
            rw [decide_eq_false (fun z => e0 (by simpa using z))]
            walk_at "go"
            exact bad (if_neg fun z => ha z.2) _ s12
    · walk_at "go"
      exact bad (if_neg (by omega)) _ (Same.refl _)
end
end K06

namespace K06
open PySem PySem.Spec PyProof.Rows L2 Bk


theorem in_ops {a : Str} (h : a ∈ opsL) : a ≠ "none" ∧ a ≠ "leaf" ∧ a ≠ "word" := by
  refine ⟨?_, ?_, ?_⟩ <;> (rintro rfl; exact absurd h (by decide +kernel))
theorem in_23 {n : Nat} : inV (V.int (n : Nat)) [V.int 2, V.int 3] = decide (n = 2 ∨ n = 3) := by
  show (decide ((2 : Int) = (n : Int)) || (decide ((3 : Int) = (n : Int)) || false)) = _
  by_cases h2 : n = 2
  · subst h2; rfl
  · by_cases h3 : n = 3
    · subst h3; rfl
    · rw [decide_eq_false (by omega), decide_eq_false (by omega), decide_eq_false (by omega)]
      rfl
theorem any_two {l x y : List Str} : ([strD x, strD y].any fun z => z.eqv (strD l)) = decide (l = x ∨ l = y) := by
  show (PyData.eqv (strD x) (strD l) || (PyData.eqv (strD y) (strD l) || false)) = _
  rw [eqv_strs, eqv_strs, Bool.or_false]
  by_cases h1 : l = x
  · rw [decide_eq_true (show x = l from h1.symm), Bool.true_or]
    exact (decide_eq_true (.inl h1)).symm
  · rw [decide_eq_false (Ne.symm h1), Bool.false_or]
    by_cases h2 : l = y
    · rw [decide_eq_true (show y = l from h2.symm)]
      exact (decide_eq_true (.inr h2)).symm
    · rw [decide_eq_false (Ne.symm h2), decide_eq_false (fun z => z.elim h1 h2)]
section
variable {P : Program} {w : World} {K : PySem.W.Frag} {mg : Str → Option Value} {base : Heap} {A : Ad}
theorem ok_wordL {f : Addr} {fd : FuncData} (F : Fun K "_law_word" "_law_word" s_word_L f fd) (T : Txt K mg A) (c_ops_L : CalD P w K mg base CX0 1 "_law_ops" spOpsL []) (c_plain_L : CalD P w K mg base CX0 1 "_law_plain" spPlain []) : FnOk P w K mg base CX0 2 f fd ["_law_words"] spWordL := by
  refine F.ok sc_word_L (fun vs H Q E h => ?_) (fun cdv A' outer s H vs Q E hr h => have hu65 := units65 hr; have hu64 := hr.units; ⟨_, (C8.pss_cut (ps_if (PW.pt (pw_and (pt_cmpR op_in_seq (pe_ix ix_list (pv 0) pe_int (fun _ _ => rfl)) (pe_cal0 c_ops_L hr (by decide) (by rfl)) (by rfl)) (pw_and1 (pt_cmpR op_eq (pe_callB call_len_seq (by rfl) T.m_len (by decide +kernel) (pa_cons (pv 0) pa_nil)) pe_int (nomark _))))) (pss_cons (ps_par (i := 1) (j := 2) rfl sc_word_L.nd rfl rfl (by decide) rfl rfl (pa_cons (pe_cal c_plain_L hr (by decide) (by rfl) (pa_cons (pe_ix ix_list (pv 0) pe_int (fun _ _ => rfl)) (pa_cons pe_int pa_nil))) (pa_cons (pe_cal c_plain_L hr (by decide) (by rfl) (pa_cons (pe_ix ix_list (pv 0) pe_int (fun _ _ => rfl)) (pa_cons pe_int pa_nil))) pa_nil)) (by rfl))
    (pss_one (ps_ret (pe_ifExp (pt_cmpR op_ge (pe_callB (call_min2 rfl) (by rfl) T.m_min (by decide +kernel) (pa_cons (pv 1) (pa_cons (pv 2) pa_nil))) pe_int (nomark _)) (pe_op op_add (pe_op op_add (pe_op op_mulW (pe_bm PySem.F.plainAttrs_list PySem.F.slot_list_index PySem.F.type_list_index mt_index (pe_cal0 c_ops_L hr (by decide) (by rfl)) (pa_cons (pe_ix ix_list (pv 0) pe_int (fun _ _ => rfl)) pa_nil)) pe_int) (pe_op op_mulW (pv 1) pe_int)) (pv 2)) (pe_un un_neg pe_int))))) pss_nil)
    (pss_cons (ps_if (pt_cmpR (op_eqD hu64) (pv 0) (pe_lstB (pa_cons pe_str pa_nil)) (nomark _)) (pss_one (ps_ret pe_int)) pss_nil)
    (C8.pss_cut (ps_if (PW.pt (pw_and (pt_cmpR op_eq (pe_ix ix_list (pv 0) pe_int (fun _ _ => rfl)) pe_str (nomark _)) (pw_and1 (pt_cmpR op_eq (pe_callB call_len_seq (by rfl) T.m_len (by decide +kernel) (pa_cons (pv 0) pa_nil)) pe_int (nomark _))))) (pss_one (ps_ret (pe_cal c_plain_L hr (by decide) (by rfl) (pa_cons (pe_ix ix_list (pv 0) pe_int (fun _ _ => rfl)) (pa_cons pe_int pa_nil))))) pss_nil)
    (C8.pss_cut (ps_set (i := 3) sc_word_L.nd rfl (.inl rfl) (pe_and (pe_cmpR op_eq (pe_ix ix_list (pv 0) pe_int (fun _ _ => rfl)) pe_str (nomark _)) (pe_and (pe_cmpR op_in_seq (pe_callB call_len_seq (by rfl) T.m_len (by decide +kernel) (pa_cons (pv 0) pa_nil)) (pe_tup (pa_cons pe_int (pa_cons pe_int pa_nil))) (by rfl)) (pe_one (pe_cmpR (op_inDT hu65) (pe_slice sl_list (pv 0) (po_some pe_int) po_none) (pe_tup (pa_cons (pe_lstB pa_nil) (pa_cons (pe_lstB (pa_cons pe_str pa_nil)) pa_nil))) (by rfl))))))
    (pss_cons (ps_if (PW.pt (pw_and (pt_val (pv 3)) (pw_and1 (pt_cmpR op_ge (pe_cal c_plain_L hr (by decide) (by rfl) (pa_cons (pe_ix ix_list (pv 0) pe_int (fun _ _ => rfl)) (pa_cons pe_int pa_nil))) pe_int (nomark _))))) (pss_one (ps_ret (pe_op op_sub (pe_op op_add (pe_op op_mulW pe_int (pe_callTy call_int_str (by rfl) T.m_int (by decide +kernel) (pa_cons (pe_ix ix_list (pv 0) pe_int (fun _ _ => rfl)) pa_nil))) (pe_op op_mulW pe_int (pe_callB call_len_seq (by rfl) T.m_len (by decide +kernel) (pa_cons (pv 0) pa_nil)))) pe_int))) pss_nil)
    (pss_one (ps_ret (pe_un un_neg pe_int)))))))), ?_⟩)
  · obtain ⟨pa, ps, rfl, _⟩ := h
    rfl
  · obtain ⟨pa, ps, rfl, ⟨e, l1, l2⟩, hne, q⟩ := h
    have fin : ∀ {r : Option Nat} {H' : Hp}, wordOf ps = r → Same H H' → Q (.int (intO r)) H' := fun e s => e ▸ q _ s
    obtain ⟨a, r, rfl⟩ : ∃ a r, ps = a :: r := by
      cases ps with
      | nil => exact absurd rfl hne
      | cons a r => exact ⟨a, r, rfl⟩
    have at0 : atI ((a :: r).map V.str) 0 = some (.str a) := atI_nat (j := 0) rfl
    walk_at "go"
    refine r_cut (fun σ G => σ = [some (.ref pa), none, none, none] ∧ Same H G ∧ ¬ (a ∈ opsL ∧ (a :: r).length = 3)) ?_ ?_
    · walk_at "go"
      refine r_ixL (sqL e) at0 ?_
      walk_at "go"
      refine ⟨rfl, fun p1 H1 n1 s1 e1 => ?_⟩
      refine ⟨p1, _, rfl, .inl (sqL e1), rfl, by decide +kernel, ?_⟩
      rw [inV_str]
      walk_at "go"
      have e1' := s1 _ _ e
      refine iteC (fun ha => ?_) (fun ha => ?_)
      · walk_at "go"
        refine ⟨pa, _, rfl, .inl (sqL e1'), ?_⟩
        rw [List.length_map]
        walk_at "go"
        refine iteC (fun h3 => ?_) (fun h3 => ?_)
        · obtain ⟨a', b, c, hab⟩ := three_of (int_eq (b := 3) h3)
          obtain ⟨rfl, rfl⟩ : a = a' ∧ r = [b, c] := by
            injection hab with x y
            exact ⟨x, y⟩
          obtain ⟨na, nl, nw⟩ := in_ops ha
          have ew : wordOf [a, b, c] = match numN b 3, numN c 63 with
            | some j, some k => some (opsL.idxOf a * 256 + j * 64 + k)
            | _, _ => none := by
            unfold wordOf
            rw [if_neg (fun z : [a, b, c] = [("none" : Str)] => absurd (congrArg List.length z) (show ¬ (3 : Nat) = 1 by decide))]
            show (if a = ("leaf" : Str) then entryOf [a, b, c] else if a = ("word" : Str) then oneOf [b, c] else codeOf [a, b, c]) = _
            rw [if_neg nl, if_neg nw]
            exact if_pos ha
          walk_at "go"
          refine r_ixL (sqL e1') (v := .str b) rfl ?_
          walk_at "go"
          refine ⟨b, 3, rfl, (l2 b (by simp)).1, (l2 b (by simp)).2, fun H2 s2 => ?_⟩
          walk_at "go"
          refine r_ixL (sqL (s2 _ _ e1')) (v := .str c) rfl ?_
          walk_at "go"
          refine ⟨c, 63, rfl, (l2 c (by simp)).1, (l2 c (by simp)).2, fun H3 s3 => ?_⟩
          have s13 := s1.trans (s2.trans s3)
          refine ⟨_, _, rfl, ?_⟩
          walk_at "go"
          refine ⟨_, _, rfl, ?_⟩
          walk_at "go"
          have fin3 : ∀ {r : Option Nat}, (match numN b 3, numN c 63 with
            | some j, some k => some (opsL.idxOf a * 256 + j * 64 + k)
            | _, _ => none) = r → ∀ (H' : Hp), Same H H' → Q (.int (intO r)) H' := fun e H' s' => fin (by rw [ew]; exact e) s'
          cases hj : numN b 3 with
          | none =>
            rw [hj] at fin3
            have no : ¬ (0 ≤ if intO (numN c 63) < intO none then intO (numN c 63) else intO none) := by
              show ¬ (0 ≤ if intO (numN c 63) < (-1 : Int) then intO (numN c 63) else (-1 : Int))
              split <;> omega
            rw [decide_eq_false no]
            walk_at "go"
            exact fin3 rfl _ s13
          | some j =>
            cases hk : numN c 63 with
            | none =>
              rw [hj, hk] at fin3
              have no : ¬ (0 ≤ if intO none < intO (some j) then intO none else intO (some j)) := by
                show ¬ (0 ≤ if (-1 : Int) < (j : Int) then (-1 : Int) else (j : Int))
                rw [if_pos (by omega)]
                omega
              rw [decide_eq_false no]
              walk_at "go"
              exact fin3 rfl _ s13
            | some k =>
              rw [hj, hk] at fin3
              have yes : 0 ≤ if intO (some k) < intO (some j) then intO (some k) else intO (some j) := by
                show 0 ≤ if (k : Int) < (j : Int) then (k : Int) else (j : Int)
                split <;> omega
              rw [decide_eq_true yes]
              rw [show intO (some k) = (k : Int) from rfl, show intO (some j) = (j : Int) from rfl]
              walk_at "go"
              refine ⟨rfl, fun p4 H4 n4 s4 e4 => ?_⟩
              refine ⟨.inl ⟨rfl, _, sqL e4⟩, ?_⟩
              walk_at "go"
              refine r_ixL (sqL (s4 _ _ (s3 _ _ (s2 _ _ e1')))) at0 ?_
              have hlt := List.idxOf_lt_length_iff.mpr ha
              refine ⟨p4, _, .str a, opsL.idxOf a, .str a, rfl, rfl, sqL e4, rfl, by decide +kernel, ?_, ?_, fun m z' hm hz => ?_, ?_⟩
              · rw [List.getElem?_map, List.getElem?_eq_getElem hlt, List.getElem_idxOf hlt]
                rfl
              · exact decide_eq_true rfl
              · rw [List.getElem?_map] at hz
                have hml : m < opsL.length := by omega
                rw [List.getElem?_eq_getElem hml] at hz
                obtain rfl := Option.some.inj hz
                have w := List.not_of_lt_findIdx (p := fun x => x == a) (xs := opsL) (i := m) hm
                exact decide_eq_false fun z => by
                  have z' : opsL[m] = a := z
                  rw [z', beq_self_eq_true] at w
                  exact nomatch w
              · have l16 : opsL.length = 16 := rfl
                have h3' := numN_le hj
                have h63 := numN_le hk
                walk_at "go"
                refine r_I (cmul (by omega) (by omega) (by decide) (by decide)) ?_
                walk_at "go"
                refine r_I (cmul (by omega) (by omega) (by decide) (by decide)) ?_
                walk_at "go"
                have w := fin3 rfl _ (s13.trans s4)
                have e9 : intO (some (opsL.idxOf a * 256 + j * 64 + k)) = ((opsL.idxOf a : Nat) : Int) * 256 + (j : Int) * 64 + (k : Int) := by
                  show ((opsL.idxOf a * 256 + j * 64 + k : Nat) : Int) = _
                  omega
                rw [e9] at w
                exact w
        · walk_at "go"
          exact ⟨rfl, s1, fun z => int_ne (b := 3) h3 z.2⟩
      · walk_at "go"
        exact ⟨rfl, s1, fun z => ha z.1⟩
    · rintro σ G ⟨rfl, sG, hno⟩
      have eG := sG _ _ e
      walk_at "go"
      refine newLB fun l2' H2 n2 g2 s2 e2 => ?_
      have hd : ∀ x ∈ a :: r, PyData.strOk x = true := fun x hx => okS_str (l2 x hx).2
      have eG2 := s2 _ _ eG
      have sG2 := sG.trans s2
      walk_at "go"
      refine ⟨_, strD ["none"], dp_strs (sqL eG2), dp_strs (l := ["none"]) (sqL e2), sh_strs hd, sh_strs (by decide +kernel), ?_⟩
      rw [eqv_strs]
      walk_at "go"
      by_cases h0 : a :: r = [("none" : Str)]
      · rw [decide_eq_true h0]
        walk_at "go"
        exact fin (r := some 0) (if_pos h0) sG2
      · rw [decide_eq_false h0]
        have ew : wordOf (a :: r) = if a = ("leaf" : Str) then entryOf (a :: r) else if a = ("word" : Str) then oneOf r else codeOf (a :: r) := if_neg h0
        walk_at "go"
        show C8.tCut _ _ _ _ _
        refine r_cut (fun σ G => σ = [some (.ref pa), none, none, none] ∧ Same H G ∧ ¬ (a = ("word" : Str) ∧ (a :: r).length = 2)) ?_ ?_
        · walk_at "go"
          refine r_ixL (sqL eG2) at0 ?_
          walk_at "go"
          refine iteC (fun ha => ?_) (fun ha => ?_)
          · have ha : a = ("word" : Str) := by injection ha
            walk_at "go"
            refine ⟨pa, _, rfl, .inl (sqL eG2), ?_⟩
            rw [List.length_map]
            walk_at "go"
            refine iteC (fun h3 => ?_) (fun h3 => ?_)
            · obtain ⟨a', b, hab⟩ := two_of (int_eq (b := 2) h3)
              obtain ⟨rfl, rfl⟩ : a = a' ∧ r = [b] := by
                injection hab with x y
                exact ⟨x, y⟩
              walk_at "go"
              refine r_ixL (sqL eG2) (v := .str b) rfl ?_
              walk_at "go"
              refine ⟨b, 4095, rfl, (l2 b (by simp)).1, (l2 b (by simp)).2, fun H3 s3 => ?_⟩
              refine fin ?_ (sG2.trans s3)
              rw [ew, if_neg (by rw [ha]; decide +kernel), if_pos ha]
              rfl
            · walk_at "go"
              exact ⟨rfl, sG2, fun z => int_ne (b := 2) h3 z.2⟩
          · walk_at "go"
            exact ⟨rfl, sG2, fun z => ha (by rw [z.1])⟩
        · rintro σ G3 ⟨rfl, sG3, hno2⟩
          have eG3 := sG3 _ _ e
          refine r_cut (fun σ G => σ = [some (.ref pa), none, none, some (.bl (decide (a = ("leaf" : Str) ∧ ((a :: r).length = 2 ∨ (a :: r).length = 3) ∧ ((a :: r).drop 2 = [] ∨ (a :: r).drop 2 = [("write" : Str)]))))] ∧ Same H G) ?_ ?_
          · walk_at "go"
            refine r_ixL (sqL eG3) at0 ?_
            walk_at "go"
            by_cases ha : a = ("leaf" : Str)
            · rw [decide_eq_true (show V.str a = V.str (Str.ofString "leaf") by rw [ha])]
              walk_at "go"
              refine ⟨pa, _, rfl, .inl (sqL eG3), ?_⟩
              rw [List.length_map]
              walk_at "go"
              refine newT fun t4 G4 n4 s4 e4 => ?_
              refine ⟨t4, _, rfl, .inr (sqT e4), rfl, rfl, ?_⟩
              rw [show (if false = true then !inV (V.int (((a :: r).length : Nat) : Int)) [V.int 2, V.int 3] else inV (V.int (((a :: r).length : Nat) : Int)) [V.int 2, V.int 3]) = decide ((a :: r).length = 2 ∨ (a :: r).length = 3) from in_23]
              by_cases hl : (a :: r).length = 2 ∨ (a :: r).length = 3
              · rw [decide_eq_true hl]
                walk_at "go"
                refine r_slL (sqL (s4 _ _ eG3)) (cut2 _) fun p5 G5 n5 s5 e5 => ?_
                rw [← List.map_drop] at e5
                walk_at "go"
                refine newLB fun p6 G6 n6 g6 s6 e6 => ?_
                walk_at "go"
                refine newLB fun p7 G7 n7 g7 s7 e7 => ?_
                walk_at "go"
                refine newT fun t8 G8 n8 s8 e8 => ?_
                have d1 := plain_strs ((a :: r).drop 2)
                refine ⟨strD ((a :: r).drop 2), [strD [], strD ["write"]], dp_strs (sqL (s8 _ _ (s7 _ _ (s6 _ _ e5)))), .tup (sqT e8) (.cons (dp_strs (l := []) (sqL (s8 _ _ (s7 _ _ e6)))) (.cons (dp_strs (l := ["write"]) (sqL (s8 _ _ e7))) .nil)), d1.1, by simp only [PyData.plainAll, (plain_strs _).1, Bool.and_true], by rw [d1.2]; decide, ?_⟩
                rw [any_two]
                walk_at "go"
                refine ⟨?_, sG3.trans (s4.trans (s5.trans (s6.trans (s7.trans s8))))⟩
                have ed : decide ((a :: r).drop 2 = [] ∨ (a :: r).drop 2 = [("write" : Str)]) = decide (a = ("leaf" : Str) ∧ ((a :: r).length = 2 ∨ (a :: r).length = 3) ∧ ((a :: r).drop 2 = [] ∨ (a :: r).drop 2 = [("write" : Str)])) := by
                  by_cases h : (a :: r).drop 2 = [] ∨ (a :: r).drop 2 = [("write" : Str)]
                  · rw [decide_eq_true h, decide_eq_true ⟨ha, hl, h⟩]
                  · rw [decide_eq_false h, decide_eq_false fun z => h z.2.2]
                rw [← ed]
                rfl
              · rw [decide_eq_false hl]
                walk_at "go"
                rw [show decide (a = ("leaf" : Str) ∧ ((a :: r).length = 2 ∨ (a :: r).length = 3) ∧ ((a :: r).drop 2 = [] ∨ (a :: r).drop 2 = [("write" : Str)])) = false from decide_eq_false fun z => hl z.2.1]
                exact ⟨rfl, sG3.trans s4⟩
            · rw [decide_eq_false (show ¬ V.str a = V.str (Str.ofString "leaf") from fun z => ha (by injection z))]
              walk_at "go"
              rw [show decide (a = ("leaf" : Str) ∧ ((a :: r).length = 2 ∨ (a :: r).length = 3) ∧ ((a :: r).drop 2 = [] ∨ (a :: r).drop 2 = [("write" : Str)])) = false from decide_eq_false fun z => ha z.1]
              exact ⟨rfl, sG3⟩
          · rintro σ G4 ⟨rfl, sG4⟩
            have eG4 := sG4 _ _ e
            walk_at "go"
            by_cases hg : a = ("leaf" : Str) ∧ ((a :: r).length = 2 ∨ (a :: r).length = 3) ∧ ((a :: r).drop 2 = [] ∨ (a :: r).drop 2 = [("write" : Str)])
            · obtain ⟨ha, hl, hdr⟩ := hg
              rw [if_pos ha] at ew
              rw [decide_eq_true ⟨ha, hl, hdr⟩]
              obtain ⟨b, q', hr⟩ : ∃ b q', r = b :: q' := by
                cases r with
                | nil => exact absurd hl (by show ¬ ((1 : Nat) = 2 ∨ (1 : Nat) = 3); decide)
                | cons b q' => exact ⟨b, q', rfl⟩
              subst hr
              have ent : entryOf (a :: b :: q') = (numN b 7).map fun n => n * 4 + (if q' = [] then 1 else 3) := by
                cases q' with
                | nil => rfl
                | cons c q2 =>
                  have hq : c :: q2 = [("write" : Str)] := by
                    rcases hdr with h | h
                    · exact nomatch h
                    · exact h
                  obtain ⟨rfl, rfl⟩ := List.cons.inj hq
                  show (if (Str.ofString "write") = (Str.ofString "write") then (numN b 7).map fun n => n * 4 + 3 else none) = _
                  rw [if_pos rfl, if_neg (fun z => nomatch z)]
              have hlen : (a :: b :: q').length = if q' = [] then 2 else 3 := by
                cases q' with
                | nil => rfl
                | cons c q2 =>
                  have hq : c :: q2 = [("write" : Str)] := by
                    rcases hdr with h | h
                    · exact nomatch h
                    · exact h
                  obtain ⟨rfl, rfl⟩ := List.cons.inj hq
                  rfl
              have at1 : atI ((a :: b :: q').map V.str) 1 = some (.str b) := atI_nat (j := 1) rfl
              have hb := l2 b (List.mem_cons_of_mem _ List.mem_cons_self)
              walk_at "go"
              refine r_ixL (sqL eG4) at1 ?_
              walk_at "go"
              refine ⟨b, 7, rfl, hb.1, hb.2, fun G5 s5 => ?_⟩
              have eG5 := s5 _ _ eG4
              walk_at "go"
              cases hn : numN b 7 with
              | none =>
                rw [decide_eq_false (show ¬ (0 : Int) ≤ intO none by decide)]
                walk_at "go"
                exact fin (r := none) (by rw [ew, ent, hn]; rfl) (sG4.trans s5)
              | some n =>
                rw [decide_eq_true (show (0 : Int) ≤ intO (some n) from Int.natCast_nonneg n)]
                have hv : valOf b = (n : Int) ∧ 0 ≤ valOf b := by
                  unfold numN at hn
                  split at hn
                  · have := Option.some.inj hn
                    omega
                  · exact nomatch hn
                have n7 := numN_le hn
                obtain ⟨it, l6⟩ := int_val hv.2
                rw [hv.1] at it
                walk_at "go"
                refine r_ixL (sqL eG5) at1 ?_
                walk_at "go"
                refine ⟨b, _, rfl, it, by omega, ?_⟩
                refine r_I (cmul (by decide) (by decide) (by omega) (by omega)) ?_
                walk_at "go"
                refine ⟨pa, _, rfl, .inl (sqL eG5), ?_⟩
                rw [List.length_map]
                have l3 : (a :: b :: q').length ≤ 3 := by rw [hlen]; split <;> decide
                refine r_I (cmul (by decide) (by decide) (by omega) (by omega)) ?_
                walk_at "go"
                have w := fin (r := some (n * 4 + (if q' = [] then 1 else 3))) (by rw [ew, ent, hn]; rfl) (sG4.trans s5)
                have e9 : intO (some (n * 4 + (if q' = [] then 1 else 3))) = 4 * (n : Int) + 2 * (((a :: b :: q').length : Nat) : Int) - 3 := by
                  rw [hlen]
                  show ((n * 4 + (if q' = [] then 1 else 3) : Nat) : Int) = _
                  split <;> omega
                rw [e9] at w
                exact w
            · rw [decide_eq_false hg]
              walk_at "go"
              refine fin (r := none) ?_ sG4
              rw [ew]
              split
              · rename_i ha
                match r, hg with
                | [], _ => rfl
                | [b], hg => exact absurd ⟨ha, .inl rfl, .inl rfl⟩ hg
                | [b, c], hg => exact if_neg fun z => hg ⟨ha, .inr rfl, .inr (by rw [z]; rfl)⟩
                | _ :: _ :: _ :: _, _ => rfl
              · split
                · rename_i ha
                  match r, hno2 with
                  | [], _ => rfl
                  | [b], hno2 => exact absurd ⟨ha, rfl⟩ hno2
                  | _ :: _ :: _, _ => rfl
                · match r, hno with
                  | [], _ => rfl
                  | [_], _ => rfl
                  | [b, c], hno => exact if_neg fun z => hno ⟨z, rfl⟩
                  | _ :: _ :: _ :: _, _ => rfl
end
end K06

namespace K06
open PySem PySem.Spec PyProof.Rows L2 Bk


theorem pad_take {ws : List Nat} (h : ws.length ≤ 8) : (ws ++ List.replicate 8 0).take 8 = pad ws := by
  unfold pad
  rw [List.take_append, List.take_of_length_le h, List.take_replicate, Nat.min_eq_left (by omega)]
theorem Rl.base {H0 H : Hp} {t : Addr} {dd : Bool → Addr} {es : Bool → Es} {s : S} {wv : V} (h : Rl H0 H t dd es s wv) {p : Addr} {u : HO} (e : H p = some u) (n1 : p ≠ t) (n2 : ∀ k, p ≠ dd k) (n3 : ∀ k, ∀ c ∈ es k, p ≠ c.2.1) : Rl (upd H0 p u) H t dd es s wv :=
  have sm : Same (upd H0 p u) H := fun b v z => by
    by_cases hb : b = p
    · subst hb
      rw [upd_same] at z
      obtain rfl := Option.some.inj z
      exact e
    · rw [upd_ne hb] at z
      exact h.sm _ _ z
  { h with ft := by rw [upd_ne n1.symm]; exact h.ft, fd := fun k => by rw [upd_ne (n2 k).symm]; exact h.fd k, fe := fun k c hc => by rw [upd_ne (n3 k c hc).symm]; exact h.fe k c hc, sm := sm }
theorem if_by {t : TT} {a b : TS} {D : Ends} {σ : L2.St} {H : Hp} (k : Bool) (P : Hp → Prop) (h1 : ∀ QB : Bool → Hp → Prop, (∀ G, P G → QB k G) → t σ H QB) (h2 : ∀ G, P G → if k = true then a D σ G else b D σ G) : tIfS t a b D σ H := h1 _ h2
theorem top_is {x y : V} {a : Str} : (valV [((.inr (Str.ofString "room") : Key), x), (.inr (Str.ofString "block"), y)] (.inr a : Key)).isSome = decide (a = Str.ofString "room" ∨ a = Str.ofString "block") := by
  by_cases h1 : a = Str.ofString "room"
  · subst h1
    exact (congrArg Option.isSome (top_val (k := true) (a := x) (b := y))).trans (decide_eq_true (.inl rfl)).symm
  · by_cases h2 : a = Str.ofString "block"
    · subst h2
      exact (congrArg Option.isSome (top_val (k := false) (a := x) (b := y))).trans (decide_eq_true (.inr rfl)).symm
    · rw [decide_eq_false (fun z => z.elim h1 h2)]
      unfold valV
      rw [List.find?_cons, show decide ((Sum.inr (Str.ofString "room") : Key) = .inr a) = false from decide_eq_false (fun z => h1 (Sum.inr.inj z).symm)]
      show ((List.find? _ [((.inr (Str.ofString "block") : Key), y)]).map _).isSome = false
      rw [List.find?_cons, show decide ((Sum.inr (Str.ofString "block") : Key) = .inr a) = false from decide_eq_false (fun z => h2 (Sum.inr.inj z).symm)]
      rfl
/-- at tt: the tuple of eight tuples that tells m -/
def FilAt (H : Hp) (tt : Addr) (m : Im) : Prop := ∃ us : List Addr, H tt = some (.tup (us.map V.ref)) ∧ us.length = 8 ∧ ∀ (n : Nat) u, us[n]? = some u → H u = some (.tup (intsV (pad ((getI m n).getD []))))
theorem FilAt.ts {H H' : Hp} {tt : Addr} {m : Im} (h : FilAt H tt m) (s : ∀ a xs, H a = some (.tup xs) → H' a = some (.tup xs)) : FilAt H' tt m := by
  obtain ⟨us, a, b, c⟩ := h
  exact ⟨us, s _ _ a, b, fun n u e => s _ _ (c n u e)⟩
theorem FilAt.dq {K : PySem.W.Frag} {H : Hp} {tt : Addr} {m : Im} (h : FilAt H tt m) : Dq false K H (.ref tt) (filD m) := by
  obtain ⟨us, a, b, c⟩ := h
  refine .tup (sqT a) (dq_tups (f := fun n => pad ((getI m n).getD [])) (by rw [b]; rfl) fun j t n h1 h2 => ?_)
  have hj : j < 8 := by rw [← b]; exact (List.getElem?_eq_some_iff.mp h1).1
  rw [List.getElem?_range hj] at h2
  obtain rfl := Option.some.inj h2
  exact c j t h1
def spDue (K : PySem.W.Frag) : Sp := fun vs H Q _ => ∃ z : Str, vs = [.str z] ∧ z.length ≤ 9900 ∧ okS z ∧ ∀ p H' us, Same H H' → H' p = some (.lst us) → DqAll false K H' us (dueD z) → Q (.ref p) H'
section
variable {P : Program} {w : World} {K : PySem.W.Frag} {mg : Str → Option Value} {base : Heap} {A : Ad}
theorem ok_due {f : Addr} {fd : FuncData} (F : Fun K "_law_due" "_law_due" s_due_L f fd) (T : Txt K mg A) (c_plain_L : CalD P w K mg base CX0 1 "_law_plain" spPlain []) (c_word_L : CalD P w K mg base CX0 2 "_law_word" spWordL []) : FnOk P w K mg base CX0 3 f fd ["_law_text"] (spDue K) := by
  refine F.ok sc_due_L (fun vs H Q E h => ?_) (fun cdv A' outer s H vs Q E hr h => have hu65 := units65 hr; have hu64 := hr.units; have hu := units1 hr; ⟨_, (pss_cons (ps_set (i := 1) sc_due_L.nd rfl (.inr rfl) (pe_disp (pps_cons pe_str pe_dnewK (pps_cons pe_str pe_dnewK pps_nil)) rfl rfl (by simp) (by decide)))
    (pss_cons (ps_set (i := 2) sc_due_L.nd rfl (.inl rfl) pe_non)
    (pss_cons (ps_for PassesOwn.never rfl (pi_enum (by rfl) T.m_enumerate (pa_cons (pe_split (pv 0) pe_str) pa_nil)) (pg_tup rfl (pgs_cons (pg_name (i := 3) sc_due_L.nd rfl (.inl rfl)) (pgs_cons (pg_name (i := 4) sc_due_L.nd rfl (.inl rfl)) pgs_nil)))
      (pss_cons (ps_setLc (i := 5) (own := [("_law_word_here", 8)]) rfl sc_due_L.nd rfl rfl (sw_true rfl rfl rfl (by decide +kernel)) (pi_list (pe_split (pv 4) pe_str)) (blkOk_by (N := ["_law_text", "_law_found", "_law_filling", "_law_number", "_law_row", "_law_words", "_law_parts", "_law_head", "_law_word_here"]) (sc := defScope s_due_L) (by decide +kernel)) (fun _ _ _ _ _ => (pg_name (i := 8) sc_due_L.nd rfl (.inl rfl))) (fun _ _ _ _ _ => pts_one (pt_cmpR op_ne (pv 8) pe_str (nomark _))) (fun _ _ _ _ _ => (pv 8)))
    (C8.pss_cut (ps_if (pt_cmpR (op_eqD hu64) (pv 5) (pe_lstB pa_nil) (nomark _)) (pss_one ps_continue) pss_nil)
    (pss_one (ps_if (PW.pt (pw_and (pt_cmpR op_eq (pe_callB call_len_seq (by rfl) T.m_len (by decide +kernel) (pa_cons (pv 5) pa_nil)) pe_int (nomark _)) (pw_and (pt_cmp (pc_din hu (pe_ix ix_list (pv 5) pe_int (fun _ _ => rfl)) (pv 1))) (pw_and1 (pt_cmpR op_ge (pe_cal c_plain_L hr (by decide) (by rfl) (pa_cons (pe_ix ix_list (pv 5) pe_int (fun _ _ => rfl)) (pa_cons pe_int pa_nil))) pe_int (nomark _)))))) (pss_one (ps_set (i := 2) sc_due_L.nd rfl (.inl rfl) (pe_dsetd (pe_dget hu (pv 1) (pe_ix ix_list (pv 5) pe_int (fun _ _ => rfl)) (fun _ _ => rfl)) (pe_callTy call_int_str (by rfl) T.m_int (by decide +kernel) (pa_cons (pe_ix ix_list (pv 5) pe_int (fun _ _ => rfl)) pa_nil)) (pe_lstB pa_nil) ⟨rfl, rfl, rfl, rfl⟩))) (pss_one (ps_if (PW.pt (pw_or (pt_cmpR op_isN (pv 2) pe_non (nomark _)) (pw_or (pt_cmpR op_eq (pe_callB call_len_seq (by rfl) T.m_len (by decide +kernel) (pa_cons (pv 2) pa_nil)) pe_int (nomark _)) (pw_or1 (pt_cmpR op_lt (pe_cal c_word_L hr (by decide) (by rfl) (pa_cons (pv 5) pa_nil)) pe_int (nomark _)))))) (pss_one (ps_ret (pe_lstB (pa_cons pe_str (pa_cons (pv 3) pa_nil))))) (pss_one (ps_expr (pe_bm PySem.F.plainAttrs_list PySem.F.slot_list_append PySem.F.type_list_append mt_append (pv 2) (pa_cons (pe_cal c_word_L hr (by decide) (by rfl) (pa_cons (pv 5) pa_nil)) pa_nil)))))))))))
    (pss_cons (ps_set (i := 6) sc_due_L.nd rfl (.inl rfl) (pe_lstB pa_nil))
    (pss_cons (ps_for PassesOwn.never rfl (pi_list (pe_lstB (pa_cons pe_str (pa_cons pe_str pa_nil)))) (pg_name (i := 7) sc_due_L.nd rfl (.inr rfl))
      (pss_one (ps_expr (pe_bm PySem.F.plainAttrs_list PySem.F.slot_list_append PySem.F.type_list_append mt_append (pv 6) (pa_cons (pe_callTy call_tuple_of (by rfl) T.m_tuple (by decide +kernel) (pa_cons (pe_lc (own := [("_law_number", 3)]) rfl sc_due_L.nd (pi_range1 (by rfl) T.m_range (pa_cons pe_int pa_nil)) (blkOk_by (N := ["_law_text", "_law_found", "_law_filling", "_law_number", "_law_row", "_law_words", "_law_parts", "_law_head", "_law_word_here"]) (sc := defScope s_due_L) (by decide +kernel)) (fun _ _ _ _ _ => (pg_name (i := 3) sc_due_L.nd rfl (.inl rfl))) (fun _ _ _ _ _ => pts_nil) (fun _ _ _ _ _ => (pe_callTy (call_tuple_ofK (K := K) rfl) (by rfl) T.m_tuple (by decide +kernel) (pa_cons (pe_slice (sl_listK (K := K) rfl) (pe_op op_cat (pe_dget2 hu (pe_dget hu (pv 1) (pv 7) (fun _ _ => rfl)) (pv 3) (pe_lstB pa_nil) ⟨rfl, rfl, rfl, rfl⟩) (pe_op op_rep (pe_lstB (pa_cons pe_int pa_nil)) pe_int)) po_none (po_some pe_int)) pa_nil)))) pa_nil)) pa_nil)))))
    (pss_one (ps_ret (pe_lstB (pa_cons pe_str (pa_cons (pe_callTy call_tuple_of (by rfl) T.m_tuple (by decide +kernel) (pa_cons (pv 6) pa_nil)) pa_nil)))))))))), ?_⟩)
  · obtain ⟨z, rfl, _⟩ := h
    rfl
  · obtain ⟨z, rfl, hl, ho, q⟩ := h
    walk_at "go"
    refine r_disp2 (by decide +kernel) fun t d1 d2 H1 nt n1 n2 t1 t2 d12 s1 et e1 e2 => ?_
    have R0 : Rl H H1 t (fun k => if k = true then d1 else d2) (fun _ => []) s0 .non :=
      ⟨et, fun k => by cases k <;> exact ⟨by assumption, fun _ z => nomatch z⟩, fun k => by cases k <;> rfl, fun _ _ _ _ z => (nomatch z), fun k => by cases k <;> assumption, d12, rfl, nt, fun k => by cases k <;> assumption, fun _ _ z => (nomatch z), s1⟩
    obtain ⟨dd, hdd⟩ : ∃ dd : Bool → Addr, dd = fun k => if k = true then d1 else d2 := ⟨_, rfl⟩
    rw [← hdd] at R0
    clear et e1 e2 hdd t1 t2 d12 nt n1 n2
    walk_at "go"
    refine ⟨_, rfl, ⟨z, rfl⟩, ?_⟩
    walk_at "go"
    have l1 : (Str.ofString "\n").length = 1 := by decide +kernel
    refine ⟨z, _, rfl, rfl, by decide +kernel, by rw [sizeLine_eq]; omega, fun pR npR => ?_⟩
    obtain ⟨R, hR⟩ : ∃ R, R = Txt.split z (Str.ofString "\n") := ⟨_, rfl⟩
    rw [← hR]
    have sp := same_upd (o := .lst (R.map V.str)) npR
    have ep : upd H1 pR (.lst (R.map V.str)) pR = some (.lst (R.map V.str)) := upd_same
    generalize upd H1 pR (.lst (R.map V.str)) = H2 at sp ep ⊢
    have npH : H pR = none := s1.free npR
    have R1 := (R0.same sp).base ep (fun w => by have u := R0.top; rw [← w, npR] at u; exact nomatch u) (fun k w => by have u := (R0.sd k).1; rw [← w, npR] at u; exact nomatch u) fun _ _ w => nomatch w
    have sH : Same H (upd H pR (.lst (R.map V.str))) := same_upd npH
    have eR0 : upd H pR (.lst (R.map V.str)) pR = some (.lst (R.map V.str)) := upd_same
    generalize upd H pR (.lst (R.map V.str)) = Hb at R1 sH eR0
    have hRr : ∀ r ∈ R, r.length ≤ 9950 ∧ okS r := fun r hr => by
      rw [hR] at hr
      exact ⟨by have := split_part hr; omega, okS_split ho hr⟩
    have hdue : ∀ {r}, goR 0 s0 R = r → dueD z = match r with
      | .inl s => [.str (Str.ofString "told"), imgD s]
      | .inr i => [.str (Str.ofString "row"), .int i] := fun {r} e => by
      unfold dueD
      rw [← hR, e]
      all_goals (cases r <;> rfl)
    clear R0 s1 sp npR npH
    walk_at "go"
    refine ⟨pR, _, rfl, sqL ep, ?_⟩
    clear ep
    refine for_it walk_enum (fun i σ G => ∃ (es : Bool → Es) (st : S) (wv : V), (∃ x3 x4 x5 x6 x7 x8, σ = [some (.str z), some (.ref t), some wv, x3, x4, x5, x6, x7, x8]) ∧ Rl Hb G t dd es st wv ∧ st.Ok ∧ goR 0 s0 R = goR i st (R.drop i))
      ⟨_, s0, .non, ⟨_, _, _, _, _, _, rfl⟩, R1, ok0, rfl⟩ (fun i σ G _ h => by obtain ⟨_, _, _, _, R, _⟩ := h; exact sqL (R.sm _ _ eR0)) ?_ ?_
    · clear R1
      rintro i y σ G G2 hi ⟨es, st, wv, ⟨x3, x4, x5, x6, x7, x8, rfl⟩, Rr, hok, hgo⟩ ⟨Tn, u, v, rfl, nT, rfl, hu1, hv⟩
      injection hu1 with hu1
      subst hu1
      have sT := same_upd (o := .tup [.int i, v]) nT
      have hi2 : i < R.length := by rw [← List.length_map (f := V.str)]; exact hi
      obtain ⟨row, hrow, rfl⟩ : ∃ z, R[i]? = some z ∧ v = .str z := by
        have hv : (R.map V.str)[i]? = some v := hv
        rw [List.getElem?_map] at hv
        cases hq : R[i]? with
        | none => rw [hq] at hv; exact nomatch hv
        | some z => rw [hq] at hv; exact ⟨z, rfl, (Option.some.inj hv).symm⟩
      obtain ⟨hrl, hro⟩ := hRr row (List.mem_of_getElem? hrow)
      have hdrop : R.drop i = row :: R.drop (i + 1) := by
        rw [List.drop_eq_getElem_cons hi2]
        rw [List.getElem?_eq_getElem hi2] at hrow
        rw [Option.some.inj hrow]
      have l1' : (Str.ofString " ").length = 1 := by decide +kernel
      refine ⟨Tn, _, rfl, sqT upd_same, rfl, .int i, _, rfl, .str row, _, rfl, rfl, ?_⟩
      generalize upd G Tn (.tup [.int i, .str row]) = G2 at sT ⊢
      have Rr2 := Rr.same sT
      walk_at "go"
      refine lcNewF (xs := (Txt.split row " ").map V.str) (fun i => (fun y : Str => if y = Str.ofString "" then none else some (V.str y)) ((Txt.split row " ").getD i Str.empty)) (fun QQ z => ?_) (by rw [List.length_map]; have := split_count row " "; omega) (fun _ => rfl) (fun k y H3 Q' R' hy h1 h2 => ?_) fun D G3 nD s3 eD => ?_
      · walk_at "go"
        refine ⟨⟨row, rfl⟩, ?_⟩
        walk_at "go"
        exact ⟨row, _, rfl, rfl, by decide +kernel, by rw [sizeLine_eq]; omega, fun p np => z p _ np (same_upd np) upd_same⟩
      · rw [List.getElem?_map] at hy
        cases hk : (Txt.split row " ")[k]? with
        | none => rw [hk] at hy; exact nomatch hy
        | some x =>
          rw [hk] at hy
          obtain rfl := Option.some.inj hy
          have hg : (Txt.split row " ").getD k Str.empty = x := by rw [List.getD_eq_getElem?_getD, hk]; rfl
          rw [hg] at h1 h2
          walk_at "go"
          refine iteNC (fun hx => ?_) (fun hx => ?_)
          · walk_at "go"
            exact h1 _ (if_neg fun z => hx (by rw [z])) _ (Same.refl _)
          · walk_at "go"
            exact h2 (if_pos (by injection hx)) _ (Same.refl _)
      · rw [parts_fm] at eD
        have hrw := row_parts hrl hro eD
        have Rr3 := Rr2.same s3
        have hgo2 : goR 0 s0 R = if partsOf row = [] then goR (i + 1) st (R.drop (i + 1)) else match stp st (partsOf row) with
          | none => .inr i
          | some s' => goR (i + 1) s' (R.drop (i + 1)) := by rw [hgo, hdrop]; rfl
        clear hgo sT s3 eD Rr Rr2 nT nD
        generalize partsOf row = ps at hrw hgo2
        walk_at "go"
        refine r_cut (fun σ G => σ = [some (.str z), some (.ref t), some wv, some (.int i), some (.str row), some (.ref D), x6, x7, x8] ∧ Same G3 G ∧ ps ≠ []) ?_ ?_
        · walk_at "go"
          refine newLB fun l4 G4 n4 g4 s4 e4 => ?_
          have Rr4 := Rr3.same s4
          have hrw4 := hrw.same s4
          have hd : ∀ x ∈ ps, PyData.strOk x = true := fun x hx => okS_str (hrw.2.2 x hx).2
          walk_at "go"
          refine ⟨_, .list [], dp_strs (sqL hrw4.1), .lst (sqL e4) .nil, sh_strs hd, sh_nil, ?_⟩
          unfold strD
          rw [eqv_nil]
          by_cases hp : ps = []
          · rw [show decide (ps.map PyData.str = []) = true from decide_eq_true (by rw [hp]; rfl)]
            rw [if_pos hp] at hgo2
            walk_at "go"
            exact ⟨es, st, wv, ⟨_, _, _, _, _, _, rfl⟩, Rr4, hok, hgo2⟩
          · rw [show decide (ps.map PyData.str = []) = false from decide_eq_false (fun w => hp (List.map_eq_nil_iff.mp w))]
            walk_at "go"
            exact ⟨rfl, s4, hp⟩
        · rintro σ G4 ⟨rfl, s4, hp⟩
          rw [if_neg hp] at hgo2
          have Rr4 := Rr3.same s4
          have hrw4 := hrw.same s4
          clear Rr3 hrw s4
          refine if_by (begun ps).isSome (fun G => Same G4 G) (fun QB qb => ?_) (fun G5 s5 => ?_)
          · walk_at "go"
            refine ⟨D, _, rfl, .inl (sqL hrw4.1), ?_⟩
            rw [List.length_map]
            walk_at "go"
            by_cases h2 : ps.length = 2
            · obtain ⟨a, b, rfl⟩ := two_of h2
              rw [decide_eq_true (show V.int (([a, b] : List Str).length : Nat) = V.int 2 from rfl)]
              walk_at "go"
              unfold tDIn
              walk_at "go"
              refine r_ixL (sqL hrw4.1) (v := .str a) rfl ?_
              refine ⟨_, rfl, t, _, rfl, DGet.k (k := .inr a) Rr4.top, ?_⟩
              rw [top_is]
              have hb := begun_two (a := a) (b := b)
              by_cases ha : a = Str.ofString "room" ∨ a = Str.ofString "block"
              · rw [decide_eq_true ha]
                have hbs : (begun [a, b]).isSome = (numN b 7).isSome := by
                  rw [hb]
                  rcases ha with rfl | rfl
                  · rw [if_pos rfl]
                    cases numN b 7 <;> rfl
                  · rw [if_neg (by decide +kernel), if_pos rfl]
                    cases numN b 7 <;> rfl
                rw [hbs] at qb
                walk_at "go"
                refine r_ixL (sqL hrw4.1) (v := .str b) rfl ?_
                walk_at "go"
                refine ⟨b, 7, rfl, (hrw4.2.2 b (by simp)).1, (hrw4.2.2 b (by simp)).2, fun G5 s5 => ?_⟩
                walk_at "go"
                have w := qb G5 s5
                cases hn : numN b 7 with
                | none =>
                  rw [hn] at w
                  exact w
                | some n =>
                  rw [hn] at w
                  rw [decide_eq_true (show (0 : Int) ≤ intO (some n) from Int.natCast_nonneg n)]
                  exact w
              · rw [decide_eq_false ha]
                walk_at "go"
                have w := qb G4 (Same.refl _)
                rw [hb, if_neg (fun z => ha (.inl z)), if_neg (fun z => ha (.inr z))] at w
                exact w
            · rw [decide_eq_false (fun w : V.int (ps.length : Nat) = V.int 2 => h2 (int_eq (b := 2) w))]
              walk_at "go"
              have w := qb G4 (Same.refl _)
              rw [begun_no h2] at w
              exact w
          · have Rr5 := Rr4.same s5
            have hrw5 := hrw4.same s5
            clear Rr4 hrw4 s5
            cases hb : begun ps with
            | some kn =>
              obtain ⟨k, n⟩ := kn
              obtain ⟨b, rfl, hn⟩ := begun_at hb
              have hstp : stp st [if k = true then Str.ofString "room" else Str.ofString "block", b] = some { st.with k (setI (st.side k) n) with cur := some (k, n) } := by unfold stp; rw [hb]
              rw [hstp] at hgo2
              have hok2 := hok.stp hstp
              have hend : ((st.side k).map (·.1)).Nodup := (hok.side k).nd
              have lk : (es k).length ≤ 8 := by
                have w := (hok.side k).len
                rw [← Rr5.im k] at w
                unfold imE at w
                rw [List.length_map] at w
                exact w
              have hv : valOf b = (n : Int) ∧ 0 ≤ valOf b := by
                unfold numN at hn
                split at hn
                · have := Option.some.inj hn
                  omega
                · exact nomatch hn
              obtain ⟨it, l6⟩ := int_val hv.2
              rw [hv.1] at it
              refine iteT ?_
              walk_at "go"
              unfold tDSetd
              refine r_dget ?_
              walk_at "go"
              refine r_ixL (sqL hrw5.1) (v := .str (if k = true then Str.ofString "room" else Str.ofString "block")) rfl ?_
              refine ⟨t, .ref (dd k), rfl, .inl ⟨_, .inr (if k = true then Str.ofString "room" else Str.ofString "block"), .inl Rr5.top, rfl, ?_⟩, ?_⟩
              · rw [top_val]
                cases k <;> rfl
              refine ⟨dd k, rfl, .inl ⟨_, .inl (Rr5.sd k).1⟩, ?_⟩
              walk_at "go"
              refine r_ixL (sqL hrw5.1) (v := .str b) rfl ?_
              walk_at "go"
              refine ⟨b, _, rfl, it, by omega, ?_⟩
              walk_at "go"
              refine newLB fun l G6 nl gl s6 el => ?_
              have Rr6 := Rr5.same s6
              refine ⟨_, .inl (n : Int), (Rr6.sd k).1, rfl, by unfold kvE; rw [List.length_map, sizeLine_eq]; omega, fun v hv => ?_, fun hv => ?_⟩
              · rw [val_kv] at hv
                cases hf : (es k).find? fun e => decide (e.1 = n) with
                | none => rw [hf] at hv; exact nomatch hv
                | some e =>
                  rw [hf] at hv
                  obtain rfl := Option.some.inj hv
                  have he := List.mem_of_find?_eq_some hf
                  have hn : e.1 = n := of_decide_eq_true (List.find?_some (p := fun e : Nat × Addr × List Nat => decide (e.1 = n)) hf)
                  walk_at "go"
                  exact ⟨es, _, _, ⟨_, _, _, _, _, _, rfl⟩, Rr6.old he hn hend, hok2, hgo2⟩
              · have hg : getI (st.side k) n = none := by
                  rw [← Rr5.im k, get_im]
                  rw [val_kv] at hv
                  cases hf : (es k).find? fun e => decide (e.1 = n) with
                  | none => rfl
                  | some e => rw [hf] at hv; exact nomatch hv
                rw [put_new hv]
                walk_at "go"
                exact ⟨_, _, _, ⟨_, _, _, _, _, _, rfl⟩, Rr6.new el (Rr5.sm.free nl) (fun j e he z => by have w := (Rr5.sd j).2 e he; rw [z, nl] at w; exact nomatch w) hg, hok2, hgo2⟩
            | none =>
              refine iteF ?_
              refine if_by (stp st ps).isNone (fun G => Same G5 G) (fun QB qb => ?_) (fun G6 s6 => ?_)
              · walk_at "go"
                refine ⟨rfl, _, rfl, ?_⟩
                have hcur := Rr5.cur
                cases hc : st.cur with
                | none =>
                  rw [hc] at hcur
                  have hcur : wv = .non := hcur
                  have hs : stp st ps = none := by unfold stp; rw [hb, hc]; cases wordOf ps <;> rfl
                  rw [hs] at qb
                  subst hcur
                  rw [decide_eq_true rfl]
                  walk_at "go"
                  exact qb _ (Same.refl _)
                | some kn =>
                  obtain ⟨k, n⟩ := kn
                  rw [hc] at hcur
                  obtain ⟨e, he, hn, hwv⟩ := hcur
                  have ea := (Rr5.sd k).2 e he
                  have hg : getI (st.side k) n = some e.2.2 := by
                    have w := (hok.side k).nd
                    rw [← Rr5.im k] at w ⊢
                    rw [← hn]
                    exact getI_e w he
                  have le : (intsV e.2.2).length = e.2.2.length := List.length_map _
                  subst hwv
                  rw [decide_eq_false (fun z => nomatch z)]
                  walk_at "go"
                  refine ⟨e.2.1, _, rfl, .inl (sqL ea), ?_⟩
                  rw [le]
                  walk_at "go"
                  by_cases h8 : e.2.2.length = 8
                  · have hs : stp st ps = none := by
                      unfold stp
                      rw [hb, hc]
                      cases wordOf ps with
                      | none => rfl
                      | some w => exact if_pos (by rw [hg]; exact h8)
                    rw [hs] at qb
                    rw [decide_eq_true (show V.int (e.2.2.length : Nat) = V.int 8 by rw [h8]; rfl)]
                    walk_at "go"
                    exact qb _ (Same.refl _)
                  · rw [decide_eq_false (fun z : V.int (e.2.2.length : Nat) = V.int 8 => h8 (int_eq (b := 8) z))]
                    walk_at "go"
                    refine ⟨D, ps, rfl, hrw5, hp, fun G7 s7 => ?_⟩
                    have hs : (stp st ps).isNone = (wordOf ps).isNone := by
                      unfold stp
                      rw [hb, hc]
                      cases wordOf ps with
                      | none => rfl
                      | some w => exact congrArg Option.isNone (if_neg (by rw [hg]; exact h8))
                    rw [hs] at qb
                    walk_at "go"
                    have w := qb _ s7
                    cases hw : wordOf ps with
                    | none =>
                      rw [hw] at w
                      rw [decide_eq_true (show intO none < 0 by decide)]
                      exact w
                    | some wd =>
                      rw [hw] at w
                      rw [decide_eq_false (show ¬ intO (some wd) < 0 from Int.not_lt.mpr (Int.natCast_nonneg wd))]
                      exact w
              · cases hs : stp st ps with
                | none =>
                  rw [hs] at hgo2
                  refine iteT ?_
                  walk_at "go"
                  refine newLB fun p7 G7 n7 g7 s7 e7 => ?_
                  exact q p7 G7 _ (sH.trans (Rr5.sm.trans (s6.trans s7))) e7 (by rw [hdue hgo2]; exact .cons (.str _) (.cons (.int _) .nil))
                | some st' =>
                  rw [hs] at hgo2
                  refine iteF ?_
                  have hok2 := hok.stp hs
                  obtain ⟨wd, k, n, hw, hc, hst⟩ : ∃ wd k n, wordOf ps = some wd ∧ st.cur = some (k, n) ∧ st' = st.with k (pushI (st.side k) n wd) := by
                    unfold stp at hs
                    rw [hb] at hs
                    cases hw : wordOf ps with
                    | none => rw [hw] at hs; exact nomatch hs
                    | some wd =>
                      cases hc : st.cur with
                      | none => rw [hw, hc] at hs; exact nomatch hs
                      | some kn =>
                        obtain ⟨k, n⟩ := kn
                        rw [hw, hc] at hs
                        have hs : (if ((getI (st.side k) n).getD []).length = 8 then none else some (st.with k (pushI (st.side k) n wd))) = some st' := hs
                        split at hs
                        · exact nomatch hs
                        · exact ⟨wd, k, n, rfl, rfl, (Option.some.inj hs).symm⟩
                  have hcur := Rr5.cur
                  rw [hc] at hcur
                  obtain ⟨e, he, hn, hwv⟩ := hcur
                  have Rr6 := Rr5.same s6
                  have ea := (Rr6.sd k).2 e he
                  have hg : getI (st.side k) n = some e.2.2 := by
                    have w := (hok.side k).nd
                    rw [← Rr5.im k] at w ⊢
                    rw [← hn]
                    exact getI_e w he
                  have l8 : e.2.2.length ≤ 8 := ((hok.side k).lt _ (getI_mem hg)).2.1
                  have le : (intsV e.2.2).length = e.2.2.length := List.length_map _
                  subst hwv
                  walk_at "go"
                  refine ⟨.inl ⟨rfl, _, sqL ea⟩, ?_⟩
                  walk_at "go"
                  refine ⟨D, ps, rfl, hrw5.same s6, hp, fun G7 s7 => ?_⟩
                  rw [hw, show intO (some wd) = (wd : Int) from rfl]
                  walk_at "go"
                  refine ⟨e.2.1, _, _, rfl, rfl, s7 _ _ ea, by rw [le, sizeLine_eq]; omega, ?_⟩
                  exact ⟨_, _, _, ⟨_, _, _, _, _, _, rfl⟩, (Rr6.same s7).push he hn hc rfl (hok.side k).nd, by rw [← hst]; exact hok2, by rw [← hst]; exact hgo2⟩
    · rintro σ G ⟨es, st, wv, ⟨x3, x4, x5, x6, x7, x8, rfl⟩, Rr, hok, hgo⟩
      have hgo : goR 0 s0 R = .inl st := by
        rw [hgo, List.length_map, List.drop_length]
        rfl
      have qq := hdue hgo
      walk_at "go"
      refine newLB fun pl G1 npl gpl s1 epl => ?_
      have Rr1 := Rr.same s1
      walk_at "go"
      refine newLB fun hh G2 nhh ghh s2 ehh => ?_
      have Rr2 := Rr1.same s2
      have npH : H pl = none := (sH.trans Rr.sm).free npl
      have epl2 := s2 _ _ epl
      have hhp : hh ≠ pl := fun w => by rw [w, epl2] at ehh; exact nomatch ehh
      have nown : ∀ {b : Addr} {u : HO}, Hb b = some u → b ≠ pl := fun e w => by rw [w, Rr.sm.free npl] at e; exact nomatch e
      have ntop : t ≠ pl := fun w => by have e := Rr.top; rw [w, npl] at e; exact nomatch e
      have ndd : ∀ k, dd k ≠ pl := fun k w => by have e := (Rr.sd k).1; rw [w, npl] at e; exact nomatch e
      have nee : ∀ k, ∀ c ∈ es k, c.2.1 ≠ pl := fun k c hc w => by have e := (Rr.sd k).2 c hc; rw [w, npl] at e; exact nomatch e
      walk_at "go"
      refine ⟨hh, rfl, ⟨_, sqL ehh⟩, for_list (K := K) (a := hh) (xs := [.str (Str.ofString "room"), .str (Str.ofString "block")]) (fun i σ G3 => (∃ x3 x7 x8, σ = [some (.str z), some (.ref t), some wv, x3, x4, x5, some (.ref pl), x7, x8]) ∧ (∀ b u, b ≠ pl → G2 b = some u → G3 b = some u) ∧ ∃ ts : List Addr, G3 pl = some (.lst (ts.map V.ref)) ∧ ts.length = i ∧ ∀ (j : Nat) tt, ts[j]? = some tt → FilAt G3 tt (st.side (j == 0)))
        ⟨⟨_, _, _, rfl⟩, fun _ _ _ e => e, [], epl2, rfl, fun _ _ z => nomatch z⟩ (fun i σ G3 _ h => sqL (h.2.1 _ _ hhp ehh)) ?_ ?_⟩
      · rintro i y σ G3 hi ⟨⟨x3, x7, x8, rfl⟩, k3, ts, ets, lts, hts⟩
        obtain ⟨i2, rfl⟩ : i < 2 ∧ y = .str (if (i == 0) = true then Str.ofString "room" else Str.ofString "block") := by
          match i, hi with
          | 0, hi => exact ⟨by decide, (Option.some.inj hi).symm⟩
          | 1, hi => exact ⟨by decide, (Option.some.inj hi).symm⟩
        obtain ⟨k, hk⟩ : ∃ k, k = (i == 0) := ⟨_, rfl⟩
        rw [← hk]
        have top3 := k3 _ _ ntop Rr2.top
        have sd3 : Sd G3 (dd k) (es k) := ⟨k3 _ _ (ndd k) (Rr2.sd k).1, fun c hc => k3 _ _ (nee k c hc) ((Rr2.sd k).2 c hc)⟩
        have w8 : ∀ n, ((getI (st.side k) n).getD []).length ≤ 8 := fun n => by
          cases hg : getI (st.side k) n with
          | none => exact Nat.zero_le _
          | some v => exact ((hok.side k).lt _ (getI_mem hg)).2.1
        walk_at "go"
        refine ⟨.inl ⟨rfl, _, sqL ets⟩, ?_⟩
        walk_at "go"
        refine lcNewR 8 (fun n => .tup (intsV (pad ((getI (st.side k) n).getD [])))) (by decide) (fun _ => rfl) (fun n H1' Q' hn sH1 q' => ?_) fun D2 G4 us nD2 s4 eD2 lus hus _ _ => ?_
        · rw [Int.zero_add]
          have sd4 := sd3.same sH1
          walk_at "go"
          have tv : valV [((.inr (Str.ofString "room") : Key), V.ref (dd true)), (.inr (Str.ofString "block"), .ref (dd false))] (.inr (if k = true then Str.ofString "room" else Str.ofString "block")) = some (.ref (dd k)) := by
            rw [top_val]
            cases k <;> rfl
          refine r_dget2 (r_dgV rfl rfl (.inl (sH1 _ _ top3)) tv ⟨dd k, rfl, .inl ⟨_, .inl sd4.1⟩, _, rfl, ?_⟩)
          walk_at "go"
          refine newLB fun l5 G5 nl5 gl5 s5 el5 => ?_
          refine ⟨_, .inl ⟨_, .inl (n : Int), .inl (s5 _ _ sd4.1), rfl, rfl⟩, ?_⟩
          rw [val_kv]
          have sd5 := sd4.same s5
          obtain ⟨ws, hws⟩ : ∃ ws, ws = (getI (st.side k) n).getD [] := ⟨_, rfl⟩
          have w8 : ws.length ≤ 8 := by rw [hws]; exact w8 n
          have hval : ∃ a : Addr, ((((es k).find? fun e => decide (e.1 = n)).map fun e => V.ref e.2.1).getD (V.ref l5)) = V.ref a ∧ G5 a = some (.lst (intsV ws)) := by
            rw [hws, ← Rr.im k, get_im]
            cases hf : (es k).find? fun e => decide (e.1 = n) with
            | none => exact ⟨l5, rfl, el5⟩
            | some e => exact ⟨e.2.1, rfl, sd5.2 e (List.mem_of_find?_eq_some hf)⟩
          obtain ⟨a, ea, hsq⟩ := hval
          rw [ea]
          have q' : ∀ t H3, H1' t = none → Same H1' H3 → H3 t = some (.tup (intsV (pad ws))) → Q' (.ref t) H3 := fun t H3 a b c => q' t H3 a b (by rw [c, hws])
          walk_at "go"
          refine newLB fun z1 G6 nz1 gz1 s6 ez1 => ?_
          refine ⟨z1, 8, _, rfl, rfl, ez1, by decide, by decide, by rw [sizeLine_eq]; decide, fun z2 nz2 => ?_⟩
          have ez2v : (List.replicate (8 : Int).toNat [V.int 0]).flatten = intsV (List.replicate 8 0) := rfl
          rw [ez2v]
          have s7 := same_upd (o := .lst (intsV (List.replicate 8 0))) nz2
          have ez2 : upd G6 z2 (.lst (intsV (List.replicate 8 0))) z2 = some (.lst (intsV (List.replicate 8 0))) := upd_same
          generalize upd G6 z2 (.lst (intsV (List.replicate 8 0))) = G7 at s7 ez2 ⊢
          have lw : (intsV ws).length = ws.length := List.length_map _
          have l8 : (intsV (List.replicate 8 0)).length = 8 := rfl
          refine r_cat (s7 _ _ (s6 _ _ hsq)) ez2 (fun z3 G8 nz3 s8 ez3 => ?_) (by rw [lw, l8]; omega)
          walk_at "go"
          have ecut : cutV (intsV ws ++ intsV (List.replicate 8 0)) none (some 8) = intsV (pad ws) := by
            rw [show (some (8 : Int)) = some ((8 : Nat) : Int) from rfl, cut_to (by rw [List.length_append, lw, l8]; omega), ← pad_take w8]
            unfold intsV
            rw [← List.map_append, List.map_take]
          refine r_slL (sqL ez3) ecut fun p9 G9 n9 s9 e9 => ?_
          walk_at "go"
          refine ⟨p9, _, rfl, .inl ⟨sqL e9, fun t10 n10 => ?_⟩⟩
          have s10 := same_upd (o := .tup (intsV (pad ws))) n10
          have sall := s5.trans (s6.trans (s7.trans (s8.trans s9)))
          exact q' t10 _ (sall.free n10) (sall.trans s10) upd_same
        · walk_at "go"
          refine ⟨D2, _, rfl, .inl ⟨sqL eD2, fun tt ntt => ?_⟩⟩
          have s5 := same_upd (o := .tup (us.map V.ref)) ntt
          have ett : upd G4 tt (.tup (us.map V.ref)) tt = some (.tup (us.map V.ref)) := upd_same
          generalize upd G4 tt (.tup (us.map V.ref)) = G5 at s5 ett ⊢
          have s35 := s4.trans s5
          have ets5 := s35 _ _ ets
          walk_at "go"
          refine ⟨pl, _, _, rfl, rfl, ets5, by rw [List.length_map, sizeLine_eq]; omega, ?_⟩
          have tk : ∀ a xs, G5 a = some (.tup xs) → upd G5 pl (.lst (ts.map V.ref ++ [.ref tt])) a = some (.tup xs) := fun a xs e => by
            rw [upd_ne (fun w => by rw [w, ets5] at e; exact nomatch e)]; exact e
          refine ⟨⟨_, _, _, rfl⟩, fun b u nb e => by rw [upd_ne nb]; exact s35 _ _ (k3 _ _ nb e), ts ++ [tt], by rw [upd_same, List.map_append]; rfl, by rw [List.length_append, lts]; rfl, fun j u hu => ?_⟩
          rcases Nat.lt_trichotomy j ts.length with c | c | c
          · rw [List.getElem?_append_left c] at hu
            exact ((hts j u hu).ts fun a xs e => s35 _ _ e).ts tk
          · rw [c, List.getElem?_append_right (Nat.le_refl _), Nat.sub_self] at hu
            obtain rfl := Option.some.inj hu
            rw [c, lts, ← hk]
            exact FilAt.ts ⟨us, ett, lus, fun n u e => s5 _ _ (hus n u e)⟩ tk
          · rw [List.getElem?_eq_none (by rw [List.length_append]; show ts.length + 1 ≤ j; omega)] at hu
            exact nomatch hu
      · rintro σ G3 ⟨⟨x3, x7, x8, rfl⟩, k3, ts, ets, lts, hts⟩
        walk_at "go"
        refine ⟨pl, _, rfl, .inl ⟨sqL ets, fun tt ntt => ?_⟩⟩
        have s5 := same_upd (o := .tup (ts.map V.ref)) ntt
        have ett : upd G3 tt (.tup (ts.map V.ref)) tt = some (.tup (ts.map V.ref)) := upd_same
        generalize upd G3 tt (.tup (ts.map V.ref)) = G5 at s5 ett ⊢
        walk_at "go"
        refine newLB fun p6 G6 n6 g6 s6 e6 => ?_
        have lts : ts.length = 2 := lts
        obtain ⟨ta, tb, rfl⟩ : ∃ ta tb, ts = [ta, tb] := by
          match ts, lts with
          | [ta, tb], _ => exact ⟨ta, tb, rfl⟩
        have f0 := (hts 0 ta rfl).ts fun a xs e => s6 _ _ (s5 _ _ e)
        have f1 := (hts 1 tb rfl).ts fun a xs e => s6 _ _ (s5 _ _ e)
        refine q p6 G6 _ (fun b u e => ?_) e6 (by rw [qq]; exact .cons (.str _) (.cons (.tup (sqT (s6 _ _ ett)) (.cons f0.dq (.cons f1.dq .nil))) .nil))
        exact s6 _ _ (s5 _ _ (k3 _ _ (nown (sH _ _ e)) (s2 _ _ (s1 _ _ (Rr.sm _ _ (sH _ _ e))))))
end
end K06

namespace K06
open PySem PySem.Spec PyProof.Rows L2 Bk


def OkB (z : Str) (b : Nat) : Prop := z.length ≤ b ∧ okS z
theorem OkB.app {x y : Str} {a b : Nat} (h : OkB x a) (k : OkB y b) : OkB (x ++ y) (a + b) := ⟨by rw [str_len_add]; exact Nat.add_le_add h.1 k.1, okS_app h.2 k.2⟩
theorem OkB.sum {x y : Str} {a b : Nat} (h : OkB x a) (k : OkB y b) (hl : a + b ≤ sizeLine := by decide) : x.length + y.length ≤ sizeLine := Nat.le_trans (Nat.add_le_add h.1 k.1) hl
theorem OkB.lit {z : Str} {b : Nat} (h : (decide (z.length ≤ b) && z.cps.toList.all fun c => decide (c < 1114112)) = true := by decide +kernel) : OkB z b := by
  rw [Bool.and_eq_true] at h
  exact ⟨of_decide_eq_true h.1, fun c hc => of_decide_eq_true (List.all_eq_true.mp h.2 c hc)⟩
theorem OkB.mono {z : Str} {a b : Nat} (h : OkB z a) (k : a ≤ b) : OkB z b := ⟨Nat.le_trans h.1 k, h.2⟩
def numB (n : Nat) : Nat := if n < 10 then 1 else if n < 100 then 2 else 4
theorem num_ok {n : Nat} (h : n < 4096) : (Int.natAbs (n : Int)).log2 < 1920 ∧ (Str.ofString (toString (n : Int))).length ≤ numB n ∧ okS (Str.ofString (toString (n : Int))) := by
  refine ⟨?_, ?_, fun c hc => Nat.lt_of_lt_of_le (PySem.W.KSb.asc_num (n : Int) c hc) (by decide)⟩
  · show n.log2 < 1920
    by_cases h0 : n = 0
    · rw [h0]; decide
    · rw [Nat.log2_lt h0]
      exact Nat.lt_of_lt_of_le h (by decide +kernel)
  · have w : ∀ k : Nat, 0 < k → (n : Int) < 10 ^ k → (Str.ofString (toString (n : Int))).length ≤ k := fun k hk hl => toString_length_le (Int.natCast_nonneg n) hk hl
    unfold numB
    split
    · exact w 1 (by decide) (by show (n : Int) < 10; omega)
    · split
      · exact w 2 (by decide) (by show (n : Int) < 100; omega)
      · exact w 4 (by decide) (by show (n : Int) < 10000; omega)
theorem lit_ok {z : Str} (h : (z.cps.toList.all fun c => decide (c < 1114112)) = true) : okS z := fun c hc => of_decide_eq_true (List.all_eq_true.mp h c hc)
def spSign : Sp := fun vs H Q _ => ∃ (bx : Addr) (n : Nat), vs = [.ref bx] ∧ Box bx n H ∧ n < 999000 ∧ ∀ (z : Str) H', z.length = 1 → okS z → Box bx (n + 1) H' → But bx H H' → Q (.str z) H'
def spDrawn : Sp := fun vs H Q _ => ∃ (bx : Addr) (n : Nat), vs = [.ref bx] ∧ Box bx n H ∧ n < 999000 ∧ ∀ (z : Str) H', z.length ≤ 12 → okS z → Box bx (n + 7) H' → But bx H H' → Q (.str z) H'
theorem num1 {n : Nat} (h : n < 10) : numB n = 1 := if_pos h
theorem num2 {n : Nat} (h : n < 100) : numB n ≤ 2 := by unfold numB; split <;> (try split) <;> omega
theorem num4 {n : Nat} : numB n ≤ 4 := by unfold numB; split <;> (try split) <;> omega
section
variable {P : Program} {w : World} {K : PySem.W.Frag} {mg : Str → Option Value} {base : Heap} {A : Ad}
theorem ok_sign {f : Addr} {fd : FuncData} (F : Fun K "_law_sign" "_law_sign" s_sign_L f fd) (T : Txt K mg A) (c_take_L : CalD P w K mg base CX0 1 "_law_take" spTake []) : FnOk P w K mg base CX0 2 f fd ["_law_box_here"] spSign := by
  refine F.ok sc_sign_L (fun vs H Q E h => ?_) (fun cdv A' outer s H vs Q E hr h => have hu65 := units65 hr; have hu64 := hr.units; ⟨_, (pss_cons (ps_set (i := 1) sc_sign_L.nd rfl (.inl rfl) pe_str)
    (pss_one (ps_ret (pe_ix ix_str (pe_op op_add_str (pv 1) pe_str) (pe_cal c_take_L hr (by decide) (by rfl) (pa_cons (pv 0) (pa_cons pe_int pa_nil))) (fun _ _ => rfl))))), ?_⟩)
  · obtain ⟨bx, n, rfl, _⟩ := h
    rfl
  · obtain ⟨bx, n, rfl, hB, hn, q⟩ := h
    walk_at "go"
    refine ⟨_, _, rfl, rfl, by decide +kernel, ?_⟩
    walk_at "go"
    refine r_take hB (fun d H1 h0 h1 hB1 b1 => ?_) (by omega)
    refine r_ixS h0 (Int.lt_of_lt_of_le h1 (by decide +kernel)) (by decide +kernel) fun c hc => ?_
    exact q _ _ rfl (fun x hx => by
      rw [sign_tl] at hx
      rw [List.mem_singleton.mp hx]
      exact lit_ok (z := Str.ofString " !\"#$&'()*+,-./0123456789:;<=>?@ABCDEFGHIJKLMNOPQRSTUVWXYZ[\\]^_`" ++ Str.ofString "abcdefghijklmnopqrstuvwxyz{|}~\n") (by decide +kernel) c (List.mem_of_getElem? hc)) hB1 b1
theorem ok_drawn {f : Addr} {fd : FuncData} (F : Fun K "_law_drawn_row" "_law_drawn_row" s_drawn_row_L f fd) (T : Txt K mg A) (c_take_L : CalD P w K mg base CX0 1 "_law_take" spTake []) (c_ops_L : CalD P w K mg base CX0 1 "_law_ops" spOpsL []) : FnOk P w K mg base CX0 2 f fd ["_law_box_here"] spDrawn := by
  refine F.ok sc_drawn_row_L (fun vs H Q E h => ?_) (fun cdv A' outer s H vs Q E hr h => have hu65 := units65 hr; have hu64 := hr.units; ⟨_, (pss_cons (ps_set (i := 1) sc_drawn_row_L.nd rfl (.inl rfl) (pe_cal c_take_L hr (by decide) (by rfl) (pa_cons (pv 0) (pa_cons pe_int pa_nil))))
    (pss_cons (ps_if (pt_cmpR op_lt (pv 1) pe_int (nomark _)) (pss_one (ps_ret (pe_op op_add_str (pe_ix ix_list (pe_lstB (pa_cons pe_str (pa_cons pe_str pa_nil))) (pv 1) (fun _ _ => rfl)) (pe_callTy call_str_int (by rfl) T.m_str (by decide +kernel) (pa_cons (pe_cal c_take_L hr (by decide) (by rfl) (pa_cons (pv 0) (pa_cons pe_int pa_nil))) pa_nil))))) pss_nil)
    (pss_cons (ps_if (pt_cmpR op_lt (pv 1) pe_int (nomark _)) (pss_cons (ps_set (i := 2) sc_drawn_row_L.nd rfl (.inl rfl) (pe_ix ix_list (pe_cal0 c_ops_L hr (by decide) (by rfl)) (pe_cal c_take_L hr (by decide) (by rfl) (pa_cons (pv 0) (pa_cons pe_int pa_nil))) (fun _ _ => rfl)))
    (pss_cons (ps_par (i := 3) (j := 4) rfl sc_drawn_row_L.nd rfl rfl (by decide) rfl rfl (pa_cons (pe_ix ix_list (pe_lstB (pa_cons pe_int (pa_cons pe_int (pa_cons (pe_cal c_take_L hr (by decide) (by rfl) (pa_cons (pv 0) (pa_cons pe_int pa_nil))) pa_nil)))) (pe_cal c_take_L hr (by decide) (by rfl) (pa_cons (pv 0) (pa_cons pe_int pa_nil))) (fun _ _ => rfl)) (pa_cons (pe_ix ix_list (pe_lstB (pa_cons pe_int (pa_cons (pe_cal c_take_L hr (by decide) (by rfl) (pa_cons (pv 0) (pa_cons pe_int pa_nil))) pa_nil))) (pe_cal c_take_L hr (by decide) (by rfl) (pa_cons (pv 0) (pa_cons pe_int pa_nil))) (fun _ _ => rfl)) pa_nil)) (by rfl))
    (pss_one (ps_ret (pe_op op_add_str (pe_op op_add_str (pe_op op_add_str (pe_op op_add_str (pv 2) pe_str) (pe_callTy call_str_int (by rfl) T.m_str (by decide +kernel) (pa_cons (pv 3) pa_nil))) pe_str) (pe_callTy call_str_int (by rfl) T.m_str (by decide +kernel) (pa_cons (pv 4) pa_nil))))))) pss_nil)
    (pss_cons (ps_if (pt_cmpR op_lt (pv 1) pe_int (nomark _)) (pss_one (ps_ret (pe_op op_add_str pe_str (pe_callTy call_str_int (by rfl) T.m_str (by decide +kernel) (pa_cons (pe_ix ix_list (pe_lstB (pa_cons pe_int (pa_cons pe_int (pa_cons (pe_cal c_take_L hr (by decide) (by rfl) (pa_cons (pv 0) (pa_cons pe_int pa_nil))) pa_nil)))) (pe_cal c_take_L hr (by decide) (by rfl) (pa_cons (pv 0) (pa_cons pe_int pa_nil))) (fun _ _ => rfl)) pa_nil))))) pss_nil)
    (pss_one (ps_ret (pe_ix ix_list (pe_lstB (pa_cons pe_str (pa_cons (pe_op op_add_str (pe_op op_add_str pe_str (pe_callTy call_str_int (by rfl) T.m_str (by decide +kernel) (pa_cons (pe_cal c_take_L hr (by decide) (by rfl) (pa_cons (pv 0) (pa_cons pe_int pa_nil))) pa_nil))) (pe_op op_mulS pe_str (pe_cal c_take_L hr (by decide) (by rfl) (pa_cons (pv 0) (pa_cons pe_int pa_nil))))) pa_nil))) (pe_op op_sub (pv 1) pe_int) (fun _ _ => rfl)))))))), ?_⟩)
  · obtain ⟨bx, n, rfl, _⟩ := h
    rfl
  · obtain ⟨bx, n, rfl, hB, hn, q⟩ := h
    have fin : ∀ {z : Str} {H' : Hp}, OkB z 12 → Box bx (n + 7) H' → But bx H H' → Q (.str z) H' := fun h hb b => q _ _ h.1 h.2 hb b
    walk_at "go"
    refine r_take hB (fun d H1 h0 h1 hB1 b1 => ?_) (by omega)
    obtain ⟨d, rfl⟩ := Int.eq_ofNat_of_zero_le h0
    walk_at "go"
    refine iteC (fun h2 => ?_) (fun h2 => ?_)
    · walk_at "go"
      refine newLB fun p H2 n2 g2 s2 e2 => ?_
      walk_at "go"
      refine r_ixLo (sqL e2) h0 h2 fun v hv _ => ?_
      have hv' : ∃ x : Str, v = .str x ∧ OkB x 6 := by
        rcases List.mem_cons.mp hv with rfl | hv
        · exact ⟨_, rfl, .lit⟩
        · rcases List.mem_cons.mp hv with rfl | hv
          · exact ⟨_, rfl, .lit⟩
          · exact nomatch hv
      obtain ⟨x, rfl, xo⟩ := hv'
      walk_at "go"
      refine r_take (hB1.same s2) (fun e H3 i0 i1 hB3 b3 => ?_) (by omega)
      obtain ⟨e, rfl⟩ := Int.eq_ofNat_of_zero_le i0
      walk_at "go"
      refine ⟨_, rfl, (num_ok (n := e) (by omega)).1, ?_⟩
      have zo : OkB _ _ := (num_ok (n := e) (by omega)).2
      generalize Str.ofString (toString ((e : Nat) : Int)) = z at zo ⊢
      rw [num1 (by omega)] at zo
      walk_at "go"
      exact ⟨_, _, rfl, rfl, xo.sum zo, fin ((xo.app zo).mono (by decide)) (hB3.mono (by omega)) ((b1.same s2).trans b3)⟩
    walk_at "go"
    refine iteC (fun h6 => ?_) (fun h6 => ?_)
    · walk_at "go"
      refine ⟨rfl, fun p2 H2 n2 s2 e2 => ?_⟩
      walk_at "go"
      refine r_take (hB1.same s2) (fun e H3 i0 i1 hB3 b3 => ?_) (by omega)
      have e2' := b3 _ _ (hB1.ne n2) e2
      refine r_ixLo (sqL e2') i0 i1 fun v hv _ => ?_
      obtain ⟨op, hop, rfl⟩ := List.mem_map.mp hv
      have op4 : OkB op 4 := by
        have w : opsL.all (fun z => decide (z.length ≤ 4) && z.cps.toList.all fun c => decide (c < 1114112)) = true := by decide +kernel
        exact .lit (List.all_eq_true.mp w op hop)
      walk_at "go"
      refine r_take hB3 (fun e4 H4 j0 j1 hB4 b4 => ?_) (by omega)
      walk_at "go"
      refine newLB fun p5 H5 n5 g5 s5 e5 => ?_
      walk_at "go"
      refine r_take (hB4.same s5) (fun e6 H6 k0 k1 hB6 b6 => ?_) (by omega)
      refine r_ixLo (sqL (b6 _ _ (hB4.ne n5) e5)) k0 k1 fun v hv _ => ?_
      have hs : ∃ m : Nat, v = .int m ∧ m < 4 := by
        rcases List.mem_cons.mp hv with rfl | hv
        · exact ⟨0, rfl, by decide⟩
        · rcases List.mem_cons.mp hv with rfl | hv
          · exact ⟨3, rfl, by decide⟩
          · rcases List.mem_cons.mp hv with rfl | hv
            · exact ⟨e4.toNat, congrArg V.int (Int.toNat_of_nonneg j0).symm, by omega⟩
            · exact nomatch hv
      obtain ⟨sl, rfl, sl4⟩ := hs
      walk_at "go"
      refine r_take hB6 (fun e7 H7 m0 m1 hB7 b7 => ?_) (by omega)
      walk_at "go"
      refine newLB fun p8 H8 n8 g8 s8 e8 => ?_
      walk_at "go"
      refine r_take (hB7.same s8) (fun e9 H9 o0 o1 hB9 b9 => ?_) (by omega)
      refine r_ixLo (sqL (b9 _ _ (hB7.ne n8) e8)) o0 o1 fun v hv _ => ?_
      have hr : ∃ m : Nat, v = .int m ∧ m < 64 := by
        rcases List.mem_cons.mp hv with rfl | hv
        · exact ⟨63, rfl, by decide⟩
        · rcases List.mem_cons.mp hv with rfl | hv
          · exact ⟨e7.toNat, congrArg V.int (Int.toNat_of_nonneg m0).symm, by omega⟩
          · exact nomatch hv
      obtain ⟨rs, rfl, rs64⟩ := hr
      refine ⟨_, _, rfl, ?_⟩
      walk_at "go"
      have sp : OkB (Str.ofString " ") 1 := .lit
      refine ⟨_, _, rfl, rfl, op4.sum sp, ?_⟩
      walk_at "go"
      refine ⟨_, rfl, (num_ok (n := sl) (by omega)).1, ?_⟩
      have yo : OkB _ _ := (num_ok (n := sl) (by omega)).2
      generalize Str.ofString (toString ((sl : Nat) : Int)) = y at yo ⊢
      rw [num1 (by omega)] at yo
      walk_at "go"
      refine ⟨_, _, rfl, rfl, (op4.app sp).sum yo, ?_⟩
      walk_at "go"
      refine ⟨_, _, rfl, rfl, ((op4.app sp).app yo).sum sp, ?_⟩
      walk_at "go"
      refine ⟨_, rfl, (num_ok (n := rs) (by omega)).1, ?_⟩
      have zo : OkB _ _ := (num_ok (n := rs) (by omega)).2
      generalize Str.ofString (toString ((rs : Nat) : Int)) = z at zo ⊢
      have zo := zo.mono (num2 (by omega))
      walk_at "go"
      exact ⟨_, _, rfl, rfl, (((op4.app sp).app yo).app sp).sum zo, fin (((((op4.app sp).app yo).app sp).app zo).mono (by decide)) (hB9.mono (by omega)) ((((b1.same s2).trans b3).trans ((b4.same s5).trans (b6.trans b7))).trans ((But.of s8).trans b9))⟩
    walk_at "go"
    refine iteC (fun h8 => ?_) (fun h8 => ?_)
    · walk_at "go"
      refine r_take hB1 (fun e H3 i0 i1 hB3 b3 => ?_) (by omega)
      walk_at "go"
      refine newLB fun p4 H4 n4 g4 s4 e4 => ?_
      walk_at "go"
      refine r_take (hB3.same s4) (fun e5 H5 k0 k1 hB5 b5 => ?_) (by omega)
      refine r_ixLo (sqL (b5 _ _ (hB3.ne n4) e4)) k0 k1 fun v hv _ => ?_
      have hs : ∃ m : Nat, v = .int m ∧ m < 4096 := by
        rcases List.mem_cons.mp hv with rfl | hv
        · exact ⟨4095, rfl, by decide⟩
        · rcases List.mem_cons.mp hv with rfl | hv
          · exact ⟨0, rfl, by decide⟩
          · rcases List.mem_cons.mp hv with rfl | hv
            · exact ⟨e.toNat, congrArg V.int (Int.toNat_of_nonneg i0).symm, by omega⟩
            · exact nomatch hv
      obtain ⟨m, rfl, hm⟩ := hs
      walk_at "go"
      refine ⟨_, rfl, (num_ok (n := m) (by omega)).1, ?_⟩
      have zo : OkB _ _ := (num_ok (n := m) (by omega)).2
      generalize Str.ofString (toString ((m : Nat) : Int)) = z at zo ⊢
      have zo := zo.mono num4
      have wd : OkB (Str.ofString "word ") 5 := .lit
      walk_at "go"
      exact ⟨_, _, rfl, rfl, wd.sum zo, fin ((wd.app zo).mono (by decide)) (hB5.mono (by omega)) (b1.trans ((b3.same s4).trans b5))⟩
    · walk_at "go"
      refine r_take hB1 (fun e H3 i0 i1 hB3 b3 => ?_) (by omega)
      obtain ⟨e, rfl⟩ := Int.eq_ofNat_of_zero_le i0
      walk_at "go"
      refine ⟨_, rfl, (num_ok (n := e) (by omega)).1, ?_⟩
      have zo : OkB _ _ := (num_ok (n := e) (by omega)).2
      generalize Str.ofString (toString ((e : Nat) : Int)) = z at zo ⊢
      rw [num1 (by omega)] at zo
      have lf : OkB (Str.ofString "leaf ") 5 := .lit
      walk_at "go"
      refine ⟨_, _, rfl, rfl, lf.sum zo, ?_⟩
      walk_at "go"
      refine r_take hB3 (fun e4 H4 k0 k1 hB4 b4 => ?_) (by omega)
      obtain ⟨e4, rfl⟩ := Int.eq_ofNat_of_zero_le k0
      have wr : OkB (Str.ofString " write") 6 := .lit
      have wm : OkB (mulS (Str.ofString " write") e4) 6 := ⟨by rw [mulS_len]; exact Nat.mul_le_mul (show e4 ≤ 1 by omega) wr.1, okS_mul wr.2⟩
      refine ⟨_, _, rfl, rfl, by omega, by decide +kernel, ?_⟩
      walk_at "go"
      refine ⟨_, _, rfl, rfl, (lf.app zo).sum wm, ?_⟩
      walk_at "go"
      refine newLB fun p5 H5 n5 g5 s5 e5 => ?_
      walk_at "go"
      refine r_ixLo (sqL e5) (by omega) (by show _ < (2 : Int); omega) fun v hv _ => ?_
      rcases List.mem_cons.mp hv with rfl | hv
      · exact fin (.lit) (hB4.mono (by omega) |>.same s5) ((b1.trans (b3.trans b4)).same s5)
      · rcases List.mem_cons.mp hv with rfl | hv
        · exact fin (((lf.app zo).app wm).mono (by decide)) (hB4.mono (by omega) |>.same s5) ((b1.trans (b3.trans b4)).same s5)
        · exact nomatch hv
end
end K06

namespace K06
open PySem PySem.Spec PyProof.Rows L2 Bk


def wt (l : List Str) : Nat := (l.map (·.length)).sum + l.length
theorem wt_app (a b : List Str) : wt (a ++ b) = wt a + wt b := by
  unfold wt
  rw [List.map_append, List.sum_append, List.length_append]
  omega
theorem wt_cut (l : List Str) (m : Nat) : wt (l.take m) + wt (l.drop m) = wt l := by rw [← wt_app, List.take_append_drop]
theorem wt_drop1 (l : List Str) (m : Nat) : wt (l.drop (m + 1)) ≤ wt (l.drop m) := by
  have w := wt_cut (l.drop m) 1
  rw [List.drop_drop] at w
  omega
theorem wt_one (x : Str) : wt [x] = x.length + 1 := rfl
theorem wt_mem {l : List Str} {x : Str} (h : x ∈ l) : x.length + 1 ≤ wt l := by
  have w := mem_le_sum h
  have v := List.length_pos_of_mem h
  unfold wt
  omega
def Ws (l : List Str) : Prop := ∀ x ∈ l, okS x
theorem Ws.app {a b : List Str} (h : Ws a) (k : Ws b) : Ws (a ++ b) := fun x hx => (List.mem_append.mp hx).elim (h x) (k x)
theorem Ws.take {a : List Str} {m : Nat} (h : Ws a) : Ws (a.take m) := fun x hx => h x (List.mem_of_mem_take hx)
theorem Ws.drop {a : List Str} {m : Nat} (h : Ws a) : Ws (a.drop m) := fun x hx => h x (List.mem_of_mem_drop hx)
theorem Ws.one {x : Str} (h : okS x) : Ws [x] := fun y hy => by rw [List.mem_singleton.mp hy]; exact h
theorem cut_toS {l : List Str} {m : Nat} (h : m ≤ l.length) : cutV (l.map V.str) none (some (m : Int)) = (l.take m).map V.str := by
  rw [cut_to (by rw [List.length_map]; exact h), List.map_take]
theorem cut_fromS {l : List Str} {m : Nat} (h : m ≤ l.length) : cutV (l.map V.str) (some (m : Int)) none = (l.drop m).map V.str := by
  rw [cut_from (by rw [List.length_map]; exact h), List.map_drop]
theorem r_catS {H : Hp} {Q : VK} {a b : Addr} {x y : List Str} (h1 : H a = some (.lst (x.map V.str))) (h2 : H b = some (.lst (y.map V.str))) (hl : x.length + y.length ≤ 10000)
    (q : ∀ p H', H p = none → Same H H' → H' p = some (.lst ((x ++ y).map V.str)) → Q (.ref p) H') : rCat (.ref a) (.ref b) H Q :=
  r_cat h1 h2 (fun p H' n s e => q p H' n s (by rw [List.map_append]; exact e)) (by rw [List.length_map, List.length_map]; exact hl)
theorem r_toS {K : PySem.W.Frag} {H : Hp} {Q : VK} {a : Addr} {l : List Str} {m : Nat} (h : H a = some (.lst (l.map V.str))) (hm : m ≤ l.length) (q : ∀ p H', H p = none → Same H H' → H' p = some (.lst ((l.take m).map V.str)) → Q (.ref p) H') : rSlL K (.ref a) none (some (m : Int)) H Q := r_slL (sqL h) (cut_toS hm) q
theorem r_fromS {K : PySem.W.Frag} {H : Hp} {Q : VK} {a : Addr} {l : List Str} {m : Nat} (h : H a = some (.lst (l.map V.str))) (hm : m ≤ l.length) (q : ∀ p H', H p = none → Same H H' → H' p = some (.lst ((l.drop m).map V.str)) → Q (.ref p) H') : rSlL K (.ref a) (some (m : Int)) none H Q := r_slL (sqL h) (cut_fromS hm) q
theorem cut_at {l : List Str} {m : Nat} (h : m < l.length) : cutV (l.map V.str) (some (m : Int)) (some ((m : Int) + 1)) = ((l.drop m).take 1).map V.str := by
  unfold cutV
  rw [show (m : Int) + 1 = ((m + 1 : Nat) : Int) from rfl, HT.sIx_nat, HT.sIx_nat, List.length_map, Nat.min_eq_left (Nat.le_of_lt h), Nat.min_eq_left (show m + 1 ≤ l.length from h), Nat.add_sub_cancel_left, List.map_take, List.map_drop]
theorem sm_none {H H1 : Hp} {p : Addr} (s : Same H H1) (h : H1 p = none) : H p = none := by
  cases e : H p with
  | none => rfl
  | some o => rw [s _ _ e] at h; exact nomatch h
def spOther : Sp := fun vs H Q _ => ∃ (bx wl : Addr) (n : Nat) (W : List Str), vs = [.ref bx, .ref wl] ∧ Box bx n H ∧ n < 999000 ∧ H wl = some (.lst (W.map V.str)) ∧ wl ≠ bx ∧ W ≠ [] ∧ Ws W ∧ wt W ≤ 1000 ∧
  ∀ (r : Addr) (R : List Str) H', H r = none → H' r = some (.lst (R.map V.str)) → Ws R → wt R ≤ max (2 * wt W) (wt W + 8) → Box bx (n + 3) H' → But bx H H' → Q (.ref r) H'
def someW : List Str := (["room", "block", "word", "leaf", "none", "write", "set", "sets", "Set", "7", "8", "3", "4", "63"] : List Str) ++ (["64", "4095", "4096", "00", "01", "-1", "+1", "0", "1.5", "999999", "1000000", "wait", "halt"] : List Str)
section
variable {P : Program} {w : World} {K : PySem.W.Frag} {mg : Str → Option Value} {base : Heap} {A : Ad}
theorem ok_other {f : Addr} {fd : FuncData} (F : Fun K "_law_other_word" "_law_other_word" s_other_word_L f fd) (T : Txt K mg A) (c_take_L : CalD P w K mg base CX0 1 "_law_take" spTake []) : FnOk P w K mg base CX0 2 f fd ["_law_box_here", "_law_words"] spOther := by
  refine F.ok sc_other_word_L (fun vs H Q E h => ?_) (fun cdv A' outer s H vs Q E hr h => have hu65 := units65 hr; have hu64 := hr.units; ⟨_, (pss_cons (ps_set (i := 2) sc_other_word_L.nd rfl (.inl rfl) (pe_cal c_take_L hr (by decide) (by rfl) (pa_cons (pv 0) (pa_cons pe_int pa_nil))))
    (pss_cons (ps_set (i := 3) sc_other_word_L.nd rfl (.inl rfl) (pe_cal c_take_L hr (by decide) (by rfl) (pa_cons (pv 0) (pa_cons (pe_callB call_len_seq (by rfl) T.m_len (by decide +kernel) (pa_cons (pv 1) pa_nil)) pa_nil))))
    (pss_cons (ps_set (i := 4) sc_other_word_L.nd rfl (.inl rfl) (pe_lstB (pa_cons pe_str (pa_cons pe_str (pa_cons pe_str (pa_cons pe_str (pa_cons pe_str (pa_cons pe_str (pa_cons pe_str (pa_cons pe_str (pa_cons pe_str (pa_cons pe_str (pa_cons pe_str (pa_cons pe_str (pa_cons pe_str (pa_cons pe_str pa_nil))))))))))))))))
    (pss_cons (ps_set (i := 4) sc_other_word_L.nd rfl (.inl rfl) (pe_op op_cat (pv 4) (pe_lstB (pa_cons pe_str (pa_cons pe_str (pa_cons pe_str (pa_cons pe_str (pa_cons pe_str (pa_cons pe_str (pa_cons pe_str (pa_cons pe_str (pa_cons pe_str (pa_cons pe_str (pa_cons pe_str (pa_cons pe_str (pa_cons pe_str pa_nil))))))))))))))))
    (pss_cons (ps_if (pt_cmpR op_eq (pv 2) pe_int (nomark _)) (pss_one (ps_ret (pe_op op_cat (pe_slice sl_list (pv 1) po_none (po_some (pv 3))) (pe_slice sl_list (pv 1) (po_some (pe_op op_add (pv 3) pe_int)) po_none)))) pss_nil)
    (pss_cons (ps_if (pt_cmpR op_eq (pv 2) pe_int (nomark _)) (pss_one (ps_ret (pe_op op_cat (pe_op op_cat (pe_slice sl_list (pv 1) po_none (po_some (pv 3))) (pe_lstB (pa_cons (pe_ix ix_list (pv 1) (pv 3) (fun _ _ => rfl)) pa_nil))) (pe_slice sl_list (pv 1) (po_some (pv 3)) po_none)))) pss_nil)
    (pss_one (ps_ret (pe_op op_cat (pe_op op_cat (pe_slice sl_list (pv 1) po_none (po_some (pv 3))) (pe_lstB (pa_cons (pe_ix ix_list (pv 4) (pe_cal c_take_L hr (by decide) (by rfl) (pa_cons (pv 0) (pa_cons pe_int pa_nil))) (fun _ _ => rfl)) pa_nil))) (pe_slice sl_list (pv 1) (po_some (pe_op op_sub (pe_op op_add (pv 3) (pv 2)) pe_int)) po_none)))))))))), ?_⟩)
  · obtain ⟨bx, wl, n, W, rfl, _⟩ := h
    rfl
  · obtain ⟨bx, wl, n, W, rfl, hB, hn, e, nb, hne, hW, ht, q⟩ := h
    have hl : W.length ≤ wt W := by unfold wt; omega
    have hp : 0 < W.length := List.length_pos_iff.mpr hne
    walk_at "go"
    refine r_take hB (fun d H1 h0 h1 hB1 b1 => ?_) (by omega)
    have e1 := b1 _ _ nb e
    walk_at "go"
    refine ⟨wl, _, rfl, .inl (sqL e1), ?_⟩
    rw [List.length_map]
    walk_at "go"
    refine r_take hB1 (fun a H2 i0 i1 hB2 b2 => ?_) (by omega) (by omega) (by omega)
    have e2 := b2 _ _ nb e1
    obtain ⟨a, rfl⟩ := Int.eq_ofNat_of_zero_le i0
    obtain ⟨d, rfl⟩ := Int.eq_ofNat_of_zero_le h0
    have ha : a < W.length := by omega
    walk_at "go"
    refine newLB fun p3 H3 n3 g3 s3 e3 => ?_
    walk_at "go"
    refine newLB fun p4 H4 n4 g4 s4 e4 => ?_
    walk_at "go"
    refine r_catS (x := ["room", "block", "word", "leaf", "none", "write", "set", "sets", "Set", "7", "8", "3", "4", "63"]) (y := ["64", "4095", "4096", "00", "01", "-1", "+1", "0", "1.5", "999999", "1000000", "wait", "halt"]) (s4 _ _ e3) e4 (by decide) fun p5 H5 n5 s5 e5 => ?_
    have s25 := s3.trans (s4.trans s5)
    have e25 := s25 _ _ e2
    have hB5 := hB2.same s25
    have b5 := (b1.trans b2).same s25
    have fin : ∀ {r : Addr} {R : List Str} {H' : Hp}, H5 r = none → H' r = some (.lst (R.map V.str)) → Ws R → wt R ≤ max (2 * wt W) (wt W + 8) → Box bx (n + 3) H' → But bx H5 H' → Q (.ref r) H' := fun {r R H'} hr hR hWR hw hb hbut => q r R H' (but_none b5 (hB5.ne hr) hr) hR hWR hw hb (b5.trans hbut)
    have e5 : H5 p5 = some (.lst (someW.map V.str)) := e5
    walk_at "go"
    refine iteC (fun k0 => ?_) (fun k0 => ?_)
    · walk_at "go"
      refine r_toS e25 (by omega) fun p6 H6 n6 s6 e6 => ?_
      walk_at "go"
      refine r_fromS (m := a + 1) (s6 _ _ e25) (by omega) fun p7 H7 n7 s7 e7 => ?_
      have c1 := wt_cut W a
      have c2 := wt_drop1 W a
      refine r_catS (s7 _ _ e6) e7 (by rw [List.length_take, List.length_drop]; omega) fun p8 H8 n8 s8 e8 => ?_
      exact fin (sm_none (s6.trans s7) n8) e8 (hW.take.app hW.drop) (by rw [wt_app]; omega) ((hB5.same (s6.trans (s7.trans s8))).mono (by omega)) (But.of (s6.trans (s7.trans s8)))
    walk_at "go"
    refine iteC (fun k1 => ?_) (fun k1 => ?_)
    · walk_at "go"
      refine r_toS e25 (by omega) fun p6 H6 n6 s6 e6 => ?_
      walk_at "go"
      refine r_ixL (sqL (s6 _ _ e25)) (v := .str W[a]) (atI_nat (by rw [List.getElem?_map, List.getElem?_eq_getElem ha]; rfl)) ?_
      walk_at "go"
      refine newLB fun p7 H7 n7 g7 s7 e7 => ?_
      walk_at "go"
      refine r_catS (y := [W[a]]) (s7 _ _ e6) e7 (by rw [List.length_take]; show _ + 1 ≤ _; omega) fun p8 H8 n8 s8 e8 => ?_
      have s68 := s6.trans (s7.trans s8)
      walk_at "go"
      refine r_fromS (s68 _ _ e25) (by omega) fun p9 H9 n9 s9 e9 => ?_
      have c1 := wt_cut W a
      have c2 := wt_mem (List.getElem_mem ha)
      refine r_catS (s9 _ _ e8) e9 (by rw [List.length_append, List.length_take, List.length_drop]; show _ + 1 + _ ≤ _; omega) fun p10 H10 n10 s10 e10 => ?_
      have sA := s68.trans (s9.trans s10)
      exact fin (sm_none (s68.trans s9) n10) e10 ((hW.take.app (Ws.one (hW _ (List.getElem_mem ha)))).app hW.drop) (by rw [wt_app, wt_app, wt_one]; omega) ((hB5.same sA).mono (by omega)) (But.of sA)
    · walk_at "go"
      refine r_toS e25 (by omega) fun p6 H6 n6 s6 e6 => ?_
      walk_at "go"
      refine r_take (hB5.same s6) (fun c H7 j0 j1 hB7 b7 => ?_) (by omega)
      have np5 := (hB2.same (s3.trans s4)).ne n5
      refine r_ixLo (sqL (b7 _ _ np5 (s6 _ _ e5))) j0 (by show c < ((27 : Nat) : Int); exact j1) fun v hv _ => ?_
      obtain ⟨y, hy, rfl⟩ := List.mem_map.mp hv
      have hy7 : OkB y 7 := by
        have w : someW.all (fun z => decide (z.length ≤ 7) && z.cps.toList.all fun c => decide (c < 1114112)) = true := by decide +kernel
        exact .lit (List.all_eq_true.mp w y hy)
      have n6b := (hB5).ne n6
      have e6' := b7 _ _ n6b e6
      have e7w := b7 _ _ nb (s6 _ _ e25)
      walk_at "go"
      refine newLB fun p8 H8 n8 g8 s8 e8 => ?_
      walk_at "go"
      refine r_catS (y := [y]) (s8 _ _ e6') e8 (by rw [List.length_take]; show _ + 1 ≤ _; omega) fun p9 H9 n9 s9 e9 => ?_
      have s89 := s8.trans s9
      walk_at "go"
      have k0 : d ≠ 0 := fun z => k0 (by rw [z]; rfl)
      have k1 : d ≠ 1 := fun z => k1 (by rw [z]; rfl)
      have em : (a : Int) + (d : Int) - 2 = ((a + (d - 2) : Nat) : Int) := by omega
      rw [em]
      refine r_fromS (s89 _ _ e7w) (by omega) fun p10 H10 n10 s10 e10 => ?_
      have c1 := wt_cut W a
      have c2 := wt_cut (W.drop a) (d - 2)
      rw [List.drop_drop] at c2
      refine r_catS (s10 _ _ e9) e10 (by rw [List.length_append, List.length_take, List.length_drop]; show _ + 1 + _ ≤ _; omega) fun p11 H11 n11 s11 e11 => ?_
      have sA := s89.trans (s10.trans s11)
      exact fin (but_none (b7.same (s89.trans s10) |> (But.of s6).trans) ((hB7.same (s89.trans s10)).ne n11) n11) e11 ((hW.take.app (Ws.one hy7.2)).app hW.drop) (by have := hy7.1; rw [wt_app, wt_app, wt_one]; omega) (hB7.same sA) ((But.of s6).trans (b7.same sA))
end
end K06

namespace K06
open PySem PySem.Spec PyProof.Rows L2 Bk


def Wb (b : Nat) (l : List Str) : Prop := ∀ x ∈ l, OkB x b
theorem Wb.app {b : Nat} {x y : List Str} (h : Wb b x) (k : Wb b y) : Wb b (x ++ y) := fun z hx => (List.mem_append.mp hx).elim (h z) (k z)
theorem Wb.take {b : Nat} {a : List Str} {m : Nat} (h : Wb b a) : Wb b (a.take m) := fun x hx => h x (List.mem_of_mem_take hx)
theorem Wb.drop {b : Nat} {a : List Str} {m : Nat} (h : Wb b a) : Wb b (a.drop m) := fun x hx => h x (List.mem_of_mem_drop hx)
theorem Wb.one {b : Nat} {x : Str} (h : OkB x b) : Wb b [x] := fun y hy => by rw [List.mem_singleton.mp hy]; exact h
theorem Wb.mono {b c : Nat} {a : List Str} (h : Wb b a) (k : b ≤ c) : Wb c a := fun x hx => (h x hx).mono k
def spBent : Sp := fun vs H Q _ => ∃ (bx rl : Addr) (n b : Nat) (R : List Str), vs = [.ref bx, .ref rl] ∧ Box bx n H ∧ n < 998000 ∧ H rl = some (.lst (R.map V.str)) ∧ rl ≠ bx ∧ R ≠ [] ∧ R.length ≤ 100 ∧ Wb b R ∧ 8 ≤ b ∧ b ≤ 200 ∧
  ∀ (r : Addr) (R' : List Str) H', H r = none → H' r = some (.lst (R'.map V.str)) → R'.length ≤ R.length + 8 → Wb (2 * b + 2) R' → Box bx (n + 9) H' → But bx H H' → Q (.ref r) H'
theorem okB_cut {z : Str} {b : Nat} {lo hi : Option Int} (h : OkB z b) : OkB (cutS z lo hi) b := ⟨Nat.le_trans (cutS_length z lo hi) h.1, okS_cut h.2⟩
theorem wt_split {z : Str} (h : z.length ≤ b) : wt (Txt.split z " ") ≤ b + 1 := by
  have w := split_sum z " "
  rw [show (Str.length " ") = 1 from rfl, Nat.mul_one] at w
  unfold wt
  omega
theorem wt_join {l : List Str} : (Txt.join " " l).length ≤ wt l := by
  by_cases h : l = []
  · rw [h]; decide
  · have w := join_len " " h
    rw [show (Str.length " ") = 1 from rfl, Nat.mul_one] at w
    unfold wt
    omega
section
variable {P : Program} {w : World} {K : PySem.W.Frag} {mg : Str → Option Value} {base : Heap} {A : Ad}
theorem ok_bent {f : Addr} {fd : FuncData} (F : Fun K "_law_bent" "_law_bent" s_bent_L f fd) (T : Txt K mg A) (c_take_L : CalD P w K mg base CX0 1 "_law_take" spTake []) (c_sign_L : CalD P w K mg base CX0 2 "_law_sign" spSign []) (c_other_word_L : CalD P w K mg base CX0 2 "_law_other_word" spOther []) : FnOk P w K mg base CX0 3 f fd ["_law_box_here", "_law_rows"] spBent := by
  refine F.ok sc_bent_L (fun vs H Q E h => ?_) (fun cdv A' outer s H vs Q E hr h => have hu65 := units65 hr; have hu64 := hr.units; ⟨_, (pss_cons (ps_set (i := 2) sc_bent_L.nd rfl (.inl rfl) (pe_cal c_take_L hr (by decide) (by rfl) (pa_cons (pv 0) (pa_cons pe_int pa_nil))))
    (pss_cons (ps_par (i := 3) (j := 4) rfl sc_bent_L.nd rfl rfl (by decide) rfl rfl (pa_cons (pe_cal c_take_L hr (by decide) (by rfl) (pa_cons (pv 0) (pa_cons (pe_callB call_len_seq (by rfl) T.m_len (by decide +kernel) (pa_cons (pv 1) pa_nil)) pa_nil))) (pa_cons (pe_cal c_take_L hr (by decide) (by rfl) (pa_cons (pv 0) (pa_cons (pe_callB call_len_seq (by rfl) T.m_len (by decide +kernel) (pa_cons (pv 1) pa_nil)) pa_nil))) pa_nil)) (by rfl))
    (pss_cons (ps_if (pt_cmpR op_eq (pv 2) pe_int (nomark _)) (pss_one (ps_ret (pe_op op_cat (pe_slice sl_list (pv 1) po_none (po_some (pv 3))) (pe_slice sl_list (pv 1) (po_some (pe_op op_add (pv 3) pe_int)) po_none)))) pss_nil)
    (pss_cons (ps_if (pt_cmpR op_eq (pv 2) pe_int (nomark _)) (pss_one (ps_ret (pe_op op_cat (pe_op op_cat (pe_slice sl_list (pv 1) po_none (po_some (pv 4))) (pe_slice sl_list (pv 1) (po_some (pv 3)) (po_some (pe_op op_add (pv 3) pe_int)))) (pe_slice sl_list (pv 1) (po_some (pv 4)) po_none)))) pss_nil)
    (pss_cons (ps_if (pt_cmpR op_eq (pv 2) pe_int (nomark _)) (pss_one (ps_ret (pe_op op_cat (pe_op op_cat (pe_slice sl_list (pv 1) po_none (po_some (pv 3))) (pe_lstB (pa_cons (pe_op op_mulS pe_str (pe_cal c_take_L hr (by decide) (by rfl) (pa_cons (pv 0) (pa_cons pe_int pa_nil)))) pa_nil))) (pe_slice sl_list (pv 1) (po_some (pv 3)) po_none)))) pss_nil)
    (pss_cons (ps_if (pt_cmpR op_eq (pv 2) pe_int (nomark _)) (pss_one (ps_ret (pe_op op_cat (pe_op op_cat (pe_slice sl_list (pv 1) po_none (po_some (pv 3))) (pe_op op_rep (pe_lstB (pa_cons pe_str pa_nil)) pe_int)) (pe_slice sl_list (pv 1) (po_some (pv 3)) po_none)))) pss_nil)
    (pss_cons (ps_set (i := 5) sc_bent_L.nd rfl (.inl rfl) (pe_ix ix_list (pv 1) (pv 3) (fun _ _ => rfl)))
    (pss_cons (ps_if (pt_cmpR op_eq (pv 2) pe_int (nomark _)) (pss_cons (ps_set (i := 6) sc_bent_L.nd rfl (.inl rfl) (pe_cal c_take_L hr (by decide) (by rfl) (pa_cons (pv 0) (pa_cons (pe_op op_add (pe_callB call_len_str (by rfl) T.m_len (by decide +kernel) (pa_cons (pv 5) pa_nil)) pe_int) pa_nil))))
    (pss_cons (ps_set (i := 7) sc_bent_L.nd rfl (.inl rfl) (pe_cal c_sign_L hr (by decide) (by rfl) (pa_cons (pv 0) pa_nil)))
    (pss_cons (ps_set (i := 5) sc_bent_L.nd rfl (.inl rfl) (pe_op op_add_str (pe_op op_add_str (pe_slice sl_str (pv 5) po_none (po_some (pv 6))) (pv 7)) (pe_slice sl_str (pv 5) (po_some (pe_op op_add (pv 6) (pe_cal c_take_L hr (by decide) (by rfl) (pa_cons (pv 0) (pa_cons pe_int pa_nil))))) po_none)))
    (pss_one (ps_ret (pe_op op_cat (pe_op op_cat (pe_slice sl_list (pv 1) po_none (po_some (pv 3))) (pe_lstB (pa_cons (pv 5) pa_nil))) (pe_slice sl_list (pv 1) (po_some (pe_op op_add (pv 3) pe_int)) po_none))))))) pss_nil)
    (pss_cons (ps_set (i := 8) sc_bent_L.nd rfl (.inl rfl) (pe_split (pv 5) pe_str))
    (pss_one (ps_ret (pe_op op_cat (pe_op op_cat (pe_slice sl_list (pv 1) po_none (po_some (pv 3))) (pe_lstB (pa_cons (pe_join pe_str (pe_cal c_other_word_L hr (by decide) (by rfl) (pa_cons (pv 0) (pa_cons (pv 8) pa_nil)))) pa_nil))) (pe_slice sl_list (pv 1) (po_some (pe_op op_add (pv 3) pe_int)) po_none))))))))))))), ?_⟩)
  · obtain ⟨bx, rl, n, b, R, rfl, _⟩ := h
    rfl
  · obtain ⟨bx, rl, n, b, R, rfl, hB, hn, e, nb, hne, hl, hR, b8, b200, q⟩ := h
    have hp : 0 < R.length := List.length_pos_iff.mpr hne
    have hM : Wb (2 * b + 2) R := hR.mono (by omega)
    walk_at "go"
    refine r_take hB (fun d H1 h0 h1 hB1 b1 => ?_) (by omega)
    have e1 := b1 _ _ nb e
    walk_at "go"
    refine ⟨rl, _, rfl, .inl (sqL e1), ?_⟩
    rw [List.length_map]
    walk_at "go"
    refine r_take hB1 (fun a H2 i0 i1 hB2 b2 => ?_) (by omega) (by omega) (by omega)
    have e2 := b2 _ _ nb e1
    walk_at "go"
    refine ⟨rl, _, rfl, .inl (sqL e2), ?_⟩
    rw [List.length_map]
    walk_at "go"
    refine r_take hB2 (fun c H5 j0 j1 hB5 b3 => ?_) (by omega) (by omega) (by omega)
    have e25 := b3 _ _ nb e2
    obtain ⟨a, rfl⟩ := Int.eq_ofNat_of_zero_le i0
    obtain ⟨c, rfl⟩ := Int.eq_ofNat_of_zero_le j0
    obtain ⟨d, rfl⟩ := Int.eq_ofNat_of_zero_le h0
    have ha : a < R.length := by omega
    have hc : c < R.length := by omega
    have b5 := b1.trans (b2.trans b3)
    have fin : ∀ {r : Addr} {R' : List Str} {H' : Hp}, H5 r = none → H' r = some (.lst (R'.map V.str)) → Wb (2 * b + 2) R' → R'.length ≤ R.length + 8 → Box bx (n + 9) H' → But bx H5 H' → Q (.ref r) H' := fun {r R' H'} hr hR hWR hw hb hbut => q r R' H' (but_none b5 (hB5.ne hr) hr) hR hw hWR hb (b5.trans hbut)
    refine ⟨_, _, rfl, ?_⟩
    walk_at "go"
    refine iteC (fun k0 => ?_) (fun k0 => ?_)
    · walk_at "go"
      refine r_toS e25 (by omega) fun p6 H6 n6 s6 e6 => ?_
      walk_at "go"
      refine r_fromS (m := a + 1) (s6 _ _ e25) (by omega) fun p7 H7 n7 s7 e7 => ?_
      refine r_catS (s7 _ _ e6) e7 (by rw [List.length_take, List.length_drop]; omega) fun p8 H8 n8 s8 e8 => ?_
      exact fin (sm_none (s6.trans s7) n8) e8 (hM.take.app hM.drop) (by rw [List.length_append, List.length_take, List.length_drop]; omega) ((hB5.same (s6.trans (s7.trans s8))).mono (by omega)) (But.of (s6.trans (s7.trans s8)))
    walk_at "go"
    refine iteC (fun k1 => ?_) (fun k1 => ?_)
    · walk_at "go"
      refine r_toS e25 (by omega) fun p6 H6 n6 s6 e6 => ?_
      walk_at "go"
      refine r_slL (sqL (s6 _ _ e25)) (cut_at ha) fun p7 H7 n7 s7 e7 => ?_
      walk_at "go"
      refine r_catS (s7 _ _ e6) e7 (by rw [List.length_take, List.length_take, List.length_drop]; omega) fun p8 H8 n8 s8 e8 => ?_
      have s68 := s6.trans (s7.trans s8)
      walk_at "go"
      refine r_fromS (s68 _ _ e25) (by omega) fun p9 H9 n9 s9 e9 => ?_
      refine r_catS (s9 _ _ e8) e9 (by rw [List.length_append, List.length_take, List.length_take, List.length_drop, List.length_drop]; omega) fun p10 H10 n10 s10 e10 => ?_
      have sA := s68.trans (s9.trans s10)
      exact fin (sm_none (s68.trans s9) n10) e10 ((hM.take.app hM.drop.take).app hM.drop) (by rw [List.length_append, List.length_append, List.length_take, List.length_take, List.length_drop, List.length_drop]; omega) ((hB5.same sA).mono (by omega)) (But.of sA)
    walk_at "go"
    refine iteC (fun k2 => ?_) (fun k2 => ?_)
    · walk_at "go"
      refine r_toS e25 (by omega) fun p6 H6 n6 s6 e6 => ?_
      walk_at "go"
      refine r_take (hB5.same s6) (fun m H7 j0 j1 hB7 b7 => ?_) (by omega)
      obtain ⟨m, rfl⟩ := Int.eq_ofNat_of_zero_le j0
      have spc : OkB (Str.ofString " ") 1 := .lit
      have my : OkB (mulS (Str.ofString " ") m) 2 := ⟨by rw [mulS_len]; exact Nat.mul_le_mul (show m ≤ 2 by omega) spc.1, okS_mul spc.2⟩
      refine ⟨_, _, rfl, rfl, by omega, by decide +kernel, ?_⟩
      walk_at "go"
      generalize mulS (Str.ofString " ") m = y at my ⊢
      have e6' := b7 _ _ (hB5.ne n6) e6
      have e7w := b7 _ _ nb (s6 _ _ e25)
      walk_at "go"
      refine newLB fun p8 H8 n8 g8 s8 e8 => ?_
      walk_at "go"
      refine r_catS (y := [y]) (s8 _ _ e6') e8 (by rw [List.length_take]; show _ + 1 ≤ _; omega) fun p9 H9 n9 s9 e9 => ?_
      have s89 := s8.trans s9
      walk_at "go"
      refine r_fromS (s89 _ _ e7w) (by omega) fun p10 H10 n10 s10 e10 => ?_
      refine r_catS (s10 _ _ e9) e10 (by rw [List.length_append, List.length_take, List.length_drop]; show _ + 1 + _ ≤ _; omega) fun p11 H11 n11 s11 e11 => ?_
      have sA := s89.trans (s10.trans s11)
      exact fin (but_none (b7.same (s89.trans s10) |> (But.of s6).trans) ((hB7.same (s89.trans s10)).ne n11) n11) e11 ((hM.take.app (Wb.one (my.mono (by omega)))).app hM.drop) (by rw [List.length_append, List.length_append, List.length_take, List.length_drop]; show _ + 1 + _ ≤ _; omega) ((hB7.same sA).mono (by omega)) ((But.of s6).trans (b7.same sA))
    walk_at "go"
    refine iteC (fun k3 => ?_) (fun k3 => ?_)
    · walk_at "go"
      refine r_toS e25 (by omega) fun p6 H6 n6 s6 e6 => ?_
      walk_at "go"
      refine newLB fun p7 H7 n7 g7 s7 e7 => ?_
      walk_at "go"
      refine ⟨p7, 8, _, rfl, rfl, e7, by decide, by decide, by decide +kernel, fun p8 n8 => ?_⟩
      have s8 : Same H7 (upd H7 p8 (.lst ((["none", "none", "none", "none", "none", "none", "none", "none"] : List Str).map V.str))) := same_upd n8
      have e8 : (upd H7 p8 (.lst ((["none", "none", "none", "none", "none", "none", "none", "none"] : List Str).map V.str))) p8 = _ := upd_same
      have s68 := s6.trans (s7.trans s8)
      refine r_catS (s8 _ _ (s7 _ _ e6)) e8 (by rw [List.length_take]; show _ + 8 ≤ _; omega) fun p9 H9 n9 s9 e9 => ?_
      walk_at "go"
      have s69 := s68.trans s9
      refine r_fromS (s69 _ _ e25) (by omega) fun p10 H10 n10 s10 e10 => ?_
      refine r_catS (s10 _ _ e9) e10 (by rw [List.length_append, List.length_take, List.length_drop]; show _ + 8 + _ ≤ _; omega) fun p11 H11 n11 s11 e11 => ?_
      have sA := s69.trans (s10.trans s11)
      have nw : Wb (2 * b + 2) ["none", "none", "none", "none", "none", "none", "none", "none"] := fun x hx => by
        have w : (["none", "none", "none", "none", "none", "none", "none", "none"] : List Str).all (fun z => decide (z.length ≤ 4) && z.cps.toList.all fun c => decide (c < 1114112)) = true := by decide +kernel
        exact (OkB.lit (b := 4) (List.all_eq_true.mp w x hx)).mono (by omega)
      exact fin (sm_none (s69.trans s10) n11) e11 ((hM.take.app nw).app hM.drop) (by rw [List.length_append, List.length_append, List.length_take, List.length_drop]; show _ + 8 + _ ≤ _; omega) ((hB5.same sA).mono (by omega)) (But.of sA)
    walk_at "go"
    refine r_ixL (sqL e25) (v := .str R[a]) (atI_nat (by rw [List.getElem?_map, List.getElem?_eq_getElem ha]; rfl)) ?_
    have hx := hR _ (List.getElem_mem ha)
    generalize R[a] = x at hx ⊢
    walk_at "go"
    -- the last step of both: rows up to at, the new one, the rest
    have glue : ∀ {y : Str} {G : Hp} {pl : Addr} (k : VK), (∀ u G3, (rSlL (cxOf CX0 P w K mg base ["_law_box_here", "_law_rows", "_law_way", "_law_at", "_law_to", "_law_row", "_law_spot", "_law_sign_here", "_law_words"] "_law_bent" (defScope s_bent_L) f cdv A' outer s H E).nox.K (.ref rl) (some ((a : Int) + 1)) none G3 fun t G4 => rCat u t G4 Q) → k u G3) → OkB y (2 * b + 2) → But bx H5 G → Box bx (n + 9) G → G pl = some (.lst ((R.take a).map V.str)) → NewLB [.str y] G fun v G2 => rCat (.ref pl) v G2 k := by
      intro y G pl k hk hy bG hBG epl
      refine newLB fun p8 H8 n8 g8 s8 e8 => ?_
      refine r_catS (y := [y]) (s8 _ _ epl) e8 (by rw [List.length_take]; show _ + 1 ≤ _; omega) fun p9 H9 n9 s9 e9 => ?_
      have s89 := s8.trans s9
      refine hk _ _ ?_
      refine r_fromS (m := a + 1) (s89 _ _ (bG _ _ nb e25)) (by omega) fun p10 H10 n10 s10 e10 => ?_
      refine r_catS (s10 _ _ e9) e10 (by rw [List.length_append, List.length_take, List.length_drop]; show _ + 1 + _ ≤ _; omega) fun p11 H11 n11 s11 e11 => ?_
      have sA := s89.trans (s10.trans s11)
      exact fin (but_none (bG.same (s89.trans s10)) ((hBG.same (s89.trans s10)).ne n11) n11) e11 ((hM.take.app (Wb.one hy)).app hM.drop) (by rw [List.length_append, List.length_append, List.length_take, List.length_drop]; show _ + 1 + _ ≤ _; omega) (hBG.same sA) (bG.same sA)
    refine iteC (fun k4 => ?_) (fun k4 => ?_)
    · walk_at "go"
      refine ⟨x, rfl, Nat.le_trans hx.1 (Nat.le_trans b200 (by decide)), ?_⟩
      walk_at "go"
      have := hx.1
      refine r_take hB5 (fun m H6 j0 j1 hB6 b6 => ?_) (by omega) (by omega) (by omega)
      walk_at "go"
      refine ⟨bx, _, rfl, hB6, by omega, fun y H7 l7 o7 hB7 b7 => ?_⟩
      walk_at "go"
      refine ⟨x, rfl, Nat.le_trans hx.1 (Nat.le_trans b200 (by decide)), ?_⟩
      walk_at "go"
      have c1 := okB_cut (lo := none) (hi := some m) hx
      have c2 : OkB y 1 := ⟨by omega, o7⟩
      refine ⟨_, _, rfl, rfl, Nat.le_trans (Nat.add_le_add c1.1 c2.1) (Nat.le_trans (show b + 1 ≤ 201 by omega) (by decide)), ?_⟩
      walk_at "go"
      refine r_take hB7 (fun m2 H8 j2 j3 hB8 b8 => ?_) (by omega)
      refine ⟨_, _, rfl, rfl, ?_⟩
      walk_at "go"
      refine ⟨x, rfl, Nat.le_trans hx.1 (Nat.le_trans b200 (by decide)), ?_⟩
      have c3 := okB_cut (lo := some (m + m2)) (hi := none) hx
      refine ⟨_, _, rfl, rfl, Nat.le_trans (Nat.add_le_add (c1.app c2).1 c3.1) (Nat.le_trans (show b + 1 + b ≤ 401 by omega) (by decide)), ?_⟩
      walk_at "go"
      have b58 := b6.trans (b7.trans b8)
      refine r_toS (b58 _ _ nb e25) (by omega) fun p9 H9 n9 s9 e9 => ?_
      walk_at "go"
      refine glue _ (fun u G3 z => ?_) (((c1.app c2).app c3).mono (by omega)) (b58.same s9) ((hB8.same s9).mono (by omega)) e9
      walk_at "go"
      exact z
    · walk_at "go"
      refine ⟨⟨x, rfl⟩, ?_⟩
      walk_at "go"
      refine ⟨x, _, rfl, rfl, rfl, Nat.le_trans (Nat.add_le_add_right hx.1 2) (Nat.le_trans (show b + 2 ≤ 202 by omega) (by decide)), fun p6 n6 => ?_⟩
      walk_at "go"
      have s6 : Same H5 (upd H5 p6 (.lst ((Txt.split x " ").map V.str))) := same_upd n6
      have e6 : (upd H5 p6 (.lst ((Txt.split x " ").map V.str))) p6 = _ := upd_same
      have n6b := hB5.ne n6
      have t1 := wt_split hx.1
      refine r_toS (s6 _ _ e25) (by omega) fun p7 H7 n7 s7 e7 => ?_
      walk_at "go"
      refine ⟨⟨_, rfl⟩, ?_⟩
      walk_at "go"
      refine ⟨bx, p6, _, Txt.split x " ", rfl, (hB5.same s6).same s7, by omega, s7 _ _ e6, n6b, split_ne _ _, fun z hz => okS_split hx.2 hz, by omega, fun p8 Y H8 n8 e8 hY wY hB8 b8 => ?_⟩
      have wj := wt_join (l := Y)
      have wb : wt Y ≤ 1000 := by omega
      have my : OkB (Txt.join " " Y) (2 * b + 2) := ⟨by omega, okS_join (OkB.lit (b := 1)).2 hY⟩
      refine ⟨" ", p8, Y, rfl, rfl, .inl (sqL e8), Nat.le_trans (show _ ≤ 1000 by rw [show (Str.length " ") = 1 from rfl, Nat.mul_one]; unfold wt at wb; omega) (by decide), ?_⟩
      walk_at "go"
      have s67 := s6.trans s7
      refine glue _ (fun u G3 z => ?_) my ((But.of s67).trans b8) (hB8.mono (by omega)) (b8 _ _ ((hB5.same s6).ne n7) e7)
      walk_at "go"
      exact z
end
end K06

namespace K06
open PySem PySem.Spec PyProof.Rows L2 Bk


/-! ### what is due can be shown -/
def Fit (m k : Nat) (d : PyData) : Prop := smQ d = true ∧ d.bulk ≤ m ∧ d.depth ≤ k
theorem fits {m k : Nat} : ∀ {ds : List PyData}, (∀ d ∈ ds, Fit m k d) → smQL ds = true ∧ PyData.bulkAll ds ≤ (m + 1) * ds.length ∧ PyData.depthAll ds ≤ k
  | [], _ => ⟨rfl, Nat.le_refl _, Nat.zero_le _⟩
  | d :: ds, h => by
    obtain ⟨a1, a2, a3⟩ := h d List.mem_cons_self
    obtain ⟨b1, b2, b3⟩ := fits fun z hz => h z (List.mem_cons_of_mem _ hz)
    refine ⟨by simp only [smQL, a1, b1, Bool.and_true], ?_, ?_⟩
    · simp only [PyData.bulkAll, List.length_cons, Nat.mul_succ]
      omega
    · simp only [PyData.depthAll]
      omega
theorem Fit.tup {m k n : Nat} {ds : List PyData} (h : ∀ d ∈ ds, Fit m k d) (l : ds.length ≤ n) : Fit ((m + 1) * n) (k + 1) (.tuple ds) := by
  obtain ⟨a, b, c⟩ := fits h
  refine ⟨by simpa only [smQ] using a, ?_, ?_⟩
  · simp only [PyData.bulk]
    exact Nat.le_trans b (Nat.mul_le_mul_left _ l)
  · simp only [PyData.depth]
    omega
theorem Fit.lst {m k n : Nat} {ds : List PyData} (h : ∀ d ∈ ds, Fit m k d) (l : ds.length ≤ n) : Fit ((m + 1) * n) (k + 1) (.list ds) := by
  obtain ⟨a, b, c⟩ := fits h
  refine ⟨by simpa only [smQ] using a, ?_, ?_⟩
  · simp only [PyData.bulk]
    exact Nat.le_trans b (Nat.mul_le_mul_left _ l)
  · simp only [PyData.depth]
    omega
theorem Fit.mono {m k m' k' : Nat} {d : PyData} (h : Fit m k d) (a : m ≤ m') (b : k ≤ k') : Fit m' k' d := ⟨h.1, Nat.le_trans h.2.1 a, Nat.le_trans h.2.2 b⟩
theorem Fit.int {i : Nat} (h : i < 100000) : Fit 200 0 (.int (i : Nat)) := by
  refine ⟨?_, ?_, ?_⟩
  · simp only [smQ]
    exact decide_eq_true (Nat.lt_of_lt_of_le (show ((i : Int).natAbs) < 100000 by omega) (by decide))
  · simp only [PyData.bulk]
    omega
  · simp only [PyData.depth]
    omega
theorem Fit.str {z : Str} {b : Nat} (h : OkB z b) : Fit b 0 (.str z) := by
  refine ⟨okS_sm h.2, ?_, ?_⟩
  · simp only [PyData.bulk]
    exact h.1
  · simp only [PyData.depth]
    omega
theorem fit_row {ws : List Nat} (h : ∀ w ∈ ws, w ≤ 4095) (l : ws.length ≤ 8) : Fit 2000 1 (rowD (pad ws)) := by
  refine (Fit.tup (m := 200) (k := 0) (n := 8) (fun d hd => ?_) ?_).mono (by omega) (by omega)
  · obtain ⟨w, hw, rfl⟩ := List.mem_map.mp hd
    unfold pad at hw
    rcases List.mem_append.mp hw with z | z
    · have := h w z
      exact Fit.int (by omega)
    · rw [(List.mem_replicate.mp z).2]
      exact Fit.int (by omega)
  · unfold pad
    rw [List.length_map, List.length_append, List.length_replicate]
    omega
theorem fit_fil {m : Im} (h : Im.Ok m) : Fit 20000 2 (filD m) := by
  refine (Fit.tup (m := 2000) (k := 1) (n := 8) (fun d hd => ?_) ?_).mono (by omega) (by omega)
  · obtain ⟨n, _, rfl⟩ := List.mem_map.mp hd
    refine fit_row ?_ ?_
    · intro w hw
      cases hg : getI m n with
      | none => rw [hg] at hw; exact nomatch hw
      | some ws =>
        rw [hg] at hw
        exact (h.lt _ (getI_mem hg)).2.2 w hw
    · cases hg : getI m n with
      | none => decide
      | some ws => exact (h.lt _ (getI_mem hg)).2.1
  · rw [List.length_map, List.length_range]
    omega
theorem fit_img {s : S} (h : s.Ok) : Fit 50000 3 (imgD s) := by
  refine (Fit.tup (m := 20000) (k := 2) (n := 2) (fun d hd => ?_) (Nat.le_refl _)).mono (by omega) (by omega)
  rcases List.mem_cons.mp hd with rfl | hd
  · exact fit_fil h.r
  · rw [List.mem_singleton.mp hd]
    exact fit_fil h.b
theorem goR_lt : ∀ {R : List Str} {k i : Nat} {s : S}, goR k s R = .inr i → i < k + R.length
  | [], k, i, s, h => nomatch h
  | row :: R, k, i, s, h => by
    unfold goR at h
    rw [List.length_cons]
    split at h
    · have := goR_lt h
      omega
    · split at h
      · have := Sum.inr.inj h
        omega
      · have := goR_lt h
        omega
theorem fit_due {z : Str} (h : z.length ≤ 9900) : Fit 200000 4 (.list (dueD z)) := by
  unfold dueD
  cases hg : goR 0 s0 (Txt.split z "\n") with
  | inl s =>
    have ho : s.Ok := go_ok ok0 (by rw [← goR_cut]; exact hg)
    refine (Fit.lst (m := 50000) (k := 3) (n := 2) (fun d hd => ?_) (Nat.le_refl _)).mono (by omega) (by omega)
    rcases List.mem_cons.mp hd with rfl | hd
    · exact (Fit.str (b := 4) .lit).mono (by omega) (by omega)
    · rw [List.mem_singleton.mp hd]
      exact fit_img ho
  | inr i =>
    have hi := goR_lt hg
    have := split_count z "\n"
    refine (Fit.lst (m := 50000) (k := 3) (n := 2) (fun d hd => ?_) (Nat.le_refl _)).mono (by omega) (by omega)
    rcases List.mem_cons.mp hd with rfl | hd
    · exact (Fit.str (b := 3) .lit).mono (by omega) (by omega)
    · rw [List.mem_singleton.mp hd]
      exact (Fit.int (by omega)).mono (by omega) (by omega)
theorem shq_due {K : PySem.W.Frag} {H : Hp} {p : Addr} {us : List V} {z : Str} (h : z.length ≤ 9900) (e : H p = some (.lst us)) (d : DqAll false K H us (dueD z)) : Shq K H (.ref p) (PyData.list (dueD z)).shown := by
  obtain ⟨a, b, c⟩ := fit_due h
  exact shq_of (b := false) (.lst (fun z => nomatch z) (sqL e) d) a (by omega) (by omega)
end K06

namespace K06
open PySem PySem.Spec PyProof.Rows L2 Bk


def bw : Nat → Nat
  | 0 => 12
  | k + 1 => 2 * bw k + 2
theorem wt_le {b : Nat} : ∀ {l : List Str}, Wb b l → wt l ≤ (b + 1) * l.length
  | [], _ => Nat.le_refl _
  | x :: l, h => by
    have h1 := (h x List.mem_cons_self).1
    have h2 := wt_le fun y hy => h y (List.mem_cons_of_mem _ hy)
    have e : wt (x :: l) = wt [x] + wt l := wt_app [x] l
    rw [e, wt_one, List.length_cons, Nat.mul_succ]
    omega
theorem wt_joinN {l : List Str} : (Txt.join "\n" l).length ≤ wt l := by
  by_cases h : l = []
  · rw [h]; decide
  · have w := join_len "\n" h
    rw [show (Str.length "\n") = 1 from rfl, Nat.mul_one] at w
    unfold wt
    omega
def spLaw (K : PySem.W.Frag) : Sp := fun vs H Q _ => ∃ (sc : Addr) (ns : List Int), vs = [.ref sc] ∧ SqL K H sc (ns.map V.int) ∧ ns.length ≤ 63 ∧ ∀ H', Q (.bl true) H'
theorem Fit.non : Fit 20000 10 .none := ⟨rfl, by simp only [PyData.bulk]; omega, by simp only [PyData.depth]; omega⟩
theorem Fit.bl {b : Bool} : Fit 20000 10 (.bool b) := ⟨rfl, by simp only [PyData.bulk]; omega, by simp only [PyData.depth]; omega⟩
theorem Fit.dic : Fit 20000 10 (.dict []) := ⟨rfl, by simp only [PyData.bulk, PyData.bulkKv]; omega, by simp only [PyData.depth, PyData.depthKv]; omega⟩
theorem Fit.nest : Fit 20000 10 (.tuple [.tuple [], .tuple []]) := ⟨rfl, by simp only [PyData.bulk, PyData.bulkAll]; omega, by simp only [PyData.depth, PyData.depthAll]; omega⟩
theorem dq_sameT {b : Bool} {K : PySem.W.Frag} {H H' : Hp} (s : Same H H') {v : V} {d : PyData} (h : Dq b K H v d) : Dq b K H' v d :=
  Dq.rec (motive_1 := fun v d _ => Dq b K H' v d) (motive_2 := fun vs ds _ => DqAll b K H' vs ds) .non (fun c => .bl c) (fun i => .int i) (fun x => .str x) (fun n e _ ih => .lst n (Same.seq s e) ih) (fun e _ ih => .tup (seqT s e) ih) (fun b e _ _ i1 i2 => .dK b (s _ _ e) i1 i2) .nil (fun _ _ i1 i2 => .cons i1 i2) h
/-- what is no text -/
def Odd (K : PySem.W.Frag) (G H : Hp) (v : V) : Prop := IsA K H v "str" false ∧ ((∀ H', Same H H' → IsA K H' v "list" false) ∧ (∃ d, Dq true K H v d ∧ Fit 20000 10 d) ∨ ∃ l z, v = .ref l ∧ l ≠ sysModules ∧ H l = some (.lst [.str z]) ∧ OkB z 9900 ∧ G l = none)
/-- where the rows are being drawn -/
structure Dr (H G : Hp) (bx rl : Addr) (n b m : Nat) (R : List Str) : Prop where
  sm : Same H G
  hB : Box bx n G
  nb : H bx = none
  er : G rl = some (.lst (R.map V.str))
  nr : H rl = none
  ne : rl ≠ bx
  wb : Wb b R
  lm : R.length ≤ m
section
variable {P : Program} {w : World} {K : PySem.W.Frag} {mg : Str → Option Value} {base : Heap} {A : Ad}
theorem ok_law {f : Addr} {fd : FuncData} (F : Fun K "law" "law" s_law f fd) (T : Txt K mg A) (c_cell_L : CalD P w K mg base CX0 1 "_law_cell" (Bk.spCell K) []) (c_box_L : CalD P w K mg base CX0 1 "_law_box" spBox []) (c_take_L : CalD P w K mg base CX0 1 "_law_take" spTake [])
    (c_drawn_row_L : CalD P w K mg base CX0 2 "_law_drawn_row" spDrawn []) (c_bent_L : CalD P w K mg base CX0 3 "_law_bent" spBent []) (c_told_L : CalD P w K mg base CX0 10 "_law_told" (spTold K) []) (c_due_L : CalD P w K mg base CX0 3 "_law_due" (spDue K) []) : FnG P w K mg base CX0 11 f fd ["_law_script"] (spLaw K) := by
  refine fun_okG F sc_law (fun vs H Q E h => ?_) (fun cdv A' outer s H vs Q E ga hr h => have hu65 := units65 hr; have hu64 := hr.units; have hu := units1 hr; ⟨_, (pss_cons (ps_for PassesOwn.never rfl (pi_range1 (by rfl) T.m_range (pa_cons (pe_callB (call_max2 rfl) (by rfl) T.m_max (by decide +kernel) (pa_cons pe_int (pa_cons (pe_callB (call_min2 rfl) (by rfl) T.m_min (by decide +kernel) (pa_cons pe_int (pa_cons (pe_callB call_len_seq (by rfl) T.m_len (by decide +kernel) (pa_cons (pv 0) pa_nil)) pa_nil))) pa_nil))) pa_nil)) (pg_name (i := 1) sc_law.nd rfl (.inl rfl))
      (pss_cons (ps_set (i := 2) sc_law.nd rfl (.inl rfl) (pe_cal c_box_L hr (by decide) (by rfl) (pa_cons (pe_cal c_cell_L hr (by decide) (by rfl) (pa_cons (pv 0) (pa_cons (pv 1) pa_nil))) pa_nil)))
    (pss_cons (ps_set (i := 3) sc_law.nd rfl (.inl rfl) (pe_lstB (pa_cons (pe_op op_add_str pe_str (pe_callTy call_str_int (by rfl) T.m_str (by decide +kernel) (pa_cons (pe_cal c_take_L hr (by decide) (by rfl) (pa_cons (pv 2) (pa_cons pe_int pa_nil))) pa_nil))) pa_nil)))
    (pss_cons (ps_for PassesOwn.never rfl (pi_range1 (by rfl) T.m_range (pa_cons (pe_cal c_take_L hr (by decide) (by rfl) (pa_cons (pv 2) (pa_cons pe_int pa_nil))) pa_nil)) (pg_name (i := 4) sc_law.nd rfl (.inl rfl))
      (pss_one (ps_expr (pe_bm PySem.F.plainAttrs_list PySem.F.slot_list_append PySem.F.type_list_append mt_append (pv 3) (pa_cons (pe_cal c_drawn_row_L hr (by decide) (by rfl) (pa_cons (pv 2) pa_nil)) pa_nil)))))
    (pss_cons (ps_for PassesOwn.never rfl (pi_range1 (by rfl) T.m_range (pa_cons (pe_cal c_take_L hr (by decide) (by rfl) (pa_cons (pv 2) (pa_cons pe_int pa_nil))) pa_nil)) (pg_name (i := 4) sc_law.nd rfl (.inl rfl))
      (pss_one (ps_if (pt_cmpR (op_neD hu64) (pv 3) (pe_lstB pa_nil) (nomark _)) (pss_one (ps_set (i := 3) sc_law.nd rfl (.inl rfl) (pe_cal c_bent_L hr (by decide) (by rfl) (pa_cons (pv 2) (pa_cons (pv 3) pa_nil))))) pss_nil)))
    (C8.pss_cut (ps_set (i := 5) sc_law.nd rfl (.inl rfl) (pe_ifExp (pt_cmpR op_eq (pe_cal c_take_L hr (by decide) (by rfl) (pa_cons (pv 2) (pa_cons pe_int pa_nil))) pe_int (nomark _)) (pe_op op_add pe_int (pe_cal c_take_L hr (by decide) (by rfl) (pa_cons (pv 2) (pa_cons pe_int pa_nil)))) pe_int))
    (pss_cons (ps_set (i := 6) sc_law.nd rfl (.inl rfl) (pe_op op_add_str (pe_op op_mulS pe_str (pv 5)) (pe_join pe_str (pv 3))))
    (pss_cons (ps_for PassesOwn.never rfl (pi_range1 (by rfl) T.m_range (pa_cons pe_int pa_nil)) (pg_name (i := 4) sc_law.nd rfl (.inl rfl))
      (pss_one (ps_if (pt_cmpR op_ne (pe_callB (call_repr_any ga hr) (by rfl) T.m_repr (by decide +kernel) (pa_cons (pe_cal c_told_L hr (by decide) (by rfl) (pa_cons (pv 6) pa_nil)) pa_nil)) (pe_callB (call_repr_any ga hr) (by rfl) T.m_repr (by decide +kernel) (pa_cons (pe_cal c_due_L hr (by decide) (by rfl) (pa_cons (pv 6) pa_nil)) pa_nil)) (nomark _)) (pss_one (ps_ret pe_bl)) pss_nil)))
    (pss_cons (ps_set (i := 7) sc_law.nd rfl (.inl rfl) (pe_ix ix_list (pe_lstB (pa_cons pe_non (pa_cons pe_int (pa_cons (pe_lstB (pa_cons (pv 6) pa_nil)) (pa_cons (pe_tup (pa_cons (pv 6) pa_nil)) (pa_cons pe_dnewK (pa_cons pe_bl (pa_cons (pe_tup (pa_cons (pe_tup pa_nil) (pa_cons (pe_tup pa_nil) pa_nil))) pa_nil)))))))) (pe_cal c_take_L hr (by decide) (by rfl) (pa_cons (pv 2) (pa_cons pe_int pa_nil))) (fun _ _ => rfl)))
    (pss_cons (ps_set (i := 8) sc_law.nd rfl (.inl rfl) (pe_cal c_told_L hr (by decide) (by rfl) (pa_cons (pv 7) pa_nil)))
    (C8.pss_cut (ps_if (pt_val (pe_callB call_is (by rfl) T.m_isinstance (by decide +kernel) (pa_cons (pv 7) (pa_cons (pe_bltn (v := .ty "list") (by rfl) T.m_list (by decide +kernel) rfl) pa_nil)))) (pss_one (ps_expr (pe_bm PySem.F.plainAttrs_list PySem.F.slot_list_append PySem.F.type_list_append mt_append (pv 7) (pa_cons pe_str pa_nil)))) pss_nil)
    (pss_one (ps_if (pt_cmpR op_ne (pe_callB (call_repr_any ga hr) (by rfl) T.m_repr (by decide +kernel) (pa_cons (pv 8) pa_nil)) (pe_callB (call_repr_any ga hr) (by rfl) T.m_repr (by decide +kernel) (pa_cons (pe_lstB (pa_cons pe_str (pa_cons (pv 7) pa_nil))) pa_nil)) (nomark _)) (pss_one (ps_ret pe_bl)) pss_nil)))))))))))))
    (pss_one (ps_ret pe_bl))), ?_⟩)
  · obtain ⟨sc, ns, rfl, _⟩ := h
    rfl
  · obtain ⟨sc, ns, rfl, hs, hl, q⟩ := h
    walk_at "go"
    refine ⟨sc, _, rfl, .inl hs, ?_⟩
    walk_at "go"
    rw [List.length_map]
    refine ⟨_, _, rfl, ?_⟩
    walk_at "go"
    refine ⟨_, _, rfl, ?_⟩
    walk_at "go"
    refine ⟨_, rfl, by split <;> split <;> omega, by split <;> split <;> omega, ?_⟩
    have hm : ∀ m : Nat, m = (if (if (ns.length : Int) < 10 then (ns.length : Int) else 10) > 2 then (if (ns.length : Int) < 10 then (ns.length : Int) else 10) else 2).toNat → m ≤ 10 := fun m e => by
      subst e
      split <;> split <;> omega
    refine for_range (fun k σ G => (∃ x1 x2 x3 x4 x5 x6 x7 x8, σ = [some (.ref sc), x1, x2, x3, x4, x5, x6, x7, x8]) ∧ Same H G)
      ⟨⟨_, _, _, _, _, _, _, _, rfl⟩, fun _ _ e => e⟩ ?_ ?_
    · rintro k σ G hk ⟨⟨x1, x2, x3, x4, x5, x6, x7, x8, rfl⟩, sG⟩
      have k8 : k < 10 := Nat.lt_of_lt_of_le hk (hm _ rfl)
      clear hm hk
      rw [Int.zero_add]
      have hsG : SqL K G sc (ns.map V.int) := Same.seq sG hs
      walk_at "go"
      refine ⟨sc, ns, k, rfl, hsG, by omega, fun ce0 => ?_⟩
      walk_at "go"
      refine ⟨ce0, rfl, fun bx H1 nbx s1 hB => ?_⟩
      walk_at "go"
      refine r_take hB fun d H2 d0 d1 hB2 b2 => ?_
      obtain ⟨d, rfl⟩ := Int.eq_ofNat_of_zero_le d0
      walk_at "go"
      refine ⟨_, rfl, (num_ok (n := d) (by omega)).1, ?_⟩
      have zo : OkB _ _ := (num_ok (n := d) (by omega)).2
      generalize Str.ofString (toString ((d : Nat) : Int)) = z at zo ⊢
      rw [num1 (by omega)] at zo
      have rm : OkB (Str.ofString "room ") 5 := .lit
      walk_at "go"
      refine ⟨_, _, rfl, rfl, rm.sum zo, ?_⟩
      walk_at "go"
      refine newLB fun rl H3 nrl grl s3 erl => ?_
      walk_at "go"
      have bx0 := sG.trans s1
      have Dr0 : Dr G H3 bx rl 10 12 1 [Str.ofString "room " ++ z] :=
        ⟨(butSame s1 nbx b2).trans s3, (hB2.same s3).mono (by omega), nbx, erl, (butSame s1 nbx b2).free nrl, hB2.ne nrl, Wb.one ((rm.app zo).mono (by omega)), Nat.le_refl _⟩
      refine r_take Dr0.hB fun many H4 m0 m1 hB4 b4 => ?_
      have Dr1 : Dr G H4 bx rl 11 12 1 [Str.ofString "room " ++ z] := ⟨butSame Dr0.sm nbx b4, hB4, nbx, b4 _ _ Dr0.ne Dr0.er, Dr0.nr, Dr0.ne, Dr0.wb, Dr0.lm⟩
      clear Dr0 hB hB2 hB4 b2 b4 s3 erl grl nrl s1
      walk_at "go"
      refine ⟨_, rfl, by omega, by omega, ?_⟩
      refine for_range (fun j σ G5 => (∃ x4 x5 x6 x7 x8, σ = [some (.ref sc), some (.int (k : Nat)), some (.ref bx), some (.ref rl), x4, x5, x6, x7, x8]) ∧ ∃ R, Dr G G5 bx rl (11 + 7 * j) 12 (1 + j) R) ⟨⟨_, _, _, _, _, rfl⟩, _, Dr1⟩ ?_ ?_
      · rintro j σ G5 hj ⟨⟨x4, x5, x6, x7, x8, rfl⟩, R, D⟩
        rw [Int.zero_add]
        walk_at "go"
        refine ⟨.inl ⟨rfl, _, sqL D.er⟩, ?_⟩
        walk_at "go"
        refine ⟨bx, _, rfl, D.hB, by omega, fun z H6 zl zo hB6 b6 => ?_⟩
        have e6 := b6 _ _ D.ne D.er
        refine ⟨rl, _, _, rfl, rfl, e6, by rw [List.length_map, sizeLine_eq]; have := D.lm; omega, ?_⟩
        have s6 := butSame D.sm nbx b6
        refine ⟨⟨_, _, _, _, _, rfl⟩, R ++ [z], fun b o e => by rw [upd_ne (ne_of_none e D.nr)]; exact s6 _ _ e, ?_, nbx, by rw [upd_same, List.map_append]; rfl, D.nr, D.ne, D.wb.app (Wb.one ⟨zl, zo⟩), by rw [List.length_append]; exact Nat.add_le_add_right D.lm 1⟩
        obtain ⟨y1, y2, y3, eB, y4⟩ := hB6
        exact ⟨y1, y2, y3, by rw [upd_ne D.ne.symm]; exact eB, by omega⟩
      · rintro σ G5 ⟨⟨x4, x5, x6, x7, x8, rfl⟩, R, D⟩
        walk_at "go"
        refine r_take D.hB fun turns H6 t0 t1 hB6 b6 => ?_
        have D : Dr G H6 bx rl 200 12 24 R := ⟨butSame D.sm nbx b6, hB6.mono (by omega), nbx, b6 _ _ D.ne D.er, D.nr, D.ne, D.wb, by have := D.lm; omega⟩
        walk_at "go"
        refine ⟨_, rfl, by omega, by omega, ?_⟩
        refine for_range (fun j σ G5 => ∃ rl, (∃ x4 x5 x6 x7 x8, σ = [some (.ref sc), some (.int (k : Nat)), some (.ref bx), some (.ref rl), x4, x5, x6, x7, x8]) ∧ ∃ R, Dr G G5 bx rl (200 + 9 * j) (bw j) (24 + 8 * j) R) ⟨rl, ⟨_, _, _, _, _, rfl⟩, _, D⟩ ?_ ?_
        · clear D
          rintro j σ G5 hj ⟨rl, ⟨x4, x5, x6, x7, x8, rfl⟩, R, D⟩
          have j3 : j < 3 := by omega
          have w8 : 8 ≤ bw j ∧ bw j ≤ 54 := by
            rcases j with _ | _ | _ | j
            · decide
            · decide
            · decide
            · omega
          rw [Int.zero_add]
          walk_at "go"
          refine newLB fun p H7 n7 g7 s7 e7 => ?_
          have D7 : Dr G H7 bx rl (200 + 9 * j) (bw j) (24 + 8 * j) R := ⟨D.sm.trans s7, D.hB.same s7, nbx, s7 _ _ D.er, D.nr, D.ne, D.wb, D.lm⟩
          refine ⟨strD R, .list [], dp_strs (sqL D7.er), .lst (sqL e7) .nil, sh_strs fun x hx => okS_str (D.wb x hx).2, sh_nil, ?_⟩
          unfold strD
          rw [eqv_nil]
          by_cases hR : R = []
          · rw [decide_eq_true (by rw [hR]; rfl)]
            walk_at "go"
            exact ⟨rl, ⟨_, _, _, _, _, rfl⟩, R, D7.sm, D7.hB.mono (by omega), nbx, D7.er, D7.nr, D7.ne, D7.wb.mono (by show bw j ≤ 2 * bw j + 2; omega), by have := D7.lm; omega⟩
          · rw [decide_eq_false (fun w => hR (List.map_eq_nil_iff.mp w))]
            walk_at "go"
            refine ⟨bx, rl, _, bw j, R, rfl, D7.hB, by omega, D7.er, D7.ne, hR, by have := D7.lm; omega, D7.wb, w8.1, by omega, fun r R' H8 n8 e8 lR wR hB8 b8 => ?_⟩
            walk_at "go"
            have r0 : G r = none := sm_none D7.sm n8
            exact ⟨r, ⟨_, _, _, _, _, rfl⟩, R', butSame D7.sm nbx b8, hB8.mono (by omega), nbx, e8, r0, D7.hB.ne n8, wR, by have := D7.lm; omega⟩
        · clear D
          rintro σ G5 ⟨rl, ⟨x4, x5, x6, x7, x8, rfl⟩, R, D⟩
          have tn : turns.toNat ≤ 3 := by omega
          have wR : wt R ≤ 5328 := by
            have a := wt_le D.wb
            have b : bw turns.toNat ≤ 110 := by
              generalize turns.toNat = j at tn
              rcases j with _ | _ | _ | _ | j
              · decide
              · decide
              · decide
              · decide
              · omega
            have c := D.lm
            have e : (bw turns.toNat + 1) * R.length ≤ 111 * 48 := Nat.mul_le_mul (by omega) (by omega)
            omega
          have lR : R.length ≤ 48 := by have := D.lm; omega
          have oR : ∀ x ∈ R, okS x := fun x hx => (D.wb x hx).2
          walk_at "go"
          show C8.tCut _ _ _ _ _
          refine r_cut (fun σ G6 => ∃ m : Nat, σ = [some (.ref sc), some (.int (k : Nat)), some (.ref bx), some (.ref rl), x4, some (.int m), x6, x7, x8] ∧ m ≤ 4299 ∧ Same G G6 ∧ G6 rl = some (.lst (R.map V.str)) ∧ Box bx 300 G6) ?_ ?_
          · walk_at "go"
            refine r_take D.hB fun c H6 c0 c1 hB6 b6 => ?_
            have s6 := butSame D.sm nbx b6
            have e6 := b6 _ _ D.ne D.er
            walk_at "go"
            refine iteC (fun hc => ?_) (fun hc => ?_)
            · walk_at "go"
              refine r_take hB6 fun a H7 a0 a1 hB7 b7 => ?_
              refine ⟨_, _, rfl, rfl, ?_⟩
              refine ⟨(300 + a).toNat, ?_, by omega, butSame s6 nbx b7, b7 _ _ D.ne e6, hB7.mono (by omega)⟩
              rw [Int.toNat_of_nonneg (by omega)]
              rfl
            · walk_at "go"
              exact ⟨0, rfl, by decide, s6, e6, hB6.mono (by omega)⟩
          · clear D
            rintro σ G6 ⟨m, rfl, hm, s6, e6, hB6⟩
            walk_at "go"
            refine ⟨_, m, rfl, rfl, by omega, by decide +kernel, ?_⟩
            walk_at "go"
            refine ⟨⟨_, rfl⟩, ?_⟩
            walk_at "go"
            have wj := wt_joinN (l := R)
            refine ⟨"\n", rl, R, rfl, rfl, .inl (sqL e6), Nat.le_trans (show _ ≤ 6000 by rw [show (Str.length "\n") = 1 from rfl, Nat.mul_one]; unfold wt at wR; omega) (by decide), ?_⟩
            have nl : OkB (Str.ofString "\n") 1 := .lit
            have oj : OkB (Txt.join "\n" R) 5328 := ⟨by omega, okS_join nl.2 oR⟩
            have om : OkB (mulS (Str.ofString "\n") m) 4299 := ⟨by rw [mulS_len]; exact Nat.le_trans (Nat.mul_le_mul hm nl.1) (by decide), okS_mul nl.2⟩
            refine ⟨_, _, rfl, rfl, om.sum oj, ?_⟩
            walk_at "go"
            have ot : OkB _ 9900 := (om.app oj).mono (by decide)
            generalize mulS (Str.ofString "\n") m ++ Txt.join "\n" R = z at ot ⊢
            clear wj om oj wR lR oR hm nl
            refine ⟨_, rfl, by decide, by decide, ?_⟩
            refine for_range (fun j σ G7 => (∃ x4 x7 x8, σ = [some (.ref sc), some (.int (k : Nat)), some (.ref bx), some (.ref rl), x4, some (.int m), some (.str z), x7, x8]) ∧ Same G6 G7) ⟨⟨_, _, _, rfl⟩, Same.refl _⟩ ?_ ?_
            · rintro j σ G7 hj ⟨⟨x4, x7, x8, rfl⟩, s7⟩
              rw [Int.zero_add]
              walk_at "go"
              refine ⟨.str z, rfl, .inr ⟨z, rfl, ot.1, ot.2, fun p H8 us s8 e8 d8 => ?_⟩⟩
              walk_at "go"
              refine ⟨_, _, rfl, .inl (shq_due ot.1 e8 d8), ?_⟩
              walk_at "go"
              refine ⟨z, rfl, ot.1, ot.2, fun p2 H9 us2 s9 e9 d9 => ?_⟩
              walk_at "go"
              refine ⟨_, _, rfl, .inl (shq_due ot.1 e9 d9), ?_⟩
              refine r_ne rfl ⟨_, rfl, ?_⟩
              refine iteNC (fun w => ?_) (fun _ => ?_)
              · exact absurd rfl w
              walk_at "go"
              exact ⟨⟨_, _, _, rfl⟩, s7.trans (s8.trans s9)⟩
            · rintro σ G7 ⟨⟨x4, x7, x8, rfl⟩, s7⟩
              have s7 := s6.trans s7
              have hB7 := hB6.same ‹Same G6 G7›
              walk_at "go"
              refine newLB fun l1 H8 n8 g8 s8 e8 => ?_
              walk_at "go"
              refine newT fun t1 H9 n9 s9 e9 => ?_
              walk_at "go"
              refine newDK fun d1 H10 n10 s10 e10 => ?_
              walk_at "go"
              refine newT fun t2 H11 n11 s11 e11 => ?_
              walk_at "go"
              refine newT fun t3 H12 n12 s12 e12 => ?_
              walk_at "go"
              refine newT fun t4 H13 n13 s13 e13 => ?_
              walk_at "go"
              refine newLB fun ol H14 n14 g14 s14 e14 => ?_
              walk_at "go"
              have hB14 := hB7.same (s8.trans (s9.trans (s10.trans (s11.trans (s12.trans (s13.trans s14))))))
              refine r_take hB14 fun c H15 c0 c1 hB15 b15 => ?_
              have k8 : l1 ≠ bx := hB7.ne n8
              have k9 : t1 ≠ bx := (hB7.same s8).ne n9
              have k10 : d1 ≠ bx := (hB7.same (s8.trans s9)).ne n10
              have k11 : t2 ≠ bx := (hB7.same (s8.trans (s9.trans s10))).ne n11
              have k12 : t3 ≠ bx := (hB7.same (s8.trans (s9.trans (s10.trans s11)))).ne n12
              have k13 : t4 ≠ bx := (hB7.same (s8.trans (s9.trans (s10.trans (s11.trans s12))))).ne n13
              have k14 : ol ≠ bx := (hB7.same (s8.trans (s9.trans (s10.trans (s11.trans (s12.trans s13)))))).ne n14
              have f8 := b15 _ _ k8 (s14 _ _ (s13 _ _ (s12 _ _ (s11 _ _ (s10 _ _ (s9 _ _ e8))))))
              have f9 := b15 _ _ k9 (s14 _ _ (s13 _ _ (s12 _ _ (s11 _ _ (s10 _ _ e9)))))
              have f10 := b15 _ _ k10 (s14 _ _ (s13 _ _ (s12 _ _ (s11 _ _ e10))))
              have f11 := b15 _ _ k11 (s14 _ _ (s13 _ _ (s12 _ _ e11)))
              have f12 := b15 _ _ k12 (s14 _ _ (s13 _ _ e12))
              have f13 := b15 _ _ k13 (s14 _ _ e13)
              have f14 := b15 _ _ k14 e14
              have s15 : Same G H15 := butSame (s7.trans (s8.trans (s9.trans (s10.trans (s11.trans (s12.trans (s13.trans s14))))))) nbx b15
              refine r_ixLo (sqL f14) c0 c1 fun v hv _ => ?_
              have odd : Odd K G H15 v := by
                simp only [List.mem_cons, List.not_mem_nil, or_false] at hv
                rcases hv with rfl | rfl | rfl | rfl | rfl | rfl | rfl
                · exact ⟨isa_non, .inl ⟨fun _ _ => isa_non, _, .non, Fit.non⟩⟩
                · exact ⟨isa_int, .inl ⟨fun _ _ => isa_int, _, .int 7, (Fit.int (i := 7) (by decide)).mono (by decide) (by decide)⟩⟩
                · exact ⟨isa_lst f8, .inr ⟨l1, z, rfl, g8, f8, ot, sm_none s7 n8⟩⟩
                · exact ⟨isa_tup f9, .inl ⟨fun _ s => isa_tup (s _ _ f9), _, .tup (sqT f9) (.cons (.str _) .nil), (Fit.tup (m := 9900) (k := 0) (n := 1) (fun d hd => by rw [List.mem_singleton.mp hd]; exact Fit.str ot) (Nat.le_refl _)).mono (by decide) (by decide)⟩⟩
                · exact ⟨isa_dK f10, .inl ⟨fun _ s => isa_dK (s _ _ f10), .dict [], .dK rfl f10 .nil .nil, Fit.dic⟩⟩
                · exact ⟨isa_bl, .inl ⟨fun _ _ => isa_bl, _, .bl true, Fit.bl⟩⟩
                · exact ⟨isa_tup f13, .inl ⟨fun _ s => isa_tup (s _ _ f13), _, .tup (sqT f13) (.cons (.tup (sqT f11) .nil) (.cons (.tup (sqT f12) .nil) .nil)), Fit.nest⟩⟩
              clear f8 f9 f10 f11 f12 f13 f14 k8 k9 k10 k11 k12 k13 k14 e8 e9 e10 e11 e12 e13 e14 n8 n9 n10 n11 n12 n13 n14 s8 s9 s10 s11 s12 s13 s14 b15 hB14 hv g8 g14
              walk_at "go"
              refine ⟨v, rfl, .inl ⟨odd.1, fun p H16 ns16 s16 e16 => ?_⟩⟩
              have sG16 := s15.trans s16
              walk_at "go"
              show C8.tCut _ _ _ _ _
              refine r_cut (fun σ G17 => σ = [some (.ref sc), some (.int (k : Nat)), some (.ref bx), some (.ref rl), x4, some (.int m), some (.str z), some v, some (.ref p)] ∧ Same G G17 ∧ G17 p = some (.lst [.str (Str.ofString "text"), v]) ∧ ∃ d, Dq true K G17 v d ∧ Fit 20000 10 d) ?_ ?_
              · walk_at "go"
                rcases odd.2 with ⟨nl, d, dq, fd⟩ | ⟨l, y, rfl, gl, el, oy, nlG⟩
                · refine r_is (nl _ s16) ?_
                  walk_at "go"
                  exact ⟨rfl, sG16, e16, d, dq_sameT s16 dq, fd⟩
                · refine r_is (isa_lst (b := true) (s16 _ _ el)) ?_
                  walk_at "go"
                  have el' := s16 _ _ el
                  refine ⟨.inl ⟨rfl, _, sqL el'⟩, ?_⟩
                  walk_at "go"
                  have pl : p ≠ l := fun w => by
                    rw [w, el'] at e16
                    injection e16 with e16
                    injection e16 with e16
                    exact nomatch e16
                  refine ⟨l, _, _, rfl, rfl, el', by rw [sizeLine_eq]; show 1 < 16777216; decide, ?_⟩
                  have mr : OkB (Str.ofString "more") 4 := .lit
                  refine ⟨rfl, fun b o e => by rw [upd_ne (ne_of_none e nlG)]; exact sG16 _ _ e, by rw [upd_ne pl]; exact e16, _, .lst (fun _ => gl) (sqL upd_same) (.cons (.str _) (.cons (.str _) .nil)), ?_⟩
                  exact (Fit.lst (m := 9900) (k := 0) (n := 2) (fun d' hd => by
                    rcases List.mem_cons.mp hd with rfl | hd
                    · exact Fit.str oy
                    · rw [List.mem_singleton.mp hd]; exact Fit.str (mr.mono (by decide))) (Nat.le_refl _)).mono (by decide) (by decide)
              · clear odd
                rintro σ G17 ⟨rfl, s17, e17, d, dq, fd⟩
                walk_at "go"
                have tx : OkB (Str.ofString "text") 4 := .lit
                have ft : Fit 50000 11 (.list [.str (Str.ofString "text"), d]) := (Fit.lst (m := 20000) (k := 10) (n := 2) (fun d' hd => by
                  rcases List.mem_cons.mp hd with rfl | hd
                  · exact (Fit.str tx).mono (by decide) (by decide)
                  · rw [List.mem_singleton.mp hd]; exact fd) (Nat.le_refl _)).mono (by decide) (by decide)
                refine ⟨_, _, rfl, .inl (shq_of (b := true) (.lst (fun _ => ns16) (sqL e17) (.cons (.str _) (.cons dq .nil))) ft.1 (Nat.le_trans ft.2.1 (by decide)) (Nat.le_trans ft.2.2 (by decide))), ?_⟩
                walk_at "go"
                refine newLB fun q2 H18 n18 g18 s18 e18 => ?_
                refine ⟨_, _, rfl, .inl (shq_of (b := true) (.lst (fun _ => g18) (sqL e18) (.cons (.str _) (.cons (dq_sameT s18 dq) .nil))) ft.1 (Nat.le_trans ft.2.1 (by decide)) (Nat.le_trans ft.2.2 (by decide))), ?_⟩
                refine r_ne rfl ⟨_, rfl, ?_⟩
                refine iteNC (fun w => ?_) (fun _ => ?_)
                · exact absurd rfl w
                walk_at "go"
                exact ⟨⟨_, _, _, _, _, _, _, _, rfl⟩, sG.trans (s17.trans s18)⟩
    · rintro σ G ⟨⟨x1, x2, x3, x4, x5, x6, x7, x8, rfl⟩, sG⟩
      walk_at "go"
      exact q _
end
end K06

namespace K06
open PySem PySem.Spec PyProof.Rows L2 Bk
theorem num_chain0 {D : Addr} {doc pm : Value} {an : Option Addr} {cdv ct : Value} {us mv : List Value} (h1 : us.length = 1) (h2 : mv.length = 2) :
    KwChain D ((["least", "most"] : List Str).zip mv) (bindArgs (PySem.W.fnOf "number_in" "number_in" (defArgs s_number_in) (defBody s_number_in) (defScope s_number_in) .none (.ref D) doc pm an cdv ct) ⟨us, []⟩) ((["thing", "least", "most"] : List Str).zip (us ++ mv)) := by
  match us, mv, h1, h2 with
  | [u], [m, n], _, _ => exact ⟨_, _, _, _, _, _, rfl, rfl, ⟨_, _, _, _, _, _, rfl, rfl, rfl⟩⟩
theorem num_chain1 {D : Addr} {doc pm : Value} {an : Option Addr} {cdv ct : Value} {us mv ws : List Value} (h1 : us.length = 1) (h2 : mv.length = 1) (h3 : ws.length = 1) :
    KwChain D ((["least"] : List Str).zip mv) (bindArgs (PySem.W.fnOf "number_in" "number_in" (defArgs s_number_in) (defBody s_number_in) (defScope s_number_in) .none (.ref D) doc pm an cdv ct) ⟨us, (["most"] : List Str).zip ws⟩) ((["thing", "least", "most"] : List Str).zip (us ++ mv ++ ws)) := by
  match us, mv, ws, h1, h2, h3 with
  | [u], [m], [a], _, _, _ => exact ⟨_, _, _, _, _, _, rfl, rfl, rfl⟩
theorem cut_chain0 {D : Addr} {doc pm : Value} {an : Option Addr} {cdv ct : Value} {us mv : List Value} (h1 : us.length = 1) (h2 : mv.length = 1) :
    KwChain D ((["first"] : List Str).zip mv) (bindArgs (PySem.W.fnOf "cut_rows" "cut_rows" (defArgs s_cut_rows) (defBody s_cut_rows) (defScope s_cut_rows) .none (.ref D) doc pm an cdv ct) ⟨us, []⟩) ((["rows", "first"] : List Str).zip (us ++ mv)) := by
  match us, mv, h1, h2 with
  | [u], [m], _, _ => exact ⟨_, _, _, _, _, _, rfl, rfl, rfl⟩
theorem entry_chain1 {D : Addr} {doc pm : Value} {an : Option Addr} {cdv ct : Value} {us mv ws : List Value} (h1 : us.length = 1) (h2 : mv.length = 0) (h3 : ws.length = 1) :
    KwChain D (([] : List Str).zip mv) (bindArgs (PySem.W.fnOf "entry" "entry" (defArgs s_entry) (defBody s_entry) (defScope s_entry) .none (.ref D) doc pm an cdv ct) ⟨us, (["write"] : List Str).zip ws⟩) ((["room", "write"] : List Str).zip (us ++ ws)) := by
  match us, mv, ws, h1, h2, h3 with
  | [u], [], [a], _, _, _ => exact rfl
theorem all_mk {l : PySem.W.OpenLaw} {w : World} {K : PySem.W.Frag} {h : Heap} {mg : Str → Option Value} {fa C_GuestError C_Missing C_Barred C_NoNumber C_NoOp C_NoTruth C_NoText C_NoRow f_GuestError_init f_Missing_init f_Barred_init f_NoNumber_init f_NoOp_init f_NoTruth_init f_NoText_init f_NoRow_init f_is_whole f_number_in f_written f_all_within f_check_number f_code f_op_of f_entry f_read_image f_cut_rows f_image_in f_filled f_number_begun f_word_in f_entry_in f_code_in f_cell_L f_box_L f_take_L f_ops_L f_drawn_row_L f_other_word_L f_sign_L f_bent_L f_plain_L f_word_L f_due_L f_told_L f_law : Addr} (X : K.In h) (G : h.Ns mainGlobals mg) (hfa : mg "law" = some (.ref fa))
    {od_GuestError_init an_GuestError_init : Option Addr} {sl_GuestError_init : Array (Option Value)} {oc_GuestError_init kV_GuestError_init dc_GuestError_init pm_GuestError_init cd_GuestError_init ct_GuestError_init : Value}
    {od_Missing_init an_Missing_init : Option Addr} {sl_Missing_init : Array (Option Value)} {oc_Missing_init kV_Missing_init dc_Missing_init pm_Missing_init cd_Missing_init ct_Missing_init : Value}
    {od_Barred_init an_Barred_init : Option Addr} {sl_Barred_init : Array (Option Value)} {oc_Barred_init kV_Barred_init dc_Barred_init pm_Barred_init cd_Barred_init ct_Barred_init : Value}
    {od_NoNumber_init an_NoNumber_init : Option Addr} {sl_NoNumber_init : Array (Option Value)} {oc_NoNumber_init kV_NoNumber_init dc_NoNumber_init pm_NoNumber_init cd_NoNumber_init ct_NoNumber_init : Value}
    {od_NoOp_init an_NoOp_init : Option Addr} {sl_NoOp_init : Array (Option Value)} {oc_NoOp_init kV_NoOp_init dc_NoOp_init pm_NoOp_init cd_NoOp_init ct_NoOp_init : Value}
    {od_NoTruth_init an_NoTruth_init : Option Addr} {sl_NoTruth_init : Array (Option Value)} {oc_NoTruth_init kV_NoTruth_init dc_NoTruth_init pm_NoTruth_init cd_NoTruth_init ct_NoTruth_init : Value}
    {od_NoText_init an_NoText_init : Option Addr} {sl_NoText_init : Array (Option Value)} {oc_NoText_init kV_NoText_init dc_NoText_init pm_NoText_init cd_NoText_init ct_NoText_init : Value}
    {od_NoRow_init an_NoRow_init : Option Addr} {sl_NoRow_init : Array (Option Value)} {oc_NoRow_init kV_NoRow_init dc_NoRow_init pm_NoRow_init cd_NoRow_init ct_NoRow_init : Value}
    {od_is_whole an_is_whole : Option Addr} {sl_is_whole : Array (Option Value)} {oc_is_whole kV_is_whole dc_is_whole pm_is_whole cd_is_whole ct_is_whole : Value}
    {od_number_in an_number_in : Option Addr} {sl_number_in : Array (Option Value)} {oc_number_in  dc_number_in pm_number_in cd_number_in ct_number_in : Value} {D_number_in : Addr}
    {u_number_in_least : Value}
    {u_number_in_most : Value}
    {od_written an_written : Option Addr} {sl_written : Array (Option Value)} {oc_written kV_written dc_written pm_written cd_written ct_written : Value}
    {od_all_within an_all_within : Option Addr} {sl_all_within : Array (Option Value)} {oc_all_within kV_all_within dc_all_within pm_all_within cd_all_within ct_all_within : Value}
    {od_check_number an_check_number : Option Addr} {sl_check_number : Array (Option Value)} {oc_check_number kV_check_number dc_check_number pm_check_number cd_check_number ct_check_number : Value}
    {od_code an_code : Option Addr} {sl_code : Array (Option Value)} {oc_code kV_code dc_code pm_code cd_code ct_code : Value}
    {od_op_of an_op_of : Option Addr} {sl_op_of : Array (Option Value)} {oc_op_of kV_op_of dc_op_of pm_op_of cd_op_of ct_op_of : Value}
    {od_entry an_entry : Option Addr} {sl_entry : Array (Option Value)} {oc_entry  dc_entry pm_entry cd_entry ct_entry : Value} {D_entry : Addr}
    {u_entry_write : Value}
    {od_read_image an_read_image : Option Addr} {sl_read_image : Array (Option Value)} {oc_read_image kV_read_image dc_read_image pm_read_image cd_read_image ct_read_image : Value}
    {od_cut_rows an_cut_rows : Option Addr} {sl_cut_rows : Array (Option Value)} {oc_cut_rows  dc_cut_rows pm_cut_rows cd_cut_rows ct_cut_rows : Value} {D_cut_rows : Addr}
    {u_cut_rows_first : Value}
    {od_image_in an_image_in : Option Addr} {sl_image_in : Array (Option Value)} {oc_image_in kV_image_in dc_image_in pm_image_in cd_image_in ct_image_in : Value}
    {od_filled an_filled : Option Addr} {sl_filled : Array (Option Value)} {oc_filled kV_filled dc_filled pm_filled cd_filled ct_filled : Value}
    {od_number_begun an_number_begun : Option Addr} {sl_number_begun : Array (Option Value)} {oc_number_begun kV_number_begun dc_number_begun pm_number_begun cd_number_begun ct_number_begun : Value}
    {od_word_in an_word_in : Option Addr} {sl_word_in : Array (Option Value)} {oc_word_in kV_word_in dc_word_in pm_word_in cd_word_in ct_word_in : Value}
    {od_entry_in an_entry_in : Option Addr} {sl_entry_in : Array (Option Value)} {oc_entry_in kV_entry_in dc_entry_in pm_entry_in cd_entry_in ct_entry_in : Value}
    {od_code_in an_code_in : Option Addr} {sl_code_in : Array (Option Value)} {oc_code_in kV_code_in dc_code_in pm_code_in cd_code_in ct_code_in : Value}
    {od_cell_L an_cell_L : Option Addr} {sl_cell_L : Array (Option Value)} {oc_cell_L kV_cell_L dc_cell_L pm_cell_L cd_cell_L ct_cell_L : Value}
    {od_box_L an_box_L : Option Addr} {sl_box_L : Array (Option Value)} {oc_box_L kV_box_L dc_box_L pm_box_L cd_box_L ct_box_L : Value}
    {od_take_L an_take_L : Option Addr} {sl_take_L : Array (Option Value)} {oc_take_L kV_take_L dc_take_L pm_take_L cd_take_L ct_take_L : Value}
    {od_ops_L an_ops_L : Option Addr} {sl_ops_L : Array (Option Value)} {oc_ops_L kV_ops_L dc_ops_L pm_ops_L cd_ops_L ct_ops_L : Value}
    {od_drawn_row_L an_drawn_row_L : Option Addr} {sl_drawn_row_L : Array (Option Value)} {oc_drawn_row_L kV_drawn_row_L dc_drawn_row_L pm_drawn_row_L cd_drawn_row_L ct_drawn_row_L : Value}
    {od_other_word_L an_other_word_L : Option Addr} {sl_other_word_L : Array (Option Value)} {oc_other_word_L kV_other_word_L dc_other_word_L pm_other_word_L cd_other_word_L ct_other_word_L : Value}
    {od_sign_L an_sign_L : Option Addr} {sl_sign_L : Array (Option Value)} {oc_sign_L kV_sign_L dc_sign_L pm_sign_L cd_sign_L ct_sign_L : Value}
    {od_bent_L an_bent_L : Option Addr} {sl_bent_L : Array (Option Value)} {oc_bent_L kV_bent_L dc_bent_L pm_bent_L cd_bent_L ct_bent_L : Value}
    {od_plain_L an_plain_L : Option Addr} {sl_plain_L : Array (Option Value)} {oc_plain_L kV_plain_L dc_plain_L pm_plain_L cd_plain_L ct_plain_L : Value}
    {od_word_L an_word_L : Option Addr} {sl_word_L : Array (Option Value)} {oc_word_L kV_word_L dc_word_L pm_word_L cd_word_L ct_word_L : Value}
    {od_due_L an_due_L : Option Addr} {sl_due_L : Array (Option Value)} {oc_due_L kV_due_L dc_due_L pm_due_L cd_due_L ct_due_L : Value}
    {od_told_L an_told_L : Option Addr} {sl_told_L : Array (Option Value)} {oc_told_L kV_told_L dc_told_L pm_told_L cd_told_L ct_told_L : Value}
    {od_law an_law : Option Addr} {sl_law : Array (Option Value)} {oc_law kV_law dc_law pm_law cd_law ct_law : Value}
    {t_short t_eight t_last tO0 tO1 tO2 tO3 tO4 tO5 tO6 tO7 tO8 tO9 tO10 tO11 tO12 tO13 tO14 tO15 : Tok} {aOPS : Addr} {nO : Nat} {slO : Array (Option Value)}
    {nmM qM : Str} {NM : Addr} {bsM : List Value} {snM : List Str} {subM : List Value} {abM : Bool} {colM : Option Bool} {ddM : Option Addr} {wM0 wM1 wM2 wM3 wM5 : Option Value}
    {nmO qO : Str} {NO : Addr} {bsO : List Value} {snO : List Str} {subO : List Value} {abO : Bool} {colO : Option Bool} {ddO : Option Addr} {wO0 wO1 wO2 wO3 wO5 : Option Value}
    {nmT qT : Str} {NT : Addr} {bsT : List Value} {snT : List Str} {subT : List Value} {abT : Bool} {colT : Option Bool} {ddT : Option Addr} {wT0 wT1 wT2 wT3 wT5 : Option Value}
    {nmR qR : Str} {NR : Addr} {bsR : List Value} {snR : List Str} {subR : List Value} {abR : Bool} {colR : Option Bool} {ddR : Option Addr} {wR0 wR1 wR2 wR3 wR5 : Option Value}
    {nmX qX : Str} {NX : Addr} {bsX : List Value} {snX : List Str} {subX : List Value} {abX : Bool} {colX : Option Bool} {ddX : Option Addr} {wX0 wX1 wX2 wX3 wX5 : Option Value}
    (aC_GuestError : PySem.W.nsIn K mainGlobals "GuestError" = some (some (.ref C_GuestError)))
    (aC_Missing : PySem.W.nsIn K mainGlobals "Missing" = some (some (.ref C_Missing)))
    (aC_Barred : PySem.W.nsIn K mainGlobals "Barred" = some (some (.ref C_Barred)))
    (aC_NoNumber : PySem.W.nsIn K mainGlobals "NoNumber" = some (some (.ref C_NoNumber)))
    (aC_NoOp : PySem.W.nsIn K mainGlobals "NoOp" = some (some (.ref C_NoOp)))
    (aC_NoTruth : PySem.W.nsIn K mainGlobals "NoTruth" = some (some (.ref C_NoTruth)))
    (aC_NoText : PySem.W.nsIn K mainGlobals "NoText" = some (some (.ref C_NoText)))
    (aC_NoRow : PySem.W.nsIn K mainGlobals "NoRow" = some (some (.ref C_NoRow)))
    (a_GuestError_init : PySem.W.findIn K (.ref C_GuestError) "__init__" = some (some (.ref f_GuestError_init)))
    (l_GuestError_init : K.lookup f_GuestError_init = some ⟨oc_GuestError_init, od_GuestError_init, .func (PySem.W.fnOf "__init__" "GuestError.__init__" (defArgs s_GuestError_init) (defBody s_GuestError_init) (defScope s_GuestError_init) .none kV_GuestError_init dc_GuestError_init pm_GuestError_init an_GuestError_init cd_GuestError_init ct_GuestError_init), sl_GuestError_init⟩)
    (c_GuestError_init : PySem.W.codeIn K cd_GuestError_init "GuestError.__init__" = true)
    (k_GuestError_init : PySem.W.keepIn K (.ref f_GuestError_init) = true)
    (a_Missing_init : PySem.W.findIn K (.ref C_Missing) "__init__" = some (some (.ref f_Missing_init)))
    (l_Missing_init : K.lookup f_Missing_init = some ⟨oc_Missing_init, od_Missing_init, .func (PySem.W.fnOf "__init__" "Missing.__init__" (defArgs s_Missing_init) (defBody s_Missing_init) (defScope s_Missing_init) .none kV_Missing_init dc_Missing_init pm_Missing_init an_Missing_init cd_Missing_init ct_Missing_init), sl_Missing_init⟩)
    (c_Missing_init : PySem.W.codeIn K cd_Missing_init "Missing.__init__" = true)
    (k_Missing_init : PySem.W.keepIn K (.ref f_Missing_init) = true)
    (a_Barred_init : PySem.W.findIn K (.ref C_Barred) "__init__" = some (some (.ref f_Barred_init)))
    (l_Barred_init : K.lookup f_Barred_init = some ⟨oc_Barred_init, od_Barred_init, .func (PySem.W.fnOf "__init__" "Barred.__init__" (defArgs s_Barred_init) (defBody s_Barred_init) (defScope s_Barred_init) .none kV_Barred_init dc_Barred_init pm_Barred_init an_Barred_init cd_Barred_init ct_Barred_init), sl_Barred_init⟩)
    (c_Barred_init : PySem.W.codeIn K cd_Barred_init "Barred.__init__" = true)
    (k_Barred_init : PySem.W.keepIn K (.ref f_Barred_init) = true)
    (a_NoNumber_init : PySem.W.findIn K (.ref C_NoNumber) "__init__" = some (some (.ref f_NoNumber_init)))
    (l_NoNumber_init : K.lookup f_NoNumber_init = some ⟨oc_NoNumber_init, od_NoNumber_init, .func (PySem.W.fnOf "__init__" "NoNumber.__init__" (defArgs s_NoNumber_init) (defBody s_NoNumber_init) (defScope s_NoNumber_init) .none kV_NoNumber_init dc_NoNumber_init pm_NoNumber_init an_NoNumber_init cd_NoNumber_init ct_NoNumber_init), sl_NoNumber_init⟩)
    (c_NoNumber_init : PySem.W.codeIn K cd_NoNumber_init "NoNumber.__init__" = true)
    (k_NoNumber_init : PySem.W.keepIn K (.ref f_NoNumber_init) = true)
    (a_NoOp_init : PySem.W.findIn K (.ref C_NoOp) "__init__" = some (some (.ref f_NoOp_init)))
    (l_NoOp_init : K.lookup f_NoOp_init = some ⟨oc_NoOp_init, od_NoOp_init, .func (PySem.W.fnOf "__init__" "NoOp.__init__" (defArgs s_NoOp_init) (defBody s_NoOp_init) (defScope s_NoOp_init) .none kV_NoOp_init dc_NoOp_init pm_NoOp_init an_NoOp_init cd_NoOp_init ct_NoOp_init), sl_NoOp_init⟩)
    (c_NoOp_init : PySem.W.codeIn K cd_NoOp_init "NoOp.__init__" = true)
    (k_NoOp_init : PySem.W.keepIn K (.ref f_NoOp_init) = true)
    (a_NoTruth_init : PySem.W.findIn K (.ref C_NoTruth) "__init__" = some (some (.ref f_NoTruth_init)))
    (l_NoTruth_init : K.lookup f_NoTruth_init = some ⟨oc_NoTruth_init, od_NoTruth_init, .func (PySem.W.fnOf "__init__" "NoTruth.__init__" (defArgs s_NoTruth_init) (defBody s_NoTruth_init) (defScope s_NoTruth_init) .none kV_NoTruth_init dc_NoTruth_init pm_NoTruth_init an_NoTruth_init cd_NoTruth_init ct_NoTruth_init), sl_NoTruth_init⟩)
    (c_NoTruth_init : PySem.W.codeIn K cd_NoTruth_init "NoTruth.__init__" = true)
    (k_NoTruth_init : PySem.W.keepIn K (.ref f_NoTruth_init) = true)
    (a_NoText_init : PySem.W.findIn K (.ref C_NoText) "__init__" = some (some (.ref f_NoText_init)))
    (l_NoText_init : K.lookup f_NoText_init = some ⟨oc_NoText_init, od_NoText_init, .func (PySem.W.fnOf "__init__" "NoText.__init__" (defArgs s_NoText_init) (defBody s_NoText_init) (defScope s_NoText_init) .none kV_NoText_init dc_NoText_init pm_NoText_init an_NoText_init cd_NoText_init ct_NoText_init), sl_NoText_init⟩)
    (c_NoText_init : PySem.W.codeIn K cd_NoText_init "NoText.__init__" = true)
    (k_NoText_init : PySem.W.keepIn K (.ref f_NoText_init) = true)
    (a_NoRow_init : PySem.W.findIn K (.ref C_NoRow) "__init__" = some (some (.ref f_NoRow_init)))
    (l_NoRow_init : K.lookup f_NoRow_init = some ⟨oc_NoRow_init, od_NoRow_init, .func (PySem.W.fnOf "__init__" "NoRow.__init__" (defArgs s_NoRow_init) (defBody s_NoRow_init) (defScope s_NoRow_init) .none kV_NoRow_init dc_NoRow_init pm_NoRow_init an_NoRow_init cd_NoRow_init ct_NoRow_init), sl_NoRow_init⟩)
    (c_NoRow_init : PySem.W.codeIn K cd_NoRow_init "NoRow.__init__" = true)
    (k_NoRow_init : PySem.W.keepIn K (.ref f_NoRow_init) = true)
    (a_is_whole : PySem.W.nsIn K mainGlobals "is_whole" = some (some (.ref f_is_whole)))
    (l_is_whole : K.lookup f_is_whole = some ⟨oc_is_whole, od_is_whole, .func (PySem.W.fnOf "is_whole" "is_whole" (defArgs s_is_whole) (defBody s_is_whole) (defScope s_is_whole) .none kV_is_whole dc_is_whole pm_is_whole an_is_whole cd_is_whole ct_is_whole), sl_is_whole⟩)
    (c_is_whole : PySem.W.codeIn K cd_is_whole "is_whole" = true)
    (k_is_whole : PySem.W.keepIn K (.ref f_is_whole) = true)
    (a_number_in : PySem.W.nsIn K mainGlobals "number_in" = some (some (.ref f_number_in)))
    (l_number_in : K.lookup f_number_in = some ⟨oc_number_in, od_number_in, .func (PySem.W.fnOf "number_in" "number_in" (defArgs s_number_in) (defBody s_number_in) (defScope s_number_in) .none (.ref D_number_in) dc_number_in pm_number_in an_number_in cd_number_in ct_number_in), sl_number_in⟩)
    (c_number_in : PySem.W.codeIn K cd_number_in "number_in" = true)
    (k_number_in : PySem.W.keepIn K (.ref f_number_in) = true)
    (kd_number_in_least : PySem.W.nsIn K D_number_in "least" = some (some u_number_in_least))
    (kd_number_in_most : PySem.W.nsIn K D_number_in "most" = some (some u_number_in_most))
    (a_written : PySem.W.nsIn K mainGlobals "_written" = some (some (.ref f_written)))
    (l_written : K.lookup f_written = some ⟨oc_written, od_written, .func (PySem.W.fnOf "_written" "_written" (defArgs s_written) (defBody s_written) (defScope s_written) .none kV_written dc_written pm_written an_written cd_written ct_written), sl_written⟩)
    (c_written : PySem.W.codeIn K cd_written "_written" = true)
    (k_written : PySem.W.keepIn K (.ref f_written) = true)
    (a_all_within : PySem.W.nsIn K mainGlobals "_all_within" = some (some (.ref f_all_within)))
    (l_all_within : K.lookup f_all_within = some ⟨oc_all_within, od_all_within, .func (PySem.W.fnOf "_all_within" "_all_within" (defArgs s_all_within) (defBody s_all_within) (defScope s_all_within) .none kV_all_within dc_all_within pm_all_within an_all_within cd_all_within ct_all_within), sl_all_within⟩)
    (c_all_within : PySem.W.codeIn K cd_all_within "_all_within" = true)
    (k_all_within : PySem.W.keepIn K (.ref f_all_within) = true)
    (a_check_number : PySem.W.nsIn K mainGlobals "check_number" = some (some (.ref f_check_number)))
    (l_check_number : K.lookup f_check_number = some ⟨oc_check_number, od_check_number, .func (PySem.W.fnOf "check_number" "check_number" (defArgs s_check_number) (defBody s_check_number) (defScope s_check_number) .none kV_check_number dc_check_number pm_check_number an_check_number cd_check_number ct_check_number), sl_check_number⟩)
    (c_check_number : PySem.W.codeIn K cd_check_number "check_number" = true)
    (k_check_number : PySem.W.keepIn K (.ref f_check_number) = true)
    (a_code : PySem.W.nsIn K mainGlobals "code" = some (some (.ref f_code)))
    (l_code : K.lookup f_code = some ⟨oc_code, od_code, .func (PySem.W.fnOf "code" "code" (defArgs s_code) (defBody s_code) (defScope s_code) .none kV_code dc_code pm_code an_code cd_code ct_code), sl_code⟩)
    (c_code : PySem.W.codeIn K cd_code "code" = true)
    (k_code : PySem.W.keepIn K (.ref f_code) = true)
    (a_op_of : PySem.W.nsIn K mainGlobals "op_of" = some (some (.ref f_op_of)))
    (l_op_of : K.lookup f_op_of = some ⟨oc_op_of, od_op_of, .func (PySem.W.fnOf "op_of" "op_of" (defArgs s_op_of) (defBody s_op_of) (defScope s_op_of) .none kV_op_of dc_op_of pm_op_of an_op_of cd_op_of ct_op_of), sl_op_of⟩)
    (c_op_of : PySem.W.codeIn K cd_op_of "op_of" = true)
    (k_op_of : PySem.W.keepIn K (.ref f_op_of) = true)
    (a_entry : PySem.W.nsIn K mainGlobals "entry" = some (some (.ref f_entry)))
    (l_entry : K.lookup f_entry = some ⟨oc_entry, od_entry, .func (PySem.W.fnOf "entry" "entry" (defArgs s_entry) (defBody s_entry) (defScope s_entry) .none (.ref D_entry) dc_entry pm_entry an_entry cd_entry ct_entry), sl_entry⟩)
    (c_entry : PySem.W.codeIn K cd_entry "entry" = true)
    (k_entry : PySem.W.keepIn K (.ref f_entry) = true)
    (kd_entry_write : PySem.W.nsIn K D_entry "write" = some (some u_entry_write))
    (a_read_image : PySem.W.nsIn K mainGlobals "read_image" = some (some (.ref f_read_image)))
    (l_read_image : K.lookup f_read_image = some ⟨oc_read_image, od_read_image, .func (PySem.W.fnOf "read_image" "read_image" (defArgs s_read_image) (defBody s_read_image) (defScope s_read_image) .none kV_read_image dc_read_image pm_read_image an_read_image cd_read_image ct_read_image), sl_read_image⟩)
    (c_read_image : PySem.W.codeIn K cd_read_image "read_image" = true)
    (k_read_image : PySem.W.keepIn K (.ref f_read_image) = true)
    (a_cut_rows : PySem.W.nsIn K mainGlobals "cut_rows" = some (some (.ref f_cut_rows)))
    (l_cut_rows : K.lookup f_cut_rows = some ⟨oc_cut_rows, od_cut_rows, .func (PySem.W.fnOf "cut_rows" "cut_rows" (defArgs s_cut_rows) (defBody s_cut_rows) (defScope s_cut_rows) .none (.ref D_cut_rows) dc_cut_rows pm_cut_rows an_cut_rows cd_cut_rows ct_cut_rows), sl_cut_rows⟩)
    (c_cut_rows : PySem.W.codeIn K cd_cut_rows "cut_rows" = true)
    (k_cut_rows : PySem.W.keepIn K (.ref f_cut_rows) = true)
    (kd_cut_rows_first : PySem.W.nsIn K D_cut_rows "first" = some (some u_cut_rows_first))
    (a_image_in : PySem.W.nsIn K mainGlobals "image_in" = some (some (.ref f_image_in)))
    (l_image_in : K.lookup f_image_in = some ⟨oc_image_in, od_image_in, .func (PySem.W.fnOf "image_in" "image_in" (defArgs s_image_in) (defBody s_image_in) (defScope s_image_in) .none kV_image_in dc_image_in pm_image_in an_image_in cd_image_in ct_image_in), sl_image_in⟩)
    (c_image_in : PySem.W.codeIn K cd_image_in "image_in" = true)
    (k_image_in : PySem.W.keepIn K (.ref f_image_in) = true)
    (a_filled : PySem.W.nsIn K mainGlobals "_filled" = some (some (.ref f_filled)))
    (l_filled : K.lookup f_filled = some ⟨oc_filled, od_filled, .func (PySem.W.fnOf "_filled" "_filled" (defArgs s_filled) (defBody s_filled) (defScope s_filled) .none kV_filled dc_filled pm_filled an_filled cd_filled ct_filled), sl_filled⟩)
    (c_filled : PySem.W.codeIn K cd_filled "_filled" = true)
    (k_filled : PySem.W.keepIn K (.ref f_filled) = true)
    (a_number_begun : PySem.W.nsIn K mainGlobals "_number_begun" = some (some (.ref f_number_begun)))
    (l_number_begun : K.lookup f_number_begun = some ⟨oc_number_begun, od_number_begun, .func (PySem.W.fnOf "_number_begun" "_number_begun" (defArgs s_number_begun) (defBody s_number_begun) (defScope s_number_begun) .none kV_number_begun dc_number_begun pm_number_begun an_number_begun cd_number_begun ct_number_begun), sl_number_begun⟩)
    (c_number_begun : PySem.W.codeIn K cd_number_begun "_number_begun" = true)
    (k_number_begun : PySem.W.keepIn K (.ref f_number_begun) = true)
    (a_word_in : PySem.W.nsIn K mainGlobals "_word_in" = some (some (.ref f_word_in)))
    (l_word_in : K.lookup f_word_in = some ⟨oc_word_in, od_word_in, .func (PySem.W.fnOf "_word_in" "_word_in" (defArgs s_word_in) (defBody s_word_in) (defScope s_word_in) .none kV_word_in dc_word_in pm_word_in an_word_in cd_word_in ct_word_in), sl_word_in⟩)
    (c_word_in : PySem.W.codeIn K cd_word_in "_word_in" = true)
    (k_word_in : PySem.W.keepIn K (.ref f_word_in) = true)
    (a_entry_in : PySem.W.nsIn K mainGlobals "_entry_in" = some (some (.ref f_entry_in)))
    (l_entry_in : K.lookup f_entry_in = some ⟨oc_entry_in, od_entry_in, .func (PySem.W.fnOf "_entry_in" "_entry_in" (defArgs s_entry_in) (defBody s_entry_in) (defScope s_entry_in) .none kV_entry_in dc_entry_in pm_entry_in an_entry_in cd_entry_in ct_entry_in), sl_entry_in⟩)
    (c_entry_in : PySem.W.codeIn K cd_entry_in "_entry_in" = true)
    (k_entry_in : PySem.W.keepIn K (.ref f_entry_in) = true)
    (a_code_in : PySem.W.nsIn K mainGlobals "_code_in" = some (some (.ref f_code_in)))
    (l_code_in : K.lookup f_code_in = some ⟨oc_code_in, od_code_in, .func (PySem.W.fnOf "_code_in" "_code_in" (defArgs s_code_in) (defBody s_code_in) (defScope s_code_in) .none kV_code_in dc_code_in pm_code_in an_code_in cd_code_in ct_code_in), sl_code_in⟩)
    (c_code_in : PySem.W.codeIn K cd_code_in "_code_in" = true)
    (k_code_in : PySem.W.keepIn K (.ref f_code_in) = true)
    (a_cell_L : PySem.W.nsIn K mainGlobals "_law_cell" = some (some (.ref f_cell_L)))
    (l_cell_L : K.lookup f_cell_L = some ⟨oc_cell_L, od_cell_L, .func (PySem.W.fnOf "_law_cell" "_law_cell" (defArgs s_cell_L) (defBody s_cell_L) (defScope s_cell_L) .none kV_cell_L dc_cell_L pm_cell_L an_cell_L cd_cell_L ct_cell_L), sl_cell_L⟩)
    (c_cell_L : PySem.W.codeIn K cd_cell_L "_law_cell" = true)
    (k_cell_L : PySem.W.keepIn K (.ref f_cell_L) = true)
    (a_box_L : PySem.W.nsIn K mainGlobals "_law_box" = some (some (.ref f_box_L)))
    (l_box_L : K.lookup f_box_L = some ⟨oc_box_L, od_box_L, .func (PySem.W.fnOf "_law_box" "_law_box" (defArgs s_box_L) (defBody s_box_L) (defScope s_box_L) .none kV_box_L dc_box_L pm_box_L an_box_L cd_box_L ct_box_L), sl_box_L⟩)
    (c_box_L : PySem.W.codeIn K cd_box_L "_law_box" = true)
    (k_box_L : PySem.W.keepIn K (.ref f_box_L) = true)
    (a_take_L : PySem.W.nsIn K mainGlobals "_law_take" = some (some (.ref f_take_L)))
    (l_take_L : K.lookup f_take_L = some ⟨oc_take_L, od_take_L, .func (PySem.W.fnOf "_law_take" "_law_take" (defArgs s_take_L) (defBody s_take_L) (defScope s_take_L) .none kV_take_L dc_take_L pm_take_L an_take_L cd_take_L ct_take_L), sl_take_L⟩)
    (c_take_L : PySem.W.codeIn K cd_take_L "_law_take" = true)
    (k_take_L : PySem.W.keepIn K (.ref f_take_L) = true)
    (a_ops_L : PySem.W.nsIn K mainGlobals "_law_ops" = some (some (.ref f_ops_L)))
    (l_ops_L : K.lookup f_ops_L = some ⟨oc_ops_L, od_ops_L, .func (PySem.W.fnOf "_law_ops" "_law_ops" (defArgs s_ops_L) (defBody s_ops_L) (defScope s_ops_L) .none kV_ops_L dc_ops_L pm_ops_L an_ops_L cd_ops_L ct_ops_L), sl_ops_L⟩)
    (c_ops_L : PySem.W.codeIn K cd_ops_L "_law_ops" = true)
    (k_ops_L : PySem.W.keepIn K (.ref f_ops_L) = true)
    (a_drawn_row_L : PySem.W.nsIn K mainGlobals "_law_drawn_row" = some (some (.ref f_drawn_row_L)))
    (l_drawn_row_L : K.lookup f_drawn_row_L = some ⟨oc_drawn_row_L, od_drawn_row_L, .func (PySem.W.fnOf "_law_drawn_row" "_law_drawn_row" (defArgs s_drawn_row_L) (defBody s_drawn_row_L) (defScope s_drawn_row_L) .none kV_drawn_row_L dc_drawn_row_L pm_drawn_row_L an_drawn_row_L cd_drawn_row_L ct_drawn_row_L), sl_drawn_row_L⟩)
    (c_drawn_row_L : PySem.W.codeIn K cd_drawn_row_L "_law_drawn_row" = true)
    (k_drawn_row_L : PySem.W.keepIn K (.ref f_drawn_row_L) = true)
    (a_other_word_L : PySem.W.nsIn K mainGlobals "_law_other_word" = some (some (.ref f_other_word_L)))
    (l_other_word_L : K.lookup f_other_word_L = some ⟨oc_other_word_L, od_other_word_L, .func (PySem.W.fnOf "_law_other_word" "_law_other_word" (defArgs s_other_word_L) (defBody s_other_word_L) (defScope s_other_word_L) .none kV_other_word_L dc_other_word_L pm_other_word_L an_other_word_L cd_other_word_L ct_other_word_L), sl_other_word_L⟩)
    (c_other_word_L : PySem.W.codeIn K cd_other_word_L "_law_other_word" = true)
    (k_other_word_L : PySem.W.keepIn K (.ref f_other_word_L) = true)
    (a_sign_L : PySem.W.nsIn K mainGlobals "_law_sign" = some (some (.ref f_sign_L)))
    (l_sign_L : K.lookup f_sign_L = some ⟨oc_sign_L, od_sign_L, .func (PySem.W.fnOf "_law_sign" "_law_sign" (defArgs s_sign_L) (defBody s_sign_L) (defScope s_sign_L) .none kV_sign_L dc_sign_L pm_sign_L an_sign_L cd_sign_L ct_sign_L), sl_sign_L⟩)
    (c_sign_L : PySem.W.codeIn K cd_sign_L "_law_sign" = true)
    (k_sign_L : PySem.W.keepIn K (.ref f_sign_L) = true)
    (a_bent_L : PySem.W.nsIn K mainGlobals "_law_bent" = some (some (.ref f_bent_L)))
    (l_bent_L : K.lookup f_bent_L = some ⟨oc_bent_L, od_bent_L, .func (PySem.W.fnOf "_law_bent" "_law_bent" (defArgs s_bent_L) (defBody s_bent_L) (defScope s_bent_L) .none kV_bent_L dc_bent_L pm_bent_L an_bent_L cd_bent_L ct_bent_L), sl_bent_L⟩)
    (c_bent_L : PySem.W.codeIn K cd_bent_L "_law_bent" = true)
    (k_bent_L : PySem.W.keepIn K (.ref f_bent_L) = true)
    (a_plain_L : PySem.W.nsIn K mainGlobals "_law_plain" = some (some (.ref f_plain_L)))
    (l_plain_L : K.lookup f_plain_L = some ⟨oc_plain_L, od_plain_L, .func (PySem.W.fnOf "_law_plain" "_law_plain" (defArgs s_plain_L) (defBody s_plain_L) (defScope s_plain_L) .none kV_plain_L dc_plain_L pm_plain_L an_plain_L cd_plain_L ct_plain_L), sl_plain_L⟩)
    (c_plain_L : PySem.W.codeIn K cd_plain_L "_law_plain" = true)
    (k_plain_L : PySem.W.keepIn K (.ref f_plain_L) = true)
    (a_word_L : PySem.W.nsIn K mainGlobals "_law_word" = some (some (.ref f_word_L)))
    (l_word_L : K.lookup f_word_L = some ⟨oc_word_L, od_word_L, .func (PySem.W.fnOf "_law_word" "_law_word" (defArgs s_word_L) (defBody s_word_L) (defScope s_word_L) .none kV_word_L dc_word_L pm_word_L an_word_L cd_word_L ct_word_L), sl_word_L⟩)
    (c_word_L : PySem.W.codeIn K cd_word_L "_law_word" = true)
    (k_word_L : PySem.W.keepIn K (.ref f_word_L) = true)
    (a_due_L : PySem.W.nsIn K mainGlobals "_law_due" = some (some (.ref f_due_L)))
    (l_due_L : K.lookup f_due_L = some ⟨oc_due_L, od_due_L, .func (PySem.W.fnOf "_law_due" "_law_due" (defArgs s_due_L) (defBody s_due_L) (defScope s_due_L) .none kV_due_L dc_due_L pm_due_L an_due_L cd_due_L ct_due_L), sl_due_L⟩)
    (c_due_L : PySem.W.codeIn K cd_due_L "_law_due" = true)
    (k_due_L : PySem.W.keepIn K (.ref f_due_L) = true)
    (a_told_L : PySem.W.nsIn K mainGlobals "_law_told" = some (some (.ref f_told_L)))
    (l_told_L : K.lookup f_told_L = some ⟨oc_told_L, od_told_L, .func (PySem.W.fnOf "_law_told" "_law_told" (defArgs s_told_L) (defBody s_told_L) (defScope s_told_L) .none kV_told_L dc_told_L pm_told_L an_told_L cd_told_L ct_told_L), sl_told_L⟩)
    (c_told_L : PySem.W.codeIn K cd_told_L "_law_told" = true)
    (k_told_L : PySem.W.keepIn K (.ref f_told_L) = true)
    (a_law : PySem.W.nsIn K mainGlobals "law" = some (some (.ref f_law)))
    (l_law : K.lookup f_law = some ⟨oc_law, od_law, .func (PySem.W.fnOf "law" "law" (defArgs s_law) (defBody s_law) (defScope s_law) .none kV_law dc_law pm_law an_law cd_law ct_law), sl_law⟩)
    (c_law : PySem.W.codeIn K cd_law "law" = true)
    (k_law : PySem.W.keepIn K (.ref f_law) = true)
    (cSHORT : PySem.W.nsIn K mainGlobals "SHORT" = some (some (.int 6 t_short)))
    (cEIGHT : PySem.W.nsIn K mainGlobals "EIGHT" = some (some (.int 8 t_eight)))
    (cLAST : PySem.W.nsIn K mainGlobals "LAST" = some (some (.int 7 t_last)))
    (cOPS : PySem.W.nsIn K mainGlobals "OPS" = some (some (.ref aOPS)))
    (lOPS : K.lookup aOPS = some ⟨.type "tuple", none, .seq #[.str "halt" tO0, .str "set" tO1, .str "load" tO2, .str "save" tO3, .str "from" tO4, .str "into" tO5, .str "add" tO6, .str "sub" tO7, .str "part" tO8, .str "jump" tO9, .str "base" tO10, .str "trap" tO11, .str "time" tO12, .str "out" tO13, .str "in" tO14, .str "wait" tO15] nO, slO⟩)
    (rd_GuestError : PySem.W.readsIn K C_GuestError (.type "type") = true)
    (ga_GuestError : PySem.W.specialIn K (.ref C_GuestError) "__getattribute__" = some (some (.builtin "type.__getattribute__")))
    (at_GuestError : PySem.W.findCls K (.ref C_GuestError) (.type "type") "__init__" = some (.val (.ref f_GuestError_init)))
    (v_ValueError : PySem.W.findCls K (.type "ValueError") (.type "type") "__init__" = some (.val (.builtin "ValueError.__init__")))
    (xL_M : K.lookup C_NoNumber = some (excClassObj nmM qM C_NoNumber NM bsM [.ref C_GuestError, .type "ValueError", .type "Exception", .type "BaseException", .type "object"] true snM subM abM colM ddM wM0 wM1 wM2 wM3 wM5 "ValueError.__new__"))
    (sa_M : PySem.W.findIn K (.ref C_NoNumber) "__setattr__" = some (some (.builtin "object.__setattr__")))
    (ex_M : PySem.W.subIn K (.ref C_NoNumber) (.type "BaseException") = some true)
    (ty_M : PySem.W.typeIn K (.ref C_NoNumber) = some (.type "type"))
    (kp_M : PySem.W.keepIn K (.ref C_NoNumber) = true)
    (tf_M : PySem.W.typeIn K (.ref f_NoNumber_init) = some (.type "function"))
    (nf_M : PySem.W.findIn K (.ref C_NoNumber) "found" = some none)
    (hg_M : PySem.W.findIn K (.ref C_NoNumber) "__getattribute__" = some (some (.builtin "BaseException.__getattribute__")))
    (hk_M : PySem.W.findIn K (.ref C_NoNumber) "__getattr__" = some none)
    (hd_M : PySem.W.hasDictIn K C_NoNumber = true)
    (ha_M : PySem.W.findIn K (.ref C_NoNumber) "__class__" = some (some (.builtin "object.__class__")))
    (hm_M : PySem.W.mroIn K C_NoNumber (.type "object") = some true)
    (xL_O : K.lookup C_NoOp = some (excClassObj nmO qO C_NoOp NO bsO [.ref C_GuestError, .type "ValueError", .type "Exception", .type "BaseException", .type "object"] true snO subO abO colO ddO wO0 wO1 wO2 wO3 wO5 "ValueError.__new__"))
    (sa_O : PySem.W.findIn K (.ref C_NoOp) "__setattr__" = some (some (.builtin "object.__setattr__")))
    (ex_O : PySem.W.subIn K (.ref C_NoOp) (.type "BaseException") = some true)
    (ty_O : PySem.W.typeIn K (.ref C_NoOp) = some (.type "type"))
    (kp_O : PySem.W.keepIn K (.ref C_NoOp) = true)
    (tf_O : PySem.W.typeIn K (.ref f_NoOp_init) = some (.type "function"))
    (nf_O : PySem.W.findIn K (.ref C_NoOp) "found" = some none)
    (hg_O : PySem.W.findIn K (.ref C_NoOp) "__getattribute__" = some (some (.builtin "BaseException.__getattribute__")))
    (hk_O : PySem.W.findIn K (.ref C_NoOp) "__getattr__" = some none)
    (hd_O : PySem.W.hasDictIn K C_NoOp = true)
    (ha_O : PySem.W.findIn K (.ref C_NoOp) "__class__" = some (some (.builtin "object.__class__")))
    (hm_O : PySem.W.mroIn K C_NoOp (.type "object") = some true)
    (xL_T : K.lookup C_NoTruth = some (excClassObj nmT qT C_NoTruth NT bsT [.ref C_GuestError, .type "ValueError", .type "Exception", .type "BaseException", .type "object"] true snT subT abT colT ddT wT0 wT1 wT2 wT3 wT5 "ValueError.__new__"))
    (sa_T : PySem.W.findIn K (.ref C_NoTruth) "__setattr__" = some (some (.builtin "object.__setattr__")))
    (ex_T : PySem.W.subIn K (.ref C_NoTruth) (.type "BaseException") = some true)
    (ty_T : PySem.W.typeIn K (.ref C_NoTruth) = some (.type "type"))
    (kp_T : PySem.W.keepIn K (.ref C_NoTruth) = true)
    (tf_T : PySem.W.typeIn K (.ref f_NoTruth_init) = some (.type "function"))
    (nf_T : PySem.W.findIn K (.ref C_NoTruth) "found" = some none)
    (hg_T : PySem.W.findIn K (.ref C_NoTruth) "__getattribute__" = some (some (.builtin "BaseException.__getattribute__")))
    (hk_T : PySem.W.findIn K (.ref C_NoTruth) "__getattr__" = some none)
    (hd_T : PySem.W.hasDictIn K C_NoTruth = true)
    (ha_T : PySem.W.findIn K (.ref C_NoTruth) "__class__" = some (some (.builtin "object.__class__")))
    (hm_T : PySem.W.mroIn K C_NoTruth (.type "object") = some true)
    (xL_R : K.lookup C_NoRow = some (excClassObj nmR qR C_NoRow NR bsR [.ref C_GuestError, .type "ValueError", .type "Exception", .type "BaseException", .type "object"] true snR subR abR colR ddR wR0 wR1 wR2 wR3 wR5 "ValueError.__new__"))
    (sa_R : PySem.W.findIn K (.ref C_NoRow) "__setattr__" = some (some (.builtin "object.__setattr__")))
    (ex_R : PySem.W.subIn K (.ref C_NoRow) (.type "BaseException") = some true)
    (ty_R : PySem.W.typeIn K (.ref C_NoRow) = some (.type "type"))
    (kp_R : PySem.W.keepIn K (.ref C_NoRow) = true)
    (tf_R : PySem.W.typeIn K (.ref f_NoRow_init) = some (.type "function"))
    (nf_R : PySem.W.findIn K (.ref C_NoRow) "at" = some none)
    (hg_R : PySem.W.findIn K (.ref C_NoRow) "__getattribute__" = some (some (.builtin "BaseException.__getattribute__")))
    (hk_R : PySem.W.findIn K (.ref C_NoRow) "__getattr__" = some none)
    (hd_R : PySem.W.hasDictIn K C_NoRow = true)
    (ha_R : PySem.W.findIn K (.ref C_NoRow) "__class__" = some (some (.builtin "object.__class__")))
    (hm_R : PySem.W.mroIn K C_NoRow (.type "object") = some true)
    (xL_X : K.lookup C_NoText = some (excClassObj nmX qX C_NoText NX bsX [.ref C_GuestError, .type "ValueError", .type "Exception", .type "BaseException", .type "object"] true snX subX abX colX ddX wX0 wX1 wX2 wX3 wX5 "ValueError.__new__"))
    (sa_X : PySem.W.findIn K (.ref C_NoText) "__setattr__" = some (some (.builtin "object.__setattr__")))
    (ex_X : PySem.W.subIn K (.ref C_NoText) (.type "BaseException") = some true)
    (ty_X : PySem.W.typeIn K (.ref C_NoText) = some (.type "type"))
    (kp_X : PySem.W.keepIn K (.ref C_NoText) = true)
    (tf_X : PySem.W.typeIn K (.ref f_NoText_init) = some (.type "function"))
    (nf_X : PySem.W.findIn K (.ref C_NoText) "found" = some none)
    (hg_X : PySem.W.findIn K (.ref C_NoText) "__getattribute__" = some (some (.builtin "BaseException.__getattribute__")))
    (hk_X : PySem.W.findIn K (.ref C_NoText) "__getattr__" = some none)
    (hd_X : PySem.W.hasDictIn K C_NoText = true)
    (ha_X : PySem.W.findIn K (.ref C_NoText) "__class__" = some (some (.builtin "object.__class__")))
    (hm_X : PySem.W.mroIn K C_NoText (.type "object") = some true)
    (s_M_M : PySem.W.subIn K (.ref C_NoNumber) (.ref C_NoNumber) = some true)
    (s_O_M : PySem.W.subIn K (.ref C_NoOp) (.ref C_NoNumber) = some false)
    (s_O_O : PySem.W.subIn K (.ref C_NoOp) (.ref C_NoOp) = some true)
    (s_T_M : PySem.W.subIn K (.ref C_NoTruth) (.ref C_NoNumber) = some false)
    (s_T_O : PySem.W.subIn K (.ref C_NoTruth) (.ref C_NoOp) = some false)
    (s_T_T : PySem.W.subIn K (.ref C_NoTruth) (.ref C_NoTruth) = some true)
    (s_R_M : PySem.W.subIn K (.ref C_NoRow) (.ref C_NoNumber) = some false)
    (s_R_O : PySem.W.subIn K (.ref C_NoRow) (.ref C_NoOp) = some false)
    (s_R_T : PySem.W.subIn K (.ref C_NoRow) (.ref C_NoTruth) = some false)
    (s_R_R : PySem.W.subIn K (.ref C_NoRow) (.ref C_NoRow) = some true)
    (s_X_M : PySem.W.subIn K (.ref C_NoText) (.ref C_NoNumber) = some false)
    (s_X_O : PySem.W.subIn K (.ref C_NoText) (.ref C_NoOp) = some false)
    (s_X_T : PySem.W.subIn K (.ref C_NoText) (.ref C_NoTruth) = some false)
    (s_X_R : PySem.W.subIn K (.ref C_NoText) (.ref C_NoRow) = some false)
    (s_X_X : PySem.W.subIn K (.ref C_NoText) (.ref C_NoText) = some true)
    (hn : PySem.W.specialIn K (.builtin "object.__class__") "__get__" = some (some (.builtin "getset_descriptor.__get__")))
    (htk : PySem.W.takesIn K (.builtin "object.__class__") = some true)
    (ul : RelV (.int 0) u_number_in_least)
    (um : RelV (.int 4095) u_number_in_most)
    (uf : RelV (.int 0) u_cut_rows_first)
    (uw : RelV (.bl false) u_entry_write)
    (z_isinstance : PySem.W.nsIn K mainGlobals "isinstance" = some none)
    (z_int : PySem.W.nsIn K mainGlobals "int" = some none)
    (z_bool : PySem.W.nsIn K mainGlobals "bool" = some none)
    (z_str : PySem.W.nsIn K mainGlobals "str" = some none)
    (z_list : PySem.W.nsIn K mainGlobals "list" = some none)
    (z_tuple : PySem.W.nsIn K mainGlobals "tuple" = some none)
    (z_len : PySem.W.nsIn K mainGlobals "len" = some none)
    (z_max : PySem.W.nsIn K mainGlobals "max" = some none)
    (z_min : PySem.W.nsIn K mainGlobals "min" = some none)
    (z_range : PySem.W.nsIn K mainGlobals "range" = some none)
    (z_all : PySem.W.nsIn K mainGlobals "all" = some none)
    (z_enumerate : PySem.W.nsIn K mainGlobals "enumerate" = some none)
    (z_repr : PySem.W.nsIn K mainGlobals "repr" = some none)
    (z_ValueError : PySem.W.nsIn K mainGlobals "ValueError" = some none) :
    ∃ fd : FuncData, (∀ (s : Shared) (v : Value), BindsTo s fd ⟨[v], []⟩ [("_law_script", v)]) ∧ ∀ base : Heap, K.In base → base.Ns mainGlobals mg → FnG l.prog w K mg base CX0 11 fa fd ["_law_script"] (spLaw K) := by
  have e := hfa.symm.trans (PySem.W.mg_of X G a_law)
  cases e
  have mo : ∀ {x : Str} {u : Value}, PySem.W.nsIn K mainGlobals x = some (some u) → mg x = some u := fun q => PySem.W.mg_of X G q
  have mz : ∀ {x : Str}, PySem.W.nsIn K mainGlobals x = some none → mg x = none := fun q => PySem.W.mg_none_of X G q
  have F_GuestError_init := fun_mk (st := s_GuestError_init) l_GuestError_init c_GuestError_init k_GuestError_init
  have b_GuestError_init := F_GuestError_init.binds (ps := ["self", "text"]) fun _ _ _ _ _ _ us hl => match us, hl with | [_, _], _ => rfl
  have F_Missing_init := fun_mk (st := s_Missing_init) l_Missing_init c_Missing_init k_Missing_init
  have b_Missing_init := F_Missing_init.binds (ps := ["self", "text"]) fun _ _ _ _ _ _ us hl => match us, hl with | [_, _], _ => rfl
  have F_Barred_init := fun_mk (st := s_Barred_init) l_Barred_init c_Barred_init k_Barred_init
  have b_Barred_init := F_Barred_init.binds (ps := ["self", "text"]) fun _ _ _ _ _ _ us hl => match us, hl with | [_, _], _ => rfl
  have F_NoNumber_init := fun_mk (st := s_NoNumber_init) l_NoNumber_init c_NoNumber_init k_NoNumber_init
  have b_NoNumber_init := F_NoNumber_init.binds (ps := ["self", "found"]) fun _ _ _ _ _ _ us hl => match us, hl with | [_, _], _ => rfl
  have F_NoOp_init := fun_mk (st := s_NoOp_init) l_NoOp_init c_NoOp_init k_NoOp_init
  have b_NoOp_init := F_NoOp_init.binds (ps := ["self", "found"]) fun _ _ _ _ _ _ us hl => match us, hl with | [_, _], _ => rfl
  have F_NoTruth_init := fun_mk (st := s_NoTruth_init) l_NoTruth_init c_NoTruth_init k_NoTruth_init
  have b_NoTruth_init := F_NoTruth_init.binds (ps := ["self", "found"]) fun _ _ _ _ _ _ us hl => match us, hl with | [_, _], _ => rfl
  have F_NoText_init := fun_mk (st := s_NoText_init) l_NoText_init c_NoText_init k_NoText_init
  have b_NoText_init := F_NoText_init.binds (ps := ["self", "found"]) fun _ _ _ _ _ _ us hl => match us, hl with | [_, _], _ => rfl
  have F_NoRow_init := fun_mk (st := s_NoRow_init) l_NoRow_init c_NoRow_init k_NoRow_init
  have b_NoRow_init := F_NoRow_init.binds (ps := ["self", "at"]) fun _ _ _ _ _ _ us hl => match us, hl with | [_, _], _ => rfl
  have F_is_whole := fun_mk (st := s_is_whole) l_is_whole c_is_whole k_is_whole
  have b_is_whole := F_is_whole.binds (ps := ["thing", "low", "high"]) fun _ _ _ _ _ _ us hl => match us, hl with | [_, _, _], _ => rfl
  have F_written := fun_mk (st := s_written) l_written c_written k_written
  have b_written := F_written.binds (ps := ["thing", "figures"]) fun _ _ _ _ _ _ us hl => match us, hl with | [_, _], _ => rfl
  have F_all_within := fun_mk (st := s_all_within) l_all_within c_all_within k_all_within
  have b_all_within := F_all_within.binds (ps := ["text", "first", "last"]) fun _ _ _ _ _ _ us hl => match us, hl with | [_, _, _], _ => rfl
  have F_check_number := fun_mk (st := s_check_number) l_check_number c_check_number k_check_number
  have b_check_number := F_check_number.binds (ps := ["thing", "low", "high"]) fun _ _ _ _ _ _ us hl => match us, hl with | [_, _, _], _ => rfl
  have F_code := fun_mk (st := s_code) l_code c_code k_code
  have b_code := F_code.binds (ps := ["op", "which", "rest"]) fun _ _ _ _ _ _ us hl => match us, hl with | [_, _, _], _ => rfl
  have F_op_of := fun_mk (st := s_op_of) l_op_of c_op_of k_op_of
  have b_op_of := F_op_of.binds (ps := ["name"]) fun _ _ _ _ _ _ us hl => match us, hl with | [_], _ => rfl
  have F_read_image := fun_mk (st := s_read_image) l_read_image c_read_image k_read_image
  have b_read_image := F_read_image.binds (ps := ["text"]) fun _ _ _ _ _ _ us hl => match us, hl with | [_], _ => rfl
  have F_image_in := fun_mk (st := s_image_in) l_image_in c_image_in k_image_in
  have b_image_in := F_image_in.binds (ps := ["rows"]) fun _ _ _ _ _ _ us hl => match us, hl with | [_], _ => rfl
  have F_filled := fun_mk (st := s_filled) l_filled c_filled k_filled
  have b_filled := F_filled.binds (ps := ["told"]) fun _ _ _ _ _ _ us hl => match us, hl with | [_], _ => rfl
  have F_number_begun := fun_mk (st := s_number_begun) l_number_begun c_number_begun k_number_begun
  have b_number_begun := F_number_begun.binds (ps := ["parts"]) fun _ _ _ _ _ _ us hl => match us, hl with | [_], _ => rfl
  have F_word_in := fun_mk (st := s_word_in) l_word_in c_word_in k_word_in
  have b_word_in := F_word_in.binds (ps := ["parts"]) fun _ _ _ _ _ _ us hl => match us, hl with | [_], _ => rfl
  have F_entry_in := fun_mk (st := s_entry_in) l_entry_in c_entry_in k_entry_in
  have b_entry_in := F_entry_in.binds (ps := ["parts"]) fun _ _ _ _ _ _ us hl => match us, hl with | [_], _ => rfl
  have F_code_in := fun_mk (st := s_code_in) l_code_in c_code_in k_code_in
  have b_code_in := F_code_in.binds (ps := ["parts"]) fun _ _ _ _ _ _ us hl => match us, hl with | [_], _ => rfl
  have F_cell_L := fun_mk (st := s_cell_L) l_cell_L c_cell_L k_cell_L
  have b_cell_L := F_cell_L.binds (ps := ["_law_script", "_law_k"]) fun _ _ _ _ _ _ us hl => match us, hl with | [_, _], _ => rfl
  have F_box_L := fun_mk (st := s_box_L) l_box_L c_box_L k_box_L
  have b_box_L := F_box_L.binds (ps := ["_law_cell_here"]) fun _ _ _ _ _ _ us hl => match us, hl with | [_], _ => rfl
  have F_take_L := fun_mk (st := s_take_L) l_take_L c_take_L k_take_L
  have b_take_L := F_take_L.binds (ps := ["_law_box_here", "_law_many"]) fun _ _ _ _ _ _ us hl => match us, hl with | [_, _], _ => rfl
  have F_ops_L := fun_mk (st := s_ops_L) l_ops_L c_ops_L k_ops_L
  have b_ops_L := F_ops_L.binds (ps := []) fun _ _ _ _ _ _ us hl => match us, hl with | [], _ => rfl
  have F_drawn_row_L := fun_mk (st := s_drawn_row_L) l_drawn_row_L c_drawn_row_L k_drawn_row_L
  have b_drawn_row_L := F_drawn_row_L.binds (ps := ["_law_box_here"]) fun _ _ _ _ _ _ us hl => match us, hl with | [_], _ => rfl
  have F_other_word_L := fun_mk (st := s_other_word_L) l_other_word_L c_other_word_L k_other_word_L
  have b_other_word_L := F_other_word_L.binds (ps := ["_law_box_here", "_law_words"]) fun _ _ _ _ _ _ us hl => match us, hl with | [_, _], _ => rfl
  have F_sign_L := fun_mk (st := s_sign_L) l_sign_L c_sign_L k_sign_L
  have b_sign_L := F_sign_L.binds (ps := ["_law_box_here"]) fun _ _ _ _ _ _ us hl => match us, hl with | [_], _ => rfl
  have F_bent_L := fun_mk (st := s_bent_L) l_bent_L c_bent_L k_bent_L
  have b_bent_L := F_bent_L.binds (ps := ["_law_box_here", "_law_rows"]) fun _ _ _ _ _ _ us hl => match us, hl with | [_, _], _ => rfl
  have F_plain_L := fun_mk (st := s_plain_L) l_plain_L c_plain_L k_plain_L
  have b_plain_L := F_plain_L.binds (ps := ["_law_word_here", "_law_most"]) fun _ _ _ _ _ _ us hl => match us, hl with | [_, _], _ => rfl
  have F_word_L := fun_mk (st := s_word_L) l_word_L c_word_L k_word_L
  have b_word_L := F_word_L.binds (ps := ["_law_words"]) fun _ _ _ _ _ _ us hl => match us, hl with | [_], _ => rfl
  have F_due_L := fun_mk (st := s_due_L) l_due_L c_due_L k_due_L
  have b_due_L := F_due_L.binds (ps := ["_law_text"]) fun _ _ _ _ _ _ us hl => match us, hl with | [_], _ => rfl
  have F_told_L := fun_mk (st := s_told_L) l_told_L c_told_L k_told_L
  have b_told_L := F_told_L.binds (ps := ["_law_text"]) fun _ _ _ _ _ _ us hl => match us, hl with | [_], _ => rfl
  have F_law := fun_mk (st := s_law) l_law c_law k_law
  have oex : ∀ {b : Bs} {C : Addr} {nm q : Str} {N : Addr} {bs bm : List Value} {sn : List Str} {sub : List Value} {ab : Bool} {col : Option Bool} {dd : Option Addr} {k0 k1 k2 k3 k5 : Option Value}, K.lookup C = some (excClassObj nm q C N bs bm true sn sub ab col dd k0 k1 k2 k3 k5 b.new) → Tail b bm →
      PySem.W.findIn K (.ref C) "__setattr__" = some (some (.builtin "object.__setattr__")) → PySem.W.subIn K (.ref C) (.type "BaseException") = some true → PySem.W.typeIn K (.ref C) = some (.type "type") → PySem.W.keepIn K (.ref C) = true → OexT K b C :=
    fun l t a b c d => ⟨⟨_, _, _, _, _, _, _, _, _, _, _, _, _, _, _, l, t⟩, a, b, c, d⟩
  have T : Txt K mg { CG := C_GuestError, fG := f_GuestError_init, aOPS := aOPS, CM := C_NoNumber, fM := f_NoNumber_init, CO := C_NoOp, fO := f_NoOp_init, CT := C_NoTruth, fT := f_NoTruth_init, CX := C_NoText, fX := f_NoText_init, CR := C_NoRow, fR := f_NoRow_init } :=
    { m_isinstance := mz z_isinstance, m_int := mz z_int, m_bool := mz z_bool, m_str := mz z_str, m_list := mz z_list, m_tuple := mz z_tuple, m_len := mz z_len, m_max := mz z_max, m_min := mz z_min, m_range := mz z_range, m_all := mz z_all, m_enumerate := mz z_enumerate, m_repr := mz z_repr, m_ValueError := mz z_ValueError,
      c_SHORT := ⟨_, mo cSHORT, ⟨_, rfl⟩⟩, c_EIGHT := ⟨_, mo cEIGHT, ⟨_, rfl⟩⟩, c_LAST := ⟨_, mo cLAST, ⟨_, rfl⟩⟩,
      c_OPS := ⟨_, mo cOPS, rfl⟩, ops := fun H => .inr ⟨_, _, _, lOPS, rfl, rfl, (by show (16 : Nat) ≤ sizeLine; decide), .cons ⟨_, rfl⟩ (.cons ⟨_, rfl⟩ (.cons ⟨_, rfl⟩ (.cons ⟨_, rfl⟩ (.cons ⟨_, rfl⟩ (.cons ⟨_, rfl⟩ (.cons ⟨_, rfl⟩ (.cons ⟨_, rfl⟩ (.cons ⟨_, rfl⟩ (.cons ⟨_, rfl⟩ (.cons ⟨_, rfl⟩ (.cons ⟨_, rfl⟩ (.cons ⟨_, rfl⟩ (.cons ⟨_, rfl⟩ (.cons ⟨_, rfl⟩ (.cons ⟨_, rfl⟩ (.nil))))))))))))))))⟩,
      g_GuestError := mo aC_GuestError, rd_GuestError := rd_GuestError, ga_GuestError := ga_GuestError, at_GuestError := at_GuestError, vV := v_ValueError,
      g_NoNumber := mo aC_NoNumber, g_NoOp := mo aC_NoOp, g_NoTruth := mo aC_NoTruth, g_NoText := mo aC_NoText, g_NoRow := mo aC_NoRow,
      xM := ⟨oex (b := .ve) xL_M (.own _ .here) sa_M ex_M ty_M kp_M, a_NoNumber_init, tf_M, nf_M, ⟨hg_M, hk_M, ex_M, hd_M⟩, ⟨hg_M, hk_M, ex_M, hd_M, ha_M, hn, htk, hm_M⟩⟩,
      xO := ⟨oex (b := .ve) xL_O (.own _ .here) sa_O ex_O ty_O kp_O, a_NoOp_init, tf_O, nf_O, ⟨hg_O, hk_O, ex_O, hd_O⟩, ⟨hg_O, hk_O, ex_O, hd_O, ha_O, hn, htk, hm_O⟩⟩,
      xT := ⟨oex (b := .ve) xL_T (.own _ .here) sa_T ex_T ty_T kp_T, a_NoTruth_init, tf_T, nf_T, ⟨hg_T, hk_T, ex_T, hd_T⟩, ⟨hg_T, hk_T, ex_T, hd_T, ha_T, hn, htk, hm_T⟩⟩,
      xX := ⟨oex (b := .ve) xL_X (.own _ .here) sa_X ex_X ty_X kp_X, a_NoText_init, tf_X, nf_X, ⟨hg_X, hk_X, ex_X, hd_X⟩, ⟨hg_X, hk_X, ex_X, hd_X, ha_X, hn, htk, hm_X⟩⟩,
      xR := ⟨oex (b := .ve) xL_R (.own _ .here) sa_R ex_R ty_R kp_R, a_NoRow_init, tf_R, nf_R, ⟨hg_R, hk_R, ex_R, hd_R⟩, ⟨hg_R, hk_R, ex_R, hd_R, ha_R, hn, htk, hm_R⟩⟩,
      eRR := PySem.W.exm_ref ex_R hd_R ty_R s_R_R, eXR := PySem.W.exm_ref ex_R hd_R ty_R s_X_R, eXX := PySem.W.exm_ref ex_X hd_X ty_X s_X_X }
  have D_n : FunD K "number_in" "number_in" (defArgs s_number_in) (defBody s_number_in) (defScope s_number_in) [] [("least", .int 0), ("most", .int 4095)] f_number_in _ := ⟨⟨_, _, _, _, _, _, _, _, _, _, rfl, l_number_in, c_number_in, .inl ⟨rfl, rfl⟩, .inr ⟨D_number_in, rfl, fun q hq => by
    rcases List.mem_cons.mp hq with e | hq
    · subst e; exact ⟨_, kd_number_in_least, ul⟩
    · rcases List.mem_cons.mp hq with e | hq
      · subst e; exact ⟨_, kd_number_in_most, um⟩
      · cases hq⟩⟩, k_number_in⟩
  have D_c : FunD K "cut_rows" "cut_rows" (defArgs s_cut_rows) (defBody s_cut_rows) (defScope s_cut_rows) [] [("first", .int 0)] f_cut_rows _ := ⟨⟨_, _, _, _, _, _, _, _, _, _, rfl, l_cut_rows, c_cut_rows, .inl ⟨rfl, rfl⟩, .inr ⟨D_cut_rows, rfl, fun q hq => by
    rcases List.mem_cons.mp hq with e | hq
    · subst e; exact ⟨_, kd_cut_rows_first, uf⟩
    · cases hq⟩⟩, k_cut_rows⟩
  have D_e : FunD K "entry" "entry" (defArgs s_entry) (defBody s_entry) (defScope s_entry) [] [("write", .bl false)] f_entry _ := ⟨⟨_, _, _, _, _, _, _, _, _, _, rfl, l_entry, c_entry, .inl ⟨rfl, rfl⟩, .inr ⟨D_entry, rfl, fun q hq => by
    rcases List.mem_cons.mp hq with e | hq
    · subst e; exact ⟨_, kd_entry_write, uw⟩
    · cases hq⟩⟩, k_entry⟩
  refine ⟨PySem.W.fnOf "law" "law" (defArgs s_law) (defBody s_law) (defScope s_law) .none kV_law dc_law pm_law an_law cd_law ct_law, fun s v => .of_eq rfl, fun base _ _ => ?_⟩
  have c_cell := CalD.mk' (P := l.prog) (w := w) (base := base) (mo a_cell_L) k_cell_L (ok_cell F_cell_L T) b_cell_L
  have c_box := CalD.mk' (P := l.prog) (w := w) (base := base) (mo a_box_L) k_box_L (ok_box F_box_L T) b_box_L
  have c_take := CalD.mk' (P := l.prog) (w := w) (base := base) (mo a_take_L) k_take_L (ok_take F_take_L T) b_take_L
  have o_GE : Own l.prog w K mg base CX0 1 f_GuestError_init _ ["self", "text"] (spGT K .ve) := ⟨ok_GE F_GuestError_init T, b_GuestError_init, k_GuestError_init⟩
  have o_M : Own l.prog w K mg base CX0 2 f_NoNumber_init _ ["self", "found"] (spInitN "found" C_NoNumber) := ⟨ok_iM F_NoNumber_init T o_GE, b_NoNumber_init, k_NoNumber_init⟩
  have o_O : Own l.prog w K mg base CX0 2 f_NoOp_init _ ["self", "found"] (spInitN "found" C_NoOp) := ⟨ok_iO F_NoOp_init T o_GE, b_NoOp_init, k_NoOp_init⟩
  have o_T : Own l.prog w K mg base CX0 2 f_NoTruth_init _ ["self", "found"] (spInitN "found" C_NoTruth) := ⟨ok_iT F_NoTruth_init T o_GE, b_NoTruth_init, k_NoTruth_init⟩
  have o_X : Own l.prog w K mg base CX0 2 f_NoText_init _ ["self", "found"] (spInitN "found" C_NoText) := ⟨ok_iX F_NoText_init T o_GE, b_NoText_init, k_NoText_init⟩
  have o_R : Own l.prog w K mg base CX0 2 f_NoRow_init _ ["self", "at"] (spInitN "at" C_NoRow) := ⟨ok_iR F_NoRow_init T o_GE, b_NoRow_init, k_NoRow_init⟩
  have c_wh := CalD.mk' (P := l.prog) (w := w) (base := base) (mo a_is_whole) k_is_whole (ok_whole F_is_whole T) b_is_whole
  have c_ck := CalX.mk' (P := l.prog) (w := w) (base := base) (mo a_check_number) k_check_number (ok_cknum F_check_number T c_wh o_M) b_check_number
  have c_aw := CalD.mk' (P := l.prog) (w := w) (base := base) (mo a_all_within) k_all_within (ok_allW F_all_within T) b_all_within
  have c_wn := CalD.mk' (P := l.prog) (w := w) (base := base) (mo a_written) k_written (ok_wr F_written T c_aw) b_written
  have f_nu := ok_num (P := l.prog) (w := w) (base := base) (D := D_number_in) D_n T c_wn
  have c_nu : CalD l.prog w K mg base CX0 3 "number_in" spNum [.int 0, .int 4095] := by
    obtain ⟨ds, v, b⟩ := D_n.binds0 (ps := ["thing", "least", "most"]) 1 (by simp) rfl fun _ _ _ _ _ _ us ks h1 h2 => num_chain0 h1 h2
    exact ⟨_, _, _, ds, mo a_number_in, k_number_in, f_nu, b, v⟩
  have k_nu : CalN l.prog w K mg base CX0 3 1 ["most"] "number_in" spNum (fun vs zs => vs ++ [.int 0] ++ zs) := by
    obtain ⟨mv, b⟩ := kbinds0 (ps := ["thing", "least", "most"]) D_n 1 ["most"] [("least", .int 0)] (fun us ms ws => us ++ ms ++ ws) (by simp) (by simp) (fun a b c => (a.append b).append c) fun _ _ _ _ _ _ us mv ws h1 h2 h3 => num_chain1 h1 h2 h3
    exact CalN.mk' (mo a_number_in) k_number_in f_nu b
  have c_co := CalX.mk' (P := l.prog) (w := w) (base := base) (mo a_code) k_code (ok_code F_code T c_ck) b_code
  have c_op := CalX.mk' (P := l.prog) (w := w) (base := base) (mo a_op_of) k_op_of (ok_opof F_op_of T o_O) b_op_of
  have f_en := ok_entry (P := l.prog) (w := w) (base := base) D_e T c_ck o_T
  have m_en : CalMX l.prog w K mg base 5 1 ["write"] "entry" spEntry (fun vs zs => vs ++ zs) := by
    obtain ⟨mv, b⟩ := kbinds0 (ps := ["room", "write"]) D_e 1 ["write"] [] (fun us _ ws => us ++ ws) (by simp) (by simp) (fun a b c => a.append c) fun _ _ _ _ _ _ us mv ws h1 h2 h3 => entry_chain1 h1 h2 h3
    exact CalMX.mk' (mo a_entry) k_entry f_en b
  have c_bg := CalD.mk' (P := l.prog) (w := w) (base := base) (mo a_number_begun) k_number_begun (ok_begun F_number_begun T k_nu) b_number_begun
  have c_ei := CalD.mk' (P := l.prog) (w := w) (base := base) (mo a_entry_in) k_entry_in (ok_entryin F_entry_in T k_nu m_en) b_entry_in
  have c_ci := CalD.mk' (P := l.prog) (w := w) (base := base) (mo a_code_in) k_code_in (ok_codein F_code_in T k_nu c_co c_op) b_code_in
  have c_wi := CalD.mk' (P := l.prog) (w := w) (base := base) (mo a_word_in) k_word_in (ok_wordin F_word_in T c_ei c_nu c_ci) b_word_in
  have c_fi := CalD.mk' (P := l.prog) (w := w) (base := base) (mo a_filled) k_filled (ok_filled F_filled T) b_filled
  have f_cu := ok_cut (P := l.prog) (w := w) (base := base) D_c T
  have c_cu : CalD l.prog w K mg base CX0 1 "cut_rows" spCut [.int 0] := by
    obtain ⟨ds, v, b⟩ := D_c.binds0 (ps := ["rows", "first"]) 1 (by simp) rfl fun _ _ _ _ _ _ us ks h1 h2 => cut_chain0 h1 h2
    exact ⟨_, _, _, ds, mo a_cut_rows, k_cut_rows, f_cu, b, v⟩
  have c_im := CalX.mk' (P := l.prog) (w := w) (base := base) (mo a_image_in) k_image_in (ok_image F_image_in T c_bg c_wi c_fi o_R) b_image_in
  have c_rd := CalX.mk' (P := l.prog) (w := w) (base := base) (mo a_read_image) k_read_image (ok_read F_read_image T c_cu c_im o_X) b_read_image
  have c_to := CalD.mk' (P := l.prog) (w := w) (base := base) (mo a_told_L) k_told_L (ok_told F_told_L T c_rd) b_told_L
  have c_ol := CalD.mk' (P := l.prog) (w := w) (base := base) (mo a_ops_L) k_ops_L (ok_opsL F_ops_L T) b_ops_L
  have c_pl := CalD.mk' (P := l.prog) (w := w) (base := base) (mo a_plain_L) k_plain_L (ok_plain F_plain_L T) b_plain_L
  have c_wo := CalD.mk' (P := l.prog) (w := w) (base := base) (mo a_word_L) k_word_L (ok_wordL F_word_L T c_ol c_pl) b_word_L
  have c_du := CalD.mk' (P := l.prog) (w := w) (base := base) (mo a_due_L) k_due_L (ok_due F_due_L T c_pl c_wo) b_due_L
  have c_sg := CalD.mk' (P := l.prog) (w := w) (base := base) (mo a_sign_L) k_sign_L (ok_sign F_sign_L T c_take) b_sign_L
  have c_dr := CalD.mk' (P := l.prog) (w := w) (base := base) (mo a_drawn_row_L) k_drawn_row_L (ok_drawn F_drawn_row_L T c_take c_ol) b_drawn_row_L
  have c_ow := CalD.mk' (P := l.prog) (w := w) (base := base) (mo a_other_word_L) k_other_word_L (ok_other F_other_word_L T c_take) b_other_word_L
  have c_be := CalD.mk' (P := l.prog) (w := w) (base := base) (mo a_bent_L) k_bent_L (ok_bent F_bent_L T c_take c_sg c_ow) b_bent_L
  exact ok_law F_law T c_cell c_box c_take c_dr c_be c_to c_du
end K06
open PySem PySem.W PyProof.Rows
set_option maxHeartbeats 0 in
theorem PySem.Challenge.cw_guestsalone_k06_image_texts_refused_holds : PySem.Challenge.rw_guestsalone_k06_image_texts_refused.Holds := by
  w_on; o_law; k_head; (case hw => w_witness2)
  k_fill
  refine Bk.walk_ofG (l := PySem.Challenge.rw_guestsalone_k06_image_texts_refused) (n := 63) (k := 11) (x := "_law_script") (sp := fun w => K06.spLaw _) rfl (by decide) rfl ⟨rfl, by decide, by decide⟩ (fun w h Y => PySem.W.kIn_of Y) ?F (fun _ _ a ns hl _ hS => ⟨a, ns, rfl, hS, hl, fun _ => rfl⟩)
  case F =>
    intro w mg fa h KX G hmg
    refine' K06.all_mk KX G hmg ?aC_GuestError ?aC_Missing ?aC_Barred ?aC_NoNumber ?aC_NoOp ?aC_NoTruth ?aC_NoText ?aC_NoRow ?a_GuestError_init ?l_GuestError_init ?c_GuestError_init ?k_GuestError_init ?a_Missing_init ?l_Missing_init ?c_Missing_init ?k_Missing_init ?a_Barred_init ?l_Barred_init ?c_Barred_init ?k_Barred_init ?a_NoNumber_init ?l_NoNumber_init ?c_NoNumber_init ?k_NoNumber_init ?a_NoOp_init ?l_NoOp_init ?c_NoOp_init ?k_NoOp_init ?a_NoTruth_init ?l_NoTruth_init ?c_NoTruth_init ?k_NoTruth_init ?a_NoText_init ?l_NoText_init ?c_NoText_init ?k_NoText_init ?a_NoRow_init ?l_NoRow_init ?c_NoRow_init ?k_NoRow_init ?a_is_whole ?l_is_whole ?c_is_whole ?k_is_whole ?a_number_in ?l_number_in ?c_number_in ?k_number_in ?kd_number_in_least ?kd_number_in_most ?a_written ?l_written ?c_written ?k_written ?a_all_within ?l_all_within ?c_all_within ?k_all_within ?a_check_number ?l_check_number ?c_check_number ?k_check_number ?a_code ?l_code ?c_code ?k_code ?a_op_of ?l_op_of ?c_op_of ?k_op_of ?a_entry ?l_entry ?c_entry ?k_entry ?kd_entry_write ?a_read_image ?l_read_image ?c_read_image ?k_read_image ?a_cut_rows ?l_cut_rows ?c_cut_rows ?k_cut_rows ?kd_cut_rows_first ?a_image_in ?l_image_in ?c_image_in ?k_image_in ?a_filled ?l_filled ?c_filled ?k_filled ?a_number_begun ?l_number_begun ?c_number_begun ?k_number_begun ?a_word_in ?l_word_in ?c_word_in ?k_word_in ?a_entry_in ?l_entry_in ?c_entry_in ?k_entry_in ?a_code_in ?l_code_in ?c_code_in ?k_code_in ?a_cell_L ?l_cell_L ?c_cell_L ?k_cell_L ?a_box_L ?l_box_L ?c_box_L ?k_box_L ?a_take_L ?l_take_L ?c_take_L ?k_take_L ?a_ops_L ?l_ops_L ?c_ops_L ?k_ops_L ?a_drawn_row_L ?l_drawn_row_L ?c_drawn_row_L ?k_drawn_row_L ?a_other_word_L ?l_other_word_L ?c_other_word_L ?k_other_word_L ?a_sign_L ?l_sign_L ?c_sign_L ?k_sign_L ?a_bent_L ?l_bent_L ?c_bent_L ?k_bent_L ?a_plain_L ?l_plain_L ?c_plain_L ?k_plain_L ?a_word_L ?l_word_L ?c_word_L ?k_word_L ?a_due_L ?l_due_L ?c_due_L ?k_due_L ?a_told_L ?l_told_L ?c_told_L ?k_told_L ?a_law ?l_law ?c_law ?k_law ?cSHORT ?cEIGHT ?cLAST ?cOPS ?lOPS ?rd_GuestError ?ga_GuestError ?at_GuestError ?v_ValueError ?xL_M ?sa_M ?ex_M ?ty_M ?kp_M ?tf_M ?nf_M ?hg_M ?hk_M ?hd_M ?ha_M ?hm_M ?xL_O ?sa_O ?ex_O ?ty_O ?kp_O ?tf_O ?nf_O ?hg_O ?hk_O ?hd_O ?ha_O ?hm_O ?xL_T ?sa_T ?ex_T ?ty_T ?kp_T ?tf_T ?nf_T ?hg_T ?hk_T ?hd_T ?ha_T ?hm_T ?xL_R ?sa_R ?ex_R ?ty_R ?kp_R ?tf_R ?nf_R ?hg_R ?hk_R ?hd_R ?ha_R ?hm_R ?xL_X ?sa_X ?ex_X ?ty_X ?kp_X ?tf_X ?nf_X ?hg_X ?hk_X ?hd_X ?ha_X ?hm_X ?s_M_M ?s_O_M ?s_O_O ?s_T_M ?s_T_O ?s_T_T ?s_R_M ?s_R_O ?s_R_T ?s_R_R ?s_X_M ?s_X_O ?s_X_T ?s_X_R ?s_X_X ?hn ?htk ?ul ?um ?uf ?uw ?z_isinstance ?z_int ?z_bool ?z_str ?z_list ?z_tuple ?z_len ?z_max ?z_min ?z_range ?z_all ?z_enumerate ?z_repr ?z_ValueError
    (case aC_GuestError => k_is)
    (case aC_Missing => k_is)
    (case aC_Barred => k_is)
    (case aC_NoNumber => k_is)
    (case aC_NoOp => k_is)
    (case aC_NoTruth => k_is)
    (case aC_NoText => k_is)
    (case aC_NoRow => k_is)
    (case a_GuestError_init => k_is)
    (case l_GuestError_init => k_is)
    (case c_GuestError_init => k_is)
    (case k_GuestError_init => k_is)
    (case a_Missing_init => k_is)
    (case l_Missing_init => k_is)
    (case c_Missing_init => k_is)
    (case k_Missing_init => k_is)
    (case a_Barred_init => k_is)
    (case l_Barred_init => k_is)
    (case c_Barred_init => k_is)
    (case k_Barred_init => k_is)
    (case a_NoNumber_init => k_is)
    (case l_NoNumber_init => k_is)
    (case c_NoNumber_init => k_is)
    (case k_NoNumber_init => k_is)
    (case a_NoOp_init => k_is)
    (case l_NoOp_init => k_is)
    (case c_NoOp_init => k_is)
    (case k_NoOp_init => k_is)
    (case a_NoTruth_init => k_is)
    (case l_NoTruth_init => k_is)
    (case c_NoTruth_init => k_is)
    (case k_NoTruth_init => k_is)
    (case a_NoText_init => k_is)
    (case l_NoText_init => k_is)
    (case c_NoText_init => k_is)
    (case k_NoText_init => k_is)
    (case a_NoRow_init => k_is)
    (case l_NoRow_init => k_is)
    (case c_NoRow_init => k_is)
    (case k_NoRow_init => k_is)
    (case a_is_whole => k_is)
    (case l_is_whole => k_is)
    (case c_is_whole => k_is)
    (case k_is_whole => k_is)
    (case a_number_in => k_is)
    (case l_number_in => k_is)
    (case c_number_in => k_is)
    (case k_number_in => k_is)
    (case kd_number_in_least => k_is)
    (case kd_number_in_most => k_is)
    (case a_written => k_is)
    (case l_written => k_is)
    (case c_written => k_is)
    (case k_written => k_is)
    (case a_all_within => k_is)
    (case l_all_within => k_is)
    (case c_all_within => k_is)
    (case k_all_within => k_is)
    (case a_check_number => k_is)
    (case l_check_number => k_is)
    (case c_check_number => k_is)
    (case k_check_number => k_is)
    (case a_code => k_is)
    (case l_code => k_is)
    (case c_code => k_is)
    (case k_code => k_is)
    (case a_op_of => k_is)
    (case l_op_of => k_is)
    (case c_op_of => k_is)
    (case k_op_of => k_is)
    (case a_entry => k_is)
    (case l_entry => k_is)
    (case c_entry => k_is)
    (case k_entry => k_is)
    (case kd_entry_write => k_is)
    (case a_read_image => k_is)
    (case l_read_image => k_is)
    (case c_read_image => k_is)
    (case k_read_image => k_is)
    (case a_cut_rows => k_is)
    (case l_cut_rows => k_is)
    (case c_cut_rows => k_is)
    (case k_cut_rows => k_is)
    (case kd_cut_rows_first => k_is)
    (case a_image_in => k_is)
    (case l_image_in => k_is)
    (case c_image_in => k_is)
    (case k_image_in => k_is)
    (case a_filled => k_is)
    (case l_filled => k_is)
    (case c_filled => k_is)
    (case k_filled => k_is)
    (case a_number_begun => k_is)
    (case l_number_begun => k_is)
    (case c_number_begun => k_is)
    (case k_number_begun => k_is)
    (case a_word_in => k_is)
    (case l_word_in => k_is)
    (case c_word_in => k_is)
    (case k_word_in => k_is)
    (case a_entry_in => k_is)
    (case l_entry_in => k_is)
    (case c_entry_in => k_is)
    (case k_entry_in => k_is)
    (case a_code_in => k_is)
    (case l_code_in => k_is)
    (case c_code_in => k_is)
    (case k_code_in => k_is)
    (case a_cell_L => k_is)
    (case l_cell_L => k_is)
    (case c_cell_L => k_is)
    (case k_cell_L => k_is)
    (case a_box_L => k_is)
    (case l_box_L => k_is)
    (case c_box_L => k_is)
    (case k_box_L => k_is)
    (case a_take_L => k_is)
    (case l_take_L => k_is)
    (case c_take_L => k_is)
    (case k_take_L => k_is)
    (case a_ops_L => k_is)
    (case l_ops_L => k_is)
    (case c_ops_L => k_is)
    (case k_ops_L => k_is)
    (case a_drawn_row_L => k_is)
    (case l_drawn_row_L => k_is)
    (case c_drawn_row_L => k_is)
    (case k_drawn_row_L => k_is)
    (case a_other_word_L => k_is)
    (case l_other_word_L => k_is)
    (case c_other_word_L => k_is)
    (case k_other_word_L => k_is)
    (case a_sign_L => k_is)
    (case l_sign_L => k_is)
    (case c_sign_L => k_is)
    (case k_sign_L => k_is)
    (case a_bent_L => k_is)
    (case l_bent_L => k_is)
    (case c_bent_L => k_is)
    (case k_bent_L => k_is)
    (case a_plain_L => k_is)
    (case l_plain_L => k_is)
    (case c_plain_L => k_is)
    (case k_plain_L => k_is)
    (case a_word_L => k_is)
    (case l_word_L => k_is)
    (case c_word_L => k_is)
    (case k_word_L => k_is)
    (case a_due_L => k_is)
    (case l_due_L => k_is)
    (case c_due_L => k_is)
    (case k_due_L => k_is)
    (case a_told_L => k_is)
    (case l_told_L => k_is)
    (case c_told_L => k_is)
    (case k_told_L => k_is)
    (case a_law => k_is)
    (case l_law => k_is)
    (case c_law => k_is)
    (case k_law => k_is)
    (case cSHORT => k_is)
    (case cEIGHT => k_is)
    (case cLAST => k_is)
    (case cOPS => k_is)
    (case lOPS => k_is)
    (case rd_GuestError => k_is)
    (case ga_GuestError => k_is)
    (case at_GuestError => k_is)
    (case v_ValueError => k_is)
    (case xL_M => k_is)
    (case sa_M => k_is)
    (case ex_M => k_is)
    (case ty_M => k_is)
    (case kp_M => k_is)
    (case tf_M => k_is)
    (case nf_M => k_is)
    (case hg_M => k_is)
    (case hk_M => k_is)
    (case hd_M => k_is)
    (case ha_M => k_is)
    (case hm_M => k_is)
    (case xL_O => k_is)
    (case sa_O => k_is)
    (case ex_O => k_is)
    (case ty_O => k_is)
    (case kp_O => k_is)
    (case tf_O => k_is)
    (case nf_O => k_is)
    (case hg_O => k_is)
    (case hk_O => k_is)
    (case hd_O => k_is)
    (case ha_O => k_is)
    (case hm_O => k_is)
    (case xL_T => k_is)
    (case sa_T => k_is)
    (case ex_T => k_is)
    (case ty_T => k_is)
    (case kp_T => k_is)
    (case tf_T => k_is)
    (case nf_T => k_is)
    (case hg_T => k_is)
    (case hk_T => k_is)
    (case hd_T => k_is)
    (case ha_T => k_is)
    (case hm_T => k_is)
    (case xL_R => k_is)
    (case sa_R => k_is)
    (case ex_R => k_is)
    (case ty_R => k_is)
    (case kp_R => k_is)
    (case tf_R => k_is)
    (case nf_R => k_is)
    (case hg_R => k_is)
    (case hk_R => k_is)
    (case hd_R => k_is)
    (case ha_R => k_is)
    (case hm_R => k_is)
    (case xL_X => k_is)
    (case sa_X => k_is)
    (case ex_X => k_is)
    (case ty_X => k_is)
    (case kp_X => k_is)
    (case tf_X => k_is)
    (case nf_X => k_is)
    (case hg_X => k_is)
    (case hk_X => k_is)
    (case hd_X => k_is)
    (case ha_X => k_is)
    (case hm_X => k_is)
    (case s_M_M => k_is)
    (case s_O_M => k_is)
    (case s_O_O => k_is)
    (case s_T_M => k_is)
    (case s_T_O => k_is)
    (case s_T_T => k_is)
    (case s_R_M => k_is)
    (case s_R_O => k_is)
    (case s_R_T => k_is)
    (case s_R_R => k_is)
    (case s_X_M => k_is)
    (case s_X_O => k_is)
    (case s_X_T => k_is)
    (case s_X_R => k_is)
    (case s_X_X => k_is)
    (case hn => k_is)
    (case htk => k_is)
    (case ul => exact ⟨_, rfl⟩)
    (case um => exact ⟨_, rfl⟩)
    (case uf => exact ⟨_, rfl⟩)
    (case uw => exact rfl)
    (case z_isinstance => k_is)
    (case z_int => k_is)
    (case z_bool => k_is)
    (case z_str => k_is)
    (case z_list => k_is)
    (case z_tuple => k_is)
    (case z_len => k_is)
    (case z_max => k_is)
    (case z_min => k_is)
    (case z_range => k_is)
    (case z_all => k_is)
    (case z_enumerate => k_is)
    (case z_repr => k_is)
    (case z_ValueError => k_is)
