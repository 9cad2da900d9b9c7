import PyProof.Rows.All
import Wide.All
import OpenK.AllK
import Wide.FinOn
import HandS.Base
import HandS.Call
import HandS.List
import HandS.Comp
import HandS.Ends
import HandS.Dict
import HandS.Iter
import HandS.Text
import HandS.Words
import HandS.Wide
import HandS.Flow
import HandS.Style
import HandS.IsInst
import HandS.ExcInit
import HandS.ExcIs
import HandS.Defaults
import HandS.Walk
import HandS.Codes
import KE.IntTextLaws
import PyProof.ReprRoads
import HandS.WordsExc
import HandS.TryMany
import HandS.ExcOwn
import HandS.ExcField
import KE.GoesEnum
import PyProof.ReprBulk
import HandS.WideBits
import PyProof.EqKinds
import PyProof.FactsAll.dict_1
import PyProof.FactsAll.subtypes_3
import PyProof.FactsAll.subtypes_4
import KE.KExcInit
import PyProof.ExcBaseAll.LookupError
import HandS.CallSlots
import HandS.Conv
import PySem.Challenge.RW_guestsalone_k24_words_posted_for_ports
set_option Elab.async false
set_option linter.all false
set_option maxRecDepth 100000
set_option maxHeartbeats 8000000
namespace Bk
open PySem PySem.Spec PyProof.Rows L2
/-! ## 1. rules of our own -/
section
variable {X : Cx} {CX : CXT} {k n : Nat} {f : Addr} {fd : FuncData} {ps ks : List Str} {sp : Sp} {E : XK} {x m : Str} {p p1 p2 pos : Pos} {e : Expr} {es : List Expr} {kws : List Keyword} {t tk ta : TA} {g : List Value → List Value → List Value} {gV : List V → List V → List V}
/-- f(k = v, ..): keywords alone -/
theorem pe_callN0 (F : FnOk X.prog X.w X.K X.mg X.base CX k f fd ps sp) (hr : Room k X.A) (hg : Gl X x) (hm : X.mg x = some (.ref f)) (hk : PySem.W.keepIn X.K (.ref f) = true) (hb : KBn X.K fd ps 0 ks g gV) (hx : Passes CX X E)
    (hkw : PK X kws tk) (hall : (backToKw pos (keywordEach kws X.env)).all (·.1.isSome) = true := by rfl) (hks : (backToKw pos (keywordEach kws X.env)).filterMap (·.1) = ks := by rfl)
    (hdb : (x == ("__debug__" : Str)) = false := by decide)
    (hpl : ((backTo pos (starEach [] X.env)).any (·.1) || (backToKw pos (keywordEach kws X.env)).any (·.1.isNone)) = false := by rfl) :
    PE X (.Call (.Name x p) [] kws pos) (tCallN 0 ks.length sp gV E tNil tk) := by
  refine ⟨fun pins s σ H Q I h => ?_⟩
  refine wpAny_Call_Name_kw (ld_glob I hg hm ?_ hdb)
  refine PySem.W.callWith_KW0 (h₀ := X.base) I.ok.mod.kin hk hall ?_ hpl
  refine thn (hkw.run pos pins s σ H _ I h) fun ws s2 ⟨zs, H2, I2, rz, l1, l2, q2⟩ => ⟨I2.kIn, ?_⟩
  rw [hks]
  exact run_fnN (us := []) (vs := []) F hr hb hx I2 .nil rz rfl l2 q2
/-- C.m(e, ..): m a plain def of the class at B (or above it), read off the class -/
theorem pe_cdef {B : Addr} {mc : Value} {ds : List Value} {dvs : List V} {pl : Sem Bool} (F : FnOk X.prog X.w X.K X.mg X.base CX k f fd ps sp) (hr : Room k X.A) (hg : Gl X x) (hm : X.mg x = some (.ref B))
    (rd : PySem.W.readsIn X.K B mc = true) (ga : PySem.W.specialIn X.K (.ref B) "__getattribute__" = some (some (.builtin "type.__getattribute__"))) (at_ : PySem.W.findCls X.K (.ref B) mc m = some (.val (.ref f)))
    (hk : PySem.W.keepIn X.K (.ref f) = true) (hb : Binds X.K fd ps ds) (hd : Vals dvs ds) (hx : Passes CX X E) (ha : PA X (e :: es) t)
    (ht : eval (.Call (.Attribute (.Name x p1) m p2) (e :: es) [] pos) X.env = (do
      let ov ← eval (.Name x p1) X.env
      standAt p2.atName
      let (f, first) ← holding [ov] (getMethod ov m pl)
      callWith pos f first (backTo pos (starEach (e :: es) X.env)) (backToKw pos (keywordEach [] X.env))) := by rfl)
    (hdb : (x == ("__debug__" : Str)) = false := by decide) (he : starEach (e :: es) X.env = (false, eval e X.env) :: starEach es X.env := by rfl) (hpl : (backTo pos (starEach es X.env)).any (·.1) = false := by rfl) :
    PE X (.Call (.Attribute (.Name x p1) m p2) (e :: es) [] pos) (tCall sp dvs E t) := by
  refine ⟨fun pins s σ H Q I h => ?_⟩
  refine PySem.W.methodCall_KW (pl := pl) (ld_glob I hg hm ?_ hdb) ht
  refine PySem.W.method_cls I.kIn ga (PySem.W.cls_value I.kIn rd at_ rfl ?_)
  have I1 := I.tok (s.toks + 1)
  refine PySem.W.callWith_K (h₀ := X.base) I.ok.mod.kin hk (thn (ha.run pos pins _ σ H _ I1 h) fun us s1 ⟨vs, H1, I2, r, q⟩ => ⟨I2.kIn, ?_⟩) he hpl
  exact run_fn F hr hb hd hx I2 r q
/-- C(e, ..) as a value, C an own exception class under ValueError whose own __init__ keeps sp -/
def tMkV (C : Addr) (sp : Sp) (dvs : List V) (ta : TA) : TE := fun σ H Q => ta σ H fun vs H1 => vs.length ≤ 1000 ∧ ∀ a, H1 a = none → sp (.ref a :: (vs ++ dvs)) (upd H1 a (exo a C none)) (fun v H2 => v = .non ∧ Q (.ref a) H2) (fun _ _ _ => False)
theorem pe_oex {C fI : Addr} {ds : List Value} {dvs : List V} (T : OexC X.K C) (iC : PySem.W.findIn X.K (.ref C) "__init__" = some (some (.ref fI))) (tI : PySem.W.typeIn X.K (.ref fI) = some (.type "function"))
    (F1 : FnOk X.prog X.w X.K X.mg X.base CX k fI fd ps sp) (hr : Room (k + 1) X.A) (hb : Binds X.K fd ps ds) (hd : Vals dvs ds) (hx : Passes CX X (fun _ _ _ => False)) (hg : Gl X x) (hm : X.mg x = some (.ref C)) (ha : PA X (e :: es) ta)
    (hdb : (x == ("__debug__" : Str)) = false := by decide) (he : starEach (e :: es) X.env = (false, eval e X.env) :: starEach es X.env := by rfl) (hpl : (backTo pos (starEach es X.env)).any (·.1) = false := by rfl) :
    PE X (.Call (.Name x p) (e :: es) [] pos) (tMkV C sp dvs ta) := by
  refine ⟨fun pins s σ H Q I h => ?_⟩
  obtain ⟨nm, q, N, bs, bm, sn, sub, ab, col, dd, k0, k1, k2, k3, k5, hC, hbm⟩ := T.cls
  refine wpAny_Call_Name_kw (ld_glob I hg hm ?_ hdb)
  refine PySem.W.callWith_K (h₀ := X.base) I.ok.mod.kin T.kC (thn (ha.run pos pins s σ H _ I h) fun us s1 ⟨vs, H1, I1, r1, hz, q1⟩ => ⟨I1.kIn, ?_⟩) he hpl
  show wpAny _ _ (call (.ref C) us) _ _ _
  obtain ⟨hp, g, dr, tk, os⟩ := s1
  have hsz : hp.objs.size ≤ hp.objs.size + 1 := Nat.le_succ _
  have hn : H1 (hp.objs.size + 1) = none := I1.hok.fresh hsz
  have hq := q1 (hp.objs.size + 1) hn
  have kk : ∀ b o, hp.get? b = some o → ((hp.push (PySem.W.kdv_tup us)).push (PySem.HandSPX.excO C hp.objs.size)).get? b = some o := fun b o e => Heap.get?_push_of_some _ (Heap.get?_push_of_some _ e)
  have hget : ((hp.push (PySem.W.kdv_tup us)).push (PySem.HandSPX.excO C hp.objs.size)).get? (hp.objs.size + 1) = some (PySem.HandSPX.excO C hp.objs.size) := by heap_get
  have I2 : Inv X pins σ (upd H1 (hp.objs.size + 1) (exo (hp.objs.size + 1) C none)) ⟨(hp.push (PySem.W.kdv_tup us)).push (PySem.HandSPX.excO C hp.objs.size), g, dr, tk, os⟩ :=
    I1.laid (t' := tk) (a := hp.objs.size + 1) (o := exo (hp.objs.size + 1) C none) (h' := (hp.push (PySem.W.kdv_tup us)).push (PySem.HandSPX.excO C hp.objs.size)) kk hsz (exo_ok hget)
  have r2 : Vals (V.ref (hp.objs.size + 1) :: (vs ++ dvs)) (Value.ref (hp.objs.size + 1) :: (us ++ ds)) := .cons rfl (r1.append hd)
  have hl : (Value.ref (hp.objs.size + 1) :: us ++ ds).length = ps.length := by
    have e := r2.length
    rw [F1.len _ _ _ _ hq] at e
    exact e.symm
  have hus : us.length ≤ sizeLine := by
    rw [← Paired.length r1, sizeLine_eq]
    omega
  refine wpAny_call (PySem.HandSPX.call_own F.excBase_ValueError (fun Y => PySem.HandSPX.refsVE_contains Y bm hbm) (I1.kIn _ _ hC) (PySem.W.looks_findIn I1.kIn iC) (fun self => PySem.W.bind_fn I1.kIn self tI) hus
    (codeAny_mono (F1.run _ X.stack _ _ ⟨Value.ref (hp.objs.size + 1) :: us, []⟩ (Value.ref (hp.objs.size + 1) :: (us ++ ds)) _ _ (fun _ _ _ => False) (hr.make C us []) (I2.env0.make C us []) (hb _ (Value.ref (hp.objs.size + 1) :: us) I2.kIn hl) r2 hq) fun r s' hq' => ?_))
  cases r with
  | error er => exact hx pins σ _ _ er s' I2 hq'
  | ok fl =>
    cases fl with
    | ret u =>
      obtain ⟨v, H2, I3, rv, ev, q2⟩ := I2.after hq'
      subst ev
      exact ⟨rv, .ref (hp.objs.size + 1), H2, I3, rfl, q2⟩
    | next => exact False.elim hq'
    | brk => exact False.elim hq'
    | cont => exact False.elim hq'
/-- repr of a truth -/
def reprB (b : Bool) : Str := if b then "True" else "False"
theorem reprB_inj {a b : Bool} : decide (V.str (reprB a) = V.str (reprB b)) = decide (a = b) := by
  cases a <;> cases b <;> decide +kernel
theorem call_repr_bl : CallR X (.builtin "repr") (fun xs H Q => ∃ b, xs = [.bl b] ∧ Q (.str (reprB b)) H) := by
  intro pins s σ H xs us Q I r h
  obtain ⟨b, rfl, q⟩ := h
  obtain ⟨u, rfl, rfl⟩ := vals1 r
  exact PySem.P.repr_of_bool ⟨.str _, H, I.tok _, ⟨_, rfl⟩, q⟩
end
/-! ### an exception as a value: isinstance, its field -/
end Bk
namespace PySem.W
open PySem PySem.Spec PySem.Calls PyProof.Rows
section
variable {prog : Program} {w : World} {A : Around} {E : Value → Shared → Prop} {s : Shared} {K : Frag} {x D : Addr} {ox : Obj} {od : Option Obj}
theorem bk_findObj {C : Addr} {name : Str} {a g : Value} (hc : (clsIn K C).isSome = true) (ha : findIn K (.ref C) name = some (some a)) (hg : specialIn K a "__get__" = some (some g)) (ht : takesIn K a = some true) : findObj K C od name = some (.bind g a) := by
  obtain ⟨cd, hc⟩ := Option.isSome_iff_exists.mp hc
  unfold findObj
  rw [hc, Option.bind_some, ha, Option.bind_some]
  simp [hg, ht]
theorem bk_class {Q : Option Value → Shared → Prop} (hga : findIn K (.ref D) "__getattribute__" = some (some (.builtin "BaseException.__getattribute__"))) (hgt : findIn K (.ref D) "__getattr__" = some none) (hsub : subIn K (.ref D) (.type "BaseException") = some true)
    (hdct : hasDictIn K D = true) (ha : findIn K (.ref D) "__class__" = some (some (.builtin "object.__class__")))
    (hn : specialIn K (.builtin "object.__class__") "__get__" = some (some (.builtin "getset_descriptor.__get__"))) (htk : takesIn K (.builtin "object.__class__") = some true) (hm : mroIn K D (.type "object") = some true)
    (X : K.In s.heap) (I : InstAt s.heap x ox D od) (h : Q (some (.ref D)) { s with toks := s.toks + 1 }) : wpAny (model prog w) A (getAttr? (.ref x) "__class__") Q E s := by
  have hf : findObj K D od "__class__" = some (.bind (.builtin "getset_descriptor.__get__") (.builtin "object.__class__")) := bk_findObj (by obtain ⟨cd, hc, _⟩ := any_some hdct; rw [hc]; rfl) ha hn htk
  obtain ⟨hp, g, d, t, os⟩ := s
  have L0 := I.type (M := model prog w)
  have L1 := looks_findIn (M := model prog w) X hga
  have L2 := looks_findIn (M := model prog w) X hgt
  have L3 := looks_find (M := model prog w) X I hf
  have sub : Looks (model prog w) hp (isInstance (.ref x) (.type "BaseException")) true := L0.andThen (looks_subIn X hsub)
  have hx0 : (false && onTheHeap (Value.builtin "BaseException.__getattribute__")) = false := rfl
  have hx2 : (Value.builtin "BaseException.__getattribute__" == Value.builtin "object.__getattribute__") = false := by decide +kernel
  have hx1 : (onTheHeap (Value.ref D) && Value.builtin "BaseException.__getattribute__" == Value.builtin "object.__getattribute__") = false := by rw [hx2]; rfl
  unfold getAttr? getAttrBy? getAttrBy
  refine wpAny_bind (wpAny_mkText (wpAny_bind (wpAny_attempt (wpAny_holding (wpAny_bind (L0.at (wpAny_bind (L1.at ?_))))))))
  show wpAny _ _ (if (onTheHeap (Value.ref D) && Value.builtin "BaseException.__getattribute__" == Value.builtin "object.__getattribute__") = true then _ else _) _ _ _
  rw [hx1, if_neg Bool.false_ne_true]
  unfold getAttrByItsOwn hookBefore
  refine wpAny_bind ?_
  rw [if_pos (show onTheHeap (Value.ref D) = true from rfl)]
  refine L2.at ?_
  refine wpAny_bind (wpAny_attempt (wpAny_holding ?_))
  unfold callGetattribute
  rw [hx0, if_neg Bool.false_ne_true]
  unfold boundAndCalled
  rw [PySem.F.excAttr_ValueError.ga.bind (.ref x)]
  refine wpAny_bind (wpAny_pure ?_)
  show wpAny _ _ (call (.builtin "BaseException.__getattribute__") [.ref x, .str "__class__" t]) _ _ _
  refine wpAny_call (codeAny_call_builtin PySem.F.excAttr_ValueError.ga.plain PySem.F.entry_bexc_ga ?_)
  refine @check_slot (model prog w) _ _ ⟨hp, g, d, t + 1, os⟩ "BaseException.__getattribute__" "BaseException" "__getattribute__" (.ref x) [.str "__class__" t] [] _ (by decide +kernel) (by decide +kernel) sub (PySem.F.args_bexc_ga (.ref x) (.str "__class__" t)) ?_
  unfold Builtin.«object.__getattribute__»
  refine wpAny_bind (wpAny_of_eq (a := ((Value.ref x : Value), [Value.str "__class__" t])) (by first | rfl | (simp only [slotArgs]; rfl)) ?_)
  refine wpAny_bind (wpAny_pure (wpAny_bind (L0.at (wpAny_bind (L3.at ?_)))))
  show wpAny _ _ (holding [Value.builtin "object.__class__"] (call (.builtin "getset_descriptor.__get__") [.builtin "object.__class__", .ref x, .ref D]) >>= ret) _ _ _
  refine wpAny_bind (wpAny_holding (wpAny_call (class_get (s := ⟨hp, g, d, t + 1, os⟩) (ox := ox) (od := od) X I hm ?_)))
  refine wpAny_pure ?_
  show wpAny _ _ (handedOut (.ref D)) _ _ _
  rw [handedOut_of (v := .ref D) rfl]
  first
    | exact wpAny_pure (wpAny_pure h)
    | exact wpAny_pure h
    | exact wpAny_pure (wpAny_bind (wpAny_pure (wpAny_pure h)))
theorem bk_kitx (hga : findIn K (.ref D) "__getattribute__" = some (some (.builtin "BaseException.__getattribute__"))) (hgt : findIn K (.ref D) "__getattr__" = some none) (hsub : subIn K (.ref D) (.type "BaseException") = some true) (hdct : hasDictIn K D = true) (ha : findIn K (.ref D) "__class__" = some (some (.builtin "object.__class__")))
    (hn : specialIn K (.builtin "object.__class__") "__get__" = some (some (.builtin "getset_descriptor.__get__"))) (htk : takesIn K (.builtin "object.__class__") = some true) (hm : mroIn K D (.type "object") = some true) :
    KitX K (.ref x) (.ref D) (fun h => InstAt h x ox D od) where
  ty := fun _ _ _ I => I.type
  it := fun _ _ X _ => by
    obtain ⟨cdD, hcD, _⟩ := any_some hdct
    unfold clsIn at hcD
    split at hcD
    · rename_i c' d' cd' sl' ho
      intro A' Q' E' s' k q
      unfold isType loadHead
      exact wpAny_bind (wpAny_loadPart (k _ _ (X _ _ ho)) (wpAny_pure q))
    · cases hcD
  ne := fun h tp dd its n sl X htp => by
    obtain ⟨cdD, hcD, _⟩ := any_some hdct
    refine Bool.eq_false_iff.mpr fun q => ?_
    have e : D = tp := Value.ref.inj (beq_iff_eq.mp q)
    subst e
    unfold clsIn at hcD
    split at hcD
    · rename_i c' d' cd' sl' ho
      have z := (X _ _ ho).symm.trans htp
      cases z
    · cases hcD
  ca := fun X I k => bk_class hga hgt hsub hdct ha hn htk hm X I k
end
end PySem.W
namespace Bk
open PySem PySem.Spec PyProof.Rows L2
/-- at a: an exception of the class at D, its own dict (at dx) holds fs -/
def XV (H : Hp) (a D dx : Addr) (fs : List (Str × V)) : Prop := H a = some (exo a D (some dx)) ∧ H dx = some (exd dx fs)
theorem xv_inst {X : Cx} {pins : List (Addr × Obj)} {σ : L2.St} {H : Hp} {s : Shared} {a D dx : Addr} {fs : List (Str × V)} (I : Inv X pins σ H s) (h : XV H a D dx fs) :
    ∃ (ox od : Obj) (mA : Str → Option Value), PySem.W.InstAt s.heap a ox D (some od) ∧ (∀ f, PySem.W.lookIn f od = some (mA f)) ∧ ∀ f, RelO (fs.lookup f) (mA f) := by
  obtain ⟨t1, ho⟩ := exo_at I.hok h.1
  obtain ⟨mA, hns, rel⟩ := exd_at I.hok h.2
  obtain ⟨od, hod, hl⟩ := lookIn_ns hns
  exact ⟨_, od, mA, ⟨ho, rfl, rfl, hod⟩, hl, rel⟩
/-- isinstance(e, c), e such an exception -/
def rIsX (K : PySem.W.Frag) : List V → Hp → VK → Prop := fun xs H Q => ∃ (a D dx : Addr) (fs : List (Str × V)) (c : V) (u : Value) (b : Bool), xs = [.ref a, c] ∧ XV H a D dx fs ∧ ExcC K D ∧ ClsV c u ∧ PySem.W.kitOne K (.ref D) u = some b ∧ Q (.bl b) H
theorem call_isX {X : Cx} : CallR X (.builtin "isinstance") (rIsX X.K) := by
  intro pins s σ H xs us Q I r h
  obtain ⟨a, D, dx, fs, c, u, b, rfl, xv, C, k, e, q⟩ := h
  obtain ⟨u1, u2, rfl, r1, r2⟩ := vals2 r
  have e2 := k.eq r2
  subst e2
  obtain rfl : u1 = Value.ref a := r1
  obtain ⟨ox, od, mA, J, _, _⟩ := xv_inst I xv
  exact PySem.W.kia_one (PySem.W.bk_kitx (ox := ox) (od := some od) C.hg C.hk C.hs C.hd C.ha C.hn C.ht C.hm) I.kIn J e (fun z => nomatch z) fun tk => ⟨.bl b, H, I.tok tk, rfl, q⟩
/-- isinstance of a value of any form met here -/
def rIs (K : PySem.W.Frag) : List V → Hp → VK → Prop := fun xs H Q => rIsi K xs H Q ∨ rIsX K xs H Q
theorem call_is {X : Cx} : CallR X (.builtin "isinstance") (rIs X.K) := CallR.or call_isi call_isX
end Bk

namespace Bk
open PySem PySem.Spec PyProof.Rows L2
/-! ## 2. a def that may be called by its name -/
structure Cal (P : Program) (w : World) (K : PySem.W.Frag) (mg : Str → Option Value) (base : Heap) (CX : CXT) (k : Nat) (x : Str) (sp : Sp) : Prop where
  ex : ∃ (f : Addr) (fd : FuncData) (ps : List Str) (ds : List Value) (dvs : List V), mg x = some (.ref f) ∧ PySem.W.keepIn K (.ref f) = true ∧ FnOk P w K mg base CX k f fd ps (fun vs H Q E => sp vs H Q E ∧ vs.length = ps.length) ∧ Binds K fd ps [] ∧ ds = [] ∧ dvs = []
/-- the same with keywords: n values by places, then those of the keywords ks; gV orders them -/
structure CalN (P : Program) (w : World) (K : PySem.W.Frag) (mg : Str → Option Value) (base : Heap) (CX : CXT) (k n : Nat) (ks : List Str) (x : Str) (sp : Sp) (gV : List V → List V → List V) : Prop where
  ex : ∃ (f : Addr) (fd : FuncData) (ps : List Str) (g : List Value → List Value → List Value), mg x = some (.ref f) ∧ PySem.W.keepIn K (.ref f) = true ∧ FnOk P w K mg base CX k f fd ps sp ∧ KBn K fd ps n ks g gV
/-- defaults fill up -/
structure CalD (P : Program) (w : World) (K : PySem.W.Frag) (mg : Str → Option Value) (base : Heap) (CX : CXT) (k : Nat) (x : Str) (sp : Sp) (dvs : List V) : Prop where
  ex : ∃ (f : Addr) (fd : FuncData) (ps : List Str) (ds : List Value), mg x = some (.ref f) ∧ PySem.W.keepIn K (.ref f) = true ∧ FnOk P w K mg base CX k f fd ps sp ∧ Binds K fd ps ds ∧ Vals dvs ds
/-- a method's def, by itself -/
structure Own (P : Program) (w : World) (K : PySem.W.Frag) (mg : Str → Option Value) (base : Heap) (CX : CXT) (k : Nat) (f : Addr) (fd : FuncData) (ps : List Str) (sp : Sp) : Prop where
  ok : FnOk P w K mg base CX k f fd ps sp
  bd : Binds K fd ps []
  kp : PySem.W.keepIn K (.ref f) = true
section
variable {X : Cx} {CX : CXT} {k j n : Nat} {ks : List Str} {sp : Sp} {E : XK} {x : Str} {p pos : Pos} {e : Expr} {es : List Expr} {kws : List Keyword} {t tk : TA} {gV : List V → List V → List V} {dvs : List V}
theorem pe_cal (c : CalD X.prog X.w X.K X.mg X.base CX0 k x sp []) (hr : Room j X.A) (hk : k ≤ j) (hg : Gl X x) (ha : PA X (e :: es) t)
    (hdb : (x == ("__debug__" : Str)) = false := by decide) (he : starEach (e :: es) X.env = (false, eval e X.env) :: starEach es X.env := by rfl) (hpl : (backTo pos (starEach es X.env)).any (·.1) = false := by rfl) :
    PE X (.Call (.Name x p) (e :: es) [] pos) (tCall sp [] E0 t) := by
  obtain ⟨f, fd, ps, ds, h1, h2, h3, h4, h5⟩ := c.ex
  exact pe_call h3 (hr.mono hk) hg h1 h2 h4 h5 pass0 ha hdb he hpl
theorem pe_calD (c : CalD X.prog X.w X.K X.mg X.base CX0 k x sp dvs) (hr : Room j X.A) (hk : k ≤ j) (hg : Gl X x) (ha : PA X (e :: es) t)
    (hdb : (x == ("__debug__" : Str)) = false := by decide) (he : starEach (e :: es) X.env = (false, eval e X.env) :: starEach es X.env := by rfl) (hpl : (backTo pos (starEach es X.env)).any (·.1) = false := by rfl) :
    PE X (.Call (.Name x p) (e :: es) [] pos) (tCall sp dvs E0 t) := by
  obtain ⟨f, fd, ps, ds, h1, h2, h3, h4, h5⟩ := c.ex
  exact pe_call h3 (hr.mono hk) hg h1 h2 h4 h5 pass0 ha hdb he hpl
theorem pe_cal0 (c : CalD X.prog X.w X.K X.mg X.base CX0 k x sp []) (hr : Room j X.A) (hk : k ≤ j) (hg : Gl X x) (hdb : (x == ("__debug__" : Str)) = false := by decide) :
    PE X (.Call (.Name x p) [] [] pos) (tCall sp [] E0 tNil) := by
  obtain ⟨f, fd, ps, ds, h1, h2, h3, h4, h5⟩ := c.ex
  exact pe_call0 h3 (hr.mono hk) hg h1 h2 h4 h5 pass0 hdb
theorem pe_calN (c : CalN X.prog X.w X.K X.mg X.base CX0 k n ks x sp gV) (hr : Room k X.A) (hg : Gl X x) (ha : PA X (e :: es) t) (hkw : PK X kws tk)
    (hall : (backToKw pos (keywordEach kws X.env)).all (·.1.isSome) = true := by rfl) (hks : (backToKw pos (keywordEach kws X.env)).filterMap (·.1) = ks := by rfl)
    (hdb : (x == ("__debug__" : Str)) = false := by decide) (he : starEach (e :: es) X.env = (false, eval e X.env) :: starEach es X.env := by rfl)
    (hpl : ((backTo pos (starEach (e :: es) X.env)).any (·.1) || (backToKw pos (keywordEach kws X.env)).any (·.1.isNone)) = false := by rfl) :
    PE X (.Call (.Name x p) (e :: es) kws pos) (tCallN n ks.length sp gV E0 t tk) := by
  obtain ⟨f, fd, ps, g, h1, h2, h3, h4⟩ := c.ex
  exact pe_callN h3 hr hg h1 h2 h4 pass0 ha hkw hall hks hdb he hpl
theorem pe_calN0 (c : CalN X.prog X.w X.K X.mg X.base CX0 k 0 ks x sp gV) (hr : Room k X.A) (hg : Gl X x) (hkw : PK X kws tk)
    (hall : (backToKw pos (keywordEach kws X.env)).all (·.1.isSome) = true := by rfl) (hks : (backToKw pos (keywordEach kws X.env)).filterMap (·.1) = ks := by rfl)
    (hdb : (x == ("__debug__" : Str)) = false := by decide)
    (hpl : ((backTo pos (starEach [] X.env)).any (·.1) || (backToKw pos (keywordEach kws X.env)).any (·.1.isNone)) = false := by rfl) :
    PE X (.Call (.Name x p) [] kws pos) (tCallN 0 ks.length sp gV E0 tNil tk) := by
  obtain ⟨f, fd, ps, g, h1, h2, h3, h4⟩ := c.ex
  exact pe_callN0 h3 hr hg h1 h2 h4 pass0 hkw hall hks hdb hpl
end
theorem CalD.mk' {P : Program} {w : World} {K : PySem.W.Frag} {mg : Str → Option Value} {base : Heap} {CX : CXT} {k : Nat} {x : Str} {sp : Sp} {f : Addr} {fd : FuncData} {ps : List Str} (g : mg x = some (.ref f)) (kp : PySem.W.keepIn K (.ref f) = true) (F : FnOk P w K mg base CX k f fd ps sp) (b : Binds K fd ps []) :
    CalD P w K mg base CX k x sp [] := ⟨f, fd, ps, [], g, kp, F, b, .nil⟩
/-! ## 3. going through a reading -/
section
variable {K : PySem.W.Frag} {σ : L2.St} {H : Hp} {ta tb tc te : TE} {t u : TT} {x y v : V} {Q : VK} {QB : Bool → Hp → Prop} {QL : List V → Hp → Prop} {r r' : R2} {D : Ends} {a b : TS} {tr : TA}
theorem r_var {i : Nat} (h : σ[i]? = some (some v)) (q : Q v H) : tVar i σ H Q := ⟨v, h, q⟩
theorem r_c (q : Q v H) : tC v σ H Q := q
theorem r_op (q : ta σ H fun x H1 => tb σ H1 fun y H2 => r x y H2 Q) : tOp r ta tb σ H Q := q
theorem r_un {r : V → Hp → VK → Prop} (q : ta σ H fun x H1 => r x H1 Q) : tUn r ta σ H Q := q
theorem r_I0 {g : Int → Int → V} {i j : Int} (q : Q (g i j) H) : rI0 g (.int i) (.int j) H Q := ⟨i, j, rfl, rfl, q⟩
theorem r_I {C : Int → Int → Prop} {g : Int → Int → V} {i j : Int} (c : C i j) (q : Q (g i j) H) : rI C g (.int i) (.int j) H Q := ⟨i, j, rfl, rfl, c, q⟩
theorem r_U {g : Int → V} {i : Int} (q : Q (g i) H) : rU g (.int i) H Q := ⟨i, rfl, q⟩
theorem r_eq (s : scal x y = true) (q : Q (.bl (decide (x = y))) H) : rEq x y H Q := ⟨s, q⟩
theorem r_ne (s : scal x y = true) (q : Q (.bl (!decide (x = y))) H) : rNe x y H Q := ⟨s, q⟩
theorem r_nil (q : QL [] H) : tNil σ H QL := q
theorem r_cons (q : ta σ H fun x H1 => tr σ H1 fun xs H2 => QL (x :: xs) H2) : tCons ta tr σ H QL := q
theorem r_call {sp : Sp} {dvs : List V} {E : XK} (q : tr σ H fun vs H1 => sp (vs ++ dvs) H1 Q E) : tCall sp dvs E tr σ H Q := q
theorem r_callN {n m : Nat} {sp : Sp} {gV : List V → List V → List V} {E : XK} {tk : TA} (q : tr σ H fun vs H1 => tk σ H1 fun zs H2 => vs.length = n ∧ zs.length = m ∧ sp (gV vs zs) H2 Q E) : tCallN n m sp gV E tr tk σ H Q := q
theorem r_cb {rc : List V → Hp → VK → Prop} (q : tr σ H fun vs H1 => rc vs H1 Q) : tCB rc tr σ H Q := q
theorem r_ret (q : te σ H D.rt) : tRet te D σ H := q
theorem r_seq (q : a { D with nx := b D } σ H) : tSeq a b D σ H := q
theorem r_asg {g : TG} (q : te σ H fun x H1 => g x σ H1 D.nx) : tAsg te g D σ H := q
theorem r_name {i : Nat} {Qs : L2.St → Hp → Prop} (q : Qs (σ.set i (some v)) H) : gName i v σ H Qs := q
theorem r_if (q : t σ H fun b' H1 => if b' = true then a D σ H1 else b D σ H1) : tIfS t a b D σ H := q
theorem r_next (q : D.nx σ H) : tNext D σ H := q
theorem r_drop (q : te σ H fun _ H1 => D.nx σ H1) : tDrop te D σ H := q
theorem r_test (q : te σ H fun x H' => ∃ k, x = .bl k ∧ QB k H') : tTest te σ H QB := q
theorem r_tB (q : te σ H fun x H' => ∃ k, x = .bl k ∧ QB k H') : tB te σ H QB := q
theorem r_isb {k : Bool} (q : QB k H) : ∃ k', V.bl k = .bl k' ∧ QB k' H := ⟨k, rfl, q⟩
theorem r_isv {k : Bool} {A : Bool → Prop} (q : A k) : ∃ k', V.bl k = .bl k' ∧ A k' := ⟨k, rfl, q⟩
theorem r_not (q : t σ H fun c H1 => QB (!c) H1) : tNot t σ H QB := q
theorem r_and (q : t σ H fun c H1 => if c = true then u σ H1 QB else QB false H1) : tAnd t u σ H QB := q
theorem r_or (q : t σ H fun c H1 => if c = true then QB true H1 else u σ H1 QB) : tOr t u σ H QB := q
theorem r_andV (q : ta σ H fun x H1 => ∃ c, x = .bl c ∧ if c = true then tb σ H1 Q else Q (.bl false) H1) : tAndV ta tb σ H Q := q
theorem r_orV (q : ta σ H fun x H1 => ∃ c, x = .bl c ∧ if c = true then Q (.bl true) H1 else tb σ H1 Q) : tOrV ta tb σ H Q := q
theorem r_notV (q : ta σ H fun x H1 => ∃ c, x = .bl c ∧ Q (.bl (!c)) H1) : tNotV ta σ H Q := q
theorem r_chain (q : ta σ H fun x H1 => tb σ H1 fun y H2 => r x y H2 fun z H3 => ∃ k, z = .bl k ∧ (if k = true then tc σ H3 fun w' H4 => r' y w' H4 Q else Q (.bl false) H3)) : tChain r r' ta tb tc σ H Q := q
theorem r_ifE (q : t σ H fun c H1 => if c = true then ta σ H1 Q else tb σ H1 Q) : tIf t ta tb σ H Q := q
theorem r_isN (q : Q (.bl (decide (x = .non))) H) : (fun x y H Q => y = V.non ∧ Q (.bl (decide (x = .non))) H : R2) x .non H Q := ⟨rfl, q⟩
def NewL (xs : List V) (H : Hp) (Q : VK) : Prop := xs.length ≤ sizeLine ∧ ∀ p, H p = none → Q (.ref p) (upd H p (.lst xs))
def NewT (xs : List V) (H : Hp) (Q : VK) : Prop := xs.length ≤ sizeLine ∧ ∀ p, H p = none → Q (.ref p) (upd H p (.tup xs))
theorem r_lst (q : tr σ H fun xs H1 => NewL xs H1 Q) : tLst tr σ H Q := q
theorem r_tup (q : tr σ H fun xs H1 => NewT xs H1 Q) : tTup tr σ H Q := q
theorem same_upd {p : Addr} {o : HO} (h : H p = none) : Same H (upd H p o) := fun b x e => by
  rw [upd_ne (ne_of_none e h)]
  exact e
/-- a new object: the heap behind it by what stands in it -/
theorem newL {xs : List V} (q : ∀ p H', H p = none → Same H H' → H' p = some (.lst xs) → Q (.ref p) H') (hl : xs.length ≤ 10000 := by exact Nat.le_of_ble_eq_true rfl) : NewL xs H Q :=
  ⟨Nat.le_trans hl (by decide), fun p hp => q p _ hp (same_upd hp) upd_same⟩
theorem newT {xs : List V} (q : ∀ p H', H p = none → Same H H' → H' p = some (.tup xs) → Q (.ref p) H') (hl : xs.length ≤ 10000 := by exact Nat.le_of_ble_eq_true rfl) : NewT xs H Q :=
  ⟨Nat.le_trans hl (by decide), fun p hp => q p _ hp (same_upd hp) upd_same⟩
def NewDK (kvs : List (Key × V)) (H : Hp) (Q : VK) : Prop := ∀ p, H p = none → Q (.ref p) (upd H p (.dK kvs))
theorem r_dnewK (q : NewDK [] H Q) : tDNewK σ H Q := q
theorem newDK {kvs : List (Key × V)} (q : ∀ p H', H p = none → Same H H' → H' p = some (.dK kvs) → Q (.ref p) H') : NewDK kvs H Q := fun p hp => q p _ hp (same_upd hp) upd_same
def MkV (C : Addr) (sp : Sp) (dvs vs : List V) (H : Hp) (Q : VK) : Prop := vs.length ≤ 1000 ∧ ∀ a, H a = none → sp (.ref a :: (vs ++ dvs)) (upd H a (exo a C none)) (fun v H2 => v = .non ∧ Q (.ref a) H2) (fun _ _ _ => False)
theorem r_mkV {C : Addr} {sp : Sp} {dvs : List V} (q : tr σ H fun vs H1 => MkV C sp dvs vs H1 Q) : tMkV C sp dvs tr σ H Q := q
def ForL (J : It) (g : TG) (tb : TS) (D : Ends) (σ : L2.St) (H : Hp) : Prop := ∃ W : Nat → Nat → L2.St → Hp → Prop, (∃ m, W 0 m σ H) ∧ ∀ i m σ H, W i m σ H →
  (J.stop i H ∧ D.nx σ H) ∨ (J.go i H ∧ ∃ N : L2.St → Hp → Prop, (∀ σ' H', N σ' H' → ∃ m', m' < m ∧ W (i + 1) m' σ' H') ∧ ∀ x H', J.yld i H x H' → g x σ H' fun σ2 H2 => tb { D with nx := N, ct := N, bk := D.nx } σ2 H2)
theorem r_for {wi : TI} {g : TG} (q : wi σ H fun J H1 => ForL J g a D σ H1) : tFor wi g a D σ H := q
theorem r_iList {tl : TE} {R : It → Hp → Prop} (q : tl σ H fun x H1 => ∃ p, x = .ref p ∧ (∃ xs, SqL K H1 p xs) ∧ R (Itl K p) H1) : iList K tl σ H R := q
theorem r_iTup {tl : TE} {R : It → Hp → Prop} (q : tl σ H fun x H1 => ∃ p, x = .ref p ∧ (∃ xs, SqT K H1 p xs) ∧ R (Itt K p) H1) : iTup K tl σ H R := q
theorem r_iRng1 {R : It → Hp → Prop} (q : tr σ H fun vs H1 => ∃ j : Int, vs = [.int j] ∧ -(2 ^ 62) ≤ j ∧ j < 2 ^ 62 ∧ R (Itr 0 j.toNat) H1) : iRng1 tr σ H R := q
theorem r_iRng2 {R : It → Hp → Prop} (q : tr σ H fun vs H1 => ∃ i j : Int, vs = [.int i, .int j] ∧ (-(2 ^ 62) ≤ i ∧ i < 2 ^ 62 ∧ -(2 ^ 62) ≤ j ∧ j < 2 ^ 62) ∧ R (Itr i (j - i).toNat) H1) : iRng2 tr σ H R := q
theorem r_ixL {p : Addr} {xs : List V} {i : Int} (h : SqL K H p xs) (ha : atI xs i = some v) (q : Q v H) : rIxL K (.ref p) (.int i) H Q := ⟨p, xs, i, v, rfl, rfl, h, ha, q⟩
theorem r_ixT {p : Addr} {xs : List V} {i : Int} (h : SqT K H p xs) (ha : atI xs i = some v) (q : Q v H) : rIxT K (.ref p) (.int i) H Q := ⟨p, xs, i, v, rfl, rfl, h, ha, q⟩
theorem r_gSub {to ti : TE} {ts : TSet} {Qs : L2.St → Hp → Prop} (q : to σ H fun o H1 => ti σ H1 fun i H2 => ts o i v H2 fun H3 => Qs σ H3) : gSub to ti ts v σ H Qs := q
theorem r_bm {T : String} {rm : V → List V → Hp → VK → Prop} {to : TE} (q : to σ H fun x H1 => tyV K T x H1 ∧ tr σ H1 fun xs H2 => rm x xs H2 Q) : tBM K T rm to tr σ H Q := q
theorem iteNF {A B : Prop} (h : B) : if (!true) = true then A else B := iteF h
theorem iteNT {A B : Prop} (h : A) : if (!false) = true then A else B := iteT h
theorem iteD {c A B : Prop} [Decidable c] (hc : c) (h : A) : if decide c = true then A else B := by rw [decide_eq_true hc]; exact iteT h
theorem iteDn {c A B : Prop} [Decidable c] (hc : ¬ c) (h : B) : if decide c = true then A else B := by rw [decide_eq_false hc]; exact iteF h
theorem iteND {c A B : Prop} [Decidable c] (hc : c) (h : B) : if (!decide c) = true then A else B := by rw [decide_eq_true hc]; exact iteF h
theorem iteNDn {c A B : Prop} [Decidable c] (hc : ¬ c) (h : A) : if (!decide c) = true then A else B := by rw [decide_eq_false hc]; exact iteT h
/-- a test that is open: both ways, by what it says -/
theorem iteC {c A B : Prop} [Decidable c] (h1 : c → A) (h2 : ¬ c → B) : if decide c = true then A else B := by
  by_cases h : c
  · exact iteD h (h1 h)
  · exact iteDn h (h2 h)
theorem iteNC {c A B : Prop} [Decidable c] (h1 : ¬ c → A) (h2 : c → B) : if (!decide c) = true then A else B := by
  by_cases h : c
  · exact iteND h (h2 h)
  · exact iteNDn h (h1 h)
theorem iteB {b : Bool} {A B : Prop} (h1 : b = true → A) (h2 : b = false → B) : if b = true then A else B := by
  cases b
  · exact iteF (h2 rfl)
  · exact iteT (h1 rfl)
theorem iteNB {b : Bool} {A B : Prop} (h1 : b = false → A) (h2 : b = true → B) : if (!b) = true then A else B := by
  cases b
  · exact iteT (h1 rfl)
  · exact iteF (h2 rfl)
theorem r_m1 {rm : V → List V → Hp → VK → Prop} {to te : TE} (q : to σ H fun x H1 => (∃ a, x = .str a) ∧ te σ H1 fun y H2 => rm x [y] H2 Q) : tM1 rm to te σ H Q := q
theorem r_len {z : Str} (h : z.length ≤ 100000) (q : Q (.int z.length) H) : ∃ z', [V.str z] = [V.str z'] ∧ z'.length ≤ sizeLine ∧ Q (.int z'.length) H := ⟨z, rfl, Nat.le_trans h (by decide), q⟩
theorem sqL {p : Addr} {xs : List V} (h : H p = some (.lst xs)) : SqL K H p xs := .inl (.inl h)
theorem sqT {p : Addr} {xs : List V} (h : H p = some (.tup xs)) : SqT K H p xs := .inl (.inl h)
end
end Bk

namespace Bk
open PySem PySem.Spec PyProof.Rows L2
/-! ## 4. what isinstance answers -/
def IsA (K : PySem.W.Frag) (H : Hp) (x : V) (T : String) (b : Bool) : Prop :=
  (∃ t, TyX K H x t ∧ PySem.W.kitOne K t (.type T) = some b) ∨ (∃ (a D dx : Addr) (fs : List (Str × V)), x = .ref a ∧ XV H a D dx fs ∧ ExcC K D ∧ PySem.W.kitOne K (.ref D) (.type T) = some b)
section
variable {K : PySem.W.Frag} {H H' : Hp} {x : V} {T : String} {b : Bool} {Q : VK}
theorem r_is (h : IsA K H x T b) (q : Q (.bl b) H) : rIs K [x, .ty T] H Q := by
  rcases h with ⟨t, h1, h2⟩ | ⟨a, D, dx, fs, rfl, h1, h2, h3⟩
  · exact .inl ⟨x, .ty T, t, .type T, b, rfl, .ty T, h1, h2, q⟩
  · exact .inr ⟨a, D, dx, fs, .ty T, .type T, b, rfl, h1, h2, .ty T, h3, q⟩
theorem isa_int {i : Int} (h : kitB "int" T = some b := by decide +kernel) : IsA K H (.int i) T b := .inl ⟨.type "int", .base (.int i), kit_ty h⟩
theorem isa_bl {c : Bool} (h : kitB "bool" T = some b := by decide +kernel) : IsA K H (.bl c) T b := .inl ⟨.type "bool", .base (.bl c), kit_ty h⟩
theorem isa_str {z : Str} (h : kitB "str" T = some b := by decide +kernel) : IsA K H (.str z) T b := .inl ⟨.type "str", .base (.str z), kit_ty h⟩
theorem isa_non (h : kitB "NoneType" T = some b := by decide +kernel) : IsA K H .non T b := .inl ⟨.type "NoneType", .base .non, kit_ty h⟩
theorem isa_lst {a : Addr} {xs : List V} (e : H a = some (.lst xs)) (h : kitB "list" T = some b := by decide +kernel) : IsA K H (.ref a) T b := .inl ⟨.type "list", .base (.lst e), kit_ty h⟩
theorem isa_tup {a : Addr} {xs : List V} (e : H a = some (.tup xs)) (h : kitB "tuple" T = some b := by decide +kernel) : IsA K H (.ref a) T b := .inl ⟨.type "tuple", .base (.tup e), kit_ty h⟩
theorem isa_dK {a : Addr} {kvs : List (Key × V)} (e : H a = some (.dK kvs)) (h : kitB "dict" T = some b := by decide +kernel) : IsA K H (.ref a) T b := .inl ⟨.type "dict", .base (.dK e), kit_ty h⟩
theorem isa_exc {a D dx : Addr} {fs : List (Str × V)} (e : XV H a D dx fs) (C : ExcC K D) (h : PySem.W.kitOne K (.ref D) (.type T) = some b) : IsA K H (.ref a) T b := .inr ⟨a, D, dx, fs, rfl, e, C, h⟩
end
/-! ## 5. the box of draws -/
def Box (a : Addr) (n : Nat) (H : Hp) : Prop := ∃ x y z : Int, H a = some (.lst [.int x, .int y, .int z]) ∧ 0 ≤ x ∧ 0 ≤ y ∧ y < 2147483629 ∧ 0 ≤ z ∧ z ≤ (n : Int)
/-- all but what stands at a is as it was -/
def But (a : Addr) (H H' : Hp) : Prop := ∀ b o, b ≠ a → H b = some o → H' b = some o
theorem But.refl {a : Addr} {H : Hp} : But a H H := fun _ _ _ h => h
theorem But.trans {a : Addr} {H H1 H2 : Hp} (x : But a H H1) (y : But a H1 H2) : But a H H2 := fun b o n e => y b o n (x b o n e)
theorem But.same {a : Addr} {H H1 H2 : Hp} (x : But a H H1) (y : Same H1 H2) : But a H H2 := fun b o n e => y b o (x b o n e)
theorem But.of {a : Addr} {H H1 : Hp} (y : Same H H1) : But a H H1 := fun b o _ e => y b o e
theorem But.upd {a : Addr} {H : Hp} {o : HO} : But a H (upd H a o) := fun b u n e => by rw [upd_ne n]; exact e
theorem Box.same {a : Addr} {n : Nat} {H H' : Hp} (h : Box a n H) (s : Same H H') : Box a n H' := by
  obtain ⟨x, y, z, e, r⟩ := h
  exact ⟨x, y, z, s _ _ e, r⟩
theorem Box.mono {a : Addr} {n m : Nat} {H : Hp} (h : Box a n H) (l : n ≤ m) : Box a m H := by
  obtain ⟨x, y, z, e, r1, r2, r3, r4, r5⟩ := h
  exact ⟨x, y, z, e, r1, r2, r3, r4, by omega⟩
theorem Box.ne {a p : Addr} {n : Nat} {H : Hp} (h : Box a n H) (hp : H p = none) : p ≠ a := by
  obtain ⟨x, y, z, e, _⟩ := h
  exact (ne_of_none e hp).symm
theorem Box.ne_tup {a p : Addr} {n : Nat} {H : Hp} {xs : List V} (h : Box a n H) (hp : H p = some (.tup xs)) : p ≠ a := by
  obtain ⟨x, y, z, e, _⟩ := h
  exact fun q => by rw [q, e] at hp; cases hp
def spCell (K : PySem.W.Frag) : Sp := fun vs H Q _ => ∃ (a : Addr) (ns : List Int) (k : Nat), vs = [.ref a, .int k] ∧ SqL K H a (ns.map V.int) ∧ k ≤ 100000 ∧ ∀ c, Q (.int c) H
def spBox : Sp := fun vs H Q _ => ∃ c : Int, vs = [.int c] ∧ ∀ p H', H p = none → Same H H' → Box p 0 H' → Q (.ref p) H'
def spTake : Sp := fun vs H Q _ => ∃ (a : Addr) (n : Nat) (size : Int), vs = [.ref a, .int size] ∧ Box a n H ∧ n < 1000000 ∧ 0 < size ∧ size < 2 ^ 128 ∧
  ∀ d H', 0 ≤ d → d < size → Box a (n + 1) H' → But a H H' → Q (.int d) H'
theorem cdiv {i j : Int} (h : 0 < j) (h2 : j < 2 ^ 128) : CDivW i j := wide_div (b := 128) h (by omega) (by decide) (by decide)
theorem cmul {i j : Int} (h1 : -(2 ^ 128) < i) (h2 : i < 2 ^ 128) (h3 : -(2 ^ 128) < j) (h4 : j < 2 ^ 128) : CMulW i j := wide_mul (a := 128) (b := 128) (by omega) (by omega) (by decide) (by decide) (by decide)
theorem at_map {ns : List Int} {k : Nat} (h : k < ns.length) : atI (ns.map V.int) ((k : Nat) : Int) = some (.int ns[k]) := atI_nat (by rw [List.getElem?_map, List.getElem?_eq_getElem h]; rfl)
end Bk

namespace Bk
open PySem PySem.Spec PyProof.Rows L2
theorem sameBut {H H' : Hp} {D : Addr} {o : HO} (h : Same H H') (n : H D = none) : Same H (upd H' D o) := fun b u e => by
  rw [upd_ne (ne_of_none e n)]
  exact h b u e
/-! ## 6. a comprehension over a text's signs, all of it -/
section
variable {K : PySem.W.Frag} {σ : L2.St} {H : Hp} {Q : VK} {te : TE}
/-- the list of p of each sign -/
theorem r_lcStr {i0 j : Nat} {vs : List Nat} {z : Str} (p : Nat → V) (hv : σ[i0]? = some (some (.str z))) (hz : z.length ≤ 100000)
    (hw : ∀ x, wipe ((wipe σ vs).set j (some x)) vs = wipe σ vs)
    (ht : ∀ (c : Nat) (H' : Hp) (Q' : VK), c ∈ z.cps.toList → Same H H' → (∀ H2, Same H' H2 → Q' (p c) H2) → te ((wipe σ vs).set j (some (.str ⟨#[c]⟩))) H' Q')
    (q : ∀ D H', H D = none → Same H H' → H' D = some (.lst (z.cps.toList.map p)) → Q (.ref D) H') :
    tLc (iStr (tVar i0)) (gName j) tYes te vs σ H Q := by
  refine ⟨_, hv, z, rfl, fun D hD => ?_⟩
  refine lc_it (n := z.cps.size) walk_str (fun i H' => Same H H' ∧ H' D = some (.lst ((z.cps.toList.take i).map p))) ⟨same_upd hD, by rw [upd_same]; rfl⟩ (fun _ _ _ _ => trivial) ?_ ?_
  · rintro i x H1 H2 hi ⟨sm, e⟩ ⟨rfl, c, hc, rfl⟩
    have hc' : z.cps.toList[i]? = some c := by rw [Array.getElem?_toList]; exact hc
    refine ⟨hw _, ?_⟩
    show te _ _ _
    refine ht c _ _ (List.mem_of_getElem? hc') sm fun H3 s3 => ⟨_, s3 _ _ e, ?_, sameBut (sm.trans s3) hD, ?_⟩
    · have l : ((z.cps.toList.take i).map p).length ≤ z.cps.size := by
        rw [List.length_map, List.length_take, Array.length_toList]
        omega
      have hz' : z.cps.size ≤ 100000 := hz
      exact Nat.lt_of_le_of_lt (Nat.le_trans l hz') (by decide)
    · rw [upd_same, List.take_add_one, hc', List.map_append]
      rfl
  · rintro H1 ⟨sm, e⟩
    refine q D H1 hD sm ?_
    rw [e]
    have l : z.cps.size = z.cps.toList.length := (Array.length_toList).symm
    rw [l, List.take_length]
/-- all([p(sign) for sign in text]) -/
theorem r_allStr {i0 j : Nat} {vs : List Nat} {z : Str} (p : Nat → Bool) (hv : σ[i0]? = some (some (.str z))) (hz : z.length ≤ 100000)
    (hw : ∀ x, wipe ((wipe σ vs).set j (some x)) vs = wipe σ vs)
    (ht : ∀ (c : Nat) (H' : Hp) (Q' : VK), c ∈ z.cps.toList → Same H H' → (∀ H2, Same H' H2 → Q' (.bl (p c)) H2) → te ((wipe σ vs).set j (some (.str ⟨#[c]⟩))) H' Q')
    (q : ∀ H', Same H H' → Q (.bl (z.cps.toList.all p)) H') :
    tCB (rAll K) (tCons (tLc (iStr (tVar i0)) (gName j) tYes te vs) tNil) σ H Q := by
  refine r_cb (r_cons ?_)
  refine r_lcStr (fun c => .bl (p c)) hv hz hw ht fun D H' nD sm e => ?_
  refine r_nil ⟨D, z.cps.toList.map p, rfl, sqL ?_, ?_⟩
  · rw [e, List.map_map]
    rfl
  · rw [List.all_map]
    exact q H' sm
end
/-! ## 7. draws, items, slices -/
section
variable {K : PySem.W.Frag} {σ : L2.St} {H : Hp} {Q : VK} {E : XK} {te : TE} {tl th : TO} {QO : Option Int → Hp → Prop}
theorem r_take {a : Addr} {n : Nat} {size : Int} (hB : Box a n H) (q : ∀ d H', 0 ≤ d → d < size → Box a (n + 1) H' → But a H H' → Q (.int d) H') (hn : n < 1000000 := by omega) (h0 : 0 < size := by decide) (h1 : size < 2 ^ 128 := by decide) : spTake [.ref a, .int size] H Q E :=
  ⟨a, n, size, rfl, hB, hn, h0, h1, q⟩
theorem r_ixS {z : Str} {d : Int} (h0 : 0 ≤ d) (h1 : d < (z.cps.toList.length : Int)) (hz : z.length ≤ 100000) (q : ∀ c, z.cps.toList[d.toNat]? = some c → Q (.str ⟨#[c]⟩) H) : rIxS (.str z) (.int d) H Q := by
  have l : d.toNat < z.cps.toList.length := by omega
  obtain ⟨c, hc⟩ : ∃ c, z.cps.toList[d.toNat]? = some c := ⟨_, List.getElem?_eq_getElem l⟩
  refine ⟨z, d, c, rfl, rfl, Nat.le_trans hz (by decide), ?_, q c hc⟩
  have e : d = ((d.toNat : Nat) : Int) := by omega
  rw [e]
  exact atI_nat hc
theorem r_ixLo {p : Addr} {xs : List V} {d : Int} (h : SqL K H p xs) (h0 : 0 ≤ d) (h1 : d < (xs.length : Int)) (q : ∀ v, v ∈ xs → xs[d.toNat]? = some v → Q v H) : rIxL K (.ref p) (.int d) H Q := by
  have l : d.toNat < xs.length := by omega
  obtain ⟨v, hv⟩ : ∃ v, xs[d.toNat]? = some v := ⟨_, List.getElem?_eq_getElem l⟩
  refine r_ixL h (v := v) ?_ (q v (List.mem_of_getElem? hv) hv)
  have e : d = ((d.toNat : Nat) : Int) := by omega
  rw [e]
  exact atI_nat hv
theorem r_sl {r : V → Option Int → Option Int → Hp → VK → Prop} (q : te σ H fun x H1 => tl σ H1 fun l H2 => th σ H2 fun u H3 => r x l u H3 Q) : tSl r te tl th σ H Q := q
theorem r_noPart (q : QO none H) : tNoPart σ H QO := q
theorem r_part (q : te σ H fun x H1 => ∃ i, x = .int i ∧ QO (some i) H1) : tPart te σ H QO := q
theorem r_isi {i : Int} {A : Int → Prop} (q : A i) : ∃ i', V.int i = .int i' ∧ A i' := ⟨i, rfl, q⟩
theorem r_slS {z : Str} {lo hi : Option Int} (hz : z.length ≤ 100000) (q : ∀ y : Str, y.length ≤ z.length → Q (.str y) H) : rSlS (.str z) lo hi H Q := ⟨z, rfl, Nat.le_trans hz (by decide), q _ (cutS_length z lo hi)⟩
end
theorem r_cut {a b : TS} {D : Ends} {σ : L2.St} {H : Hp} (Mid : L2.St → Hp → Prop) (h1 : a { D with nx := Mid } σ H) (h2 : ∀ σ' H', Mid σ' H' → b D σ' H') : C8.tCut a b D σ H := ⟨Mid, h1, h2⟩
theorem str_len_add (x y : Str) : (x ++ y).length = x.length + y.length := by
  have h : ∀ z : Str, z.length = z.cps.toList.length := fun z => (Array.length_toList).symm
  rw [h, h, h]; show (TL.tl (x ++ y)).length = _; rw [TL.tl_append]
  exact List.length_append
theorem lt1 {c d : Nat} : decide ([c] < [d]) = decide (c < d) := by
  by_cases h : c < d
  · rw [decide_eq_true h]
    exact decide_eq_true (List.Lex.rel h)
  · rw [decide_eq_false h]
    refine decide_eq_false fun z => ?_
    cases z with
    | rel q => exact h q
    | cons q => cases q
theorem sign_tl {c : Nat} : (⟨#[c]⟩ : Str).cps.toList = [c] := rfl
/-- a text begins with this sign -/
theorem starts1 (z : Str) (c : Nat) : Txt.startswith z ⟨#[c]⟩ = decide (z.cps.toList[0]? = some c) := by
  have h := PySem.StrLaws.subAt_one z c 0
  unfold Txt.startswith
  by_cases e : z.cps.toList[0]? = some c
  · obtain ⟨h1, h2⟩ := h.mpr e
    rw [decide_eq_true e, h2, decide_eq_true h1]
    rfl
  · rw [decide_eq_false e]
    by_cases h1 : 0 + (⟨#[c]⟩ : Str).length ≤ z.length
    · rw [decide_eq_true h1, Bool.true_and]
      exact Bool.eq_false_iff.mpr fun h2 => e (h.mp ⟨h1, h2⟩)
    · rw [decide_eq_false h1]
      rfl
end Bk

namespace Bk
open PySem PySem.Spec PyProof.Rows L2
/-! ## 9. defs that are run where no text is being told of a thing -/
structure FnG (P : Program) (w : World) (K : PySem.W.Frag) (mg : Str → Option Value) (base : Heap) (CX : CXT) (k : Nat) (f : Addr) (fd : FuncData) (ps : List Str) (sp : Sp) : Prop where
  len : ∀ vs H Q E, sp vs H Q E → vs.length = ps.length
  go : ∀ (A : Around) (ou : List Env) (s : Shared) (H : Hp) (ar : Args) (us : List Value) (vs : List V) (Q : VK) (E : XK), A.guards = some [] → Room k A → Env0 P w K mg base A ou s H → BindsTo s fd ar (ps.zip us) → Vals vs us → sp vs H Q E →
    codeAny (model P w) A (.call (.ref f) ar) (CR CX ou P w H s Q E) s
section
variable {P : Program} {w : World} {K : PySem.W.Frag} {mg : Str → Option Value} {base : Heap} {CX : CXT} {j k : Nat} {f : Addr} {fd : FuncData} {N ps : List Str} {sp : Sp} {x qual : Str} {st : Stmt}
theorem FnG.of (F : FnOk P w K mg base CX k f fd ps sp) : FnG P w K mg base CX k f fd ps sp := ⟨F.len, fun A ou s H ar us vs Q E _ => F.run A ou s H ar us vs Q E⟩
theorem FnG.up (F : FnG P w K mg base CX j f fd ps sp) (h : j ≤ k) : FnG P w K mg base CX k f fd ps sp := ⟨F.len, fun A ou s H ar us vs Q E g hr => F.go A ou s H ar us vs Q E g (hr.mono h)⟩
/-- by its body -/
theorem fun_okG (F : Fun K x qual st f fd) (S : FnScope N ps (defScope st)) (len : ∀ vs H Q E, sp vs H Q E → vs.length = ps.length)
    (hbody : ∀ (cdv : Value) (A : Around) (ou : List Env) (s : Shared) (H : Hp) (vs : List V) (Q : VK) (E : XK), (A.deeper (envOfC qual (defScope st) s.heap.objs.size f cdv)).guards = some [] → Room k (A.deeper (envOfC qual (defScope st) s.heap.objs.size f cdv)) → sp vs H Q E →
      ∃ t, PSs (cxOf CX0 P w K mg base N qual (defScope st) f cdv A ou s H E).nox (defBody st) t ∧ t { nx := fun _ H' => Q .non H', rt := Q } (start N vs) H) : FnG P w K mg base CX0 (k + 1) f fd ps sp := by
  obtain ⟨oc, od, kV, doc, pm, an, cdv, ct, osl, rfl, lk, hcd⟩ := F.ex
  refine ⟨len, fun A ou s H ar us vs Q E hg hr e0 hb rv hsp => ?_⟩
  have KX : K.In s.heap := e0.mod.kin.keeps fun b o z => (e0.bs b o z).1
  refine Att.call_fn KX (e0.mod.nolimit.keeps fun b o z => (e0.bs b o z).1) lk hcd hr.depth hb ?_ (fun s1 x1 => ?_) S.co S.gen S.kind
  · rw [List.all_eq_true]
    rintro ⟨n, v⟩ hy
    rcases S.par n (List.of_mem_zip hy).1 with q | q <;> simp [q]
  · obtain ⟨t, ht, hq⟩ := hbody cdv A ou s H vs Q E hg (hr.deeper _) hsp
    have I := inv_start (CX := CX0) (E := E) S hr.hd e0 (len _ _ _ _ hsp) rv x1
    refine wpAny_mono (ht.nox.run [] s1 (start N vs) H _ I hq) (fun fl s2 z => ?_) fun _ _ z => z
    cases fl with
    | ret u => exact let ⟨v, _, H2, J, r2, q2⟩ := z; ⟨v, H2, J.os, J.bare, J.base, J.hok, r2, q2⟩
    | next => exact let ⟨_, H2, J, q2⟩ := z; ⟨.non, H2, J.os, J.bare, J.base, J.hok, rfl, q2⟩
    | brk => exact (let ⟨_, _, _, q2⟩ := z; q2 : False).elim
    | cont => exact (let ⟨_, _, _, q2⟩ := z; q2 : False).elim
end
structure CalG (P : Program) (w : World) (K : PySem.W.Frag) (mg : Str → Option Value) (base : Heap) (CX : CXT) (k : Nat) (x : Str) (sp : Sp) : Prop where
  ex : ∃ (f : Addr) (fd : FuncData) (ps : List Str), mg x = some (.ref f) ∧ PySem.W.keepIn K (.ref f) = true ∧ FnG P w K mg base CX k f fd ps sp ∧ Binds K fd ps []
theorem CalG.mk' {P : Program} {w : World} {K : PySem.W.Frag} {mg : Str → Option Value} {base : Heap} {CX : CXT} {k : Nat} {x : Str} {sp : Sp} {f : Addr} {fd : FuncData} {ps : List Str} (g : mg x = some (.ref f)) (kp : PySem.W.keepIn K (.ref f) = true) (F : FnG P w K mg base CX k f fd ps sp) (b : Binds K fd ps []) :
    CalG P w K mg base CX k x sp := ⟨f, fd, ps, g, kp, F, b⟩
section
variable {X : Cx} {k j : Nat} {sp : Sp} {x : Str} {p pos : Pos} {e : Expr} {es : List Expr} {t : TA}
theorem pe_calG (c : CalG X.prog X.w X.K X.mg X.base CX0 k x sp) (ga : X.A.guards = some []) (hr : Room j X.A) (hk : k ≤ j) (hg : Gl X x) (ha : PA X (e :: es) t)
    (hdb : (x == ("__debug__" : Str)) = false := by decide) (he : starEach (e :: es) X.env = (false, eval e X.env) :: starEach es X.env := by rfl) (hpl : (backTo pos (starEach es X.env)).any (·.1) = false := by rfl) :
    PE X (.Call (.Name x p) (e :: es) [] pos) (tCall sp [] E0 t) := by
  obtain ⟨f, fd, ps, h1, h2, h3, h4⟩ := c.ex
  refine ⟨fun pins s σ H Q I h => wpAny_Call_Name_kw (ld_glob I hg h1 (PySem.W.callWith_K (h₀ := X.base) I.ok.mod.kin h2 (thn (ha.run pos pins s σ H _ I h) fun us s1 ⟨vs, H1, I1, r, q⟩ => ⟨I1.kIn, ?_⟩) he hpl) hdb)⟩
  have q' : sp vs H1 Q E0 := by have z : sp (vs ++ []) H1 Q E0 := q; rw [List.append_nil] at z; exact z
  have b := h4 s1 us I1.kIn (by rw [List.append_nil, ← r.length]; exact h3.len _ _ _ _ q')
  rw [List.append_nil] at b
  refine wpAny_call (codeAny_mono (h3.go X.A X.stack s1 H1 ⟨us, []⟩ us vs Q E0 ga (hr.mono hk) I1.env0 b r q') fun rr s2 z => ?_)
  match rr, z with
  | .ok (.ret _), z => exact I1.after z
end
/-! ### the head -/
section
variable {P : Program} {w : World} {K : PySem.W.Frag} {mg mb : Str → Option Value} {s : Shared} {a : Addr} {vs : List Value} {ns : List Int} {H : Hp}
theorem lawG_core {k : Nat} {fa : Addr} {fd : FuncData} {x : Str} {sp : Sp} (KX : K.In s.heap) (hns : s.heap.Ns mainGlobals mg) (hb : s.heap.Ns builtinsNs mb) (hbb : ∀ x : Str, x ≠ "__name__" → mb x = bootBuiltins x) (hlim : s.heap.NoLimit) (hg : s.gens = #[])
    (ha : s.heap.get? a = some { cls := .type "list", data := .seq vs.toArray }) (hr : Room k callerA)
    (F : ∀ base : Heap, K.In base → base.Ns mainGlobals mg → FnG P w K mg base CX0 k fa fd [x] sp) (hbind : ∀ (s : Shared) (u : Value), BindsTo s fd ⟨[u], []⟩ [(x, u)])
    (hO : Only H) (hq : sp [.ref a] H (fun v _ => v = .bl true) fun _ _ _ => False) (ok : HOk P w H s.heap) (hA : ∀ b, H b ≠ none → b = a ∧ K.lookup a = none) :
    codeAny (model P w) callerA (.call (.ref fa) ⟨[.ref a], []⟩) (fun r s' => r = .ok (.ret (.bool true)) ∧ OldK s.heap s'.heap ∧ s'.os = s.os ∧ AllBare s'.gens) s := by
  have un : ∀ {b : Addr} {o : Obj}, s.heap.get? b = some o → (b = a → K.lookup a ≠ none ∨ ∃ es ep, o.data = .dict es ep) → (hidT s.heap H).get? b = some o := fun {b o} e n => hidT_get e (by
    apply Classical.byContradiction
    intro z
    obtain ⟨rfl, kn⟩ := hA b z
    rcases n rfl with q | ⟨es, ep, q⟩
    · exact q kn
    · rw [ha] at e
      cases e
      exact nomatch q)
  have nsK : ∀ {b : Addr} {m : Str → Option Value}, s.heap.Ns b m → (hidT s.heap H).Ns b m := fun ⟨o, es, ep, e, d, r⟩ => ⟨o, es, ep, un e fun _ => .inr ⟨es, ep, d⟩, d, r⟩
  have hKb : K.In (hidT s.heap H) := fun b o e => un (KX b o e) fun z => .inl (by rw [← z, e]; exact Option.some_ne_none o)
  have e0 : Env0 P w K mg (hidT s.heap H) callerA [] s H := ⟨rfl, ⟨hKb, nsK hns, ⟨mb, nsK hb, hbb⟩, hlim.elim fun mc z => ⟨mc, nsK z.1, z.2⟩⟩, fun b o z => of_hidT z, Nat.le_of_eq (hidT_size _ _), trivial, fun _ z => absurd z List.not_mem_nil, ok, .of_eq hg⟩
  refine codeAny_mono ((F _ hKb (nsK hns)).go callerA [] s H ⟨[.ref a], []⟩ [.ref a] [.ref a] _ _ rfl hr e0 (hbind s (.ref a)) (.cons rfl .nil) hq) fun r s' h => ?_
  match r, h with
  | .ok (.ret u), h =>
    obtain ⟨v, H2, os, bare, un2, ok2, rv, q2⟩ := h
    obtain rfl : v = .bl true := q2
    obtain rfl : u = Value.bool true := rv
    refine ⟨rfl, OldK.of_keep fun b o e => ?_, os, bare⟩
    rcases hO b with z | ⟨ob, xs, z⟩
    · exact un2.keep b o e z List.not_mem_nil List.not_mem_nil
    · have o1 := (ok b _ z).1
      have o2 := (ok2 b _ (un2.frzs b ob _ z)).1
      rw [e] at o1
      rw [o1]
      exact o2
theorem lawG {k : Nat} {fa : Addr} {fd : FuncData} {x : Str} {sp : Sp} (KX : K.In s.heap) (hns : s.heap.Ns mainGlobals mg) (hb : s.heap.Ns builtinsNs mb) (hbb : ∀ x : Str, x ≠ "__name__" → mb x = bootBuiltins x) (hlim : s.heap.NoLimit) (hg : s.gens = #[])
    (ha : s.heap.get? a = some { cls := .type "list", data := .seq vs.toArray }) (hi : IntsAre vs ns) (hl : ns.length ≤ sizeLine) (hr : Room k callerA)
    (F : ∀ base : Heap, K.In base → base.Ns mainGlobals mg → FnG P w K mg base CX0 k fa fd [x] sp) (hbind : ∀ (s : Shared) (u : Value), BindsTo s fd ⟨[u], []⟩ [(x, u)])
    (hsp : ∀ H : Hp, Only H → SqL K H a (ns.map V.int) → sp [.ref a] H (fun v _ => v = .bl true) fun _ _ _ => False) :
    codeAny (model P w) callerA (.call (.ref fa) ⟨[.ref a], []⟩) (fun r s' => r = .ok (.ret (.bool true)) ∧ OldK s.heap s'.heap ∧ s'.os = s.os ∧ AllBare s'.gens) s := by
  have rv := vals_ints hi
  cases hk : K.lookup a with
  | some o =>
    have e := KX a o hk
    rw [ha] at e
    cases e
    exact lawG_core KX hns hb hbb hlim hg ha hr F hbind (fun _ => .inl rfl) (hsp (fun _ => none) (fun _ => .inl rfl) (.inr ⟨_, vs.toArray, _, hk, rfl, rfl, rfl, by rw [List.size_toArray, hi.length]; exact hl, rv⟩)) (fun b u z => nomatch z) fun b z => absurd rfl z
  | none =>
    have ke : (fun b => if b = a then some (HO.frz { cls := .type "list", data := .seq vs.toArray } (.lst (ns.map V.int))) else none) a = some (HO.frz { cls := .type "list", data := .seq vs.toArray } (.lst (ns.map V.int))) := if_pos rfl
    have only : ∀ b, (fun b => if b = a then some (HO.frz { cls := .type "list", data := .seq vs.toArray } (.lst (ns.map V.int))) else none) b ≠ none → b = a := fun b z => Classical.byContradiction fun n => z (if_neg n)
    have hO : Only (fun b => if b = a then some (HO.frz { cls := .type "list", data := .seq vs.toArray } (.lst (ns.map V.int))) else none) := fun b => by
      by_cases q : b = a
      · exact .inr ⟨_, _, if_pos q⟩
      · exact .inl (if_neg q)
    refine lawG_core KX hns hb hbb hlim hg ha hr F hbind hO (hsp _ hO (.inl (.inr ⟨_, ke⟩))) (fun b u z => ?_) fun b z => ⟨only b z, hk⟩
    obtain rfl := only b fun y => nomatch z.symm.trans y
    have z2 := ke.symm.trans z
    cases z2
    exact ⟨ha, by rw [List.length_map]; exact hl, vs, _, rv, ha⟩
end
theorem walk_ofG {l : PySem.W.OpenLaw} {n k : Nat} {q : Program} {loose : List Str} {XP : (Str → Option Value) → Heap → Prop} {YP : World → Heap → Prop} {d : DefRec} {K : Params → PySem.W.Frag} {sp : World → Sp} {x : Str}
    (hn : l.most = some n) (hn2 : n ≤ sizeLine) (hdf : d.params.defaults = []) (hr : Room k callerA) (hY : ∀ (w : World) (h : Heap), YP w h → (K w.params).In h)
    (F : ∀ (w : World) (mg : Str → Option Value) (fa : Addr) (h : Heap), (K w.params).In h → h.Ns mainGlobals mg → mg d.name = some (.ref fa) →
      ∃ fd : FuncData, (∀ (s : Shared) (u : Value), BindsTo s fd ⟨[u], []⟩ [(x, u)]) ∧ ∀ base : Heap, (K w.params).In base → base.Ns mainGlobals mg → FnG l.prog w (K w.params) mg base CX0 k fa fd [x] (sp w))
    (hsp : ∀ (w : World) (H : Hp) (a : Addr) (ns : List Int), ns.length ≤ n → Only H → SqL (K w.params) H a (ns.map V.int) → sp w [.ref a] H (fun v _ => v = .bl true) fun _ _ _ => False) :
    PySem.W.WalkO q loose XP YP l.row.toRowW d [] (fun f vs => PySem.call f vs) :=
  Att.attach_call hn hdf fun w s₀ s₁ mg mb fa o pm cd doc a vs ns G Y ho hd hcd hmg hobj hints hlen hg => by
    obtain ⟨fd, hb, hF⟩ := F w mg fa _ (hY w _ Y) G.T.g hmg
    exact lawG (hY w _ Y) G.T.g G.T.b G.T.builtins G.T.nolimit hg hobj hints (Nat.le_trans hlen hn2) hr hF hb fun H hO hS => hsp w H a ns hlen hO hS
/-! ## 10. a thing's text -/
mutual
theorem dp_flat {K : PySem.W.Frag} {H : Hp} : ∀ (d : PyData) (v : V), Dp K H v d → d.hasDict = false
  | .none, _, _ => by simp only [PyData.hasDict]
  | .bool _, _, _ => by simp only [PyData.hasDict]
  | .int _, _, _ => by simp only [PyData.hasDict]
  | .str _, _, _ => by simp only [PyData.hasDict]
  | .list ds, _, h => by
    cases h with
    | lst _ ha => simpa only [PyData.hasDict] using dp_flatAll ds _ ha
  | .tuple ds, _, h => by
    cases h with
    | tup _ ha => simpa only [PyData.hasDict] using dp_flatAll ds _ ha
  | .dict _, _, h => by cases h
theorem dp_flatAll {K : PySem.W.Frag} {H : Hp} : ∀ (ds : List PyData) (vs : List V), DpAll K H vs ds → PyData.hasDictAll ds = false
  | [], _, _ => by simp only [PyData.hasDictAll]
  | d :: ds, _, h => by
    cases h with
    | cons h1 h2 => simp only [PyData.hasDictAll, dp_flat d _ h1, dp_flatAll ds _ h2, Bool.or_false]
end
/-- z is how repr tells v -/
def Shw (K : PySem.W.Frag) (H : Hp) (v : V) (z : Str) : Prop := (∃ d, Dp K H v d ∧ d.showable = true ∧ d.shown.length ≤ sizeLine ∧ d.depth ≤ 60 ∧ z = d.shown) ∨ ∃ a, v = .ref a ∧ H a = some (.dK []) ∧ z = "{}"
section
variable {X : Cx} {j : Nat}
theorem call_repr_shw (ga : X.A.guards = some []) (hr : Room j X.A) : CallR X (.builtin "repr") (fun xs H Q => ∃ v z, xs = [v] ∧ Shw X.K H v z ∧ Q (.str z) H) := by
  intro pins s σ H xs us Q I r h
  obtain ⟨v, z, rfl, hs, q⟩ := h
  obtain ⟨u, rfl, rv⟩ := vals1 r
  have hu := hr.units
  rcases hs with ⟨d, hd, h1, h2, h3, rfl⟩ | ⟨a, rfl, ha, rfl⟩
  · have fin : ∀ {x : Str} {t : Nat}, x = d.shown → EP X pins σ Q (.str x s.toks) { s with toks := t } := fun {x t} e => ⟨.str _, H, I.tok _, ⟨_, rfl⟩, by rw [e]; exact q⟩
    have ref : ∀ {a : Addr}, v = .ref a → wpAny (model X.prog X.w) X.A (call (.builtin "repr") [u]) (EP X pins σ Q) X.xe s := fun {a} e => by
      subst e
      obtain rfl : u = Value.ref a := rv
      obtain ⟨as, rd⟩ := Dp.reads I d (.ref a) _ hd rfl
      exact repr_of_reads' rd h1 (PyData.noDict_hsm (dp_flat d _ hd)) ga (by omega) (fun _ _ e => e) (fun h' u tk hk => ⟨.str _, H, I.kept hk, ⟨_, rfl⟩, q⟩) h2
    cases hd with
    | non =>
      cases rv
      exact PySem.P.repr_of_none (fin (by simp only [PyData.shown]))
    | bl b =>
      cases rv
      exact PySem.P.repr_of_bool (fin (by simp only [PyData.shown]))
    | int i =>
      obtain ⟨t, rfl⟩ := rv
      exact PySem.P.repr_of_int (by simpa only [PyData.showable, decide_eq_true_eq] using h1) (fin (by simp only [PyData.shown]))
    | str x =>
      obtain ⟨t, rfl⟩ := rv
      exact PySem.P.repr_of_str (fin (by simp only [PyData.shown])) (by simpa only [PyData.shown] using h2)
    | lst _ _ => exact ref rfl
    | tup _ _ => exact ref rfl
  · obtain rfl : u = Value.ref a := rv
    obtain ⟨_, hm, vs, kv, o, es, ep, ho, hx, hde, _, pr, _⟩ := I.hok a _ ha
    cases kv
    have e0 : es.toList = [] := by
      have z := pr
      generalize es.toList = l at z
      cases z
      rfl
    have hc : o.cls = .type "dict" := hx.1
    have rd : Reads s.heap (.ref a) (.dict []) [a] := by
      have z : Reads s.heap (.ref a) (.dict []) (a :: [] ++ []) := .dict ho hc hde (by rw [e0]; exact .nil) (by rw [e0]; exact .nil)
      exact z
    have nm : sysModules ∉ [a] := fun z => by
      rw [List.mem_singleton.mp z] at hm
      exact absurd hm (by simp)
    have dp : (PyData.dict []).depth = 1 := by simp [PyData.depth, PyData.depthKv]
    have tx : (PyData.dict []).shown = ("{}" : Str) := by simp [PyData.shown, PyData.shownKv]; rfl
    refine repr_of_reads' rd (by simp only [PyData.showable, PyData.showableKv]) (fun _ => nm) ga (by rw [dp]; omega) (fun _ _ e => e) (fun h' u tk hk => ⟨.str _, H, I.kept hk, ⟨_, rfl⟩, ?_⟩) ?_
    · rw [tx]
      exact q
    · rw [tx]
      decide
end
end Bk

namespace Bk
open PySem PySem.Spec PyProof.Rows L2
/-! ## 11. try: .. except A as e: .. except B as e: .. , what none of them takes does not come -/
abbrev ClA := Value × Nat × (Addr → Value → Option Addr → TS)
def offI (i : Nat) (D : Ends) : Ends := { nx := fun τ G => D.nx (τ.set i none) G, rt := D.rt, bk := fun τ G => D.bk (τ.set i none) G, ct := fun τ G => D.ct (τ.set i none) G }
def wAM (K : PySem.W.Frag) (D : Ends) : List ClA → WX
  | [] => fun _ _ _ _ => False
  | q :: l => fun cls d τ G => ∃ b, PySem.W.exmOne K cls q.1 = some b ∧ (b = true → ∀ a, G a = none → q.2.2 a cls d (offI q.2.1 D) (τ.set q.2.1 (some (.ref a))) G) ∧ (b = false → wAM K D l cls d τ G)
inductive HdA (X : Cx) : List ExceptHandler → List ClA → Prop
  | stop {hds : List ExceptHandler} : HdA X hds []
  | more {x n : Str} {c : Value} {i : Nat} {ts : Addr → Value → Option Addr → TS} {b : Stmt} {bs : List Stmt} {p1 p2 : Pos} {hds : List ExceptHandler} {l : List ClA} (nm : Names X x c) (hi : X.N[i]? = some n) (hn : X.env.kindOf n = some .local)
      (su : ∀ (a : Addr) (oe : Obj) (cls : Value) (d : Option Addr) (pn : List (Addr × Obj)), Zc cls d oe → (∃ vs, oe.data = .fields vs) → PSs (X.suite a ((a, oe) :: pn)) (b :: bs) (ts a cls d)) (r : HdA X hds l) :
      HdA X (.ExceptHandler (some (.Name x p1)) (some n) (b :: bs) p2 :: hds) ((c, i, ts) :: l)
section
variable {X : Cx} {body : List Stmt} {h₀ : ExceptHandler} {hds : List ExceptHandler} {l : List ClA} {pos : Pos} {tb : WX → TS}
theorem ps_try_asM (st : X.stack = X.env :: X.outer) (fr : X.env.frame = some X.env.locals) (nd : X.N.Nodup)
    (hb : ∀ (W : WX) (pn : List (Addr × Obj)) (xe : Value → Shared → Prop), Takes (X.tr pn xe) W → PassesOwn (model X.prog X.w) X.A X.env xe → PSs (X.tr pn xe) body (tb W))
    (hh : HdA X (h₀ :: hds) l) : PS X (.Try body (h₀ :: hds) [] [] pos) (fun D τ G => tb (wAM X.K D l) D τ G) := by
  refine ⟨fun pins s τ G D I hq => wpAny_Try_except ?_⟩
  have ok := I.ok
  refine wpAny_mono ((hb (wAM X.K D l) (X.pn ++ pins) _ (fun u s2 z => ?_) PassesOwn.looking).run [] s τ G D (I.toTry _) hq) (fun fl s2 z => ?_) (fun _ _ z => z)
  · -- what came out of the body
    obtain ⟨a, B, sI, pins2, τ2, G2, cls, d, rfl, J2, nb, up, sky, na, os, ag, w⟩ := z
    have J : Inv X pins τ2 G2 sI := J2.ofTry ok
    refine Sky.land Zc.steady (show X.A.frames = some (X.env :: X.outer) by rw [ok.frames, st]) fr (by rw [← st]; exact sky) fun h3 fl3 up3 => ?_
    obtain ⟨o3, v3, g3, z3, d3⟩ := fl3.there
    have J3 : Inv X pins τ2 G2 { s2 with heap := h3 } := J.landed nb fl3.1 (up.trans up3) os ag
    have out : a ∉ frs (X.env :: X.outer) := fun m => by
      obtain ⟨_, o4, g4, n4⟩ := fl3.2.2.1.mem m
      rw [g3] at g4
      cases g4
      exact n4 _ d3
    have aL : a ≠ X.env.locals := fun e => out (List.mem_filterMap.mpr ⟨X.env, List.mem_cons_self, by rw [fr, e]⟩)
    have aF : a ∉ X.fs := fun m => by
      obtain ⟨e, me, q⟩ := List.mem_filterMap.mp m
      exact out (List.mem_filterMap.mpr ⟨e, List.mem_cons_of_mem _ me, q⟩)
    have S3 := J3.suite g3 d3 na aL aF
    have all : ∀ {hs : List ExceptHandler} {k : List ClA}, HdA X hs k → wAM X.K D k cls d τ2 G2 → wpAny (model X.prog X.w) X.A (handleBy (.ref a) X.env hs) (SP X pins D) X.xe { s2 with heap := h3 } := by
      intro hs k hk
      induction hk with
      | stop => exact fun z => z.elim
      | @more x n c i ts b bs p1 p2 hs2 k2 nm hi hn su r ih =>
        rintro ⟨yes, e1, w1, w2⟩
        refine wpAny_handleBy_cons (codeAny_handlers_test ?_) (fun q => nomatch q)
        have T1 : PySem.W.Looks (model X.prog X.w) h3 (typeOf (.ref a)) cls := fun A Q E s k q => wpAny_typeOf_ref (k _ _ g3) (by rw [z3.1]; exact q)
        have T2 := PySem.W.exm_one (M := model X.prog X.w) J3.kIn T1 e1
        have ask : ∀ {Q : Value → Shared → Prop} {E : Value → Shared → Prop}, Q c { s2 with heap := h3 } → wpAny (model X.prog X.w) (X.A.mark (some (.ref a))) (eval (.Name x p1) X.env) Q E { s2 with heap := h3 } := fun {Q E} q => by
          obtain ⟨g1, g2, m1 | ⟨m1, m2, m3⟩⟩ := nm
          · exact ld_glob (X := X.suite a ((a, o3) :: (X.pn ++ pins))) S3 g1 m1 q g2
          · exact ld_blt (X := X.suite a ((a, o3) :: (X.pn ++ pins))) S3 g1 m1 m2 q m3 g2
        refine ask (T2.here ?_)
        match yes, w1, w2 with
        | false, w1, w2 => exact ih (w2 rfl)
        | true, w1, w2 =>
          refine codeAny_handlers_suite_as (HandSPX.lands_againZ fl3 fun h4 fl4 up4 => ?_)
          obtain ⟨o4, v4, g4, z4, d4⟩ := fl4.there
          have S4 := (J.landed nb fl4.1 ((up.trans up3).trans up4) os ag : Inv X pins τ2 G2 { s2 with heap := h4 }).suite g4 d4 na aL aF
          refine store_ok (X := X.suite a ((a, o4) :: (X.pn ++ pins))) (v := .ref a) S4 nd hi (.inl hn) rfl (fun s5 S5 => ?_) (.inr hn)
          refine wpAny_mono ((su a o4 cls d (X.pn ++ pins) z4 ⟨_, d4⟩).run [] s5 _ G2 _ S5 (w1 rfl a na)) (fun fl s6 z6 => ?_) fun _ _ z6 => z6.elim
          have back : ∀ {τ6 : L2.St} {G6 : Hp} {R : Shared → Prop}, Inv (X.suite a ((a, o4) :: (X.pn ++ pins))) [] τ6 G6 s6 → (∀ s7, Inv X pins (τ6.set i none) G6 s7 → R s7) →
              wpAny (model X.prog X.w) X.A (do bindName X.env n .none; unbindBehindTheSuite X.env n p2) (fun _ s7 => R s7) X.xe s6 := fun {τ6 G6 R} S6 f => gone_ok (S6.unsuite ok) nd hi hn f
          match fl, z6 with
          | .next, ⟨_, _, S6, q6⟩ => exact back S6 fun s7 J7 => ⟨_, _, J7, q6⟩
          | .brk, ⟨_, _, S6, q6⟩ => exact back S6 fun s7 J7 => ⟨_, _, J7, q6⟩
          | .cont, ⟨_, _, S6, q6⟩ => exact back S6 fun s7 J7 => ⟨_, _, J7, q6⟩
          | .ret u, ⟨_, _, _, S6, r6, q6⟩ => exact back S6 fun s7 J7 => ⟨_, _, _, J7, r6, q6⟩
    exact all hh w
  · match fl, z with
    | .next, ⟨_, _, J, q⟩ => exact wpAny_execs_nil ⟨_, _, J.ofTry ok, q⟩
    | .brk, ⟨_, _, J, q⟩ => exact ⟨_, _, J.ofTry ok, q⟩
    | .cont, ⟨_, _, J, q⟩ => exact ⟨_, _, J.ofTry ok, q⟩
    | .ret u, ⟨_, _, _, J, r, q⟩ => exact ⟨_, _, _, J.ofTry ok, r, q⟩
end
end Bk

namespace Bk
open PySem PySem.Spec PyProof.Rows L2
/-! ## 12. enumerate of a tuple -/
theorem meets_enum1 {v : Value} {o : Obj} {S : Heap → Prop} (B : Begins v o S) :
    Meets (Builtin.«enumerate.__new__» ⟨[.type "enumerate", v], []⟩) (fun _ R s => S s.heap ∧
      R (.ok (.ret (.ref (s.heap.push o).objs.size))) { s with heap := (s.heap.push o).push { cls := .type "enumerate", data := .fields #[.none, .bool false, .ref s.heap.objs.size, rawInt 0, .none, .none] } }) :=
  .of_wp fun prog w A R s z => by
    obtain ⟨hp, g, d, tk, os⟩ := s
    obtain ⟨z1, z2⟩ := z
    have sub := sub_enumerate
    have it : ∀ {A' : Around} {E : Value → Shared → Prop} {Q : Value → Shared → Prop}, Q (.ref hp.objs.size) ⟨hp.push o, g, d, tk, os⟩ → wpAny (model prog w) A' (pyIter v) Q E ⟨hp, g, d, tk, os⟩ := fun q => B.iter prog w _ _ _ _ z1 q
    wp_walk using it
    refine wpAny_stack_any fun st => wpAny_pure ?_
    split
    · rename_i c _ _ _ _ _
      cases (c == Value.type "enumerate") <;> (wp_walk using it; exact ⟨_, rfl, z2⟩)
    · wp_walk using it
      exact ⟨_, rfl, z2⟩
theorem enum1 {prog : Program} {w : World} {A : Around} {E : Value → Shared → Prop} {s : Shared} {v : Value} {o : Obj} {S : Heap → Prop} {Q : Value → Shared → Prop} (B : Begins v o S) (z : S s.heap)
    (q : ∀ h', IsEnum h' (s.heap.objs.size + 1) s.heap.objs.size 0 .none → h'.get? s.heap.objs.size = some o → h'.objs.size = s.heap.objs.size + 2 → (∀ b u, s.heap.get? b = some u → h'.get? b = some u) → Q (.ref (s.heap.objs.size + 1)) { s with heap := h' }) :
    wpAny (model prog w) A (call (.type "enumerate") [v]) Q E s := by
  refine callType_new F.called_enumerate (by decide) (F.typeCall_enumerate_1 _) (F.newCall_enumerate_1 _) (fun u => F.args_object_init_2 u _) F.entry_enumerate_new (meets_enum1 B) ⟨z, ?_⟩
  have sz : (s.heap.push o).objs.size = s.heap.objs.size + 1 := Heap.size_push ..
  have top := Heap.get?_push_size (s.heap.push o) (o := { cls := .type "enumerate", data := .fields #[.none, .bool false, .ref s.heap.objs.size, rawInt 0, .none, .none] }) rfl
  show _ ∧ _
  rw [sz] at top ⊢
  exact ⟨⟨_, top, rfl⟩, q _ top (Heap.get?_push_of_some _ (Heap.get?_push_size _ B.free)) (by rw [Heap.size_push, sz]) fun b u e => Heap.get?_push_of_some _ (Heap.get?_push_of_some _ e)⟩
/-- the tuple's items in new pairs -/
def Itu (K : PySem.W.Frag) (a : Addr) : It :=
  ⟨fun i H => ∃ (xs : List V) (x : V), SqT K H a xs ∧ xs[i]? = some x, fun i H v H' => ∃ T x, v = .ref T ∧ H T = none ∧ H' = upd H T (.tup [.int (i : Nat), x]) ∧ ∀ xs, SqT K H a xs → xs[i]? = some x, fun i H => ∃ xs : List V, SqT K H a xs ∧ xs.length ≤ i⟩
theorem turn_enumT {P : Program} {w : World} {K : PySem.W.Frag} {elts : List Expr} {kk : Nat} {tpos : Pos} (a e it : Addr) (ai : a ≠ it) (ae : a ≠ e) :
    Turn P w K (.Tuple elts kk tpos) (Itu K a) [e, it] e (fun i h => (∃ old, IsEnum h e it ((i : Nat) : Int) old) ∧ h.IsTupleIter it a i ∧ e ≠ it) where
  mem := List.mem_cons_self
  obj := fun i h st b hb => by
    obtain ⟨⟨old, he⟩, ⟨o, ho, _, hd⟩, _⟩ := st
    rcases List.mem_cons.mp hb with z | z
    · subst z
      exact ⟨_, he, fun v q => nomatch q⟩
    · exact ⟨o, by rw [List.mem_singleton.mp z]; exact ho, fun v q => by rw [hd] at q; exact nomatch q⟩
  keep := fun i h h' st k => ⟨st.1.elim fun old z => ⟨old, k e List.mem_cons_self _ z⟩, st.2.1.at fun o q => k it (List.mem_cons_of_mem _ List.mem_cons_self) o q, st.2.2⟩
  item := by
    intro X hP hw hK hc i pins s σ H E I hf st hg
    subst hP hw hK
    obtain ⟨⟨old, he⟩, hit, ne⟩ := st
    obtain ⟨xs, x, hq, hx⟩ := hg
    obtain ⟨its, rv, p, _⟩ := I.tuple hq
    obtain ⟨u, hu, ru⟩ := rv.get hx
    have e1 := Heap.lt_size he
    have i1 : it < s.heap.objs.size := let ⟨_, q, _⟩ := hit; Heap.lt_size q
    have li : i < its.toArray.size := by
      rw [List.size_toArray]
      exact (List.getElem?_eq_some_iff.mp hu).1
    refine wpAny_pyNext_enum_itemD (Draws.tuple (show X.A.in1.handled = none from I.ok.hd hc) it a ai its.toArray) he ⟨hit, p⟩ li ne (fun z => ?_) fun v h' tk hv ho hs hT _ hk => ?_
    · rcases List.mem_cons.mp z with z | z
      · exact ne z
      · exact ae (List.mem_singleton.mp z).symm
    obtain rfl : v = u := by
      have hv' : its.toArray[i]? = some v := hv
      rw [List.getElem?_toArray, hu] at hv'
      exact (Option.some.inj hv').symm
    refine ⟨_, rfl, wpAny_letOwnedTupleGo_enum (s := { s with heap := h', toks := tk + 1 }) ho fun h2 he2 sb => ?_⟩
    have T2 : h2.get? s.heap.objs.size = some { cls := .type "tuple", data := .seq #[.int i tk, v] } := (sb.2 _ (Nat.ne_of_gt e1)).trans hT
    have fresh := I.hok.fresh (Nat.le_refl s.heap.objs.size)
    have J : Inv X pins σ (upd H s.heap.objs.size (.tup [.int (i : Nat), x])) { s with heap := h2, toks := tk + 1 } :=
      I.turnedNew (ch := [e, it]) (fun b ob hb q => (sb.2 b (fun z => hb (by simp [z]))).trans (hk b ob (fun z => hb (by simp [z])) (fun z => hb (by simp [z])) q)) hf (Nat.le_refl _)
        (show ObjOk X.prog X.w _ h2 _ (.tup [.int (i : Nat), x]) from ⟨Nat.le_of_ble_eq_true rfl, [.int i tk, v], .cons ⟨_, rfl⟩ (.cons ru .nil), ⟨_, T2, rfl, _, rfl⟩⟩)
    refine ⟨.ref s.heap.objs.size, _, J, rfl, ⟨_, x, rfl, fresh, rfl, fun ys hy => by rw [I.tuple_inj hy hq]; exact hx⟩, ⟨⟨v, ?_⟩, hs.1.at fun o q => (sb.2 it (Ne.symm ne)).trans q, ne⟩, fun b hb => ?_⟩
    · rw [show ((i + 1 : Nat) : Int) = (i : Int) + 1 by omega]
      exact he2
    · have lb : b < s.heap.objs.size := by
        rcases List.mem_cons.mp hb with z | z
        · rw [z]; exact e1
        · rw [List.mem_singleton.mp z]; exact i1
      rw [upd_ne (Nat.ne_of_lt lb)]
      exact (hf b hb).1
  done := by
    intro X hP hw hK hc i pins s σ H E I hf st hg
    subst hP hw hK
    obtain ⟨⟨old, he⟩, hit, ne⟩ := st
    obtain ⟨xs, hq, hx⟩ := hg
    obtain ⟨its, rv, p, _⟩ := I.tuple hq
    obtain ⟨f0, f1, f2, f3, f4, f5⟩ := hf it (List.mem_cons_of_mem _ List.mem_cons_self)
    have ln := rv.length
    have hn : its.toArray[i]? = none := by
      rw [List.getElem?_toArray]
      exact List.getElem?_eq_none (by omega)
    have hT : s.TypeIs (.ref e) "enumerate" := ⟨_, he, rfl⟩
    unfold pyNext
    refine wpAny_bind (wpAny_attempt (wpAny_callSpecial?_slot (name := Str.ofString "__next__") hT F.slot_enumerate_next
      (wpAny_call_entry F.slot_enumerate_next hT F.entry_enumerate_next ?_ (F.args_enumerate_next_1 _))))
    show wpAny (model X.prog X.w) _ (field (.ref e) 2 >>= _) _ _ _
    refine wpAny_bind (wpAny_field he rfl (x := .ref it) rfl ?_)
    refine wpAny_bind (wpAny_nextOf_tuple_end (I.ok.hd hc) hit p hn fun h' x he' hx' => ?_)
    obtain ⟨o, ho, hcl⟩ := hx'
    exact wpAny_bind (wpAny_isInstance (T := "StopIteration") (b := true) ⟨o, ho, hcl⟩ isSubtype_stop (wpAny_pure ⟨rfl, I.turned (t' := s.toks) (fun b o hb q => he' b o hb q) f0 f1 f3 f4 f5⟩))
  self := fun A i s Q E st h => let ⟨⟨_, he⟩, _⟩ := st; wpAny_pyIter_enum he h
def iEnumA (K : PySem.W.Frag) (ta : TA) : TI := fun σ H R => ta σ H fun vs H1 => ∃ a xs, vs = [.ref a] ∧ ((SqL K H1 a xs ∧ R (Ite K a) H1) ∨ (SqT K H1 a xs ∧ R (Itu K a) H1))
def iSeqA (K : PySem.W.Frag) (te : TE) : TI := fun σ H R => te σ H fun x H1 => ∃ a xs, x = .ref a ∧ ((SqL K H1 a xs ∧ R (Itl K a) H1) ∨ (SqT K H1 a xs ∧ R (Itt K a) H1))
section
variable {X : Cx} {e tg : Expr} {ta : TA} {te : TE} {p pos tpos : Pos} {elts : List Expr} {kk : Nat}
theorem pi_enumA (hg : Gl X "enumerate") (hm : X.mg "enumerate" = none) (ha : PA X [e] ta) (hs : starEach [e] X.env = [(false, eval e X.env)] := by rfl) : PI X (.Tuple elts kk tpos) (.Call (.Name "enumerate" p) [e] [] pos) (iEnumA X.K ta) := by
  refine ⟨fun pins s σ H R I h => Call_ (ld_blt I hg hm boot_enumerate (PyProof.Rows.callWith_type1 (thn (ha.run pos pins s σ H _ I h) fun us s1 ⟨vs, H1, I1, r1, q1⟩ => ?_) hs rfl))⟩
  obtain ⟨a, xs, rfl, q⟩ := q1
  obtain ⟨u, rfl, rv⟩ := vals1 r1
  obtain rfl : u = Value.ref a := rv
  have near : ∀ {b : Addr}, b ∈ [s1.heap.objs.size + 1, s1.heap.objs.size] → FpOk X pins H1 b := fun {b} hb => by
    have le : s1.heap.objs.size ≤ b := by
      rcases List.mem_cons.mp hb with z | z
      · rw [z]; exact Nat.le_succ _
      · rw [List.mem_singleton.mp z]; exact Nat.le_refl _
    exact I1.fpOk le (I1.hok.fresh le)
  rcases q with ⟨hq, q⟩ | ⟨hq, q⟩
  · obtain ⟨its, rv, p', hz⟩ := I1.list hq
    refine call_enumerate_list p'.isList fun h' he hit _ hk => wpAny_pyIter_enum he ?_
    exact ⟨s1.heap.objs.size + 1, [s1.heap.objs.size + 1, s1.heap.objs.size], _, _, H1, rfl, I1.kept (t' := s1.toks) hk, turn_enum a (s1.heap.objs.size + 1) s1.heap.objs.size, ⟨⟨.none, he⟩, hit, Nat.succ_ne_self _⟩, fun b hb => near hb, q⟩
  · obtain ⟨its, rv, p', hz⟩ := I1.tuple hq
    have la : a < s1.heap.objs.size := let ⟨_, z, _⟩ := p'; Heap.lt_size z
    refine enum1 (begins_tuple a its.toArray) p' fun h' he hit _ hk => wpAny_pyIter_enum he ?_
    exact ⟨s1.heap.objs.size + 1, [s1.heap.objs.size + 1, s1.heap.objs.size], _, _, H1, rfl, I1.kept (t' := s1.toks) hk, turn_enumT a (s1.heap.objs.size + 1) s1.heap.objs.size (Nat.ne_of_lt la) (Nat.ne_of_lt (Nat.lt_succ_of_lt la)), ⟨⟨.none, he⟩, ⟨_, hit, rfl, rfl⟩, Nat.succ_ne_self _⟩, fun b hb => near hb, q⟩
theorem pi_seqA (he : PE X e te) : PI X tg e (iSeqA X.K te) := by
  refine ⟨fun pins s σ H R I h => thn (he.run pins s σ H _ I h) fun v s1 ⟨x, H1, I1, r1, q1⟩ => ?_⟩
  obtain ⟨a, xs, rfl, q⟩ := q1
  obtain rfl : v = Value.ref a := r1
  have near : ∀ {b : Addr}, b ∈ [s1.heap.objs.size] → FpOk X pins H1 b := fun {b} hb => by
    rw [List.mem_singleton.mp hb]
    exact I1.fpOk (Nat.le_refl _) (I1.hok.fresh (Nat.le_refl _))
  have J : ∀ {o : Obj}, Inv X pins σ H1 { s1 with heap := s1.heap.push o } := fun {o} => I1.kept (t' := s1.toks) fun b u z => Heap.get?_push_of_some _ z
  rcases q with ⟨hq, q⟩ | ⟨hq, q⟩
  · obtain ⟨its, rv, p', hz⟩ := I1.list hq
    exact wpAny_pyIter_list p'.isList ⟨s1.heap.objs.size, [s1.heap.objs.size], _, _, H1, rfl, J, turn_list a _, ⟨_, Heap.get?_push_size _ rfl, rfl, rfl⟩, fun b hb => near hb, q⟩
  · obtain ⟨its, rv, p', hz⟩ := I1.tuple hq
    exact wpAny_pyIter_tuple (show s1.heap.IsTuple a its.toArray from p') ⟨s1.heap.objs.size, [s1.heap.objs.size], _, _, H1, rfl, J, turn_tuple a _, ⟨_, Heap.get?_push_size _ rfl, rfl, rfl⟩, fun b hb => near hb, q⟩
end
section
variable {K : PySem.W.Frag} {a : Addr} {xs : List V}
theorem walk_enumT : Walk (Itu K a) xs.length (fun H => SqT K H a xs) (YPair (fun i => some (.int (i : Nat))) (fun i => xs[i]?)) :=
  ⟨fun i _ hi q => ⟨xs, xs[i], q, List.getElem?_eq_getElem hi⟩, fun _ q => ⟨xs, q, Nat.le_refl _⟩, fun i H v H' _ q ⟨T, x, h1, h2, h3, h4⟩ => ⟨T, .int (i : Nat), x, h1, h2, h3, rfl, h4 xs q⟩⟩
end
end Bk

namespace Bk
open PySem PySem.Spec PyProof.Rows L2
/-! ## 13. defs that refuse -/
/-- what a refusal is: a new own exception of the class at C, v its only field -/
def Refuse (C : Addr) (v : V) (H : Hp) (E : XK) : Prop := ∀ d H', H d = none → Same H H' → H' d = some (.xd [("found", v)]) → E (.ref C) (some d) H'
theorem Refuse.same {C : Addr} {v : V} {H H' : Hp} {E : XK} (r : Refuse C v H E) (s : Same H H') (n : ∀ d, H' d = none → H d = none) : Refuse C v H' E := fun d H2 hd s2 e => r d H2 (n d hd) (s.trans s2) e
def noE : XK := fun _ _ _ => False
structure CalX (P : Program) (w : World) (K : PySem.W.Frag) (mg : Str → Option Value) (base : Heap) (k : Nat) (x : Str) (sp : Sp) : Prop where
  ex : ∃ (f : Addr) (fd : FuncData) (ps : List Str), mg x = some (.ref f) ∧ PySem.W.keepIn K (.ref f) = true ∧ FnOk P w K mg base (L2.CX P w) k f fd ps sp ∧ Binds K fd ps []
theorem CalX.mk' {P : Program} {w : World} {K : PySem.W.Frag} {mg : Str → Option Value} {base : Heap} {k : Nat} {x : Str} {sp : Sp} {f : Addr} {fd : FuncData} {ps : List Str} (g : mg x = some (.ref f)) (kp : PySem.W.keepIn K (.ref f) = true) (F : FnOk P w K mg base (L2.CX P w) k f fd ps sp) (b : Binds K fd ps []) :
    CalX P w K mg base k x sp := ⟨f, fd, ps, g, kp, F, b⟩
/-- with keywords alone -/
structure CalNX (P : Program) (w : World) (K : PySem.W.Frag) (mg : Str → Option Value) (base : Heap) (k : Nat) (ks : List Str) (x : Str) (sp : Sp) (gV : List V → List V → List V) : Prop where
  ex : ∃ (f : Addr) (fd : FuncData) (ps : List Str) (g : List Value → List Value → List Value), mg x = some (.ref f) ∧ PySem.W.keepIn K (.ref f) = true ∧ FnOk P w K mg base (L2.CX P w) k f fd ps sp ∧ KBn K fd ps 0 ks g gV
theorem CalNX.mk' {P : Program} {w : World} {K : PySem.W.Frag} {mg : Str → Option Value} {base : Heap} {k : Nat} {ks : List Str} {x : Str} {sp : Sp} {gV : List V → List V → List V} {f : Addr} {fd : FuncData} {ps : List Str} {g : List Value → List Value → List Value} (a : mg x = some (.ref f)) (kp : PySem.W.keepIn K (.ref f) = true)
    (F : FnOk P w K mg base (L2.CX P w) k f fd ps sp) (b : KBn K fd ps 0 ks g gV) : CalNX P w K mg base k ks x sp gV := ⟨f, fd, ps, g, a, kp, F, b⟩
section
variable {X : Cx} {k j : Nat} {ks : List Str} {sp : Sp} {x : Str} {p pos : Pos} {e : Expr} {es : List Expr} {kws : List Keyword} {t tk : TA} {W : WX} {gV : List V → List V → List V}
/-- in a def that may let it out itself -/
theorem pe_calX {E : XK} (c : CalX X.prog X.w X.K X.mg X.base k x sp) (hr : Room j X.A) (hk : k ≤ j) (hg : Gl X x) (tk : Takes X (fun cls d _ H => E cls d H)) (ha : PA X (e :: es) t)
    (hdb : (x == ("__debug__" : Str)) = false := by decide) (he : starEach (e :: es) X.env = (false, eval e X.env) :: starEach es X.env := by rfl) (hpl : (backTo pos (starEach es X.env)).any (·.1) = false := by rfl) :
    PE X (.Call (.Name x p) (e :: es) [] pos) (tCall sp [] E t) := by
  obtain ⟨f, fd, ps, h1, h2, h3, h4⟩ := c.ex
  exact pe_call h3 (hr.mono hk) hg h1 h2 h4 .nil (passes_call tk fun _ _ _ _ h => h) ha hdb he hpl
theorem pass_no : Passes (L2.CX X.prog X.w) X noE := fun _ _ _ _ _ _ _ z => by
  obtain ⟨_, _, _, _, _, _, _, _, _, _, _, _, q⟩ := z
  exact q.elim
/-- where it is not refused -/
theorem pe_calY (c : CalX X.prog X.w X.K X.mg X.base k x sp) (hr : Room j X.A) (hk : k ≤ j) (hg : Gl X x) (ha : PA X (e :: es) t)
    (hdb : (x == ("__debug__" : Str)) = false := by decide) (he : starEach (e :: es) X.env = (false, eval e X.env) :: starEach es X.env := by rfl) (hpl : (backTo pos (starEach es X.env)).any (·.1) = false := by rfl) :
    PE X (.Call (.Name x p) (e :: es) [] pos) (tCall sp [] noE t) := by
  obtain ⟨f, fd, ps, h1, h2, h3, h4⟩ := c.ex
  exact pe_call h3 (hr.mono hk) hg h1 h2 h4 .nil pass_no ha hdb he hpl
theorem pe_calNY (c : CalNX X.prog X.w X.K X.mg X.base k ks x sp gV) (hr : Room j X.A) (hk : k ≤ j) (hg : Gl X x) (hkw : PK X kws tk)
    (hall : (backToKw pos (keywordEach kws X.env)).all (·.1.isSome) = true := by rfl) (hks : (backToKw pos (keywordEach kws X.env)).filterMap (·.1) = ks := by rfl)
    (hdb : (x == ("__debug__" : Str)) = false := by decide)
    (hpl : ((backTo pos (starEach [] X.env)).any (·.1) || (backToKw pos (keywordEach kws X.env)).any (·.1.isNone)) = false := by rfl) :
    PE X (.Call (.Name x p) [] kws pos) (tCallN 0 ks.length sp gV noE tNil tk) := by
  obtain ⟨f, fd, ps, g, h1, h2, h3, h4⟩ := c.ex
  exact pe_callN0 h3 (hr.mono hk) hg h1 h2 h4 pass_no hkw hall hks hdb hpl
/-- in a try -/
theorem pe_calT (c : CalX X.prog X.w X.K X.mg X.base k x sp) (hr : Room j X.A) (hk : k ≤ j) (hg : Gl X x) (tk : Takes X W) (ha : PA X (e :: es) t)
    (hdb : (x == ("__debug__" : Str)) = false := by decide) (he : starEach (e :: es) X.env = (false, eval e X.env) :: starEach es X.env := by rfl) (hpl : (backTo pos (starEach es X.env)).any (·.1) = false := by rfl) :
    PE X (.Call (.Name x p) (e :: es) [] pos) (tCallS sp (WE W) t) := by
  obtain ⟨f, fd, ps, h1, h2, h3, h4⟩ := c.ex
  exact pe_callS h3 (hr.mono hk) hg h1 h2 h4 (passAt tk) ha hdb he hpl
end
section
variable {K : PySem.W.Frag} {σ : L2.St} {H : Hp} {Q : VK} {D : Ends} {l : List ClA} {q : ClA} {cls : Value} {d : Option Addr}
theorem r_callS {sp : Sp} {E : L2.St → XK} {t : TA} (z : t σ H fun vs H1 => sp vs H1 Q (E σ)) : tCallS sp E t σ H Q := z
theorem r_try {tb : WX → TS} (z : tb (wAM K D l) D σ H) : (fun D τ G => tb (wAM K D l) D τ G) D σ H := z
theorem w_hit (h : PySem.W.exmOne K cls q.1 = some true) (z : ∀ a, H a = none → q.2.2 a cls d (offI q.2.1 D) (σ.set q.2.1 (some (.ref a))) H) : wAM K D (q :: l) cls d σ H := ⟨true, h, fun _ => z, fun y => absurd y.symm Bool.false_ne_true⟩
theorem w_miss (h : PySem.W.exmOne K cls q.1 = some false) (z : wAM K D l cls d σ H) : wAM K D (q :: l) cls d σ H := ⟨false, h, fun y => absurd y Bool.false_ne_true, fun _ => z⟩
theorem r_raise {t : L2.St → Hp → XK → Prop} {W : WX} (z : t σ H fun cls d H' => W cls d σ H') : (fun (_ : Ends) (τ : L2.St) (G : Hp) => t τ G fun cls d G' => W cls d τ G') D σ H := z
/-- raise C(v), C's own __init__ being this -/
def spInit (C : Addr) : Sp := fun vs H Q _ => ∃ (a : Addr) (x : V), vs = [.ref a, x] ∧ H a = some (exo a C none) ∧ ∀ dx, H dx = none → dx ≠ a → Q .non (upd (upd H dx (exd dx [("found", x)])) a (exo a C (some dx)))
theorem r_mkO {C : Addr} {v : V} {E : XK} (z : Refuse C v H E) : [v].length ≤ 1000 ∧ ∀ a, H a = none → spInit C (.ref a :: ([v] ++ [])) (upd H a (exo a C none))
    (fun u H2 => u = .non ∧ ∃ (d : Addr) (fs : List (Str × V)), H2 a = some (exo a C (some d)) ∧ H2 d = some (exd d fs) ∧ H d = none ∧ E (.ref C) (some d) (upd (del H2 a) d (.xd fs))) (fun _ _ _ => False) := by
  refine ⟨Nat.le_of_ble_eq_true rfl, fun a ha => ⟨a, v, rfl, upd_same, fun dx hd ne => ⟨rfl, dx, [("found", v)], upd_same, ?_, ?_, ?_⟩⟩⟩
  · rw [upd_ne ne, upd_same]
  · rw [upd_ne ne] at hd
    exact hd
  · rw [upd_ne ne] at hd
    refine z dx _ hd (fun b o e => ?_) upd_same
    have h1 : b ≠ a := ne_of_none e ha
    have h2 : b ≠ dx := ne_of_none e hd
    rw [upd_ne h2]
    show del _ a b = some o
    unfold del
    rw [if_neg h1, upd_ne h1, upd_ne h2, upd_ne h1]
    exact e
end
/-! ## 14. isinstance of several classes -/
def rIs2 (K : PySem.W.Frag) : List V → Hp → VK → Prop := fun xs H Q => rIsi K xs H Q ∨ rIsiT K xs H Q
theorem call_is2 {X : Cx} : CallR X (.builtin "isinstance") (rIs2 X.K) := CallR.or call_isi call_isiT
def IsB (K : PySem.W.Frag) (H : Hp) (x : V) (T U : String) (b : Bool) : Prop := ∃ t, TyX K H x t ∧ PySem.W.kitAny K t [.type T, .type U] = some b
theorem kit2 {K : PySem.W.Frag} {t : Value} {T U : String} {a b : Bool} (h : PySem.W.kitOne K t (.type T) = some a) (h2 : PySem.W.kitOne K t (.type U) = some b) : PySem.W.kitAny K t [.type T, .type U] = some (a || b) := by
  cases a with
  | true => exact kitAny_cons h (fun z => nomatch z) (fun _ => rfl)
  | false => exact kitAny_cons h (fun _ => by cases b with
      | true => exact kitAny_cons h2 (fun z => nomatch z) (fun _ => rfl)
      | false => exact kitAny_cons h2 (fun _ => kitAny_nil) (fun z => nomatch z)) (fun z => nomatch z)
section
variable {K : PySem.W.Frag} {H H' : Hp} {x : V} {T U : String} {b c : Bool} {Q : VK} {tp : Addr}
theorem r_is2 (h : IsB K H x T U b) (e : H tp = some (.tup [.ty T, .ty U])) (q : Q (.bl b) H) : rIs2 K [x, .ref tp] H Q := by
  obtain ⟨t, h1, h2⟩ := h
  exact .inr ⟨x, tp, [.ty T, .ty U], t, [.type T, .type U], b, rfl, e, .cons (.ty T) (.cons (.ty U) .nil), h1, h2, q⟩
theorem r_is1 (h : ∃ t, TyX K H x t ∧ PySem.W.kitOne K t (.type T) = some b) (q : Q (.bl b) H) : rIs2 K [x, .ty T] H Q := by
  obtain ⟨t, h1, h2⟩ := h
  exact .inl ⟨x, .ty T, t, .type T, b, rfl, .ty T, h1, h2, q⟩
end
/-! ## 15. a comprehension, by what each turn gives -/
section
variable {J : It} {n : Nat} {G : Hp → Prop} {Y : Nat → Hp → V → Hp → Prop} {g : TG} {tt : TT} {te : TE} {vs : List Nat} {σ : L2.St} {H : Hp} {D : Addr} {Q : VK}
theorem lc_by (w : Walk J n G Y) (p : Nat → Option V) (hD : H D = none) (hn : n ≤ 10000) (hG : ∀ H', Same H H' → G H')
    (hs : ∀ i x H1 H2 (Q' : VK) (R' : Hp → Prop), i < n → Same H H1 → Y i H1 x H2 → (∀ v, p i = some v → ∀ H3, Same H1 H3 → Q' v H3) → (p i = none → ∀ H3, Same H1 H3 → R' H3) →
      g x (wipe σ vs) H2 fun τ H3 => wipe τ vs = wipe σ vs ∧ tt τ H3 fun b H4 => if b = true then te τ H4 Q' else R' H4)
    (q : ∀ H', Same H H' → H' D = some (.lst ((List.range n).filterMap p)) → Q (.ref D) H') :
    ∃ W : Nat → Nat → Hp → Prop, (∃ m, W 0 m (upd H D (.lst []))) ∧ ∀ i m H, W i m H →
      (J.stop i H ∧ Q (.ref D) H) ∨ (J.go i H ∧ ∃ Nx : Hp → Prop, (∀ H', Nx H' → ∃ m', m' < m ∧ W (i + 1) m' H') ∧ ∀ x H', J.yld i H x H' → g x (wipe σ vs) H' fun σ2 H2 => wipe σ2 vs = wipe σ vs ∧ tt σ2 H2 fun b H3 =>
        if b = true then te σ2 H3 fun y H4 => ∃ acc, H4 D = some (.lst acc) ∧ acc.length < sizeLine ∧ Nx (upd H4 D (.lst (acc ++ [y]))) else Nx H3) := by
  refine lc_it w (fun i G => Same H G ∧ G D = some (.lst ((List.range i).filterMap p))) ⟨same_upd hD, by rw [upd_same]; rfl⟩ (fun i G _ z => hG G z.1) (fun i x H1 H2 hi ⟨sm, e⟩ y => ?_) fun G z => q G z.1 z.2
  refine hs i x H1 H2 _ _ hi sm y (fun v hv H3 s3 => ⟨_, s3 _ _ e, ?_, sameBut (sm.trans s3) hD, ?_⟩) fun hv H3 s3 => ⟨sm.trans s3, ?_⟩
  · have l := List.length_filterMap_le p (List.range i)
    rw [List.length_range] at l
    exact Nat.lt_of_le_of_lt (Nat.le_trans l (Nat.le_trans (Nat.le_of_lt hi) hn)) (by decide)
  · rw [upd_same, List.range_succ, List.filterMap_append]
    simp only [List.filterMap_cons, List.filterMap_nil, hv]
  · rw [s3 _ _ e, List.range_succ, List.filterMap_append]
    simp only [List.filterMap_cons, List.filterMap_nil, hv, List.append_nil]
end
end Bk

namespace Bk
open PySem PySem.Spec PyProof.Rows L2
/-! ## 8. binding with keywords -/
theorem vals_rev : ∀ {zs : List V} {ws : List Value}, Vals zs ws → Vals zs.reverse ws.reverse
  | _, _, .nil => .nil
  | _, _, .cons r t => by
    rw [List.reverse_cons, List.reverse_cons]
    exact (vals_rev t).append (.cons r .nil)
section
variable {K : PySem.W.Frag} {x qual : Str} {params : Arguments} {body : List Stmt} {scope : Scope} {kws : List (Str × V)} {f : Addr} {fd : FuncData} {ps : List Str}
theorem kbinds0 (F : FunD K x qual params body scope [] kws f fd) (n : Nat) (ks : List Str) (ms : List (Str × V)) (g : {α : Type} → List α → List α → List α → List α) (hk : kws ≠ []) (hms : ∀ q ∈ ms, q ∈ kws)
    (hrel : ∀ {vs mz zs : List V} {us mv ws : List Value}, Vals vs us → Vals mz mv → Vals zs ws → Vals (g vs mz zs) (g us mv ws))
    (h : ∀ (D : Addr) (doc pm : Value) (an : Option Addr) (cdv ct : Value) (us mv ws : List Value), us.length = n → mv.length = ms.length → ws.length = ks.length →
      KwChain D ((ms.map (·.1)).zip mv) (bindArgs (PySem.W.fnOf x qual params body scope .none (.ref D) doc pm an cdv ct) ⟨us, ks.zip ws⟩) (ps.zip (g us mv ws))) :
    ∃ mv : List Value, KBn K fd ps n ks (fun us ws => g us mv ws) (fun vs zs => g vs (ms.map (·.2)) zs) := by
  obtain ⟨oc, od, dV, kV, doc, pm, an, cdv, ct, osl, rfl, lk, hcd, hD, hK⟩ := F.ex
  rcases hD with ⟨_, rfl⟩ | ⟨e, _⟩
  · rcases hK with e | ⟨D, rfl, hq⟩
    · exact absurd e hk
    · obtain ⟨mv, hl, rk, hks⟩ := kwd_vals (ms := ms) fun q hm => hq q (hms q hm)
      refine ⟨mv, ⟨fun s us ws X l1 l2 => ?_, fun r1 r2 => hrel r1 rk r2⟩⟩
      exact BindsTo.of_looks fun M => KwChain.looks X hks (h D doc pm an cdv ct us mv ws l1 hl l2)
  · exact absurd rfl e
/-- keywords alone or beside values, no defaults -/
theorem kbPlain {st : Stmt} {f : Addr} {fd : FuncData} (F : Fun K x qual st f fd) (n : Nat) (ks : List Str) (g : {α : Type} → List α → List α → List α)
    (hrel : ∀ {vs zs : List V} {us ws : List Value}, Vals vs us → Vals zs ws → Vals (g vs zs) (g us ws))
    (h : ∀ (kV doc pm : Value) (an : Option Addr) (cdv ct : Value) (us ws : List Value), us.length = n → ws.length = ks.length → bindArgs (PySem.W.fnOf x qual (defArgs st) (defBody st) (defScope st) .none kV doc pm an cdv ct) ⟨us, ks.zip ws⟩ = pure (ps.zip (g us ws))) :
    KBn K fd ps n ks (fun us ws => g us ws) (fun vs zs => g vs zs) := by
  obtain ⟨oc, od, kV, doc, pm, an, cdv, ct, osl, rfl, lk, hcd⟩ := F.ex
  exact ⟨fun s us ws X l1 l2 => .of_eq (h kV doc pm an cdv ct us ws l1 l2), fun r1 r2 => hrel r1 r2⟩
end
theorem kit_sub {K : PySem.W.Frag} {C : Addr} {T : String} {b : Bool} (hm : PySem.W.kitMeta T = true) (h : PySem.W.subIn K (.ref C) (.type T) = some b) : PySem.W.kitOne K (.ref C) (.type T) = some b := by
  unfold PySem.W.kitOne PySem.W.kitCls
  rw [if_neg (fun z => by cases (beq_iff_eq.mp z))]
  show (if PySem.W.kitMeta T = true then PySem.W.subIn K (.ref C) (.type T) else none) = some b
  rw [if_pos hm]
  exact h
theorem CalN.mk' {P : Program} {w : World} {K : PySem.W.Frag} {mg : Str → Option Value} {base : Heap} {CX : CXT} {k n : Nat} {ks : List Str} {x : Str} {sp : Sp} {gV : List V → List V → List V} {f : Addr} {fd : FuncData} {ps : List Str} {g : List Value → List Value → List Value} (a : mg x = some (.ref f)) (kp : PySem.W.keepIn K (.ref f) = true) (F : FnOk P w K mg base CX k f fd ps sp) (b : KBn K fd ps n ks g gV) :
    CalN P w K mg base CX k n ks x sp gV := ⟨f, fd, ps, g, a, kp, F, b⟩
/-! ### within a comprehension: K by name -/
theorem call_isK {X : Cx} {K : PySem.W.Frag} (h : X.K = K) : CallR X (.builtin "isinstance") (rIs K) := by
  subst h
  exact call_is
theorem pg_tupK {X : Cx} {K : PySem.W.Frag} {es : List Expr} {k : Nat} {t : TGs} {n : Nat} {pos : Pos} (e : X.K = K) (hc : X.calm = true) (h : PGs X es t) (hn : (assignEach es X.env).length = n := by rfl) (hst : (assignEach es X.env).findIdx? (·.1) = none := by rfl) :
    PG X (.Tuple es k pos) (gTup K n t) := by
  subst e
  exact pg_tup hc h hn hst
theorem butSame {p : Addr} {H H1 H2 : Hp} (s : Same H H1) (n : H p = none) (b : But p H1 H2) : Same H H2 := fun c o e => b c o (ne_of_none e n) (s c o e)
end Bk

namespace Bk
open PySem PySem.Spec PyProof.Rows L2
/-! ## 16. things whose text is short -/
mutual
def smallD : PyData → Bool
  | .none | .bool _ => true
  | .int i => decide (i.natAbs < 10 ^ 38)
  | .str x => x.cps.toList.all fun c => decide (c < 16 ^ 8)
  | .list xs | .tuple xs => smallL xs
  | .dict _ => false
def smallL : List PyData → Bool
  | [] => true
  | x :: xs => smallD x && smallL xs
end
mutual
theorem small_ok : ∀ d : PyData, smallD d = true → d.showable = true ∧ d.leavesShort 40 = true
  | .none, _ => ⟨rfl, rfl⟩
  | .bool _, _ => ⟨rfl, rfl⟩
  | .int i, h => by
    have h' : i.natAbs < 10 ^ 38 := by simpa only [smallD, decide_eq_true_eq] using h
    have l1 := int_text_length_le10 (k := 38) (by decide) h'
    refine ⟨?_, ?_⟩
    · simp only [PyData.showable, decide_eq_true_eq]
      by_cases z : i.natAbs = 0
      · rw [z]; decide
      · have z2 := (Nat.log2_lt z (k := 128)).mpr (Nat.lt_of_lt_of_le h' (by decide))
        omega
    · simp only [PyData.leavesShort]
      refine decide_eq_true ?_
      have e : (PyData.shown (.int i)).length = (toString i).length := by
        simp only [PyData.shown]
        exact PySem.ofString_length _
      omega
  | .str x, h => ⟨by simp only [PyData.showable], by simpa only [smallD, PyData.leavesShort] using h⟩
  | .list xs, h => by simpa only [PyData.showable, PyData.leavesShort] using small_okL xs (by simpa only [smallD] using h)
  | .tuple xs, h => by simpa only [PyData.showable, PyData.leavesShort] using small_okL xs (by simpa only [smallD] using h)
  | .dict _, h => by simp only [smallD] at h; exact nomatch h
theorem small_okL : ∀ xs : List PyData, smallL xs = true → PyData.showableAll xs = true ∧ PyData.leavesShortAll 40 xs = true
  | [], _ => ⟨rfl, rfl⟩
  | x :: xs, h => by
    have h' : smallD x = true ∧ smallL xs = true := by simpa only [smallL, Bool.and_eq_true] using h
    obtain ⟨a, b⟩ := small_ok x h'.1
    obtain ⟨c, d⟩ := small_okL xs h'.2
    exact ⟨by simp only [PyData.showableAll, a, c, Bool.and_true], by simp only [PyData.leavesShortAll, b, d, Bool.and_true]⟩
end
section
variable {K : PySem.W.Frag} {H H' : Hp} {v : V} {a : Addr} {xs : List V}
theorem shw_of {d : PyData} (h : Dp K H v d) (s : smallD d = true) (b : d.bulk ≤ 20000) (e : d.depth ≤ 60) : Shw K H v d.shown := by
  obtain ⟨h1, h2⟩ := small_ok d s
  have h3 := PyData.shown_le_bulk 40 (by decide) d h2
  exact .inl ⟨d, h, h1, by rw [sizeLine_eq]; omega, e, rfl⟩
theorem shw_dK (e : H a = some (.dK [])) : Shw K H (.ref a) "{}" := .inr ⟨a, rfl, e, rfl⟩
/-- a thing within a list -/
def Itm (K : PySem.W.Frag) (H : Hp) (v : V) : Prop := ∃ d, Dp K H v d ∧ smallD d = true ∧ d.bulk ≤ 100 ∧ d.depth ≤ 20
theorem itm_shw (h : Itm K H v) : ∃ z, Shw K H v z := let ⟨_, h1, h2, h3, h4⟩ := h; ⟨_, shw_of h1 h2 (by omega) (by omega)⟩
theorem itms : ∀ {xs : List V}, (∀ y ∈ xs, Itm K H y) → ∃ ds, DpAll K H xs ds ∧ smallL ds = true ∧ PyData.bulkAll ds ≤ 101 * xs.length ∧ PyData.depthAll ds ≤ 20
  | [], _ => ⟨[], .nil, rfl, Nat.le_refl _, Nat.zero_le _⟩
  | y :: ys, h => by
    obtain ⟨d, h1, h2, h3, h4⟩ := h y List.mem_cons_self
    obtain ⟨ds, g1, g2, g3, g4⟩ := itms fun z hz => h z (List.mem_cons_of_mem _ hz)
    refine ⟨d :: ds, .cons h1 g1, by simp only [smallL, h2, g2, Bool.and_true], ?_, ?_⟩
    · simp only [PyData.bulkAll, List.length_cons]
      omega
    · simp only [PyData.depthAll]
      omega
theorem shw_lst (h : SqL K H a xs) (i : ∀ y ∈ xs, Itm K H y) (l : xs.length ≤ 150) : ∃ z, Shw K H (.ref a) z := by
  obtain ⟨ds, g1, g2, g3, g4⟩ := itms i
  exact ⟨_, shw_of (.lst h g1) (by simpa only [smallD] using g2) (by simp only [PyData.bulk]; omega) (by simp only [PyData.depth]; omega)⟩
theorem shw_tup (h : SqT K H a xs) (i : ∀ y ∈ xs, Itm K H y) (l : xs.length ≤ 150) : ∃ z, Shw K H (.ref a) z := by
  obtain ⟨ds, g1, g2, g3, g4⟩ := itms i
  exact ⟨_, shw_of (.tup h g1) (by simpa only [smallD] using g2) (by simp only [PyData.bulk]; omega) (by simp only [PyData.depth]; omega)⟩
/-! scalars -/
def datS : V → PyData
  | .bl b => .bool b
  | .int i => .int i
  | .str z => .str z
  | _ => .none
def smS : V → Bool
  | .non | .bl _ => true
  | .int i => decide (i.natAbs < 10 ^ 38)
  | .str z => decide (z.length ≤ 90) && z.cps.toList.all fun c => decide (c < 16 ^ 8)
  | _ => false
theorem datS_ok (h : smS v = true) : Dp K H v (datS v) ∧ smallD (datS v) = true ∧ (datS v).bulk ≤ 100 ∧ (datS v).depth = 0 := by
  cases v with
  | non => exact ⟨.non, by simp only [datS, smallD], by simp [datS, PyData.bulk], by simp only [datS, PyData.depth]⟩
  | bl b => exact ⟨.bl b, by simp only [datS, smallD], by simp [datS, PyData.bulk], by simp only [datS, PyData.depth]⟩
  | int i => exact ⟨.int i, by simpa only [datS, smallD, smS] using h, by simp [datS, PyData.bulk], by simp only [datS, PyData.depth]⟩
  | str z =>
    have h' : z.length ≤ 90 ∧ (z.cps.toList.all fun c => decide (c < 16 ^ 8)) = true := by
      have z2 := Bool.and_eq_true_iff.mp (show (decide (z.length ≤ 90) && z.cps.toList.all fun c => decide (c < 16 ^ 8)) = true from h)
      exact ⟨of_decide_eq_true z2.1, z2.2⟩
    have hz : z.cps.size ≤ 90 := h'.1
    exact ⟨.str z, by simpa only [datS, smallD] using h'.2, by simp only [datS, PyData.bulk]; omega, by simp only [datS, PyData.depth]⟩
  | _ => exact nomatch h
theorem itm_sc (h : smS v = true) : Itm K H v := let ⟨h1, h2, h3, h4⟩ := datS_ok h; ⟨_, h1, h2, h3, by omega⟩
theorem shw_sc (h : smS v = true) : Shw K H v (datS v).shown := let ⟨h1, h2, h3, h4⟩ := datS_ok h; shw_of h1 h2 (by omega) (by omega)
theorem datSs : ∀ {xs : List V}, xs.all smS = true → DpAll K H xs (xs.map datS) ∧ smallL (xs.map datS) = true ∧ PyData.bulkAll (xs.map datS) ≤ 101 * xs.length ∧ PyData.depthAll (xs.map datS) = 0
  | [], _ => ⟨.nil, rfl, Nat.le_refl _, rfl⟩
  | y :: ys, h => by
    rw [List.all_cons, Bool.and_eq_true] at h
    obtain ⟨h1, h2, h3, h4⟩ := datS_ok (K := K) (H := H) h.1
    obtain ⟨g1, g2, g3, g4⟩ := datSs h.2
    rw [List.map_cons]
    refine ⟨.cons h1 g1, by simp only [smallL, h2, g2, Bool.and_true], ?_, ?_⟩
    · simp only [PyData.bulkAll, List.length_cons]
      omega
    · simp only [PyData.depthAll, h4, g4]
      rfl
theorem shw_lsc (h : SqL K H a xs) (i : xs.all smS = true) (l : xs.length ≤ 150) : Shw K H (.ref a) (PyData.list (xs.map datS)).shown := by
  obtain ⟨g1, g2, g3, g4⟩ := datSs (K := K) (H := H) i
  exact shw_of (.lst h g1) (by simpa only [smallD] using g2) (by simp only [PyData.bulk]; omega) (by simp only [PyData.depth]; omega)
theorem shw_tsc (h : SqT K H a xs) (i : xs.all smS = true) (l : xs.length ≤ 150) : Shw K H (.ref a) (PyData.tuple (xs.map datS)).shown := by
  obtain ⟨g1, g2, g3, g4⟩ := datSs (K := K) (H := H) i
  exact shw_of (.tup h g1) (by simpa only [smallD] using g2) (by simp only [PyData.bulk]; omega) (by simp only [PyData.depth]; omega)
end
theorem smS_int {i : Int} (h : i.natAbs < 10 ^ 38) : smS (.int i) = true := decide_eq_true h
theorem smS_bls {bs : List Bool} : (bs.map V.bl).all smS = true := by
  rw [List.all_map]
  exact List.all_eq_true.mpr fun _ _ => rfl
end Bk

namespace Bk
open PySem PySem.Spec PyProof.Rows L2
/-! ## 18. what k03 left for all -/
theorem seqT {K : PySem.W.Frag} {H H' : Hp} {a : Addr} {xs : List V} (s : Same H H') (h : SqT K H a xs) : SqT K H' a xs := by
  rcases h with (h | ⟨o, h⟩) | h
  · exact .inl (.inl (s _ _ h))
  · exact .inl (.inr ⟨o, s _ _ h⟩)
  · exact .inr h
theorem Refuse.on {C : Addr} {v : V} {H H' : Hp} {E : XK} (r : Refuse C v H E) (s : Same H H') : Refuse C v H' E := fun d H2 hd s2 e => r d H2 (s.free hd) (s.trans s2) e
section
variable {K : PySem.W.Frag} {H : Hp} {a : Addr} {T U : String} {b c : Bool}
theorem isb_lst {xs : List V} (e : H a = some (.lst xs)) (h : kitB "list" T = some b := by decide +kernel) (h2 : kitB "list" U = some c := by decide +kernel) : IsB K H (.ref a) T U (b || c) := ⟨.type "list", .base (.lst e), kit2 (kit_ty h) (kit_ty h2)⟩
theorem isb_tup {xs : List V} (e : H a = some (.tup xs)) (h : kitB "tuple" T = some b := by decide +kernel) (h2 : kitB "tuple" U = some c := by decide +kernel) : IsB K H (.ref a) T U (b || c) := ⟨.type "tuple", .base (.tup e), kit2 (kit_ty h) (kit_ty h2)⟩
theorem isb_dK {kvs : List (Key × V)} (e : H a = some (.dK kvs)) (h : kitB "dict" T = some b := by decide +kernel) (h2 : kitB "dict" U = some c := by decide +kernel) : IsB K H (.ref a) T U (b || c) := ⟨.type "dict", .base (.dK e), kit2 (kit_ty h) (kit_ty h2)⟩
theorem isb_int {i : Int} (h : kitB "int" T = some b := by decide +kernel) (h2 : kitB "int" U = some c := by decide +kernel) : IsB K H (.int i) T U (b || c) := ⟨.type "int", .base (.int i), kit2 (kit_ty h) (kit_ty h2)⟩
theorem isb_bl {k : Bool} (h : kitB "bool" T = some b := by decide +kernel) (h2 : kitB "bool" U = some c := by decide +kernel) : IsB K H (.bl k) T U (b || c) := ⟨.type "bool", .base (.bl k), kit2 (kit_ty h) (kit_ty h2)⟩
theorem isb_str {z : Str} (h : kitB "str" T = some b := by decide +kernel) (h2 : kitB "str" U = some c := by decide +kernel) : IsB K H (.str z) T U (b || c) := ⟨.type "str", .base (.str z), kit2 (kit_ty h) (kit_ty h2)⟩
theorem isb_non (h : kitB "NoneType" T = some b := by decide +kernel) (h2 : kitB "NoneType" U = some c := by decide +kernel) : IsB K H .non T U (b || c) := ⟨.type "NoneType", .base .non, kit2 (kit_ty h) (kit_ty h2)⟩
end
theorem r_yes {σ : L2.St} {H : Hp} {te : TE} {Q : VK} {R : Hp → Prop} (q : te σ H Q) : tYes σ H (fun b H4 => if b = true then te σ H4 Q else R H4) := by
  show if true = true then te σ H Q else R H
  exact iteT q
section
variable {K : PySem.W.Frag} {σ : L2.St} {H : Hp} {Q : VK} {i0 j j1 j2 : Nat} {vs : List Nat} {a : Addr} {xs : List V} {te : TE} {tt : TT}
/-- over a list or a tuple -/
theorem lcA (p : Nat → V) (hv : σ[i0]? = some (some (.ref a))) (hs : SqL K H a xs ∨ SqT K H a xs) (hl : xs.length ≤ 10000) (hw : ∀ x, wipe ((wipe σ vs).set j (some x)) vs = wipe σ vs)
    (ht : ∀ (i : Nat) (y : V) (H' : Hp) (Q' : VK), xs[i]? = some y → Same H H' → (∀ H2, Same H' H2 → Q' (p i) H2) → te ((wipe σ vs).set j (some y)) H' Q')
    (q : ∀ D H', H D = none → Same H H' → H' D = some (.lst ((List.range xs.length).map p)) → Q (.ref D) H') : tLc (iSeqA K (tVar i0)) (gName j) tYes te vs σ H Q := by
  have go : ∀ {J : It} {G : Hp → Prop}, Walk J xs.length G (YAt xs) → (∀ H', Same H H' → G H') → ∀ D, H D = none → _ := fun {J G} wk hG D hD =>
    lc_by (g := gName j) (tt := tYes) (te := te) (vs := vs) (σ := σ) (Q := Q) wk (fun i => some (p i)) hD hl hG (fun i y H1 H2 Q' R' hi sm ⟨e, hy⟩ h1 _ => ⟨hw _, by
      subst e
      exact r_yes (ht i y H2 Q' hy sm (h1 _ rfl))⟩) fun H' sm e => q D H' hD sm (by
      rw [e]
      show some (HO.lst (List.filterMap (some ∘ p) _)) = _
      rw [List.filterMap_eq_map])
  refine ⟨_, hv, a, xs, rfl, ?_⟩
  rcases hs with hs | hs
  · exact .inl ⟨hs, go walk_list fun H' sm => sm.seq hs⟩
  · exact .inr ⟨hs, go walk_tup fun H' sm => seqT sm hs⟩
/-- enumerate of a list or a tuple, some left out -/
theorem lcE (p : Nat → V → Option V) (hv : σ[i0]? = some (some (.ref a))) (hs : SqL K H a xs ∨ SqT K H a xs) (hl : xs.length ≤ 10000) (hw : ∀ x y, wipe (((wipe σ vs).set j1 (some x)).set j2 (some y)) vs = wipe σ vs)
    (ht : ∀ (i : Nat) (y : V) (H' : Hp) (Q' : VK) (R' : Hp → Prop), xs[i]? = some y → Same H H' → (∀ v, p i y = some v → ∀ H2, Same H' H2 → Q' v H2) → (p i y = none → ∀ H2, Same H' H2 → R' H2) →
      tt (((wipe σ vs).set j1 (some (.int i))).set j2 (some y)) H' fun b H4 => if b = true then te (((wipe σ vs).set j1 (some (.int i))).set j2 (some y)) H4 Q' else R' H4)
    (q : ∀ D H', H D = none → Same H H' → H' D = some (.lst ((List.range xs.length).filterMap fun i => xs[i]?.bind (p i))) → Q (.ref D) H') :
    tLc (iEnumA K (tCons (tVar i0) tNil)) (gTup K 2 (gCons (gName j1) (gCons (gName j2) gNil))) tt te vs σ H Q := by
  have go : ∀ {J : It} {G : Hp → Prop}, Walk J xs.length G (YPair (fun i => some (.int (i : Nat))) (fun i => xs[i]?)) → (∀ H', Same H H' → G H') → ∀ D, H D = none → _ := fun {J G} wk hG D hD =>
    lc_by (g := gTup K 2 (gCons (gName j1) (gCons (gName j2) gNil))) (tt := tt) (te := te) (vs := vs) (σ := σ) (Q := Q) wk (fun i => xs[i]?.bind (p i)) hD hl hG (fun i v H1 H2 Q' R' hi sm ⟨Tn, x, y, e1, nT, e2, hx, hy⟩ h1 h2 => by
      subst e1 e2
      injection hx with hx
      subst hx
      have sT := same_upd (o := .tup [.int (i : Nat), y]) nT
      have ey : xs[i]?.bind (p i) = p i y := by
        rw [show xs[i]? = some y from hy]
        rfl
      refine ⟨Tn, _, rfl, sqT upd_same, rfl, .int i, _, rfl, y, _, rfl, rfl, hw _ _, ?_⟩
      exact ht i y _ Q' R' hy (sm.trans sT) (fun v hv H3 s3 => h1 v (by rw [ey]; exact hv) H3 (sT.trans s3)) fun hn H3 s3 => h2 (by rw [ey]; exact hn) H3 (sT.trans s3)) fun H' sm e => q D H' hD sm e
  refine ⟨_, hv, a, xs, rfl, ?_⟩
  rcases hs with hs | hs
  · exact .inl ⟨hs, go walk_enum fun H' sm => sm.seq hs⟩
  · exact .inr ⟨hs, go walk_enumT fun H' sm => seqT sm hs⟩
end
theorem map_getD {α : Type} (f : V → α) (d : V) (xs : List V) : (List.range xs.length).map (fun i => f (xs.getD i d)) = xs.map f := by
  refine List.ext_getElem (by simp) fun i h1 h2 => ?_
  simp only [List.getElem_map, List.getElem_range]
  have h : i < xs.length := by simpa using h1
  rw [List.getD_eq_getElem?_getD, List.getElem?_eq_getElem h]
  rfl
/-! ## 17. comprehensions over a list, a tuple, a range -/
section
variable {K : PySem.W.Frag} {σ : L2.St} {H : Hp} {Q : VK} {i0 j : Nat} {vs : List Nat} {a : Addr} {xs : List V} {te : TE}
theorem lc_map {J : It} {n : Nat} {G : Hp → Prop} {Y : Nat → Hp → V → Hp → Prop} {D : Addr} (wk : Walk J n G Y) (hY : ∀ i H1 x H2, i < n → Y i H1 x H2 → H2 = H1) (p : Nat → V) (hl : n ≤ 10000) (hG : ∀ H', Same H H' → G H') (hw : ∀ x, wipe ((wipe σ vs).set j (some x)) vs = wipe σ vs)
    (ht : ∀ (i : Nat) (y : V) (H1 H' : Hp) (Q' : VK), i < n → Y i H1 y H' → Same H H' → (∀ H2, Same H' H2 → Q' (p i) H2) → te ((wipe σ vs).set j (some y)) H' Q')
    (q : ∀ D H', H D = none → Same H H' → H' D = some (.lst ((List.range n).map p)) → Q (.ref D) H') (hD : H D = none) : ∃ W : Nat → Nat → Hp → Prop, (∃ m, W 0 m (upd H D (.lst []))) ∧ ∀ i m H, W i m H →
      (J.stop i H ∧ Q (.ref D) H) ∨ (J.go i H ∧ ∃ Nx : Hp → Prop, (∀ H', Nx H' → ∃ m', m' < m ∧ W (i + 1) m' H') ∧ ∀ x H', J.yld i H x H' → gName j x (wipe σ vs) H' fun σ2 H2 => wipe σ2 vs = wipe σ vs ∧ tYes σ2 H2 fun b H3 =>
        if b = true then te σ2 H3 fun y H4 => ∃ acc, H4 D = some (.lst acc) ∧ acc.length < sizeLine ∧ Nx (upd H4 D (.lst (acc ++ [y]))) else Nx H3) :=
  lc_by (g := gName j) (tt := tYes) (te := te) (vs := vs) (σ := σ) (Q := Q) wk (fun i => some (p i)) hD hl hG (fun i y H1 H2 Q' R' hi sm e h1 _ => ⟨hw _, by
    obtain rfl := hY i _ _ _ hi e
    exact r_yes (ht i y H2 H2 Q' hi e sm (h1 _ rfl))⟩) fun H' sm e => q D H' hD sm (by
      rw [e]
      show some (HO.lst (List.filterMap (some ∘ p) _)) = _
      rw [List.filterMap_eq_map])
theorem lcT (p : Nat → V) (hv : σ[i0]? = some (some (.ref a))) (hs : SqT K H a xs) (hl : xs.length ≤ 10000) (hw : ∀ x, wipe ((wipe σ vs).set j (some x)) vs = wipe σ vs)
    (ht : ∀ (i : Nat) (y : V) (H' : Hp) (Q' : VK), xs[i]? = some y → Same H H' → (∀ H2, Same H' H2 → Q' (p i) H2) → te ((wipe σ vs).set j (some y)) H' Q')
    (q : ∀ D H', H D = none → Same H H' → H' D = some (.lst ((List.range xs.length).map p)) → Q (.ref D) H') : tLc (iTup K (tVar i0)) (gName j) tYes te vs σ H Q :=
  ⟨_, hv, a, rfl, ⟨xs, hs⟩, fun D hD => lc_map (j := j) walk_tup (fun _ _ _ _ _ z => z.1) p hl (fun H' sm => seqT sm hs) hw (fun i y H1 H' Q' _ e sm k => ht i y H' Q' e.2 sm k) q hD⟩
theorem lcL (p : Nat → V) (hv : σ[i0]? = some (some (.ref a))) (hs : SqL K H a xs) (hl : xs.length ≤ 10000) (hw : ∀ x, wipe ((wipe σ vs).set j (some x)) vs = wipe σ vs)
    (ht : ∀ (i : Nat) (y : V) (H' : Hp) (Q' : VK), xs[i]? = some y → Same H H' → (∀ H2, Same H' H2 → Q' (p i) H2) → te ((wipe σ vs).set j (some y)) H' Q')
    (q : ∀ D H', H D = none → Same H H' → H' D = some (.lst ((List.range xs.length).map p)) → Q (.ref D) H') : tLc (iList K (tVar i0)) (gName j) tYes te vs σ H Q :=
  ⟨_, hv, a, rfl, ⟨xs, hs⟩, fun D hD => lc_map (j := j) walk_list (fun _ _ _ _ _ z => z.1) p hl (fun H' sm => sm.seq hs) hw (fun i y H1 H' Q' _ e sm k => ht i y H' Q' e.2 sm k) q hD⟩
/-- what is drawn at each turn: the box changes -/
theorem lcDraw {n m : Nat} {bx : Addr} (p : V → Prop) (hb : Box bx m H) (hl : n ≤ 1000) (hw : ∀ x, wipe ((wipe σ vs).set j (some x)) vs = wipe σ vs)
    (ht : ∀ (i : Nat) (H' : Hp) (Q' : VK), i < n → Box bx (m + i) H' → (∀ v H2, p v → Box bx (m + i + 1) H2 → But bx H' H2 → Q' v H2) → te ((wipe σ vs).set j (some (.int i))) H' Q')
    (q : ∀ D H' xs, H D = none → But bx H H' → Box bx (m + n) H' → H' D = some (.lst xs) → xs.length = n → (∀ v ∈ xs, p v) → Q (.ref D) H') : tLc (iRng1 (tCons (tC (.int n)) tNil)) (gName j) tYes te vs σ H Q := by
  refine ⟨_, rfl, by omega, by omega, fun D hD => ?_⟩
  have nD : D ≠ bx := hb.ne hD
  rw [Int.toNat_natCast]
  refine lc_it (g := gName j) (tt := tYes) (te := te) (vs := vs) (σ := σ) (n := n) walk_range (fun i G => But bx H G ∧ Box bx (m + i) G ∧ ∃ xs, G D = some (.lst xs) ∧ xs.length = i ∧ ∀ v ∈ xs, p v)
    ⟨.of (same_upd hD), hb.same (same_upd hD), [], upd_same, rfl, fun _ z => nomatch z⟩ (fun _ _ _ _ => trivial) (fun i x H1 H2 hi ⟨bt, hB, xs, e, l, hp⟩ y => ?_) fun G ⟨bt, hB, xs, e, l, hp⟩ => q D G xs hD bt hB e l hp
  obtain ⟨rfl, rfl⟩ := y
  refine ⟨hw _, ?_⟩
  show te ((wipe σ vs).set j (some (.int (0 + (i : Int))))) _ _
  rw [Int.zero_add]
  refine ht i H2 _ hi hB fun v H3 pv hB3 b3 => ⟨xs, b3 _ _ nD e, by rw [l]; exact Nat.lt_of_lt_of_le hi (Nat.le_trans hl (by decide)), ?_, ?_, xs ++ [v], upd_same, by rw [List.length_append, l]; rfl, fun u hu => ?_⟩
  · exact fun b o ne e0 => by
      have z := b3 _ _ ne (bt _ _ ne e0)
      rw [upd_ne (ne_of_none e0 hD)]
      exact z
  · obtain ⟨x1, y1, z1, eB, r⟩ := hB3
    exact ⟨x1, y1, z1, by rw [upd_ne nD.symm]; exact eB, r⟩
  · rcases List.mem_append.mp hu with z | z
    · exact hp u z
    · rw [List.mem_singleton.mp z]; exact pv
end
/-- except C as e: return (tag, e.found) -/
theorem caught_at {K : PySem.W.Frag} {C d : Addr} {i : Nat} {σ : L2.St} {H' : Hp} {D : Ends} {l : List ClA} {v : V} {tag : Str} (e : PySem.W.exmOne K (.ref C) (.ref C) = some true) (hi : i < σ.length) (ed : H' d = some (.xd [("found", v)]))
    (q : ∀ p H2, H' p = none → Same H' H2 → H2 p = some (.tup [.str tag, v]) → D.rt (.ref p) H2) :
    wAM K D ((.ref C, i, fun a cls d => tRet (tTup (tCons (tC (.str tag)) (tCons (tXf a cls d C "found" (tVar i)) tNil)))) :: l) (.ref C) (some d) σ H' := by
  refine w_hit e fun a na => ?_
  show tRet (tTup (tCons (tC (.str tag)) (tCons (tXf a (.ref C) (some d) C "found" (tVar i)) tNil))) (offI i D) (σ.set i (some (.ref a))) H'
  refine r_ret (r_tup (r_cons (r_c (r_cons ?_))))
  refine ⟨.ref a, List.getElem?_set_self hi, rfl, rfl, d, _, v, rfl, ed, rfl, ?_⟩
  exact r_nil (newT fun p H2 np s2 e2 => q p H2 np s2 e2)
theorem fm_congr {α β : Type} {f g : α → Option β} : ∀ {l : List α}, (∀ x ∈ l, f x = g x) → l.filterMap f = l.filterMap g
  | [], _ => rfl
  | x :: l, h => by
    rw [List.filterMap_cons, List.filterMap_cons, h x List.mem_cons_self, fm_congr fun y hy => h y (List.mem_cons_of_mem _ hy)]
section
variable {K : PySem.W.Frag} {H : Hp} {x y : V} {Q : VK}
theorem r_neSame {d : PyData} (h1 : Dp K H x d) (h2 : Dp K H y d) (s : SeqAt.shaped d = true) (q : Q (.bl false) H) : rNeD K x y H Q :=
  ⟨d, d, h1, h2, s, s, by rw [SeqAt.eqv_refl d (SeqAt.canLay_of_shaped s)]; exact q⟩
end
theorem box_upd {bx a : Addr} {n : Nat} {H : Hp} {o : HO} (h : Box bx n H) (ne : a ≠ bx) : Box bx n (upd H a o) := by
  obtain ⟨x, y, z, e, r⟩ := h
  exact ⟨x, y, z, by rw [upd_ne ne.symm]; exact e, r⟩
theorem but_upd {bx a : Addr} {H0 H : Hp} {o : HO} (b : But bx H0 H) (fr : H0 a = none) : But bx H0 (upd H a o) := fun c u ne e => by
  rw [upd_ne (ne_of_none e fr)]
  exact b c u ne e
theorem cut_to {xs : List V} {m : Nat} (h : m ≤ xs.length) : cutV xs none (some (m : Int)) = xs.take m := by
  unfold cutV
  rw [HT.sIx_none, HT.sIx_nat, Nat.min_eq_left h, List.drop_zero, Nat.sub_zero]
theorem cut_from {xs : List V} {m : Nat} (h : m ≤ xs.length) : cutV xs (some (m : Int)) none = xs.drop m := by
  unfold cutV
  rw [HT.sIx_none, HT.sIx_nat, Nat.min_eq_left h]
  exact List.take_of_length_le (by rw [List.length_drop]; exact Nat.le_refl _)
section
variable {H : Hp} {Q : VK} {a b : Addr} {xs ys : List V} {lo hi : Option Int}
theorem r_slL {K : PySem.W.Frag} (h : SqL K H a xs) (e : cutV xs lo hi = ys) (q : ∀ p H', H p = none → Same H H' → H' p = some (.lst ys) → Q (.ref p) H') : rSlL K (.ref a) lo hi H Q :=
  ⟨a, xs, rfl, h, fun p n => q p _ n (same_upd n) (by rw [upd_same, e])⟩
theorem r_cat (h1 : H a = some (.lst xs)) (h2 : H b = some (.lst ys)) (q : ∀ p H', H p = none → Same H H' → H' p = some (.lst (xs ++ ys)) → Q (.ref p) H') (l : xs.length + ys.length ≤ 10000 := by omega) : rCat (.ref a) (.ref b) H Q :=
  ⟨a, b, xs, ys, rfl, rfl, h1, h2, Nat.le_trans l (by decide), fun p n => q p _ n (same_upd n) upd_same⟩
end
theorem shw_tup2 {K : PySem.W.Frag} {H : Hp} {a b : Addr} {xs : List V} (h : SqT K H a xs) (h2 : SqT K H b xs) (i : ∀ y ∈ xs, Itm K H y) (l : xs.length ≤ 150) : ∃ z, Shw K H (.ref a) z ∧ Shw K H (.ref b) z := by
  obtain ⟨ds, g1, g2, g3, g4⟩ := itms i
  exact ⟨_, shw_of (.tup h g1) (by simpa only [smallD] using g2) (by simp only [PyData.bulk]; omega) (by simp only [PyData.depth]; omega),
    shw_of (.tup h2 g1) (by simpa only [smallD] using g2) (by simp only [PyData.bulk]; omega) (by simp only [PyData.depth]; omega)⟩
theorem but_none {a c : Addr} {H G : Hp} (b : But a H G) (ne : c ≠ a) (h : G c = none) : H c = none := by
  cases e : H c with
  | none => rfl
  | some o => exact nomatch h.symm.trans (b _ _ ne e)
theorem r_par {i j : Nat} {ta : TA} {D : Ends} {σ : L2.St} {H : Hp} (q : ta σ H fun vs H1 => ∃ v w, vs = [v, w] ∧ D.nx ((σ.set i (some v)).set j (some w)) H1) : tPar i j ta D σ H := q
theorem small_int {i : Int} (h0 : -100000 ≤ i) (h1 : i ≤ 100000) : smS (.int i) = true := smS_int (Nat.lt_of_lt_of_le (show i.natAbs < 1000000 by omega) (by decide))
structure Exc (K : PySem.W.Frag) (C f : Addr) : Prop where
  ox : OexC K C
  i : PySem.W.findIn K (.ref C) "__init__" = some (some (.ref f))
  t : PySem.W.typeIn K (.ref f) = some (.type "function")
  nf : PySem.W.findIn K (.ref C) "found" = some none
  xf : XfC K C
def spGE (K : PySem.W.Frag) : Sp := fun vs H Q _ => ∃ (a C : Addr) (x : V), vs = [.ref a, x] ∧ OexC K C ∧ H a = some (exo a C none) ∧ Q .non H
def wholeV (x : V) (lo hi : Int) : Bool := match x with
  | .int i => decide (lo ≤ i) && decide (i ≤ hi)
  | _ => false
/-- a thing of which isinstance(.., int) is known -/
def WD (K : PySem.W.Frag) (H : Hp) (x : V) : Prop := (∃ i, x = .int i) ∨ (∃ b, x = .bl b) ∨ (IsA K H x "int" false ∧ ∀ l h, wholeV x l h = false)
def spWhole (K : PySem.W.Frag) : Sp := fun vs H Q _ => ∃ (x : V) (lo hi : Int), vs = [x, .int lo, .int hi] ∧ WD K H x ∧ Q (.bl (wholeV x lo hi)) H
def wd (x : V) : Bool := wholeV x 0 4095
def spIsWord (K : PySem.W.Frag) : Sp := fun vs H Q _ => ∃ x : V, vs = [x] ∧ WD K H x ∧ Q (.bl (wd x)) H
def spCheck (K : PySem.W.Frag) (CW : Addr) : Sp := fun vs H Q E => ∃ x : V, vs = [x] ∧ WD K H x ∧ ((wd x = true ∧ Q .non H) ∨ (wd x = false ∧ Refuse CW x H E))
theorem wd_int {i : Int} (h0 : 0 ≤ i) (h1 : i ≤ 4095) : wd (.int i) = true := by
  show (decide (0 ≤ i) && decide (i ≤ 4095)) = true
  rw [decide_eq_true h0, decide_eq_true h1]
  rfl
end Bk

namespace Bk
open PySem PySem.Spec PyProof.Rows L2
/-! ## 19. a text is no dict -/
theorem str_not_dict (x : Str) (t : Tok) (d : Addr) (o : Obj) (es : Array DictEntry) (ep : Nat) (hd : o.data = .dict es ep) (hc : o.cls = .type "dict") :
    Meets (Builtin.«str.__eq__» ⟨[.str x t, .ref d], []⟩) (fun _ R s => s.heap.get? d = some o ∧ R (.ok (.ret .notImplemented)) s) :=
  .of_wp fun prog w A R s h => by
    obtain ⟨hp, g, dr, tk, os⟩ := s
    obtain ⟨hl, h⟩ := h
    obtain ⟨c, dd, dt, sl⟩ := o
    subst hd hc
    wp_walk using wpAny_load hl
    exact ⟨_, rfl, h⟩
theorem dict_not_str (x : Str) (t : Tok) (d : Addr) (o : Obj) (es : Array DictEntry) (ep : Nat) (hd : o.data = .dict es ep) (hc : o.cls = .type "dict") :
    Meets (Builtin.«dict.__eq__» ⟨[.ref d, .str x t], []⟩) (fun _ R s => s.heap.get? d = some o ∧ R (.ok (.ret .notImplemented)) s) :=
  .of_wp fun prog w A R s h => by
    obtain ⟨hp, g, dr, tk, os⟩ := s
    obtain ⟨hl, h⟩ := h
    obtain ⟨c, dd, dt, sl⟩ := o
    subst hd hc
    have f1 := F.sub_str_dict
    wp_walk using wpAny_load hl
    exact ⟨_, rfl, h⟩
def rEqSD : R2 := fun x y H Q => ∃ (z : Str) (a : Addr) (kvs : List (Key × V)), x = .str z ∧ y = .ref a ∧ H a = some (.dK kvs) ∧ Q (.bl false) H
section
variable {X : Cx}
theorem op_eqSD (hu : X.A.units < cLine) : OpR X (compareOp .Eq) rEqSD := by
  intro pins s σ H x y v u Q I rx ry h
  obtain ⟨z, a, kvs, rfl, rfl, e, q⟩ := h
  obtain ⟨t, rfl⟩ := rx
  obtain rfl : u = Value.ref a := ry
  obtain ⟨_, _, vs, _, o, es, ep, ho, hx, hd, _⟩ := I.hok a _ e
  have hc : o.cls = .type "dict" := hx.1
  exact SeqAt.rc_eq_decline_or (k := false) (typeIs_str s z t) ⟨_, ho, hc⟩ (by decide) F.sub_dict_str F.slot_str_eq F.slot_dict_eq_refl
    (fun _ hq => call_meets F.slot_str_eq (typeIs_str s z t) F.entry_str_eq (F.args_str_eq_2 _ _) (str_not_dict z t a o es ep hd hc) ⟨ho, hq⟩)
    (fun _ hq => call_meets F.slot_dict_eq_refl ⟨_, ho, hc⟩ F.entry_dict_eq (F.args_dict_eq_2 _ _) (dict_not_str z t a o es ep hd hc) ⟨ho, hq⟩)
    (fun _ hq => wpAny_of_eq (rfl : isSame (.str z t) (.ref a) = pure false) hq) (.inr hu) ⟨.bl false, H, I, rfl, q⟩
/-- a text beside any thing -/
def rEqS (K : PySem.W.Frag) : R2 := fun x y H Q => (rEq x y H Q ∨ rEqD K x y H Q) ∨ rEqSD x y H Q
theorem op_eqS (hu : X.A.units + 64 < cLine) : OpR X (compareOp .Eq) (rEqS X.K) := OpR.or (OpR.or op_eq (op_eqD hu)) (op_eqSD (by omega))
end
/-! ## 20. refusing defs called with keywords beside values, or with defaults -/
structure CalMX (P : Program) (w : World) (K : PySem.W.Frag) (mg : Str → Option Value) (base : Heap) (k n : Nat) (ks : List Str) (x : Str) (sp : Sp) (gV : List V → List V → List V) : Prop where
  ex : ∃ (f : Addr) (fd : FuncData) (ps : List Str) (g : List Value → List Value → List Value), mg x = some (.ref f) ∧ PySem.W.keepIn K (.ref f) = true ∧ FnOk P w K mg base (L2.CX P w) k f fd ps sp ∧ KBn K fd ps n ks g gV
theorem CalMX.mk' {P : Program} {w : World} {K : PySem.W.Frag} {mg : Str → Option Value} {base : Heap} {k n : Nat} {ks : List Str} {x : Str} {sp : Sp} {gV : List V → List V → List V} {f : Addr} {fd : FuncData} {ps : List Str} {g : List Value → List Value → List Value} (a : mg x = some (.ref f)) (kp : PySem.W.keepIn K (.ref f) = true)
    (F : FnOk P w K mg base (L2.CX P w) k f fd ps sp) (b : KBn K fd ps n ks g gV) : CalMX P w K mg base k n ks x sp gV := ⟨f, fd, ps, g, a, kp, F, b⟩
structure CalXD (P : Program) (w : World) (K : PySem.W.Frag) (mg : Str → Option Value) (base : Heap) (k : Nat) (x : Str) (sp : Sp) (dvs : List V) : Prop where
  ex : ∃ (f : Addr) (fd : FuncData) (ps : List Str) (ds : List Value), mg x = some (.ref f) ∧ PySem.W.keepIn K (.ref f) = true ∧ FnOk P w K mg base (L2.CX P w) k f fd ps sp ∧ Binds K fd ps ds ∧ Vals dvs ds
def tCallNS (n m : Nat) (sp : Sp) (gV : List V → List V → List V) (E : L2.St → XK) (t tk : TA) : TE := fun σ H Q => t σ H fun vs H1 => tk σ H1 fun zs H2 => vs.length = n ∧ zs.length = m ∧ sp (gV vs zs) H2 Q (E σ)
section
variable {X : Cx} {k j n : Nat} {ks : List Str} {sp : Sp} {x : Str} {p pos : Pos} {e : Expr} {es : List Expr} {kws : List Keyword} {t tk : TA} {W : WX} {gV : List V → List V → List V} {dvs : List V}
theorem r_callNS {n m : Nat} {E : L2.St → XK} {σ : L2.St} {H : Hp} {Q : VK} (q : t σ H fun vs H1 => tk σ H1 fun zs H2 => vs.length = n ∧ zs.length = m ∧ sp (gV vs zs) H2 Q (E σ)) : tCallNS n m sp gV E t tk σ H Q := q
theorem pe_calMY (c : CalMX X.prog X.w X.K X.mg X.base k n ks x sp gV) (hr : Room j X.A) (hk : k ≤ j) (hg : Gl X x) (ha : PA X (e :: es) t) (hkw : PK X kws tk)
    (hall : (backToKw pos (keywordEach kws X.env)).all (·.1.isSome) = true := by rfl) (hks : (backToKw pos (keywordEach kws X.env)).filterMap (·.1) = ks := by rfl)
    (hdb : (x == ("__debug__" : Str)) = false := by decide) (he : starEach (e :: es) X.env = (false, eval e X.env) :: starEach es X.env := by rfl)
    (hpl : ((backTo pos (starEach (e :: es) X.env)).any (·.1) || (backToKw pos (keywordEach kws X.env)).any (·.1.isNone)) = false := by rfl) :
    PE X (.Call (.Name x p) (e :: es) kws pos) (tCallN n ks.length sp gV noE t tk) := by
  obtain ⟨f, fd, ps, g, h1, h2, h3, h4⟩ := c.ex
  exact pe_callN h3 (hr.mono hk) hg h1 h2 h4 pass_no ha hkw hall hks hdb he hpl
theorem pe_calYD (c : CalXD X.prog X.w X.K X.mg X.base k x sp dvs) (hr : Room j X.A) (hk : k ≤ j) (hg : Gl X x) (ha : PA X (e :: es) t)
    (hdb : (x == ("__debug__" : Str)) = false := by decide) (he : starEach (e :: es) X.env = (false, eval e X.env) :: starEach es X.env := by rfl) (hpl : (backTo pos (starEach es X.env)).any (·.1) = false := by rfl) :
    PE X (.Call (.Name x p) (e :: es) [] pos) (tCall sp dvs noE t) := by
  obtain ⟨f, fd, ps, ds, h1, h2, h3, h4, h5⟩ := c.ex
  exact pe_call h3 (hr.mono hk) hg h1 h2 h4 h5 pass_no ha hdb he hpl
/-- in a try -/
theorem pe_calMT (c : CalMX X.prog X.w X.K X.mg X.base k n ks x sp gV) (hr : Room j X.A) (hk : k ≤ j) (hg : Gl X x) (tkW : Takes X W) (ha : PA X (e :: es) t) (hkw : PK X kws tk)
    (hall : (backToKw pos (keywordEach kws X.env)).all (·.1.isSome) = true := by rfl) (hks : (backToKw pos (keywordEach kws X.env)).filterMap (·.1) = ks := by rfl)
    (hdb : (x == ("__debug__" : Str)) = false := by decide) (he : starEach (e :: es) X.env = (false, eval e X.env) :: starEach es X.env := by rfl)
    (hpl : ((backTo pos (starEach (e :: es) X.env)).any (·.1) || (backToKw pos (keywordEach kws X.env)).any (·.1.isNone)) = false := by rfl) :
    PE X (.Call (.Name x p) (e :: es) kws pos) (tCallNS n ks.length sp gV (WE W) t tk) := by
  obtain ⟨f, fd, ps, g, h1, h2, h3, h4⟩ := c.ex
  refine ⟨fun pins s σ H Q I h => ?_⟩
  refine wpAny_Call_Name_kw (ld_glob I hg h1 (PySem.W.callWith_KW (h₀ := X.base) I.ok.mod.kin h2 hall (thn (ha.run pos pins s σ H _ I h) fun us s1 ⟨vs, H1, I1, r, q⟩ => ?_) hpl he) hdb)
  refine thn (hkw.run pos pins s1 σ H1 _ I1 q) fun ws s2 ⟨zs, H2, I2, rz, l1, l2, q2⟩ => ⟨I2.kIn, ?_⟩
  rw [hks]
  refine wpAny_call (codeAny_mono (h3.run X.A X.stack s2 H2 ⟨us, ks.zip ws⟩ (g us ws) (gV vs zs) Q (WE W σ) (hr.mono hk) I2.env0 (h4.to s2 us ws I2.kIn (r.length.symm.trans l1) (rz.length.symm.trans l2)) (h4.rel r rz) q2) fun rr s3 z => ?_)
  match rr, z with
  | .error u, z => exact passAt tkW σ pins H2 s2 u s3 I2 z
  | .ok (.ret _), z => exact I2.after z
end
theorem ix_listK {X : Cx} {K : PySem.W.Frag} (h : X.K = K) : IxR X (rIxL K) := by
  subst h
  exact ix_list
theorem ix_tupK {X : Cx} {K : PySem.W.Frag} (h : X.K = K) : IxR X (rIxT K) := by
  subst h
  exact ix_tup
end Bk

namespace Bk
open PySem PySem.Spec PySem.Calls PyProof.Rows L2
/-! ## 20a. own exception classes under ValueError or LookupError -/
inductive Bs where
  | ve
  | le
def Bs.nm : Bs → String
  | .ve => "ValueError"
  | .le => "LookupError"
def Bs.new : Bs → String
  | .ve => "ValueError.__new__"
  | .le => "LookupError.__new__"
def Bs.init : Bs → String
  | .ve => "ValueError.__init__"
  | .le => "LookupError.__init__"
def Bs.tl (b : Bs) : List Value := [.type b.nm, .type "Exception", .type "BaseException", .type "object"]
theorem Bs.f : ∀ b : Bs, ExcBaseFacts b.nm b.new b.init b.tl
  | .ve => F.excBase_ValueError
  | .le => F.excBase_LookupError
theorem Bs.pass : ∀ (b : Bs) (self : Value), refuseLoop self "__setattr__" b.tl = pure ()
  | .ve, self => F.store_ValueError.passes self
  | .le, self => F.store_LookupError.passes self
theorem Bs.obj (b : Bs) : b.tl.contains (.type "object") = true := by cases b <;> decide +kernel
/-- own classes, then the built-in one's line -/
inductive Tail (b : Bs) : List Value → Prop
  | here : Tail b b.tl
  | own (C : Addr) {l : List Value} : Tail b l → Tail b (.ref C :: l)
section
variable {b : Bs} {l : List Value}
theorem Tail.pass (h : Tail b l) (self : Value) : refuseLoop self "__setattr__" l = pure () := by
  induction h with
  | here => exact b.pass self
  | own C _ ih => rw [refuseLoop_ref]; exact ih
theorem Tail.has (h : Tail b l) (X : String) : l.contains (.type X) = b.tl.contains (.type X) := by
  induction h with
  | here => rfl
  | own C _ ih => rw [List.contains_cons, ih]; rfl
theorem Tail.ne (h : Tail b l) : l.isEmpty = false := by cases h <;> rfl
end
section
open Builtin Builtin.ObjectAttr
variable {prog : Program} {w : World} {A : Around} {E : Value → Shared → Prop} {R : Result → Shared → Prop} {hp : Heap} {g : Array GenState} {d : Drawn} {t : Nat} {os : OsState}
/-- the first field of an exception -/
theorem osaT {K : PySem.W.Frag} {b : Bs} {name : Str} {tk : Tok} {v : Value} {x C : Addr} {fv : Array Value} {cd : ClassData} (X : K.In hp) (hx : hp.get? x = some { cls := .ref C, data := .fields fv }) (hcd : PySem.W.clsIn K C = some cd) (hm : Tail b cd.mro) (hh : cd.hasDict = true) (ha : PySem.W.findIn K (.ref C) name = some none)
    (hq : ∀ h' tk' dx, (∀ c o, c ≠ x → hp.get? c = some o → h'.get? c = some o) → hp.objs.size ≤ dx → dx ≠ x → h'.get? x = some { cls := .ref C, dict := some dx, data := .fields fv } → h'.Ns1 dx (fun y => if y = name then some v else none) → R (.ok (.ret .none)) ⟨h', g, d, tk', os⟩) :
    codeAny (model prog w) A (.call (.builtin "object.__setattr__") ⟨[.ref x, .str name tk, v], []⟩) R ⟨hp, g, d, t, os⟩ := by
  have I : PySem.W.InstAt hp x { cls := .ref C, data := .fields fv } C none := ⟨hx, rfl, rfl, trivial⟩
  have SF := F.store_object
  have hob : cd.mro.contains (.type "object") = true := (hm.has "object").trans b.obj
  have hxs : x ≠ hp.objs.size := Nat.ne_of_lt (Heap.lt_size hx)
  have isO : PySem.W.Looks (model prog w) hp (isInstance (.ref x) (.type "object")) true :=
    I.type.andThen (PySem.W.looks_mroIn X (by unfold PySem.W.mroIn; rw [hcd, Option.bind_some, if_neg (by rw [hm.ne]; decide), hob]))
  have lineL : PySem.W.Looks (model prog w) hp (mroOf (.ref C)) cd.mro := (PySem.W.looks_clsIn X hcd).andThen .now
  have noTaker : PySem.W.Looks (model prog w) hp (storeTaker? none) none := .now
  have clsL : PySem.W.Looks (model prog w) hp (classData C) cd := PySem.W.looks_clsIn X hcd
  refine codeAny_call_builtin SF.slot.plain SF.entry (@PySem.W.check_slot (model prog w) _ _ ⟨hp, g, d, t, os⟩ "object.__setattr__" "object" "__setattr__" (.ref x) [.str name tk, v] [] _ SF.kind SF.split isO (SF.args (.ref x) (.str name tk) v) ?_)
  rw [PySem.W.osa_eq, refuse_eq]
  refine wpAny_bind (wpAny_bind (I.type.at (wpAny_bind (lineL.at ?_))))
  rw [hm.pass]
  refine wpAny_pure (wpAny_bind (I.type.at (wpAny_bind ((PySem.W.looks_findIn X ha).at (wpAny_bind (noTaker.at ?_))))))
  show wpAny _ _ (storeInOwnDict (.ref x) (.ref C) (.str name tk) name v false) _ _ _
  obtain ⟨nm, bs, mro, ns, qn, hd, sn, sb, ab, col, del⟩ := cd
  dsimp only at hh
  subst hh
  unfold storeInOwnDict ownDictForStores
  repeat (first | with_reducible refine PySem.HandSPX.store_in_new ?_ ?_ | with_reducible refine wpAny_loadPart_at hx ?_ | with_reducible refine clsL.at ?_ | wp_step)
  · exact ⟨_, #[], _, (Heap.get?_update_ne _ _ _ _ hxs.symm).trans (Heap.get?_push_at rfl rfl), rfl, fun e he => absurd he (by simp), fun _ => rfl⟩
  · intro h' tk' hn' hs
    have hx1 : (hp.push { cls := .type "dict", data := .dict #[] }).get? x = some { cls := .ref C, data := .fields fv } := Heap.get?_push_of_some _ hx
    refine hq h' tk' hp.objs.size (fun c o hc ho => ?_) (Nat.le_refl _) hxs.symm ?_ hn'
    · have z1 := hs.2 c (Nat.ne_of_lt (Heap.lt_size ho))
      exact z1.trans ((Heap.get?_update_ne _ _ _ _ hc).trans (Heap.get?_push_of_some _ ho))
    · exact (hs.2 x hxs).trans (Heap.get?_update_self _ hx1 rfl)
end
/-- what the written part says of the class -/
structure OexT (K : PySem.W.Frag) (b : Bs) (C : Addr) : Prop where
  cls : ∃ nm q N bs bm sn sub ab col dd k0 k1 k2 k3 k5, K.lookup C = some (excClassObj nm q C N bs bm true sn sub ab col dd k0 k1 k2 k3 k5 b.new) ∧ Tail b bm
  sa : PySem.W.findIn K (.ref C) "__setattr__" = some (some (.builtin "object.__setattr__"))
  exC : PySem.W.subIn K (.ref C) (.type "BaseException") = some true
  tyC : PySem.W.typeIn K (.ref C) = some (.type "type")
  kC : PySem.W.keepIn K (.ref C) = true
section
variable {X : Cx} {pins : List (Addr × Obj)} {σ : L2.St} {H : Hp} {s : Shared} {a C dx : Addr} {f : Str} {y : V} {u : Value} {b : Bs} {Q : Unit → Shared → Prop} {E : Value → Shared → Prop} {A : Around}
theorem ost_newT (T : OexT X.K b C) (I : Inv X pins σ H s) (e : H a = some (exo a C none)) (hno : PySem.W.findIn X.K (.ref C) f = some none) (ry : RelV y u)
    (h : ∀ dx s', H dx = none → dx ≠ a → Inv X pins σ (upd (upd H dx (exd dx [(f, y)])) a (exo a C (some dx))) s' → Q () s') : wpAny (model X.prog X.w) A (setAttr (.ref a) f u) Q E s := by
  obtain ⟨nm, q, N, bs, bm, sn, sub, ab, col, dd, k0, k1, k2, k3, k5, hC, hbm⟩ := T.cls
  obtain ⟨t1, ho⟩ := exo_at I.hok e
  obtain ⟨hp, g, d, t, os⟩ := s
  have hcl : PySem.W.clsIn X.K C = some { name := nm, bases := bs, mro := .ref C :: bm, ns := N, qualname := q, hasDict := true, slotNames := sn, subclasses := sub, abstract := ab, collection := col, hasDel := false } := by
    unfold PySem.W.clsIn
    rw [hC] <;> rfl
  refine PySem.W.set_plain I.kIn (ox := { cls := .ref C, dict := none, data := .fields #[.ref t1, .none, .none, .none, .bool false, .none] }) (od := none) ⟨ho, rfl, rfl, trivial⟩ T.sa ?_
  refine osaT I.kIn ho hcl (.own C hbm) rfl hno fun h' tk' dx k dn dne hx hn => ?_
  have hnd : H dx = none := I.hok.fresh dn
  have nd : ∀ {c : Addr} {o : Obj}, hp.get? c = some o → c ≠ dx := fun {c o} z => Nat.ne_of_lt (Nat.lt_of_lt_of_le (Heap.lt_size z) dn)
  have na : ∀ {c : Addr}, H c = none → c ≠ a := fun {c} n z => by
    rw [z, e] at n
    exact nomatch n
  have un : Un X.fs [] H (upd (upd H dx (exd dx [(f, y)])) a (exo a C (some dx))) hp h' := by
    refine ⟨fun c o z n _ _ => k c o (na n) z, fun c o z n _ _ => ⟨o.slots, k c o (na n) z⟩, fun c o z n _ => by rw [upd_ne (na n), upd_ne (nd z)]; exact n, fun c o z _ => ?_, fun c xs z => ?_, fun c o v z => ?_, fun c ps z => ⟨#[], ?_⟩⟩
    · by_cases hc : c = a
      · exact ⟨_, by rw [hc]; exact hx⟩
      · exact ⟨o, k c o hc z⟩
    · rw [upd_ne (at_ne e z exo_tup), upd_ne (ne_of_none z hnd)]; exact z
    · rw [upd_ne (at_ne e z exo_frz), upd_ne (ne_of_none z hnd)]; exact z
    · rw [upd_ne (at_ne e z exo_tbl), upd_ne (ne_of_none z hnd), z]; simp
  refine h dx _ hnd dne (I.un (t' := tk') un fun c o z => ?_)
  by_cases hc : c = a
  · subst hc
    rw [upd_same] at z
    obtain rfl := Option.some.inj z
    exact exo_ok hx
  · rw [upd_ne hc] at z
    by_cases hd : c = dx
    · subst hd
      rw [upd_same] at z
      obtain rfl := Option.some.inj z
      exact exd_ok hn (relO_put (fs := []) ry fun _ => True.intro)
    · rw [upd_ne hd] at z
      refine (I.hok c o z).stay (fun c2 v hc2 z2 => k c2 v ?_ z2) (fun c2 z2 => ?_) fun c2 xs z2 => ?_
      · rcases hc2 with q2 | q2
        · rw [q2]; exact hc
        · exact at_ne e q2 exo_own
      · rw [upd_ne (at_ne e z2 exo_own), upd_ne (ne_of_none z2 hnd)]; exact z2
      · rw [upd_ne (at_ne e z2 exo_tup), upd_ne (ne_of_none z2 hnd)]; exact z2
/-- the built-in class's __init__: nothing of it is told -/
theorem oinitT {us : List Value} {Q : Value → Shared → Prop} (T : OexT X.K b C) (I : Inv X pins σ H s) (e : H a = some (exo a C none)) (hl : us.length ≤ sizeLine) (h : ∀ s', Inv X pins σ H s' → Q .none s') : wpAny (model X.prog X.w) A (call (.builtin b.init) (.ref a :: us)) Q E s := by
  obtain ⟨nm, q, N, bs, bm, sn, sub, ab, col, dd, k0, k1, k2, k3, k5, hC, hbm⟩ := T.cls
  obtain ⟨t1, ho⟩ := exo_at I.hok e
  obtain ⟨hp, g, d, t, os⟩ := s
  refine wpAny_call (PySem.HandSPX.init_base b.f hbm.has (I.kIn _ _ hC) ho hl fun h' t2 k hx => ?_)
  have J := I.write (t' := t) (x := a) (e := a) (o := exo a C none) (by rw [e]; exact True.intro) (.inl rfl) k ⟨_, hx⟩ (exo_ok hx)
  have eu : upd H a (exo a C none) = H := funext fun c => by
    by_cases hc : c = a
    · rw [hc, upd_same, e]
    · rw [upd_ne hc]
  exact h _ (eu ▸ J)
end
def tBaI (K : PySem.W.Frag) (b : Bs) (ta : TA) : TE := fun σ H Q => ta σ H fun vs H1 => ∃ (a C : Addr) (ws : List V), vs = .ref a :: ws ∧ ws.length ≤ 1000 ∧ OexT K b C ∧ H1 a = some (exo a C none) ∧ Q .non H1
/-- self.f = e, the first one -/
def tOsN (K : PySem.W.Frag) (f : Str) (to te : TE) : TS := fun D σ H => te σ H fun y H1 => to σ H1 fun x H2 => ∃ (b : Bs) (a C : Addr), x = .ref a ∧ OexT K b C ∧ PySem.W.findIn K (.ref C) f = some none ∧
  H2 a = some (exo a C none) ∧ ∀ dx, H2 dx = none → dx ≠ a → D.nx σ (upd (upd H2 dx (exd dx [(f, y)])) a (exo a C (some dx)))
section
variable {X : Cx} {o e : Expr} {es : List Expr} {to te : TE} {ta : TA} {f : Str} {p p' p1 p2 pos : Pos}
theorem typ_LE : typeOf (.type "LookupError") = pure (.type "type") := by kernel_rfl
theorem pe_veI {pl : Sem Bool} (hg : Gl X "ValueError") (hm : X.mg "ValueError" = none) (vV : PySem.W.findCls X.K (.type "ValueError") (.type "type") "__init__" = some (.val (.builtin "ValueError.__init__"))) (ha : PA X (e :: es) ta)
    (hc : eval (.Call (.Attribute (.Name "ValueError" p1) "__init__" p2) (e :: es) [] pos) X.env = (do
      let ov ← eval (.Name "ValueError" p1) X.env
      standAt p2.atName
      let (f, first) ← holding [ov] (getMethod ov "__init__" pl)
      callWith pos f first (backTo pos (starEach (e :: es) X.env)) (backToKw pos (keywordEach [] X.env))) := by rfl)
    (he : starEach (e :: es) X.env = (false, eval e X.env) :: starEach es X.env := by rfl) (hpl : (backTo pos (starEach es X.env)).any (·.1) = false := by rfl) :
    PE X (.Call (.Attribute (.Name "ValueError" p1) "__init__" p2) (e :: es) [] pos) (tBaI X.K .ve ta) := by
  refine ⟨fun pins s σ H Q I h => PySem.W.methodCall_KW (ld_blt I hg hm PyProof.Rows.Boot.«ValueError» ?_ (by decide) (by decide)) hc⟩
  obtain ⟨m, fr⟩ := I.fr
  refine PySem.W.method_type fr I.ok.mod.kin PySem.OEX.typ_VE (by decide +kernel) vV (by decide +kernel) ?_
  refine PyProof.Rows.callWith_method1 (thn (ha.run pos pins _ σ H _ (I.tok _) h) fun us s1 ⟨vs, H1, I1, r1, a, C, ws, ev, hl, T, ea, q⟩ => ?_) he hpl
  subst ev
  cases r1 with
  | @cons _ u0 _ ur ra rw' =>
    obtain rfl : u0 = Value.ref a := ra
    exact oinitT T I1 ea (by rw [← Paired.length rw', sizeLine_eq]; omega) fun s' J => ⟨.non, H1, J, rfl, q⟩
theorem pe_leI {pl : Sem Bool} (hg : Gl X "LookupError") (hm : X.mg "LookupError" = none) (vV : PySem.W.findCls X.K (.type "LookupError") (.type "type") "__init__" = some (.val (.builtin "LookupError.__init__"))) (ha : PA X (e :: es) ta)
    (hc : eval (.Call (.Attribute (.Name "LookupError" p1) "__init__" p2) (e :: es) [] pos) X.env = (do
      let ov ← eval (.Name "LookupError" p1) X.env
      standAt p2.atName
      let (f, first) ← holding [ov] (getMethod ov "__init__" pl)
      callWith pos f first (backTo pos (starEach (e :: es) X.env)) (backToKw pos (keywordEach [] X.env))) := by rfl)
    (he : starEach (e :: es) X.env = (false, eval e X.env) :: starEach es X.env := by rfl) (hpl : (backTo pos (starEach es X.env)).any (·.1) = false := by rfl) :
    PE X (.Call (.Attribute (.Name "LookupError" p1) "__init__" p2) (e :: es) [] pos) (tBaI X.K .le ta) := by
  refine ⟨fun pins s σ H Q I h => PySem.W.methodCall_KW (ld_blt I hg hm PyProof.Rows.Boot.«LookupError» ?_ (by decide) (by decide)) hc⟩
  obtain ⟨m, fr⟩ := I.fr
  refine PySem.W.method_type fr I.ok.mod.kin typ_LE (by decide +kernel) vV (by decide +kernel) ?_
  refine PyProof.Rows.callWith_method1 (thn (ha.run pos pins _ σ H _ (I.tok _) h) fun us s1 ⟨vs, H1, I1, r1, a, C, ws, ev, hl, T, ea, q⟩ => ?_) he hpl
  subst ev
  cases r1 with
  | @cons _ u0 _ ur ra rw' =>
    obtain rfl : u0 = Value.ref a := ra
    exact oinitT T I1 ea (by rw [← Paired.length rw', sizeLine_eq]; omega) fun s' J => ⟨.non, H1, J, rfl, q⟩
theorem ps_osN (ho : PE X o to) (he : PE X e te) (hs : swapsWith e (some (.Attribute o f p')) pos.line X.env = pure false := by rfl) : PS X (.Assign [.Attribute o f p'] e pos) (tOsN X.K f to te) := by
  refine ⟨fun pins s σ H D I h => plainObj_wpAny_Assign_Attribute (thn (he.run pins s σ H _ I h) fun v s1 ⟨y, H1, I1, r1, q1⟩ => thn (ho.run pins s1 σ H1 _ I1 q1) fun u s2 ⟨x, H2, I2, r2, b, a, C, ex, T, hno, ea, q⟩ => ?_) hs⟩
  subst ex
  obtain rfl : u = Value.ref a := r2
  exact ost_newT T I2 ea hno r1 fun dx s' n ne J => ⟨σ, _, J, q dx n ne⟩
/-- C(e, ..) that is raised -/
theorem pmk_oexT {b : Bs} {CX : CXT} {x : Str} {C fI : Addr} {k : Nat} {fd : FuncData} {ps : List Str} {sp : Sp} {ds : List Value} {dvs : List V} (T : OexT X.K b C) (iC : PySem.W.findIn X.K (.ref C) "__init__" = some (some (.ref fI))) (tI : PySem.W.typeIn X.K (.ref fI) = some (.type "function"))
    (F1 : FnOk X.prog X.w X.K X.mg X.base CX k fI fd ps sp) (hr : Room (k + 1) X.A) (hb : Binds X.K fd ps ds) (hd : Vals dvs ds) (hx : Passes CX X (fun _ _ _ => False)) (hg : Gl X x) (hm : X.mg x = some (.ref C)) (ha : PA X (e :: es) ta)
    (hdb : (x == ("__debug__" : Str)) = false := by decide) (he : starEach (e :: es) X.env = (false, eval e X.env) :: starEach es X.env := by rfl) (hpl : (backTo pos (starEach es X.env)).any (·.1) = false := by rfl) :
    PMk X (.Call (.Name x p) (e :: es) [] pos) (tMkO C sp dvs ta) := by
  intro pins s σ H Q I h
  obtain ⟨nm, q, N, bs, bm, sn, sub, ab, col, dd, k0, k1, k2, k3, k5, hC, hbm⟩ := T.cls
  refine wpAny_Call_Name_kw (ld_glob I hg hm ?_ hdb)
  refine PySem.W.callWith_K (h₀ := X.base) I.ok.mod.kin T.kC (thn (ha.run pos pins s σ H _ I h) fun us s1 ⟨vs, H1, I1, r1, hz, q1⟩ => ⟨I1.kIn, ?_⟩) he hpl
  show wpAny _ _ (call (.ref C) us) _ _ _
  obtain ⟨hp, g, dr, tk, os⟩ := s1
  have hsz : hp.objs.size ≤ hp.objs.size + 1 := Nat.le_succ _
  have hq := q1 (hp.objs.size + 1) (I1.hok.fresh hsz)
  have hget : ((hp.push (PySem.W.kdv_tup us)).push (PySem.HandSPX.excO C hp.objs.size)).get? (hp.objs.size + 1) = some (PySem.HandSPX.excO C hp.objs.size) := by heap_get
  have kk : ∀ c o, hp.get? c = some o → ((hp.push (PySem.W.kdv_tup us)).push (PySem.HandSPX.excO C hp.objs.size)).get? c = some o := fun c o z => Heap.get?_push_of_some _ (Heap.get?_push_of_some _ z)
  have I2 : Inv X pins σ (upd H1 (hp.objs.size + 1) (exo (hp.objs.size + 1) C none)) ⟨(hp.push (PySem.W.kdv_tup us)).push (PySem.HandSPX.excO C hp.objs.size), g, dr, tk, os⟩ :=
    I1.laid (t' := tk) (a := hp.objs.size + 1) (o := exo (hp.objs.size + 1) C none) (h' := (hp.push (PySem.W.kdv_tup us)).push (PySem.HandSPX.excO C hp.objs.size)) kk hsz (exo_ok hget)
  have r2 : Vals (V.ref (hp.objs.size + 1) :: (vs ++ dvs)) (Value.ref (hp.objs.size + 1) :: (us ++ ds)) := .cons rfl (r1.append hd)
  have hl : (Value.ref (hp.objs.size + 1) :: us ++ ds).length = ps.length := r2.length.symm.trans (F1.len _ _ _ _ hq)
  have hus : us.length ≤ sizeLine := by rw [← Paired.length r1, sizeLine_eq]; omega
  refine wpAny_call (PySem.HandSPX.call_own b.f hbm.has (I1.kIn _ _ hC) (PySem.W.looks_findIn I1.kIn iC) (fun self => PySem.W.bind_fn I1.kIn self tI) hus
    (codeAny_mono (F1.run _ X.stack _ _ ⟨Value.ref (hp.objs.size + 1) :: us, []⟩ (Value.ref (hp.objs.size + 1) :: (us ++ ds)) _ _ (fun _ _ _ => False) (hr.make C us []) (I2.env0.make C us []) (hb _ (Value.ref (hp.objs.size + 1) :: us) I2.kIn hl) r2 hq) fun r s' hq' => ?_))
  match r, hq' with
  | .error er, hq' => exact hx pins σ _ _ er s' I2 hq'
  | .ok (.ret u), hq' =>
    obtain ⟨v, H2, os2, bare2, un2, hok2, rv, ev, d, fs, ea, ed, hd1, q2⟩ := hq'
    subst ev
    obtain ⟨h2, g2, d2, t2, os'⟩ := s'
    exact ⟨rv, mk_end (raises_own T.exC T.tyC) I1 hsz kk un2 hok2 os2 bare2 ea ed hd1 q2⟩
end
/-- Base.__init__(self, text) of an own family -/
def spGT (K : PySem.W.Frag) (b : Bs) : Sp := fun vs H Q _ => ∃ (a C : Addr) (x : V), vs = [.ref a, x] ∧ OexT K b C ∧ H a = some (exo a C none) ∧ Q .non H
end Bk

namespace Bk
open PySem PySem.Spec PyProof.Rows L2
/-! ## 21. methods of own classes: what is raised is wished for at the caller's slots -/
structure CalM (P : Program) (w : World) (K : PySem.W.Frag) (mg : Str → Option Value) (base : Heap) (CX : CXT) (k : Nat) (C : Addr) (m : Str) (sp : Sp) : Prop where
  ex : ∃ (f : Addr) (fd : FuncData) (ps : List Str), Meth K C m f ∧ FnOk P w K mg base CX k f fd ps sp ∧ Binds K fd ps []
structure CalMK (P : Program) (w : World) (K : PySem.W.Frag) (mg : Str → Option Value) (base : Heap) (CX : CXT) (k n : Nat) (ks : List Str) (C : Addr) (m : Str) (sp : Sp) (gV : List V → List V → List V) : Prop where
  ex : ∃ (f : Addr) (fd : FuncData) (ps : List Str) (g : List Value → List Value → List Value), Meth K C m f ∧ FnOk P w K mg base CX k f fd ps sp ∧ KBn K fd ps (n + 1) ks g gV
/-- C(..) of a class whose objects are plain -/
structure CalC (P : Program) (w : World) (K : PySem.W.Frag) (mg : Str → Option Value) (base : Heap) (CX : CXT) (k : Nat) (C : Addr) (x : Str) (sp : Sp) : Prop where
  ex : ∃ (f : Addr) (fd : FuncData) (ps : List Str), Mk K C f ∧ FnOk P w K mg base CX k f fd ps sp ∧ Binds K fd ps [] ∧ mg x = some (.ref C)
def tMeS (C : Addr) (m : Str) (sp : Sp) (E : L2.St → XK) (ta : TE) (t : TA) : TE := fun σ H Q => ta σ H fun x H1 => ∃ a dx fs, x = .ref a ∧ H1 a = some (.ins C dx fs) ∧ fs.lookup m = none ∧ t σ H1 fun vs H2 => sp (x :: vs) H2 Q (E σ)
def tMeK (C : Addr) (m : Str) (j : Nat) (sp : Sp) (gV : List V → List V → List V) (E : L2.St → XK) (ta : TE) (tk : TA) : TE := fun σ H Q => ta σ H fun x H1 => ∃ a dx fs, x = .ref a ∧ H1 a = some (.ins C dx fs) ∧ fs.lookup m = none ∧ tk σ H1 fun zs H2 => zs.length = j ∧ sp (gV [x] zs) H2 Q (E σ)
def tMkS (C : Addr) (sp : Sp) (E : L2.St → XK) (t : TA) : TE := fun σ H Q => t σ H fun vs H1 => ∀ x dx, H1 x = none → H1 dx = none → dx ≠ x →
  sp (.ref x :: vs) (upd (upd H1 dx (.own x)) x (.ins C dx [])) (fun v H2 => v = .non ∧ Q (.ref x) H2) (E σ)
section
variable {X : Cx} {CX : CXT} {k j n : Nat} {ks : List Str} {f C : Addr} {fd : FuncData} {ps : List Str} {sp : Sp} {E : L2.St → XK} {x m : Str} {p pos apos : Pos} {e o : Expr} {es : List Expr} {kws : List Keyword} {ta : TE} {t tk : TA} {W : WX} {gV : List V → List V → List V} {g : List Value → List Value → List Value}
theorem ps0 : ∀ σ, PassesAt CX0 X σ ((fun _ => E0) σ) := fun _ _ _ _ _ _ _ h => h.elim
theorem psY : ∀ σ, PassesAt (L2.CX X.prog X.w) X σ ((fun _ => noE) σ) := fun σ pins H s e s' I h => pass_no (X := X) pins σ H s e s' I h
theorem psX {E : XK} (tk : Takes X (fun cls d _ H => E cls d H)) : ∀ σ, PassesAt (L2.CX X.prog X.w) X σ ((fun _ => E) σ) := fun σ pins H s e s' I h => passes_call tk (fun _ _ _ _ z => z) pins σ H s e s' I h
theorem psT (tk : Takes X W) : ∀ σ, PassesAt (L2.CX X.prog X.w) X σ (WE W σ) := passAt tk
/-- o.m(e, ..) -/
theorem pe_mth {pl : Sem Bool} (he : PE X o ta) (cl : Cls X.K C) (c : CalM X.prog X.w X.K X.mg X.base CX k C m sp) (hr : Room j X.A) (hk : k ≤ j) (hx : ∀ σ, PassesAt CX X σ (E σ)) (ha : PA X (e :: es) t)
    (hst : starEach (e :: es) X.env = (false, eval e X.env) :: starEach es X.env := by rfl) (hpl : (backTo pos (starEach es X.env)).any (·.1) = false := by rfl)
    (ht : eval (.Call (.Attribute o m apos) (e :: es) [] pos) X.env = (do
      let ov ← eval o X.env
      standAt apos.atName
      let (f, first) ← holding [ov] (getMethod ov m pl)
      callWith pos f first (backTo pos (starEach (e :: es) X.env)) (backToKw pos (keywordEach [] X.env))) := by rfl) :
    PE X (.Call (.Attribute o m apos) (e :: es) [] pos) (tMeS C m sp E ta t) := by
  obtain ⟨f, fd, ps, hm, F, hb⟩ := c.ex
  refine ⟨fun pins s σ H Q I h => ?_⟩
  refine PySem.W.methodCall_KW (pl := pl) (thn (he.run pins s σ H _ I h) fun u s1 ⟨x, H1, I1, rx, a, dx, fs, ex, ea, l, q⟩ => ?_) ht
  subst ex
  obtain rfl : u = Value.ref a := rx
  refine getmeth_ok I1 ea cl hm l ?_
  refine PySem.W.callWith_K (first := [.ref a]) (h₀ := X.base) I.ok.mod.kin hm.kp (thn (ha.run pos pins s1 σ H1 _ I1 q) fun us s2 ⟨vs, H2, I2, r, q2⟩ => ⟨I2.kIn, ?_⟩) hst hpl
  exact run_fnS (us := .ref a :: us) (vs := .ref a :: vs) F (hr.mono hk) hb (hx σ) I2 (.cons rfl r) q2
/-- o.m() -/
theorem pe_mth0 {pl : Sem Bool} (he : PE X o ta) (cl : Cls X.K C) (c : CalM X.prog X.w X.K X.mg X.base CX k C m sp) (hr : Room j X.A) (hk : k ≤ j) (hx : ∀ σ, PassesAt CX X σ (E σ))
    (ht : eval (.Call (.Attribute o m apos) [] [] pos) X.env = (do
      let ov ← eval o X.env
      standAt apos.atName
      let (f, first) ← holding [ov] (getMethod ov m pl)
      callWith pos f first (backTo pos (starEach [] X.env)) (backToKw pos (keywordEach [] X.env))) := by rfl) :
    PE X (.Call (.Attribute o m apos) [] [] pos) (tMeS C m sp E ta tNil) := by
  obtain ⟨f, fd, ps, hm, F, hb⟩ := c.ex
  refine ⟨fun pins s σ H Q I h => ?_⟩
  refine PySem.W.methodCall_KW (pl := pl) (thn (he.run pins s σ H _ I h) fun u s1 ⟨x, H1, I1, rx, a, dx, fs, ex, ea, l, q⟩ => ?_) ht
  subst ex
  obtain rfl : u = Value.ref a := rx
  refine getmeth_ok I1 ea cl hm l ?_
  exact PySem.W.callWith_K0 (first := [.ref a]) I1.kIn hm.kp (run_fnS (us := [.ref a]) (vs := [.ref a]) F (hr.mono hk) hb (hx σ) I1 (.cons rfl .nil) q)
theorem run_fnNS {pins : List (Addr × Obj)} {σ : L2.St} {H : Hp} {s : Shared} {Q : VK} {us ws : List Value} {vs zs : List V} (F : FnOk X.prog X.w X.K X.mg X.base CX k f fd ps sp) (hr : Room k X.A) (hb : KBn X.K fd ps n ks g gV) (hx : PassesAt CX X σ (E σ))
    (I : Inv X pins σ H s) (r : Vals vs us) (rz : Vals zs ws) (l1 : vs.length = n) (l2 : zs.length = ks.length) (h : sp (gV vs zs) H Q (E σ)) : wpAny (model X.prog X.w) X.A (call (.ref f) us (ks.zip ws)) (EP X pins σ Q) X.xe s := by
  refine wpAny_call (codeAny_mono (F.run X.A X.stack s H ⟨us, ks.zip ws⟩ (g us ws) (gV vs zs) Q (E σ) hr I.env0 (hb.to s us ws I.kIn (r.length.symm.trans l1) (rz.length.symm.trans l2)) (hb.rel r rz) h) fun rr s3 z => ?_)
  match rr, z with
  | .error u, z => exact hx pins H s u s3 I z
  | .ok (.ret _), z => exact I.after z
/-- o.m(k = e, ..) -/
theorem pe_mthK {pl : Sem Bool} (he : PE X o ta) (cl : Cls X.K C) (c : CalMK X.prog X.w X.K X.mg X.base CX k 0 ks C m sp gV) (hr : Room j X.A) (hk : k ≤ j) (hx : ∀ σ, PassesAt CX X σ (E σ)) (hkw : PK X kws tk)
    (hall : (backToKw pos (keywordEach kws X.env)).all (·.1.isSome) = true := by rfl) (hks : (backToKw pos (keywordEach kws X.env)).filterMap (·.1) = ks := by rfl)
    (hpl : ((backTo pos (starEach [] X.env)).any (·.1) || (backToKw pos (keywordEach kws X.env)).any (·.1.isNone)) = false := by rfl)
    (ht : eval (.Call (.Attribute o m apos) [] kws pos) X.env = (do
      let ov ← eval o X.env
      standAt apos.atName
      let (f, first) ← holding [ov] (getMethod ov m pl)
      callWith pos f first (backTo pos (starEach [] X.env)) (backToKw pos (keywordEach kws X.env))) := by rfl) :
    PE X (.Call (.Attribute o m apos) [] kws pos) (tMeK C m ks.length sp gV E ta tk) := by
  obtain ⟨f, fd, ps, g, hm, F, hb⟩ := c.ex
  refine ⟨fun pins s σ H Q I h => ?_⟩
  refine PySem.W.methodCall_KW (pl := pl) (thn (he.run pins s σ H _ I h) fun u s1 ⟨x, H1, I1, rx, a, dx, fs, ex, ea, l, q⟩ => ?_) ht
  subst ex
  obtain rfl : u = Value.ref a := rx
  refine getmeth_ok I1 ea cl hm l ?_
  refine PySem.W.callWith_KW0 (first := [.ref a]) (h₀ := X.base) I.ok.mod.kin hm.kp hall ?_ hpl
  refine thn (hkw.run pos pins s1 σ H1 _ I1 q) fun ws s2 ⟨zs, H2, I2, rz, l2, q2⟩ => ⟨I2.kIn, ?_⟩
  rw [hks]
  exact run_fnNS (us := [.ref a]) (vs := [.ref a]) F (hr.mono hk) hb (hx σ) I2 (.cons rfl .nil) rz rfl l2 q2
theorem run_mkS {pins : List (Addr × Obj)} {σ : L2.St} {H : Hp} {s : Shared} {Q : VK} {us : List Value} {vs : List V} (M : Mk X.K C f) (F : FnOk X.prog X.w X.K X.mg X.base CX k f fd ps sp) (hr : Room (k + 1) X.A) (hb : Binds X.K fd ps [])
    (hx : PassesAt CX X σ (E σ)) (I : Inv X pins σ H s) (r : Vals vs us)
    (h : ∀ x dx, H x = none → H dx = none → dx ≠ x → sp (.ref x :: vs) (upd (upd H dx (.own x)) x (.ins C dx [])) (fun v H2 => v = .non ∧ Q (.ref x) H2) (E σ)) :
    wpAny (model X.prog X.w) X.A (call (.ref C) us) (EP X pins σ Q) X.xe s := by
  have hq := h (s.heap.objs.size + 1) s.heap.objs.size (I.hok.fresh (Nat.le_succ _)) (I.hok.fresh (Nat.le_refl _)) (Nat.ne_of_lt (Nat.lt_succ_self _))
  have I2 := Inv.made (C := C) I
  have r2 : Vals (V.ref (s.heap.objs.size + 1) :: vs) (Value.ref (s.heap.objs.size + 1) :: us) := .cons rfl r
  have hl : (Value.ref (s.heap.objs.size + 1) :: us).length = ps.length := by
    have e := r2.length
    rw [F.len _ _ _ _ hq] at e
    exact e.symm
  have bb := hb { s with heap := _ } (Value.ref (s.heap.objs.size + 1) :: us) I2.kIn (by rw [List.append_nil]; exact hl)
  rw [List.append_nil] at bb
  refine wpAny_call (make_map (f := f) I.kIn M.makes M.init (beq_iff_eq.mp M.fn) (codeAny_mono (F.run _ X.stack _ _ ⟨Value.ref (s.heap.objs.size + 1) :: us, []⟩ (Value.ref (s.heap.objs.size + 1) :: us) _ _ (E σ) (hr.make C us [])
    (I2.env0.make C us []) bb r2 hq) fun r s' hq' => ?_))
  cases r with
  | error e => exact hx pins _ _ e s' I2 hq'
  | ok fl =>
    cases fl with
    | ret u =>
      obtain ⟨v, H', I3, rv, ev, q3⟩ := I2.after hq'
      subst ev
      exact ⟨rv, ⟨V.ref (s.heap.objs.size + 1), H', I3, rfl, q3⟩⟩
    | next => exact False.elim hq'
    | brk => exact False.elim hq'
    | cont => exact False.elim hq'
theorem pe_mk (c : CalC X.prog X.w X.K X.mg X.base CX k C x sp) (hr : Room j X.A) (hk : k + 1 ≤ j) (hg : Gl X x) (hx : ∀ σ, PassesAt CX X σ (E σ)) (ha : PA X (e :: es) t)
    (hdb : (x == ("__debug__" : Str)) = false := by decide) (he : starEach (e :: es) X.env = (false, eval e X.env) :: starEach es X.env := by rfl) (hpl : (backTo pos (starEach es X.env)).any (·.1) = false := by rfl) :
    PE X (.Call (.Name x p) (e :: es) [] pos) (tMkS C sp E t) := by
  obtain ⟨f, fd, ps, M, F, hb, hm⟩ := c.ex
  refine ⟨fun pins s σ H Q I h => ?_⟩
  refine wpAny_Call_Name_kw (ld_glob I hg hm ?_ hdb)
  refine PySem.W.callWith_K (h₀ := X.base) I.ok.mod.kin M.kp (thn (ha.run pos pins s σ H _ I h) fun us s1 ⟨vs, H1, I1, r, q⟩ => ⟨I1.kIn, ?_⟩) he hpl
  exact run_mkS M F (hr.mono hk) hb (hx σ) I1 r q
theorem pe_mk0 (c : CalC X.prog X.w X.K X.mg X.base CX k C x sp) (hr : Room j X.A) (hk : k + 1 ≤ j) (hg : Gl X x) (hx : ∀ σ, PassesAt CX X σ (E σ))
    (hdb : (x == ("__debug__" : Str)) = false := by decide) : PE X (.Call (.Name x p) [] [] pos) (tMkS C sp E tNil) := by
  obtain ⟨f, fd, ps, M, F, hb, hm⟩ := c.ex
  refine ⟨fun pins s σ H Q I h => ?_⟩
  refine wpAny_Call_Name_kw (ld_glob I hg hm ?_ hdb)
  exact PySem.W.callWith_K0 I.kIn M.kp (run_mkS (us := []) (vs := []) M F (hr.mono hk) hb (hx σ) I .nil h)
/-- repr and the like in a guarded def -/
theorem run_fnGS {pins : List (Addr × Obj)} {σ : L2.St} {H : Hp} : True := trivial
end
section
variable {σ : L2.St} {H : Hp} {Q : VK} {C a dx : Addr} {m : Str} {sp : Sp} {E : L2.St → XK} {ta : TE} {t tk : TA} {fs : List (Str × V)}
theorem r_mth (q : ta σ H fun x H1 => ∃ a dx fs, x = .ref a ∧ H1 a = some (.ins C dx fs) ∧ fs.lookup m = none ∧ t σ H1 fun vs H2 => sp (x :: vs) H2 Q (E σ)) : tMeS C m sp E ta t σ H Q := q
theorem r_mthK {j : Nat} {gV : List V → List V → List V} (q : ta σ H fun x H1 => ∃ a dx fs, x = .ref a ∧ H1 a = some (.ins C dx fs) ∧ fs.lookup m = none ∧ tk σ H1 fun zs H2 => zs.length = j ∧ sp (gV [x] zs) H2 Q (E σ)) : tMeK C m j sp gV E ta tk σ H Q := q
theorem r_mkS (q : t σ H fun vs H1 => ∀ x dx, H1 x = none → H1 dx = none → dx ≠ x → sp (.ref x :: vs) (upd (upd H1 dx (.own x)) x (.ins C dx [])) (fun v H2 => v = .non ∧ Q (.ref x) H2) (E σ)) : tMkS C sp E t σ H Q := q
theorem r_fld {K : PySem.W.Frag} {f : Str} {v : V} (q : ta σ H fun x H1 => ∃ a C dx fs v, x = .ref a ∧ H1 a = some (.ins C dx fs) ∧ Cls K C ∧ NoAttr K C f ∧ fs.lookup f = some v ∧ Q v H1) : tFld K ta f σ H Q := q
end
/-! ## 22. refusals whose field has another name -/
def RefuseN (nm : Str) (C : Addr) (v : V) (H : Hp) (E : XK) : Prop := ∀ d H', H d = none → Same H H' → H' d = some (.xd [(nm, v)]) → E (.ref C) (some d) H'
theorem RefuseN.on {nm : Str} {C : Addr} {v : V} {H H' : Hp} {E : XK} (r : RefuseN nm C v H E) (s : Same H H') : RefuseN nm C v H' E := fun d H2 hd s2 e => r d H2 (s.free hd) (s.trans s2) e
def spInitN (nm : Str) (C : Addr) : Sp := fun vs H Q _ => ∃ (a : Addr) (x : V), vs = [.ref a, x] ∧ H a = some (exo a C none) ∧ ∀ dx, H dx = none → dx ≠ a → Q .non (upd (upd H dx (exd dx [(nm, x)])) a (exo a C (some dx)))
theorem r_mkN {nm : Str} {C : Addr} {v : V} {H : Hp} {E : XK} (z : RefuseN nm C v H E) : [v].length ≤ 1000 ∧ ∀ a, H a = none → spInitN nm C (.ref a :: ([v] ++ [])) (upd H a (exo a C none))
    (fun u H2 => u = .non ∧ ∃ (d : Addr) (fs : List (Str × V)), H2 a = some (exo a C (some d)) ∧ H2 d = some (exd d fs) ∧ H d = none ∧ E (.ref C) (some d) (upd (del H2 a) d (.xd fs))) (fun _ _ _ => False) := by
  refine ⟨Nat.le_of_ble_eq_true rfl, fun a ha => ⟨a, v, rfl, upd_same, fun dx hd ne => ⟨rfl, dx, [(nm, v)], upd_same, ?_, ?_, ?_⟩⟩⟩
  · rw [upd_ne ne, upd_same]
  · rw [upd_ne ne] at hd
    exact hd
  · rw [upd_ne ne] at hd
    refine z dx _ hd (fun b o e => ?_) upd_same
    have h1 : b ≠ a := ne_of_none e ha
    have h2 : b ≠ dx := ne_of_none e hd
    rw [upd_ne h2]
    show del _ a b = some o
    unfold del
    rw [if_neg h1, upd_ne h1, upd_ne h2, upd_ne h1]
    exact e
structure ExcN (K : PySem.W.Frag) (nm : Str) (C f : Addr) : Prop where
  ox : OexC K C
  i : PySem.W.findIn K (.ref C) "__init__" = some (some (.ref f))
  t : PySem.W.typeIn K (.ref f) = some (.type "function")
  nf : PySem.W.findIn K (.ref C) nm = some none
  xf : XfC K C
/-! ## 23. a comprehension each turn of which lays a new object, all of them unlike -/
section
variable {J : It} {n : Nat} {G : Hp → Prop} {Y : Nat → Hp → V → Hp → Prop} {g : TG} {te : TE} {vs : List Nat} {σ : L2.St} {H : Hp} {D : Addr} {Q : VK}
theorem lc_new (w : Walk J n G Y) (c : Nat → HO) (hD : H D = none) (hn : n ≤ 10000) (hG : ∀ H', Same H H' → G H')
    (hs : ∀ i x H1 H2 (Q' : VK) (R' : Hp → Prop), i < n → Same H H1 → Y i H1 x H2 → (∀ t H3, H1 t = none → Same H1 H3 → H3 t = some (c i) → Q' (.ref t) H3) →
      g x (wipe σ vs) H2 fun τ H3 => wipe τ vs = wipe σ vs ∧ tYes τ H3 fun b H4 => if b = true then te τ H4 Q' else R' H4)
    (q : ∀ H' (ts : List Addr), Same H H' → H' D = some (.lst (ts.map V.ref)) → ts.length = n → (∀ k t, ts[k]? = some t → H' t = some (c k)) → (D :: ts).Nodup → (∀ t ∈ ts, H t = none) → Q (.ref D) H') :
    ∃ W : Nat → Nat → Hp → Prop, (∃ m, W 0 m (upd H D (.lst []))) ∧ ∀ i m H, W i m H →
      (J.stop i H ∧ Q (.ref D) H) ∨ (J.go i H ∧ ∃ Nx : Hp → Prop, (∀ H', Nx H' → ∃ m', m' < m ∧ W (i + 1) m' H') ∧ ∀ x H', J.yld i H x H' → g x (wipe σ vs) H' fun σ2 H2 => wipe σ2 vs = wipe σ vs ∧ tYes σ2 H2 fun b H3 =>
        if b = true then te σ2 H3 fun y H4 => ∃ acc, H4 D = some (.lst acc) ∧ acc.length < sizeLine ∧ Nx (upd H4 D (.lst (acc ++ [y]))) else Nx H3) := by
  refine lc_it w (fun i G => Same H G ∧ ∃ ts : List Addr, G D = some (.lst (ts.map V.ref)) ∧ ts.length = i ∧ (∀ k t, ts[k]? = some t → G t = some (c k)) ∧ (D :: ts).Nodup ∧ ∀ t ∈ ts, H t = none)
    ⟨same_upd hD, [], upd_same, rfl, (fun _ _ z => nomatch z), (by simp), (fun _ z => nomatch z)⟩ (fun i G _ z => hG G z.1) (fun i x H1 H2 hi ⟨sm, ts, e, l, all, nd, fr⟩ y => ?_) fun G ⟨sm, ts, e, l, all, nd, fr⟩ => q G ts sm e l all nd fr
  refine hs i x H1 H2 _ _ hi sm y fun t H3 nt s3 et => ?_
  have tD : t ≠ D := fun z => by rw [z, e] at nt; exact nomatch nt
  have tts : t ∉ ts := fun z => by
    obtain ⟨k, hk⟩ := List.getElem?_of_mem z
    rw [all k t hk] at nt
    exact nomatch nt
  obtain ⟨nD, nts⟩ := List.nodup_cons.mp nd
  refine ⟨_, s3 _ _ e, by rw [List.length_map, l]; exact Nat.lt_of_lt_of_le hi (Nat.le_trans hn (by decide)), sameBut (sm.trans s3) hD, ts ++ [t], ?_, by rw [List.length_append, l]; rfl, fun k u hk => ?_, ?_, fun u hu => ?_⟩
  · rw [upd_same, List.map_append]
    rfl
  · by_cases hk2 : k < ts.length
    · rw [List.getElem?_append_left hk2] at hk
      have z := s3 _ _ (all k u hk)
      have nu : u ≠ D := fun q => by subst q; exact nD (List.mem_of_getElem? hk)
      rw [upd_ne nu]
      exact z
    · have e3 : k = i := by
        have := (List.getElem?_eq_some_iff.mp hk).1
        rw [List.length_append] at this
        have h1 : [t].length = 1 := rfl
        omega
      subst e3
      rw [List.getElem?_append_right (by omega), l, Nat.sub_self] at hk
      obtain rfl := Option.some.inj hk
      rw [upd_ne tD]
      exact et
  · refine List.nodup_cons.mpr ⟨fun z => ?_, List.nodup_append.mpr ⟨nts, by simp, fun a ha b hb q => ?_⟩⟩
    · rcases List.mem_append.mp z with z | z
      · exact nD z
      · exact tD (List.mem_singleton.mp z).symm
    · rw [List.mem_singleton.mp hb] at q
      exact tts (q ▸ ha)
  · rcases List.mem_append.mp hu with z | z
    · exact fr u z
    · rw [List.mem_singleton.mp z]
      exact sm.free nt
end
/-! ## 24. a list of lists -/
/-- at l: a list of the lists at rows, which hold ws -/
structure LL (H : Hp) (l : Addr) (rows : List Addr) (ws : List (List V)) : Prop where
  at_ : H l = some (.lst (rows.map V.ref))
  len : rows.length = ws.length
  row : ∀ (k : Nat) (r : Addr) (w : List V), rows[k]? = some r → ws[k]? = some w → H r = some (.lst w)
  nd : (l :: rows).Nodup
theorem LL.keep {H H' : Hp} {l : Addr} {rows : List Addr} {ws : List (List V)} (h : LL H l rows ws) (k : ∀ b ∈ l :: rows, H' b = H b) : LL H' l rows ws :=
  ⟨by rw [k l List.mem_cons_self]; exact h.at_, h.len, fun i r w h1 h2 => by rw [k r (List.mem_cons_of_mem _ (List.mem_of_getElem? h1))]; exact h.row i r w h1 h2, h.nd⟩
theorem LL.same {H H' : Hp} {l : Addr} {rows : List Addr} {ws : List (List V)} (h : LL H l rows ws) (s : Same H H') : LL H' l rows ws :=
  ⟨s _ _ h.at_, h.len, fun i r w h1 h2 => s _ _ (h.row i r w h1 h2), h.nd⟩
/-- the row at k grows -/
theorem LL.put {H H' : Hp} {l r : Addr} {rows : List Addr} {ws : List (List V)} {k : Nat} {w w' : List V} (h : LL H l rows ws) (hr : rows[k]? = some r) (hw : ws[k]? = some w) (b : But r H H') (e : H' r = some (.lst w')) : LL H' l rows (ws.set k w') := by
  obtain ⟨nl, nr⟩ := List.nodup_cons.mp h.nd
  have lr : l ≠ r := fun q => nl (q ▸ List.mem_of_getElem? hr)
  refine ⟨b _ _ lr h.at_, by rw [List.length_set]; exact h.len, fun i r2 w2 h1 h2 => ?_, h.nd⟩
  by_cases q : i = k
  · subst q
    rw [hr] at h1
    obtain rfl := Option.some.inj h1
    rw [List.getElem?_set_self (List.getElem?_eq_some_iff.mp hw).1] at h2
    obtain rfl := Option.some.inj h2
    exact e
  · rw [List.getElem?_set_ne (fun z => q z.symm)] at h2
    refine b _ _ (fun z => ?_) (h.row i r2 w2 h1 h2)
    subst z
    exact q ((List.getElem?_inj (List.getElem?_eq_some_iff.mp h1).1 nr).mp (h1.trans hr.symm))
end Bk

namespace Bk
open PySem PySem.Spec PyProof.Rows L2
/-! ## 25. the text of things, dicts among them -/
mutual
/-- v is the thing d; b: a dict may be in it, and each list stands where no dict of modules does -/
inductive Dq (b : Bool) (K : PySem.W.Frag) (H : Hp) : V → PyData → Prop
  | non : Dq b K H .non .none
  | bl (c : Bool) : Dq b K H (.bl c) (.bool c)
  | int (i : Int) : Dq b K H (.int i) (.int i)
  | str (x : Str) : Dq b K H (.str x) (.str x)
  | lst {a : Addr} {xs : List V} {ds : List PyData} : (b = true → a ≠ sysModules) → SqL K H a xs → DqAll b K H xs ds → Dq b K H (.ref a) (.list ds)
  | tup {a : Addr} {xs : List V} {ds : List PyData} : SqT K H a xs → DqAll b K H xs ds → Dq b K H (.ref a) (.tuple ds)
  | dK {a : Addr} {kvs : List (Key × V)} {ps : List (PyData × PyData)} : b = true → H a = some (.dK kvs) → DqAll b K H (kvs.map fun q => kV q.1) (ps.map (·.1)) → DqAll b K H (kvs.map (·.2)) (ps.map (·.2)) → Dq b K H (.ref a) (.dict ps)
inductive DqAll (b : Bool) (K : PySem.W.Frag) (H : Hp) : List V → List PyData → Prop
  | nil : DqAll b K H [] []
  | cons {v : V} {vs : List V} {d : PyData} {ds : List PyData} : Dq b K H v d → DqAll b K H vs ds → DqAll b K H (v :: vs) (d :: ds)
end
mutual
theorem dq_flat {K : PySem.W.Frag} {H : Hp} : ∀ (d : PyData) (v : V), Dq false K H v d → d.hasDict = false
  | .none, _, _ => by simp only [PyData.hasDict]
  | .bool _, _, _ => by simp only [PyData.hasDict]
  | .int _, _, _ => by simp only [PyData.hasDict]
  | .str _, _, _ => by simp only [PyData.hasDict]
  | .list ds, _, h => by
    cases h with
    | lst _ _ ha => simpa only [PyData.hasDict] using dq_flatAll ds _ ha
  | .tuple ds, _, h => by
    cases h with
    | tup _ ha => simpa only [PyData.hasDict] using dq_flatAll ds _ ha
  | .dict _, _, h => by
    cases h with
    | dK e _ _ _ => exact nomatch e
theorem dq_flatAll {K : PySem.W.Frag} {H : Hp} : ∀ (ds : List PyData) (vs : List V), DqAll false K H vs ds → PyData.hasDictAll ds = false
  | [], _, _ => by simp only [PyData.hasDictAll]
  | d :: ds, _, h => by
    cases h with
    | cons h1 h2 => simp only [PyData.hasDictAll, dq_flat d _ h1, dq_flatAll ds _ h2, Bool.or_false]
end
theorem kv_of : ∀ {P : Program} {w : World} {kvs : List (Key × V)} {vs : List (Key × Value)} {es : List DictEntry}, KV kvs vs → Pairs (mixKind P w) es vs → Vals (kvs.map fun q => kV q.1) (es.map (·.key)) ∧ Vals (kvs.map (·.2)) (es.map (·.val))
  | _, _, _, _, _, .nil, .nil => ⟨.nil, .nil⟩
  | P, w, (k, v) :: kvs, (k2, u) :: vs, e :: es, .cons r t, .cons h1 h2 h3 => by
    obtain ⟨a, b⟩ := kv_of (P := P) (w := w) t h3
    obtain ⟨rk, rv⟩ := r
    refine ⟨.cons ?_ a, .cons ?_ b⟩
    · have rk : k = k2 := rk
      subst rk
      rcases keyIs_shape (show keyIs k e.key = true from h1) with ⟨i, t, rfl, z⟩ | ⟨x, t, rfl, z⟩
      · exact ⟨t, z⟩
      · exact ⟨t, z⟩
    · show RelV v e.val
      rw [h2]
      exact rv
section
variable {X : Cx} {pins : List (Addr × Obj)} {σ : L2.St} {H : Hp} {s : Shared} {b : Bool}
mutual
theorem Dq.reads (I : Inv X pins σ H s) : ∀ {d : PyData} {v : V} {u : Value}, Dq b X.K H v d → RelV v u → ∃ as, Reads s.heap u d as ∧ (b = true → sysModules ∉ as)
  | _, _, _, .non, r => by
    cases r
    exact ⟨_, Reads.none, fun _ => by simp⟩
  | _, _, _, .bl b, r => by
    cases r
    exact ⟨_, Reads.bool b, fun _ => by simp⟩
  | _, _, _, .int i, r => by
    obtain ⟨t, rfl⟩ := r
    exact ⟨_, Reads.int i t, fun _ => by simp⟩
  | _, _, _, .str x, r => by
    obtain ⟨t, rfl⟩ := r
    exact ⟨_, Reads.str x t, fun _ => by simp⟩
  | _, _, _, .lst ne hs ha, r => by
    cases r
    obtain ⟨its, rv, ⟨o, n, ho, hc, _, hd⟩, _⟩ := I.list hs
    obtain ⟨as, hr, hn⟩ := Dq.readsAll I ha rv
    exact ⟨_, Reads.list ho hc hd hr, fun z m => by
      rcases List.mem_cons.mp m with m | m
      · exact ne z m.symm
      · exact hn z m⟩
  | _, _, _, .tup hs ha, r => by
    cases r
    obtain ⟨its, rv, ⟨o, ho, hc, n, hd⟩, _⟩ := I.tuple hs
    obtain ⟨as, hr, hn⟩ := Dq.readsAll I ha rv
    exact ⟨_, Reads.tuple ho hc hd hr, hn⟩
  | _, _, _, .dK (a := a) (kvs := kvs) (ps := ps) eb ha h1 h2, r => by
    cases r
    obtain ⟨_, hm, vs, kv, o, es, ep, ho, hx, hde, _, pr, _⟩ := I.hok a _ ha
    obtain ⟨r1, r2⟩ := kv_of kv pr
    obtain ⟨as, q1, n1⟩ := Dq.readsAll I h1 r1
    obtain ⟨bs, q2, n2⟩ := Dq.readsAll I h2 r2
    have rd : Reads s.heap (.ref a) (.dict ps) (a :: as ++ bs) := .dict ho hx.1 hde q1 q2
    exact ⟨_, rd, fun z m => by
      rcases List.mem_append.mp m with m | m
      · rcases List.mem_cons.mp m with m | m
        · rw [← m] at hm
          exact absurd hm (by decide)
        · exact n1 z m
      · exact n2 z m⟩
theorem Dq.readsAll (I : Inv X pins σ H s) : ∀ {ds : List PyData} {vs : List V} {us : List Value}, DqAll b X.K H vs ds → Vals vs us → ∃ as, ReadsAll s.heap us ds as ∧ (b = true → sysModules ∉ as)
  | _, _, _, .nil, r => by
    cases r
    exact ⟨_, ReadsAll.nil, fun _ => by simp⟩
  | _, _, _, .cons h1 h2, r => by
    cases r with
    | cons r1 r2 =>
      obtain ⟨as, q1, n1⟩ := Dq.reads I h1 r1
      obtain ⟨bs, q2, n2⟩ := Dq.readsAll I h2 r2
      exact ⟨_, ReadsAll.cons q1 q2, fun z m => by
        rcases List.mem_append.mp m with m | m
        · exact n1 z m
        · exact n2 z m⟩
end
end
/-- z is how repr tells v -/
def Shq (K : PySem.W.Frag) (H : Hp) (v : V) (z : Str) : Prop := ∃ b d, Dq b K H v d ∧ d.showable = true ∧ d.shown.length ≤ sizeLine ∧ d.depth ≤ 60 ∧ z = d.shown
section
variable {X : Cx} {j : Nat}
theorem call_repr_shq (ga : X.A.guards = some []) (hr : Room j X.A) : CallR X (.builtin "repr") (fun xs H Q => ∃ v z, xs = [v] ∧ Shq X.K H v z ∧ Q (.str z) H) := by
  intro pins s σ H xs us Q I r h
  obtain ⟨v, z, rfl, ⟨b, d, hd, h1, h2, h3, rfl⟩, q⟩ := h
  obtain ⟨u, rfl, rv⟩ := vals1 r
  have hu := hr.units
  have fin : ∀ {x : Str} {t : Nat}, x = d.shown → EP X pins σ Q (.str x s.toks) { s with toks := t } := fun {x t} e => ⟨.str _, H, I.tok _, ⟨_, rfl⟩, by rw [e]; exact q⟩
  have ref : ∀ {a : Addr}, v = .ref a → wpAny (model X.prog X.w) X.A (call (.builtin "repr") [u]) (EP X pins σ Q) X.xe s := fun {a} e => by
    subst e
    obtain rfl : u = Value.ref a := rv
    obtain ⟨as, rd, hn⟩ := Dq.reads I (u := .ref a) hd rfl
    refine repr_of_reads' rd h1 (fun hh => ?_) ga (by omega) (fun _ _ e => e) (fun h' u tk hk => ⟨.str _, H, I.kept hk, ⟨_, rfl⟩, q⟩) h2
    cases b with
    | true => exact hn rfl
    | false =>
      rw [dq_flat d _ hd] at hh
      exact nomatch hh
  cases hd with
  | non =>
    cases rv
    exact PySem.P.repr_of_none (fin (by simp only [PyData.shown]))
  | bl b =>
    cases rv
    exact PySem.P.repr_of_bool (fin (by simp only [PyData.shown]))
  | int i =>
    obtain ⟨t, rfl⟩ := rv
    exact PySem.P.repr_of_int (by simpa only [PyData.showable, decide_eq_true_eq] using h1) (fin (by simp only [PyData.shown]))
  | str x =>
    obtain ⟨t, rfl⟩ := rv
    exact PySem.P.repr_of_str (fin (by simp only [PyData.shown])) (by simpa only [PyData.shown] using h2)
  | lst _ _ _ => exact ref rfl
  | tup _ _ => exact ref rfl
  | dK _ _ _ _ => exact ref rfl
end
mutual
def smQ : PyData → Bool
  | .none | .bool _ => true
  | .int i => decide (i.natAbs < 10 ^ 38)
  | .str x => x.cps.toList.all fun c => decide (c < 16 ^ 8)
  | .list xs | .tuple xs => smQL xs
  | .dict ps => smQK ps
def smQL : List PyData → Bool
  | [] => true
  | x :: xs => smQ x && smQL xs
def smQK : List (PyData × PyData) → Bool
  | [] => true
  | (x, y) :: xs => smQ x && smQ y && smQK xs
end
mutual
theorem smQ_ok : ∀ d : PyData, smQ d = true → d.showable = true ∧ d.leavesShort 40 = true
  | .none, _ => ⟨rfl, rfl⟩
  | .bool _, _ => ⟨rfl, rfl⟩
  | .int i, h => by
    have h' : smallD (.int i) = true := by simpa only [smallD, smQ] using h
    exact small_ok _ h'
  | .str x, h => ⟨by simp only [PyData.showable], by simpa only [smQ, PyData.leavesShort] using h⟩
  | .list xs, h => by simpa only [PyData.showable, PyData.leavesShort] using smQ_okL xs (by simpa only [smQ] using h)
  | .tuple xs, h => by simpa only [PyData.showable, PyData.leavesShort] using smQ_okL xs (by simpa only [smQ] using h)
  | .dict ps, h => by simpa only [PyData.showable, PyData.leavesShort] using smQ_okK ps (by simpa only [smQ] using h)
theorem smQ_okL : ∀ xs : List PyData, smQL xs = true → PyData.showableAll xs = true ∧ PyData.leavesShortAll 40 xs = true
  | [], _ => ⟨rfl, rfl⟩
  | x :: xs, h => by
    have h' : smQ x = true ∧ smQL xs = true := by simpa only [smQL, Bool.and_eq_true] using h
    obtain ⟨a, b⟩ := smQ_ok x h'.1
    obtain ⟨c, d⟩ := smQ_okL xs h'.2
    exact ⟨by simp only [PyData.showableAll, a, c, Bool.and_true], by simp only [PyData.leavesShortAll, b, d, Bool.and_true]⟩
theorem smQ_okK : ∀ xs : List (PyData × PyData), smQK xs = true → PyData.showableKv xs = true ∧ PyData.leavesShortKv 40 xs = true
  | [], _ => ⟨rfl, rfl⟩
  | (x, y) :: xs, h => by
    have h' : (smQ x = true ∧ smQ y = true) ∧ smQK xs = true := by simpa only [smQK, Bool.and_eq_true] using h
    obtain ⟨a, b⟩ := smQ_ok x h'.1.1
    obtain ⟨a2, b2⟩ := smQ_ok y h'.1.2
    obtain ⟨c, d⟩ := smQ_okK xs h'.2
    exact ⟨by simp only [PyData.showableKv, a, a2, c, Bool.and_true], by simp only [PyData.leavesShortKv, b, b2, d, Bool.and_true]⟩
end
section
variable {b : Bool} {K : PySem.W.Frag} {H H' : Hp} {v : V} {a : Addr} {xs : List V}
theorem shq_of {d : PyData} (h : Dq b K H v d) (s : smQ d = true) (l : d.bulk ≤ 390000) (e : d.depth ≤ 60) : Shq K H v d.shown := by
  obtain ⟨h1, h2⟩ := smQ_ok d s
  have h3 := PyData.shown_le_bulk 40 (by decide) d h2
  exact ⟨b, d, h, h1, by rw [sizeLine_eq]; omega, e, rfl⟩
/-- a thing that may stand in a list whose text is asked: m its size -/
def ItQ (b : Bool) (K : PySem.W.Frag) (H : Hp) (m : Nat) (v : V) : Prop := ∃ d, Dq b K H v d ∧ smQ d = true ∧ d.bulk ≤ m ∧ d.depth ≤ 20
theorem ItQ.shq {m : Nat} (h : ItQ b K H m v) (l : m ≤ 390000) : ∃ z, Shq K H v z := let ⟨_, h1, h2, h3, h4⟩ := h; ⟨_, shq_of h1 h2 (by omega) (by omega)⟩
theorem itqs {m : Nat} : ∀ {xs : List V}, (∀ y ∈ xs, ItQ b K H m y) → ∃ ds, DqAll b K H xs ds ∧ smQL ds = true ∧ PyData.bulkAll ds ≤ (m + 1) * xs.length ∧ PyData.depthAll ds ≤ 20
  | [], _ => ⟨[], .nil, rfl, Nat.le_refl _, Nat.zero_le _⟩
  | y :: ys, h => by
    obtain ⟨d, h1, h2, h3, h4⟩ := h y List.mem_cons_self
    obtain ⟨ds, g1, g2, g3, g4⟩ := itqs fun z hz => h z (List.mem_cons_of_mem _ hz)
    refine ⟨d :: ds, .cons h1 g1, by simp only [smQL, h2, g2, Bool.and_true], ?_, ?_⟩
    · simp only [PyData.bulkAll, List.length_cons, Nat.mul_succ]
      omega
    · simp only [PyData.depthAll]
      omega
/-- two lists of the same things are told alike -/
theorem shq_lst2 {m : Nat} {c : Addr} (h : SqL K H a xs) (h2 : SqL K H c xs) (n1 : b = true → a ≠ sysModules) (n2 : b = true → c ≠ sysModules) (i : ∀ y ∈ xs, ItQ b K H m y) (l : (m + 1) * xs.length ≤ 390000) : ∃ z, Shq K H (.ref a) z ∧ Shq K H (.ref c) z := by
  obtain ⟨ds, g1, g2, g3, g4⟩ := itqs i
  exact ⟨_, shq_of (.lst n1 h g1) (by simpa only [smQ] using g2) (by simp only [PyData.bulk]; omega) (by simp only [PyData.depth]; omega),
    shq_of (.lst n2 h2 g1) (by simpa only [smQ] using g2) (by simp only [PyData.bulk]; omega) (by simp only [PyData.depth]; omega)⟩
theorem shq_tup2 {m : Nat} {c : Addr} (h : SqT K H a xs) (h2 : SqT K H c xs) (i : ∀ y ∈ xs, ItQ b K H m y) (l : (m + 1) * xs.length ≤ 390000) : ∃ z, Shq K H (.ref a) z ∧ Shq K H (.ref c) z := by
  obtain ⟨ds, g1, g2, g3, g4⟩ := itqs i
  exact ⟨_, shq_of (.tup h g1) (by simpa only [smQ] using g2) (by simp only [PyData.bulk]; omega) (by simp only [PyData.depth]; omega),
    shq_of (.tup h2 g1) (by simpa only [smQ] using g2) (by simp only [PyData.bulk]; omega) (by simp only [PyData.depth]; omega)⟩
/-- a list of things within a list -/
theorem itq_lst {m M : Nat} (h : SqL K H a xs) (n1 : b = true → a ≠ sysModules) (i : ∀ y ∈ xs, ∃ d, Dq b K H y d ∧ smQ d = true ∧ d.bulk ≤ m ∧ d.depth = 0) (l : (m + 1) * xs.length ≤ M) : ItQ b K H M (.ref a) := by
  have go : ∀ {xs : List V}, (∀ y ∈ xs, ∃ d, Dq b K H y d ∧ smQ d = true ∧ d.bulk ≤ m ∧ d.depth = 0) → ∃ ds, DqAll b K H xs ds ∧ smQL ds = true ∧ PyData.bulkAll ds ≤ (m + 1) * xs.length ∧ PyData.depthAll ds = 0 := by
    intro xs
    induction xs with
    | nil => exact fun _ => ⟨[], .nil, rfl, Nat.le_refl _, rfl⟩
    | cons y ys ih =>
      intro h
      obtain ⟨d, h1, h2, h3, h4⟩ := h y List.mem_cons_self
      obtain ⟨ds, g1, g2, g3, g4⟩ := ih fun z hz => h z (List.mem_cons_of_mem _ hz)
      refine ⟨d :: ds, .cons h1 g1, by simp only [smQL, h2, g2, Bool.and_true], ?_, ?_⟩
      · simp only [PyData.bulkAll, List.length_cons, Nat.mul_succ]
        omega
      · simp only [PyData.depthAll, h4, g4]
        rfl
  obtain ⟨ds, g1, g2, g3, g4⟩ := go i
  exact ⟨_, .lst n1 h g1, by simpa only [smQ] using g2, by simp only [PyData.bulk]; omega, by simp only [PyData.depth, g4]; omega⟩
theorem dqS (h : smS v = true) : Dq b K H v (datS v) ∧ smQ (datS v) = true ∧ (datS v).bulk ≤ 100 ∧ (datS v).depth = 0 := by
  obtain ⟨h1, h2, h3, h4⟩ := datS_ok (K := K) (H := H) h
  refine ⟨?_, ?_, h3, h4⟩
  · cases v with
    | non => exact .non
    | bl b => exact .bl b
    | int i => exact .int i
    | str z => exact .str z
    | _ => exact nomatch h
  · cases v with
    | non => exact rfl
    | bl b => exact rfl
    | int i => simpa only [smallD, smQ, datS] using h2
    | str z => simpa only [smallD, smQ, datS] using h2
    | _ => exact nomatch h
theorem itq_sc (h : smS v = true) : ItQ b K H 100 v := let ⟨h1, h2, h3, h4⟩ := dqS h; ⟨_, h1, h2, h3, by omega⟩
theorem itq_int {i : Int} (h : i.natAbs < 10 ^ 38) : ItQ b K H 0 (.int i) := ⟨.int i, .int i, by simpa only [smQ, decide_eq_true_eq] using h, Nat.le_refl _, by simp only [PyData.depth]; decide⟩
theorem ItQ.mono {m M : Nat} (h : ItQ b K H m v) (l : m ≤ M) : ItQ b K H M v := let ⟨d, h1, h2, h3, h4⟩ := h; ⟨d, h1, h2, by omega, h4⟩
theorem shq_sc (h : smS v = true) : Shq K H v (datS v).shown := let ⟨h1, h2, h3, h4⟩ := dqS (b := false) h; shq_of h1 h2 (by omega) (by omega)
end
/-! new lists and dicts stand where no dict of modules does -/
def NewLB (xs : List V) (H : Hp) (Q : VK) : Prop := xs.length ≤ sizeLine ∧ ∀ p, H p = none → p ≠ sysModules → Q (.ref p) (upd H p (.lst xs))
def tLstB (t : TA) : TE := fun σ H Q => t σ H fun xs H1 => NewLB xs H1 Q
section
variable {X : Cx} {es : List Expr} {t : TA} {pos : Pos}
theorem pe_lstB (h : PA X es t) : PE X (.List es pos) (tLstB t) := by
  refine ⟨fun pins s σ H Q I hq => ?_⟩
  refine wpAny_List_spliced (thn (h.run pos pins s σ H _ I hq) fun us s1 ⟨xs, H1, I1, r, z, q⟩ => ⟨by rw [← r.length]; exact z, ?_⟩)
  have hf : H1 s1.heap.objs.size = none := I1.hok.fresh (Nat.le_refl _)
  refine ⟨.ref s1.heap.objs.size, upd H1 s1.heap.objs.size (.lst xs), I1.laid (t' := s1.toks) (fun b u e => Heap.get?_push_of_some _ e) (Nat.le_refl _) ?_, rfl, q _ hf (Nat.ne_of_gt I1.big)⟩
  exact ⟨z, us, 0, r, Heap.get?_push_size _ rfl⟩
theorem r_lstB {σ : L2.St} {H : Hp} {Q : VK} (q : t σ H fun xs H1 => NewLB xs H1 Q) : tLstB t σ H Q := q
theorem newLB {xs : List V} {H : Hp} {Q : VK} (q : ∀ p H', H p = none → p ≠ sysModules → Same H H' → H' p = some (.lst xs) → Q (.ref p) H') (hl : xs.length ≤ 10000 := by exact Nat.le_of_ble_eq_true rfl) : NewLB xs H Q :=
  ⟨Nat.le_trans hl (by decide), fun p hp ns => q p _ hp ns (same_upd hp) upd_same⟩
end
end Bk

namespace Bk
open PySem PySem.Spec PyProof.Rows L2
/-! ## 26. isinstance of what an except suite holds -/
def rIsH (K : PySem.W.Frag) (a : Addr) (cls : Value) (d : Option Addr) (C : Addr) : List V → Hp → VK → Prop := fun xs H Q => ∃ (c : V) (u : Value) (b : Bool) (dd : Addr) (fs : List (Str × V)), xs = [.ref a, c] ∧ cls = .ref C ∧ d = some dd ∧ H dd = some (.xd fs) ∧ ClsV c u ∧ PySem.W.kitOne K (.ref C) u = some b ∧ Q (.bl b) H
def rIsH2 (K : PySem.W.Frag) (a : Addr) (cls : Value) (d : Option Addr) (C : Addr) : List V → Hp → VK → Prop := fun xs H Q => ∃ (tp : Addr) (cs : List V) (us : List Value) (b : Bool) (dd : Addr) (fs : List (Str × V)), xs = [.ref a, .ref tp] ∧ cls = .ref C ∧ d = some dd ∧ H dd = some (.xd fs) ∧ H tp = some (.tup cs) ∧ Paired ClsV cs us ∧ PySem.W.kitAny K (.ref C) us = some b ∧ Q (.bl b) H
section
variable {X : Cx} {a C : Addr} {oe : Obj} {cls : Value} {d : Option Addr} {pn : List (Addr × Obj)}
theorem held_inst {pins : List (Addr × Obj)} {σ : L2.St} {H : Hp} {s : Shared} {dd : Addr} {fs : List (Str × V)} (I : Inv (X.suite a ((a, oe) :: pn)) pins σ H s) (hz : Zc (.ref C) (some dd) oe) (hf : ∃ vs, oe.data = .fields vs) (ea : H dd = some (.xd fs)) :
    ∃ od, PySem.W.InstAt s.heap a oe C (some od) := by
  obtain ⟨ha, _⟩ := I.pin (a, oe) (List.mem_append_left _ List.mem_cons_self)
  obtain ⟨vs, hd⟩ := hf
  have hx : ObjOk X.prog X.w H s.heap dd (.xd fs) := I.hok dd _ ea
  obtain ⟨mA, hns, hr⟩ := hx
  obtain ⟨od, ho, hl⟩ := lookIn_ns hns
  exact ⟨od, ha, hz.1, by unfold PySem.W.notCls; rw [hd] <;> rfl, by rw [hz.2]; exact ho⟩
theorem call_isH (T : ExcC X.K C) (hz : Zc cls d oe) (hf : ∃ vs, oe.data = .fields vs) : CallR (X.suite a ((a, oe) :: pn)) (.builtin "isinstance") (rIsH X.K a cls d C) := by
  intro pins s σ H xs us Q I r h
  obtain ⟨c, u, b, dd, fs, rfl, ec, ed, ea, k, e, q⟩ := h
  subst ec
  subst ed
  obtain ⟨u1, u2, rfl, r1, r2⟩ := vals2 r
  have e2 := k.eq r2
  subst e2
  obtain rfl : u1 = Value.ref a := r1
  obtain ⟨od, J⟩ := held_inst I hz hf ea
  exact PySem.W.kia_one (PySem.W.bk_kitx (ox := oe) (od := some od) T.hg T.hk T.hs T.hd T.ha T.hn T.ht T.hm) I.kIn J e (fun z => nomatch z) fun tk => ⟨.bl b, H, I.tok tk, rfl, q⟩
theorem call_isH2 (T : ExcC X.K C) (hz : Zc cls d oe) (hf : ∃ vs, oe.data = .fields vs) : CallR (X.suite a ((a, oe) :: pn)) (.builtin "isinstance") (rIsH2 X.K a cls d C) := by
  intro pins s σ H xs us Q I r h
  obtain ⟨tp, cs, ws, b, dd, fs, rfl, ec, ed, ea, hT, k, e, q⟩ := h
  subst ec
  subst ed
  obtain ⟨u1, u2, rfl, r1, r2⟩ := vals2 r
  cases (show u2 = Value.ref tp from r2)
  obtain rfl : u1 = Value.ref a := r1
  obtain ⟨od, J⟩ := held_inst I hz hf ea
  obtain ⟨_, its, rv, o, h1, h2, n, h3⟩ := (show ObjOk X.prog X.w H s.heap tp (.tup cs) from I.hok tp _ hT)
  have e3 := ClsV.all k rv
  subst e3
  obtain ⟨oc, od2, dt, sl⟩ := o
  simp only at h2 h3
  subst h2 h3
  exact PySem.W.kia_tup (PySem.W.bk_kitx (ox := oe) (od := some od) T.hg T.hk T.hs T.hd T.ha T.hn T.ht T.hm) I.kIn J h1 e (fun z => nomatch z) fun tk => ⟨.bl b, H, I.tok tk, rfl, q⟩
end
section
variable {K : PySem.W.Frag} {a C : Addr} {cls : Value} {d : Option Addr} {H : Hp} {Q : VK}
theorem r_isH {dd : Addr} {fs : List (Str × V)} {D : Addr} {b : Bool} (ec : cls = .ref C) (ed : d = some dd) (ea : H dd = some (.xd fs)) (e : PySem.W.kitOne K (.ref C) (.ref D) = some b) (q : Q (.bl b) H) : rIsH K a cls d C [.ref a, .ref D] H Q :=
  ⟨_, _, b, dd, fs, rfl, ec, ed, ea, .own D, e, q⟩
theorem r_isHB {dd : Addr} {fs : List (Str × V)} {T : String} {b : Bool} (ec : cls = .ref C) (ed : d = some dd) (ea : H dd = some (.xd fs)) (e : PySem.W.kitOne K (.ref C) (.type T) = some b) (q : Q (.bl b) H) : rIsH K a cls d C [.ref a, .ty T] H Q :=
  ⟨_, _, b, dd, fs, rfl, ec, ed, ea, .ty T, e, q⟩
theorem r_isH2 {dd tp : Addr} {fs : List (Str × V)} {D1 D2 : Addr} {b c : Bool} (ec : cls = .ref C) (ed : d = some dd) (ea : H dd = some (.xd fs)) (et : H tp = some (.tup [.ref D1, .ref D2])) (e : PySem.W.kitOne K (.ref C) (.ref D1) = some b) (e2 : PySem.W.kitOne K (.ref C) (.ref D2) = some c) (q : Q (.bl (b || c)) H) : rIsH2 K a cls d C [.ref a, .ref tp] H Q := by
  refine ⟨tp, _, [.ref D1, .ref D2], _, dd, fs, rfl, ec, ed, ea, et, .cons (.own D1) (.cons (.own D2) .nil), ?_, q⟩
  cases b with
  | true => exact kitAny_cons e (fun z => nomatch z) (fun _ => rfl)
  | false => exact kitAny_cons e (fun _ => by cases c with
      | true => exact kitAny_cons e2 (fun z => nomatch z) (fun _ => rfl)
      | false => exact kitAny_cons e2 (fun _ => kitAny_nil) (fun z => nomatch z)) (fun z => nomatch z)
theorem kit_own {D : Addr} {b : Bool} (self : PySem.W.subIn K (.ref C) (.ref C) = some true) (hdct : PySem.W.hasDictIn K D = true) (ht : PySem.W.typeIn K (.ref D) = some (.type "type")) (h : PySem.W.subIn K (.ref C) (.ref D) = some b) : PySem.W.kitOne K (.ref C) (.ref D) = some b := by
  obtain ⟨cd, hc, _⟩ := PySem.W.any_some hdct
  unfold PySem.W.kitOne
  by_cases e : C = D
  · subst e
    rw [self] at h
    obtain rfl := Option.some.inj h
    rw [if_pos (beq_self_eq_true _)]
  · rw [if_neg (fun z => e (by injection (beq_iff_eq.mp z)))]
    show (if ((PySem.W.clsIn K D).isSome && PySem.W.typeIn K (.ref D) == some (.type "type")) = true then PySem.W.subIn K (.ref C) (.ref D) else none) = some b
    rw [if_pos (by rw [hc, ht]; rfl)]
    exact h
end
theorem call_list_ofK {X : Cx} {K : PySem.W.Frag} (h : X.K = K) : CallR X (.type "list") (fun xs H Q => ∃ p ys, xs = [.ref p] ∧ (SqL K H p ys ∨ SqT K H p ys) ∧ ∀ l, H l = none → Q (.ref l) (upd H l (.lst ys))) := by
  subst h
  exact call_list_of
theorem call_len_seqK {X : Cx} {K : PySem.W.Frag} (h : X.K = K) : CallR X (.builtin "len") (fun xs H Q => ∃ p ys, xs = [.ref p] ∧ (SqL K H p ys ∨ SqT K H p ys) ∧ Q (.int ys.length) H) := by
  subst h
  exact call_len_seq
/-- all that is asked of an own exception class -/
structure ExcA (K : PySem.W.Frag) (b : Bs) (nm : Str) (C f : Addr) : Prop where
  ox : OexT K b C
  i : PySem.W.findIn K (.ref C) "__init__" = some (some (.ref f))
  t : PySem.W.typeIn K (.ref f) = some (.type "function")
  nf : PySem.W.findIn K (.ref C) nm = some none
  xf : XfC K C
  xc : ExcC K C
/-! ## 26a. comprehensions that lay new things -/
section
variable {K : PySem.W.Frag} {σ : L2.St} {H : Hp} {Q : VK} {j : Nat} {vs : List Nat} {te tl : TE} {a : Addr} {xs : List V}
theorem lcNewR (n : Nat) (c : Nat → HO) (hl : n ≤ 1000) (hw : ∀ x, wipe ((wipe σ vs).set j (some x)) vs = wipe σ vs)
    (ht : ∀ (i : Nat) (H1 : Hp) (Q' : VK), i < n → Same H H1 → (∀ t H3, H1 t = none → Same H1 H3 → H3 t = some (c i) → Q' (.ref t) H3) → te ((wipe σ vs).set j (some (.int (0 + (i : Int))))) H1 Q')
    (q : ∀ D H' (ts : List Addr), H D = none → Same H H' → H' D = some (.lst (ts.map V.ref)) → ts.length = n → (∀ k t, ts[k]? = some t → H' t = some (c k)) → (D :: ts).Nodup → (∀ t ∈ ts, H t = none) → Q (.ref D) H') :
    tLc (iRng1 (tCons (tC (.int n)) tNil)) (gName j) tYes te vs σ H Q := by
  refine ⟨_, rfl, by omega, by omega, fun D hD => ?_⟩
  rw [Int.toNat_natCast]
  refine lc_new (g := gName j) (te := te) (vs := vs) (σ := σ) (Q := Q) walk_range c hD (by omega) (fun _ _ => trivial) (fun i x H1 H2 Q' R' hi sm y k => ?_) fun H' ts s e l all nd fr => q D H' ts hD s e l all nd fr
  obtain ⟨rfl, rfl⟩ := y
  refine ⟨hw _, r_yes ?_⟩
  exact ht i H2 Q' hi sm k
theorem lcNewL (c : Nat → HO) (hv : ∀ QQ : VK, QQ (.ref a) H → tl σ H QQ) (hs : SqL K H a xs) (hl : xs.length ≤ 10000) (hw : ∀ x, wipe ((wipe σ vs).set j (some x)) vs = wipe σ vs)
    (ht : ∀ (i : Nat) (y : V) (H1 : Hp) (Q' : VK), xs[i]? = some y → Same H H1 → (∀ t H3, H1 t = none → Same H1 H3 → H3 t = some (c i) → Q' (.ref t) H3) → te ((wipe σ vs).set j (some y)) H1 Q')
    (q : ∀ D H' (ts : List Addr), H D = none → Same H H' → H' D = some (.lst (ts.map V.ref)) → ts.length = xs.length → (∀ k t, ts[k]? = some t → H' t = some (c k)) → (D :: ts).Nodup → (∀ t ∈ ts, H t = none) → Q (.ref D) H') :
    tLc (iList K tl) (gName j) tYes te vs σ H Q := by
  refine hv _ ⟨a, rfl, ⟨xs, hs⟩, fun D hD => ?_⟩
  refine lc_new (g := gName j) (te := te) (vs := vs) (σ := σ) (Q := Q) walk_list c hD hl (fun _ s => s.seq hs) (fun i x H1 H2 Q' R' hi sm y k => ?_) fun H' ts s e l all nd fr => q D H' ts hD s e l all nd fr
  obtain ⟨rfl, hx⟩ := y
  exact ⟨hw _, r_yes (ht i x H2 Q' hx sm k)⟩
end
/-! ## 27. a count -/
def countV (x : V) : Bool := match x with
  | .int i => decide (0 ≤ i)
  | _ => false
/-- a thing of which isinstance(.., int) is known -/
def WC (K : PySem.W.Frag) (H : Hp) (x : V) : Prop := (∃ i, x = .int i) ∨ (∃ b, x = .bl b) ∨ (IsA K H x "int" false ∧ (∀ l h, wholeV x l h = false) ∧ countV x = false)
theorem WC.wd {K : PySem.W.Frag} {H : Hp} {x : V} (h : WC K H x) : WD K H x := by
  rcases h with h | h | ⟨h1, h2, _⟩
  · exact .inl h
  · exact .inr (.inl h)
  · exact .inr (.inr ⟨h1, h2⟩)
def spCount (K : PySem.W.Frag) : Sp := fun vs H Q _ => ∃ x : V, vs = [x] ∧ WC K H x ∧ Q (.bl (countV x)) H
def spCheckN (K : PySem.W.Frag) (C : Addr) : Sp := fun vs H Q E => ∃ (x : V) (lo hi : Int), vs = [x, .int lo, .int hi] ∧ WD K H x ∧ ((wholeV x lo hi = true ∧ Q .non H) ∨ (wholeV x lo hi = false ∧ Refuse C x H E))
def spCheckC (K : PySem.W.Frag) (C : Addr) : Sp := fun vs H Q E => ∃ x : V, vs = [x] ∧ WC K H x ∧ ((countV x = true ∧ Q .non H) ∨ (countV x = false ∧ Refuse C x H E))
theorem whole_int {i lo hi : Int} (h0 : lo ≤ i) (h1 : i ≤ hi) : wholeV (.int i) lo hi = true := by
  show (decide (lo ≤ i) && decide (i ≤ hi)) = true
  rw [decide_eq_true h0, decide_eq_true h1]
  rfl
theorem count_int {i : Int} (h0 : 0 ≤ i) : countV (.int i) = true := decide_eq_true h0
end Bk

namespace Bk
open PySem PySem.Spec PyProof.Rows L2
/-! ## 28. return [tag, e.f, isinstance(e, G) and not isinstance(e, (B1, B2))] -/
def tHit (K : PySem.W.Frag) (i : Nat) (C G B1 B2 : Addr) (tag nm : Str) (a : Addr) (cls : Value) (d : Option Addr) : TS :=
  tRet (tLstB (tCons (tC (.str tag)) (tCons (tXf a cls d C nm (tVar i)) (tCons (tAndV (tCB (rIsH K a cls d C) (tCons (tVar i) (tCons (tC (.ref G)) tNil)))
    (tNotV (tCB (rIsH2 K a cls d C) (tCons (tVar i) (tCons (tTup (tCons (tC (.ref B1)) (tCons (tC (.ref B2)) tNil))) tNil))))) tNil))))
theorem caught_lst {K : PySem.W.Frag} {C d G B1 B2 : Addr} {i : Nat} {σ : L2.St} {H' : Hp} {D : Ends} {l : List ClA} {v : V} {tag nm : Str} (e : PySem.W.exmOne K (.ref C) (.ref C) = some true) (hi : i < σ.length) (ed : H' d = some (.xd [(nm, v)]))
    (kG : PySem.W.kitOne K (.ref C) (.ref G) = some true) (k1 : PySem.W.kitOne K (.ref C) (.ref B1) = some false) (k2 : PySem.W.kitOne K (.ref C) (.ref B2) = some false)
    (q : ∀ p H2, H' p = none → p ≠ sysModules → Same H' H2 → H2 p = some (.lst [.str tag, v, .bl true]) → D.rt (.ref p) H2) :
    wAM K D ((.ref C, i, fun a cls d => tHit K i C G B1 B2 tag nm a cls d) :: l) (.ref C) (some d) σ H' := by
  refine w_hit e fun a na => ?_
  show tHit K i C G B1 B2 tag nm a (.ref C) (some d) (offI i D) (σ.set i (some (.ref a))) H'
  have hv : (σ.set i (some (V.ref a)))[i]? = some (some (.ref a)) := List.getElem?_set_self hi
  refine r_ret (r_lstB (r_cons (r_c (r_cons ?_))))
  refine ⟨.ref a, hv, rfl, rfl, d, _, v, rfl, ed, by rw [List.lookup_cons, beq_self_eq_true], ?_⟩
  refine r_cons (r_andV (r_cb (r_cons (r_var hv (r_cons (r_c (r_nil (r_isH rfl rfl ed kG ⟨true, rfl, iteT ?_⟩))))))))
  refine r_notV (r_cb (r_cons (r_var hv (r_cons (r_tup (r_cons (r_c (r_cons (r_c (r_nil (newT fun tp H2 nt st et => ?_)))))))))))
  refine r_nil (r_isH2 rfl rfl (st _ _ ed) et k1 k2 ⟨_, rfl, r_nil (newLB fun p H3 np ns s3 e3 => q p H3 (st.free np) ns (st.trans s3) e3)⟩)
theorem r_disp1 {σ : L2.St} {H : Hp} {Q : VK} {k : Key} {v : V} (q : ∀ p H', H p = none → Same H H' → H' p = some (.dK [(k, v)]) → Q (.ref p) H') : tDisp [(tC (kV k), tC v)] σ H Q := by
  intro p np
  refine ⟨upd_same, [(k, v)], rfl, (by show 1 ≤ 15; decide), ?_⟩
  refine q p _ np (fun b o e => ?_) upd_same
  rw [upd_ne (ne_of_none e np), upd_ne (ne_of_none e np)]
  exact e
/-! ## 29. things of a known depth -/
section
variable {b : Bool} {K : PySem.W.Frag} {H H' : Hp} {v : V} {a : Addr} {xs : List V}
def ItD (b : Bool) (K : PySem.W.Frag) (H : Hp) (m k : Nat) (v : V) : Prop := ∃ d, Dq b K H v d ∧ smQ d = true ∧ d.bulk ≤ m ∧ d.depth ≤ k
theorem ItD.q {m k : Nat} (h : ItD b K H m k v) (l : k ≤ 20) : ItQ b K H m v := let ⟨d, h1, h2, h3, h4⟩ := h; ⟨d, h1, h2, h3, by omega⟩
theorem ItD.mono {m k M L : Nat} (h : ItD b K H m k v) (l : m ≤ M) (l2 : k ≤ L) : ItD b K H M L v := let ⟨d, h1, h2, h3, h4⟩ := h; ⟨d, h1, h2, by omega, by omega⟩
theorem itds {m k : Nat} : ∀ {xs : List V}, (∀ y ∈ xs, ItD b K H m k y) → ∃ ds, DqAll b K H xs ds ∧ smQL ds = true ∧ PyData.bulkAll ds ≤ (m + 1) * xs.length ∧ PyData.depthAll ds ≤ k
  | [], _ => ⟨[], .nil, rfl, Nat.le_refl _, Nat.zero_le _⟩
  | y :: ys, h => by
    obtain ⟨d, h1, h2, h3, h4⟩ := h y List.mem_cons_self
    obtain ⟨ds, g1, g2, g3, g4⟩ := itds fun z hz => h z (List.mem_cons_of_mem _ hz)
    refine ⟨d :: ds, .cons h1 g1, by simp only [smQL, h2, g2, Bool.and_true], ?_, ?_⟩
    · simp only [PyData.bulkAll, List.length_cons, Nat.mul_succ]
      omega
    · simp only [PyData.depthAll]
      omega
theorem itd_lst {m k M : Nat} (h : SqL K H a xs) (n1 : b = true → a ≠ sysModules) (i : ∀ y ∈ xs, ItD b K H m k y) (l : (m + 1) * xs.length ≤ M) : ItD b K H M (k + 1) (.ref a) := by
  obtain ⟨ds, g1, g2, g3, g4⟩ := itds i
  exact ⟨_, .lst n1 h g1, by simpa only [smQ] using g2, by simp only [PyData.bulk]; omega, by simp only [PyData.depth]; omega⟩
theorem itd_tup {m k M : Nat} (h : SqT K H a xs) (i : ∀ y ∈ xs, ItD b K H m k y) (l : (m + 1) * xs.length ≤ M) : ItD b K H M (k + 1) (.ref a) := by
  obtain ⟨ds, g1, g2, g3, g4⟩ := itds i
  exact ⟨_, .tup h g1, by simpa only [smQ] using g2, by simp only [PyData.bulk]; omega, by simp only [PyData.depth]; omega⟩
theorem itd_sc (h : smS v = true) : ItD b K H 100 0 v := let ⟨h1, h2, h3, h4⟩ := dqS h; ⟨_, h1, h2, h3, by omega⟩
/-- a dict of scalars, by keys that are scalars -/
theorem itd_dK {kvs : List (Key × V)} (e : H a = some (.dK kvs)) (h : ∀ q ∈ kvs, smS (kV q.1) = true ∧ smS q.2 = true) (l : kvs.length ≤ 5) : ItD true K H 2000 1 (.ref a) := by
  have go : ∀ {l : List (Key × V)}, (∀ q ∈ l, smS (kV q.1) = true ∧ smS q.2 = true) → ∃ ps : List (PyData × PyData), DqAll true K H (l.map fun q => kV q.1) (ps.map (·.1)) ∧ DqAll true K H (l.map (·.2)) (ps.map (·.2)) ∧ smQK ps = true ∧ PyData.bulkKv ps ≤ 202 * l.length ∧ PyData.depthKv ps = 0 := by
    intro l
    induction l with
    | nil => exact fun _ => ⟨[], .nil, .nil, rfl, Nat.le_refl _, rfl⟩
    | cons q r ih =>
      intro h
      obtain ⟨h1, h2⟩ := h q List.mem_cons_self
      obtain ⟨a1, a2, a3, a4⟩ := dqS (b := true) (K := K) (H := H) h1
      obtain ⟨b1, b2, b3, b4⟩ := dqS (b := true) (K := K) (H := H) h2
      obtain ⟨ps, g1, g2, g3, g4, g5⟩ := ih fun z hz => h z (List.mem_cons_of_mem _ hz)
      refine ⟨(datS (kV q.1), datS q.2) :: ps, .cons a1 g1, .cons b1 g2, by simp only [smQK, a2, b2, g3, Bool.and_true], ?_, ?_⟩
      · simp only [PyData.bulkKv, List.length_cons]
        omega
      · simp only [PyData.depthKv, a4, b4, g5]
        rfl
  obtain ⟨ps, g1, g2, g3, g4, g5⟩ := go h
  exact ⟨.dict ps, .dK rfl e g1 g2, by simpa only [smQ] using g3, by simp only [PyData.bulk]; omega, by simp only [PyData.depth, g5]; omega⟩
end
section
variable {b : Bool} {K : PySem.W.Frag} {H H' : Hp} {v : V} {a : Addr} {xs : List V}
theorem dqSs : ∀ {xs : List V}, xs.all smS = true → DqAll b K H xs (xs.map datS) ∧ smQL (xs.map datS) = true ∧ PyData.bulkAll (xs.map datS) ≤ 101 * xs.length ∧ PyData.depthAll (xs.map datS) = 0
  | [], _ => ⟨.nil, rfl, Nat.le_refl _, rfl⟩
  | y :: ys, h => by
    rw [List.all_cons, Bool.and_eq_true] at h
    obtain ⟨h1, h2, h3, h4⟩ := dqS (b := b) (K := K) (H := H) h.1
    obtain ⟨g1, g2, g3, g4⟩ := dqSs h.2
    rw [List.map_cons]
    refine ⟨.cons h1 g1, by simp only [smQL, h2, g2, Bool.and_true], ?_, ?_⟩
    · simp only [PyData.bulkAll, List.length_cons]
      omega
    · simp only [PyData.depthAll, h4, g4]
      rfl
/-- a list of scalars: its text hangs on them alone -/
theorem shq_lsc (h : SqL K H a xs) (i : xs.all smS = true) (l : xs.length ≤ 3000) : Shq K H (.ref a) (PyData.list (xs.map datS)).shown := by
  obtain ⟨g1, g2, g3, g4⟩ := dqSs (b := false) (K := K) (H := H) i
  exact shq_of (b := false) (.lst (fun z => Bool.noConfusion z) h g1) (by simpa only [smQ] using g2) (by simp only [PyData.bulk]; omega) (by simp only [PyData.depth]; omega)
theorem shq_tsc (h : SqT K H a xs) (i : xs.all smS = true) (l : xs.length ≤ 3000) : Shq K H (.ref a) (PyData.tuple (xs.map datS)).shown := by
  obtain ⟨g1, g2, g3, g4⟩ := dqSs (b := false) (K := K) (H := H) i
  exact shq_of (b := false) (.tup h g1) (by simpa only [smQ] using g2) (by simp only [PyData.bulk]; omega) (by simp only [PyData.depth]; omega)
end
/-! ## 30. odd things -/
/-- a thing that is no number of any use; fp: its lists; m: how many things a list of it has at most -/
inductive OddV (H : Hp) (m : Nat) : List Addr → V → Prop
  | sc {v : V} (h : smS v = true) (hw : ∀ lo hi, 0 ≤ lo → wholeV v lo hi = false) (hc : countV v = false) : OddV H m [] v
  | tup {a : Addr} {xs : List V} (e : H a = some (.tup xs)) (h : ∀ y ∈ xs, smS y = true) (l : xs.length ≤ 5) : OddV H m [] (.ref a)
  | dK {a : Addr} {kvs : List (Key × V)} (e : H a = some (.dK kvs)) (h : ∀ q ∈ kvs, smS (kV q.1) = true ∧ smS q.2 = true) (l : kvs.length ≤ 5) : OddV H m [] (.ref a)
  | lst {a : Addr} {xs : List V} {fp : List Addr} (e : H a = some (.lst xs)) (ns : a ≠ sysModules) (l : xs.length ≤ m) (h : ∀ y ∈ xs, smS y = true ∨ ∃ c ∈ fp, y = .ref c) (na : a ∉ fp) (hf : ∀ c ∈ fp, c ≠ sysModules ∧ ∃ ys, H c = some (.lst ys) ∧ (∀ y ∈ ys, smS y = true) ∧ ys.length ≤ 5) : OddV H m (a :: fp) (.ref a)
section
variable {K : PySem.W.Frag} {H H' : Hp} {m n : Nat} {fp : List Addr} {v : V} {bx : Addr}
/-- what may change -/
theorem OddV.keep (o : OddV H m fp v) (k : ∀ b ∈ fp, H' b = H b) (t : ∀ b xs, H b = some (.tup xs) → H' b = some (.tup xs)) (d : ∀ b kvs, H b = some (.dK kvs) → H' b = some (.dK kvs)) (l : m ≤ n) : OddV H' n fp v := by
  cases o with
  | sc h hw hc => exact .sc h hw hc
  | tup e h l => exact .tup (t _ _ e) h l
  | dK e h l => exact .dK (d _ _ e) h l
  | lst e ns l1 h na hf =>
    exact .lst (by rw [k _ List.mem_cons_self]; exact e) ns (by omega) h na fun c hc => by
      obtain ⟨h1, ys, h2, h3⟩ := hf c hc
      exact ⟨h1, ys, by rw [k _ (List.mem_cons_of_mem _ hc)]; exact h2, h3⟩
/-- the lists among them stand -/
theorem OddV.there (o : OddV H m fp v) : ∀ b ∈ fp, ∃ xs, H b = some (.lst xs) := by
  cases o with
  | sc h hw hc => exact fun b z => nomatch z
  | tup e h l => exact fun b z => nomatch z
  | dK e h l => exact fun b z => nomatch z
  | lst e ns l1 h na hf =>
    intro b hb
    rcases List.mem_cons.mp hb with z | z
    · exact ⟨_, by rw [z]; exact e⟩
    · obtain ⟨_, ys, h2, _⟩ := hf b z
      exact ⟨ys, h2⟩
theorem OddV.same (o : OddV H m fp v) (s : Same H H') : OddV H' m fp v := o.keep (fun b hb => by
    obtain ⟨xs, e⟩ := o.there b hb
    rw [e]; exact s _ _ e) (fun b xs e => s _ _ e) (fun b kvs e => s _ _ e) (Nat.le_refl _)
/-- what stands at bx, a list that is none of these, may change -/
theorem OddV.but {xs : List V} (o : OddV H m fp v) (eb : H bx = some (.lst xs)) (n : bx ∉ fp) (s : But bx H H') : OddV H' m fp v := o.keep (fun b hb => by
    obtain ⟨xs, e⟩ := o.there b hb
    rw [e]; exact s _ _ (fun z => n (z ▸ hb)) e) (fun b xs e => s _ _ (fun z => by rw [z, eb] at e; exact nomatch e) e) (fun b kvs e => s _ _ (fun z => by rw [z, eb] at e; exact nomatch e) e) (Nat.le_refl _)
theorem OddV.wc (o : OddV H m fp v) : WC K H v ∧ countV v = false ∧ ∀ lo hi, 0 ≤ lo → wholeV v lo hi = false := by
  cases o with
  | @sc v h hw hc =>
    refine ⟨?_, hc, hw⟩
    cases v with
    | int i => exact .inl ⟨i, rfl⟩
    | bl b => exact .inr (.inl ⟨b, rfl⟩)
    | non => exact .inr (.inr ⟨isa_non, fun _ _ => rfl, rfl⟩)
    | str z => exact .inr (.inr ⟨isa_str, fun _ _ => rfl, rfl⟩)
    | _ => exact nomatch h
  | tup e h l => exact ⟨.inr (.inr ⟨isa_tup e, fun _ _ => rfl, rfl⟩), rfl, fun _ _ _ => rfl⟩
  | dK e h l => exact ⟨.inr (.inr ⟨isa_dK e, fun _ _ => rfl, rfl⟩), rfl, fun _ _ _ => rfl⟩
  | lst e ns l1 h na hf => exact ⟨.inr (.inr ⟨isa_lst e, fun _ _ => rfl, rfl⟩), rfl, fun _ _ _ => rfl⟩
theorem OddV.it (o : OddV H m fp v) : ItQ true K H (2000 + 700 * m) v := by
  cases o with
  | sc h hw hc => exact ((itd_sc h).q (by decide)).mono (by omega)
  | tup e h l => exact ((itd_tup (m := 100) (k := 0) (M := 2000) (sqT e) (fun y hy => itd_sc (h y hy)) (by omega)).q (by decide)).mono (by omega)
  | dK e h l => exact ((itd_dK e h l).q (by decide)).mono (by omega)
  | lst e ns l1 h na hf =>
    refine ((itd_lst (m := 600) (k := 1) (M := 2000 + 700 * m) (sqL e) (fun _ => ns) (fun y hy => ?_) (by
      have := Nat.mul_le_mul_left 601 l1
      omega)).q (by decide)).mono (by omega)
    rcases h y hy with z | ⟨c, hc, rfl⟩
    · exact (itd_sc z).mono (by omega) (by omega)
    · obtain ⟨n1, ys, h2, h3, h4⟩ := hf c hc
      exact (itd_lst (m := 100) (k := 0) (M := 600) (sqL h2) (fun _ => n1) (fun y hy => itd_sc (h3 y hy)) (by omega)).mono (by omega) (by omega)
/-- a list among them grows by a scalar -/
theorem OddV.grow {a : Addr} {xs : List V} {y : V} (o : OddV H m fp v) (ea : H a = some (.lst xs)) (hy : smS y = true) (h : v = .ref a ∨ a ∉ fp) : OddV (upd H a (.lst (xs ++ [y]))) (m + 1) fp v := by
  rcases h with rfl | h
  · cases o with
    | sc h hw hc => exact nomatch h
    | tup e h l => rw [ea] at e; exact nomatch e
    | dK e h l => rw [ea] at e; exact nomatch e
    | @lst _ xs2 fp2 e ns l1 h na hf =>
      rw [ea] at e
      obtain rfl : xs = xs2 := by injection (Option.some.inj e)
      refine .lst upd_same ns (by rw [List.length_append]; exact Nat.succ_le_succ l1) (fun z hz => ?_) na fun c hc => ?_
      · rcases List.mem_append.mp hz with z1 | z1
        · exact h z z1
        · rw [List.mem_singleton.mp z1]; exact .inl hy
      · obtain ⟨n1, ys, h2, h3⟩ := hf c hc
        exact ⟨n1, ys, by rw [upd_ne (fun q => na (by rw [← q]; exact hc))]; exact h2, h3⟩
  · refine o.keep (fun b hb => upd_ne fun z => h (z ▸ hb)) (fun b ys e => ?_) (fun b kvs e => ?_) (Nat.le_succ _)
    · rw [upd_ne (fun z => by rw [z, ea] at e; exact nomatch e)]; exact e
    · rw [upd_ne (fun z => by rw [z, ea] at e; exact nomatch e)]; exact e
/-- isinstance(v, list) -/
theorem OddV.isl (o : OddV H m fp v) : (IsA K H v "list" false ∧ fp = []) ∨ ∃ a xs, v = .ref a ∧ H a = some (.lst xs) ∧ a ∈ fp ∧ xs.length ≤ m := by
  cases o with
  | @sc v h hw hc =>
    refine .inl ⟨?_, rfl⟩
    cases v with
    | int i => exact isa_int
    | bl b => exact isa_bl
    | non => exact isa_non
    | str z => exact isa_str
    | _ => exact nomatch h
  | tup e h l => exact .inl ⟨isa_tup e, rfl⟩
  | dK e h l => exact .inl ⟨isa_dK e, rfl⟩
  | lst e ns l1 h na hf => exact .inr ⟨_, _, rfl, e, List.mem_cons_self, l1⟩
end
end Bk

open PySem PySem.Spec PyProof.Rows L2 Bk
local macro_rules | `(tactic| walk_at "go1") => `(tactic| with_reducible first
  | refine r_seq ?_ | refine r_asg ?_ | refine r_name ?_ | refine r_if ?_ | refine r_ret ?_ | refine r_next ?_ | refine r_drop ?_
  | refine r_op ?_ | refine r_un ?_ | refine r_c ?_ | refine r_I0 ?_ | refine r_lstB ?_ | refine r_mth ?_ | refine r_mthK ?_ | refine r_mkS ?_ | refine r_fld ?_ | refine r_par ?_ | refine r_U ?_ | refine r_nil ?_ | refine r_cons ?_ | refine r_call ?_ | refine r_callN ?_ | refine r_for ?_ | refine r_iList ?_ | refine r_iTup ?_ | refine r_iRng1 ?_ | refine r_iRng2 ?_ | refine r_mkV ?_ | refine r_dnewK ?_ | refine r_cb ?_
  | refine r_test ?_ | refine r_tB ?_ | refine r_isb ?_ | refine r_isv ?_ | refine r_not ?_ | refine r_and ?_ | refine r_or ?_ | refine r_andV ?_ | refine r_orV ?_ | refine r_notV ?_ | refine r_chain ?_ | refine r_ifE ?_
  | refine r_lst ?_ | refine r_tup ?_ | refine r_gSub ?_ | refine r_bm ?_
  | (apply r_var; focus (with_unfolding_all rfl))
  | refine iteT ?_ | refine iteF ?_ | refine iteNF ?_ | refine iteNT ?_ | refine r_m1 ?_ | refine r_sl ?_ | refine r_noPart ?_ | refine r_part ?_ | refine r_isi ?_
  | (refine r_eq ?_ ?_; focus (with_unfolding_all (first | rfl | decide))) | (refine r_ne ?_ ?_; focus (with_unfolding_all (first | rfl | decide))))
local macro_rules | `(tactic| walk_at "go") => `(tactic| repeat (walk_at "go1"))
namespace K24
open PySem PySem.Spec PyProof.Rows L2 Bk


def topS (i : Nat) : Stmt := PySem.Challenge.pw_guestsalone_k24_words_posted_for_ports.main.body.getD i (.Pass ⟨0, 0, 0, 0⟩)
abbrev s_GuestError_init : Stmt := inClass (topS 1) 0
abbrev s_Missing_init : Stmt := inClass (topS 2) 0
abbrev s_Barred_init : Stmt := inClass (topS 3) 0
abbrev s_NoNumber_init : Stmt := inClass (topS 4) 0
abbrev s_NoWord_init : Stmt := inClass (topS 5) 0
abbrev s_Full_init : Stmt := inClass (topS 6) 0
abbrev s_is_count : Stmt := topS 9
abbrev s_is_whole : Stmt := topS 10
abbrev s_is_word : Stmt := topS 11
abbrev s_check_number : Stmt := topS 13
abbrev s_check_word : Stmt := topS 14
abbrev s_Switch_init : Stmt := inClass (topS 18) 0
abbrev s_Switch_post : Stmt := inClass (topS 18) 1
abbrev s_Switch_posted : Stmt := inClass (topS 18) 2
abbrev s_Switch_how_many : Stmt := inClass (topS 18) 3
abbrev s_Switch_letter : Stmt := inClass (topS 18) 4
abbrev s_Switch_twin : Stmt := inClass (topS 18) 5
abbrev s_Switch_words : Stmt := inClass (topS 18) 6
abbrev s_check_count : Stmt := topS 19
abbrev s_cell_L : Stmt := topS 21
abbrev s_box_L : Stmt := topS 22
abbrev s_take_L : Stmt := topS 23
abbrev s_caught_L : Stmt := topS 24
abbrev s_odd_L : Stmt := topS 25
abbrev s_posted_L : Stmt := topS 26
abbrev s_right_L : Stmt := topS 27
abbrev s_refused_right_L : Stmt := topS 28
abbrev s_law : Stmt := topS 29
theorem sc_GuestError_init : FnScope ["self", "text"] ["self", "text"] (defScope s_GuestError_init) := ⟨rfl, rfl, rfl, by decide +kernel, rfl, by decide +kernel, by decide +kernel⟩
theorem sc_Missing_init : FnScope ["self", "text"] ["self", "text"] (defScope s_Missing_init) := ⟨rfl, rfl, rfl, by decide +kernel, rfl, by decide +kernel, by decide +kernel⟩
theorem sc_Barred_init : FnScope ["self", "text"] ["self", "text"] (defScope s_Barred_init) := ⟨rfl, rfl, rfl, by decide +kernel, rfl, by decide +kernel, by decide +kernel⟩
theorem sc_NoNumber_init : FnScope ["self", "found"] ["self", "found"] (defScope s_NoNumber_init) := ⟨rfl, rfl, rfl, by decide +kernel, rfl, by decide +kernel, by decide +kernel⟩
theorem sc_NoWord_init : FnScope ["self", "found"] ["self", "found"] (defScope s_NoWord_init) := ⟨rfl, rfl, rfl, by decide +kernel, rfl, by decide +kernel, by decide +kernel⟩
theorem sc_Full_init : FnScope ["self", "many"] ["self", "many"] (defScope s_Full_init) := ⟨rfl, rfl, rfl, by decide +kernel, rfl, by decide +kernel, by decide +kernel⟩
theorem sc_is_count : FnScope ["thing"] ["thing"] (defScope s_is_count) := ⟨rfl, rfl, rfl, by decide +kernel, rfl, by decide +kernel, by decide +kernel⟩
theorem sc_is_whole : FnScope ["thing", "low", "high"] ["thing", "low", "high"] (defScope s_is_whole) := ⟨rfl, rfl, rfl, by decide +kernel, rfl, by decide +kernel, by decide +kernel⟩
theorem sc_is_word : FnScope ["thing"] ["thing"] (defScope s_is_word) := ⟨rfl, rfl, rfl, by decide +kernel, rfl, by decide +kernel, by decide +kernel⟩
theorem sc_check_number : FnScope ["thing", "low", "high"] ["thing", "low", "high"] (defScope s_check_number) := ⟨rfl, rfl, rfl, by decide +kernel, rfl, by decide +kernel, by decide +kernel⟩
theorem sc_check_word : FnScope ["thing"] ["thing"] (defScope s_check_word) := ⟨rfl, rfl, rfl, by decide +kernel, rfl, by decide +kernel, by decide +kernel⟩
theorem sc_Switch_init : FnScope ["self", "_"] ["self"] (defScope s_Switch_init) := ⟨rfl, rfl, rfl, by decide +kernel, rfl, by decide +kernel, by decide +kernel⟩
theorem sc_Switch_post : FnScope ["self", "port", "word", "words"] ["self", "port", "word"] (defScope s_Switch_post) := ⟨rfl, rfl, rfl, by decide +kernel, rfl, by decide +kernel, by decide +kernel⟩
theorem sc_Switch_posted : FnScope ["self", "port"] ["self", "port"] (defScope s_Switch_posted) := ⟨rfl, rfl, rfl, by decide +kernel, rfl, by decide +kernel, by decide +kernel⟩
theorem sc_Switch_how_many : FnScope ["self", "port"] ["self", "port"] (defScope s_Switch_how_many) := ⟨rfl, rfl, rfl, by decide +kernel, rfl, by decide +kernel, by decide +kernel⟩
theorem sc_Switch_letter : FnScope ["self", "port", "number", "words"] ["self", "port", "number"] (defScope s_Switch_letter) := ⟨rfl, rfl, rfl, by decide +kernel, rfl, by decide +kernel, by decide +kernel⟩
theorem sc_Switch_twin : FnScope ["self", "other", "words"] ["self"] (defScope s_Switch_twin) := ⟨rfl, rfl, rfl, by decide +kernel, rfl, by decide +kernel, by decide +kernel⟩
theorem sc_Switch_words : FnScope ["self", "port"] ["self", "port"] (defScope s_Switch_words) := ⟨rfl, rfl, rfl, by decide +kernel, rfl, by decide +kernel, by decide +kernel⟩
theorem sc_check_count : FnScope ["thing"] ["thing"] (defScope s_check_count) := ⟨rfl, rfl, rfl, by decide +kernel, rfl, by decide +kernel, by decide +kernel⟩
theorem sc_cell_L : FnScope ["_law_script", "_law_k"] ["_law_script", "_law_k"] (defScope s_cell_L) := ⟨rfl, rfl, rfl, by decide +kernel, rfl, by decide +kernel, by decide +kernel⟩
theorem sc_box_L : FnScope ["_law_cell_here"] ["_law_cell_here"] (defScope s_box_L) := ⟨rfl, rfl, rfl, by decide +kernel, rfl, by decide +kernel, by decide +kernel⟩
theorem sc_take_L : FnScope ["_law_box_here", "_law_many", "_law_digit", "_law_one", "_law_two"] ["_law_box_here", "_law_many"] (defScope s_take_L) := ⟨rfl, rfl, rfl, by decide +kernel, rfl, by decide +kernel, by decide +kernel⟩
theorem sc_caught_L : FnScope ["_law_switch", "_law_deed", "_law_one", "_law_two", "e"] ["_law_switch", "_law_deed", "_law_one", "_law_two"] (defScope s_caught_L) := ⟨rfl, rfl, rfl, by decide +kernel, rfl, by decide +kernel, by decide +kernel⟩
theorem sc_odd_L : FnScope ["_law_box_here", "_law_some"] ["_law_box_here"] (defScope s_odd_L) := ⟨rfl, rfl, rfl, by decide +kernel, rfl, by decide +kernel, by decide +kernel⟩
theorem sc_posted_L : FnScope ["_law_switch", "_law_due", "_law_gate", "_law_sign", "_law_told"] ["_law_switch", "_law_due", "_law_gate", "_law_sign"] (defScope s_posted_L) := ⟨rfl, rfl, rfl, by decide +kernel, rfl, by decide +kernel, by decide +kernel⟩
theorem sc_right_L : FnScope ["_law_box_here", "_law_switch", "_law_due", "_law_gate", "_law_told", "_law_some", "_law_which", "_law_sign"] ["_law_box_here", "_law_switch", "_law_due"] (defScope s_right_L) := ⟨rfl, rfl, rfl, by decide +kernel, rfl, by decide +kernel, by decide +kernel⟩
theorem sc_refused_right_L : FnScope ["_law_box_here", "_law_switch", "_law_due", "_law_odd_here", "_law_other", "_law_gate", "_law_far", "_law_rows", "_law_deed", "_law_one", "_law_two", "_law_told", "_law_found", "_law_thing"] ["_law_box_here", "_law_switch", "_law_due"] (defScope s_refused_right_L) := ⟨rfl, rfl, rfl, by decide +kernel, rfl, by decide +kernel, by decide +kernel⟩
theorem sc_law : FnScope ["_law_script", "_law_box_here", "_law_large", "_law_gate", "_law_hall", "_law_k", "_law_elder", "_law_there", "_law_words", "_law_switch", "_law_due", "_law_lone", "_law_turn", "_law_one"] ["_law_script"] (defScope s_law) := ⟨rfl, rfl, rfl, by decide +kernel, rfl, by decide +kernel, by decide +kernel⟩
structure Ad where
  CG : Addr
  fG : Addr
  CK : Addr
  CB : Addr
  fB : Addr
  CM : Addr
  fM : Addr
  CW : Addr
  fW : Addr
  CF : Addr
  fF : Addr
  CS : Addr
structure Txt (K : PySem.W.Frag) (mg : Str → Option Value) (A : Ad) : Prop where
  m_isinstance : mg "isinstance" = none
  m_int : mg "int" = none
  m_bool : mg "bool" = none
  m_list : mg "list" = none
  m_len : mg "len" = none
  m_max : mg "max" = none
  m_min : mg "min" = none
  m_range : mg "range" = none
  m_repr : mg "repr" = none
  m_ValueError : mg "ValueError" = none
  m_LookupError : mg "LookupError" = none
  c_MOST : ∃ u, mg "MOST" = some u ∧ RelV (.int 4095) u
  c_PORTS : ∃ u, mg "PORTS" = some u ∧ RelV (.int 8) u
  c_MOST_POSTED : ∃ u, mg "MOST_POSTED" = some u ∧ RelV (.int 200) u
  g_GuestError : mg "GuestError" = some (.ref A.CG)
  rd_GuestError : PySem.W.readsIn K A.CG (.type "type") = true
  ga_GuestError : PySem.W.specialIn K (.ref A.CG) "__getattribute__" = some (some (.builtin "type.__getattribute__"))
  at_GuestError : PySem.W.findCls K (.ref A.CG) (.type "type") "__init__" = some (.val (.ref A.fG))
  g_Missing : mg "Missing" = some (.ref A.CK)
  g_Barred : mg "Barred" = some (.ref A.CB)
  rd_Barred : PySem.W.readsIn K A.CB (.type "type") = true
  ga_Barred : PySem.W.specialIn K (.ref A.CB) "__getattribute__" = some (some (.builtin "type.__getattribute__"))
  at_Barred : PySem.W.findCls K (.ref A.CB) (.type "type") "__init__" = some (.val (.ref A.fB))
  vV : PySem.W.findCls K (.type "ValueError") (.type "type") "__init__" = some (.val (.builtin "ValueError.__init__"))
  vL : PySem.W.findCls K (.type "LookupError") (.type "type") "__init__" = some (.val (.builtin "LookupError.__init__"))
  g_NoNumber : mg "NoNumber" = some (.ref A.CM)
  xM : ExcA K .ve "found" A.CM A.fM
  g_NoWord : mg "NoWord" = some (.ref A.CW)
  xW : ExcA K .ve "found" A.CW A.fW
  g_Full : mg "Full" = some (.ref A.CF)
  xF : ExcA K .le "many" A.CF A.fF
  eMM : PySem.W.exmOne K (.ref A.CM) (.ref A.CM) = some true
  eWM : PySem.W.exmOne K (.ref A.CW) (.ref A.CM) = some false
  eWW : PySem.W.exmOne K (.ref A.CW) (.ref A.CW) = some true
  eFM : PySem.W.exmOne K (.ref A.CF) (.ref A.CM) = some false
  eFW : PySem.W.exmOne K (.ref A.CF) (.ref A.CW) = some false
  eFF : PySem.W.exmOne K (.ref A.CF) (.ref A.CF) = some true
  kMG : PySem.W.kitOne K (.ref A.CM) (.ref A.CG) = some true
  kMK : PySem.W.kitOne K (.ref A.CM) (.ref A.CK) = some false
  kMB : PySem.W.kitOne K (.ref A.CM) (.ref A.CB) = some false
  kWG : PySem.W.kitOne K (.ref A.CW) (.ref A.CG) = some true
  kWK : PySem.W.kitOne K (.ref A.CW) (.ref A.CK) = some false
  kWB : PySem.W.kitOne K (.ref A.CW) (.ref A.CB) = some false
  kFG : PySem.W.kitOne K (.ref A.CF) (.ref A.CG) = some false
  kFK : PySem.W.kitOne K (.ref A.CF) (.ref A.CK) = some false
  kFB : PySem.W.kitOne K (.ref A.CF) (.ref A.CB) = some true
  cl_Switch : Cls K A.CS
  na_posted : NoAttr K A.CS "_posted"
section
variable {K : PySem.W.Frag} {mg : Str → Option Value} {A : Ad}
theorem Txt.ox_NoNumber (T : Txt K mg A) : OexT K .ve A.CM := T.xM.ox
theorem Txt.i_NoNumber (T : Txt K mg A) : PySem.W.findIn K (.ref A.CM) "__init__" = some (some (.ref A.fM)) := T.xM.i
theorem Txt.t_NoNumber (T : Txt K mg A) : PySem.W.typeIn K (.ref A.fM) = some (.type "function") := T.xM.t
theorem Txt.nf_NoNumber (T : Txt K mg A) : PySem.W.findIn K (.ref A.CM) "found" = some none := T.xM.nf
theorem Txt.xf_NoNumber (T : Txt K mg A) : XfC K A.CM := T.xM.xf
theorem Txt.xc_NoNumber (T : Txt K mg A) : ExcC K A.CM := T.xM.xc
theorem Txt.ox_NoWord (T : Txt K mg A) : OexT K .ve A.CW := T.xW.ox
theorem Txt.i_NoWord (T : Txt K mg A) : PySem.W.findIn K (.ref A.CW) "__init__" = some (some (.ref A.fW)) := T.xW.i
theorem Txt.t_NoWord (T : Txt K mg A) : PySem.W.typeIn K (.ref A.fW) = some (.type "function") := T.xW.t
theorem Txt.nf_NoWord (T : Txt K mg A) : PySem.W.findIn K (.ref A.CW) "found" = some none := T.xW.nf
theorem Txt.xf_NoWord (T : Txt K mg A) : XfC K A.CW := T.xW.xf
theorem Txt.xc_NoWord (T : Txt K mg A) : ExcC K A.CW := T.xW.xc
theorem Txt.ox_Full (T : Txt K mg A) : OexT K .le A.CF := T.xF.ox
theorem Txt.i_Full (T : Txt K mg A) : PySem.W.findIn K (.ref A.CF) "__init__" = some (some (.ref A.fF)) := T.xF.i
theorem Txt.t_Full (T : Txt K mg A) : PySem.W.typeIn K (.ref A.fF) = some (.type "function") := T.xF.t
theorem Txt.nf_Full (T : Txt K mg A) : PySem.W.findIn K (.ref A.CF) "many" = some none := T.xF.nf
theorem Txt.xf_Full (T : Txt K mg A) : XfC K A.CF := T.xF.xf
theorem Txt.xc_Full (T : Txt K mg A) : ExcC K A.CF := T.xF.xc
end
/-! ### a Switch -/
structure Sw (C : Addr) (H : Hp) (x l : Addr) (rows : List Addr) (ws : List (List V)) : Prop where
  ob : ∃ dx, H x = some (.ins C dx [("_posted", .ref l)])
  ll : LL H l rows ws
  n8 : ws.length = 8
theorem lk_posted {v : V} : ([("_posted", v)] : List (Str × V)).lookup ("_posted" : Str) = some v := by
  rw [List.lookup_cons, beq_self_eq_true]
theorem no_post {v : V} {m : Str} (h : (m == ("_posted" : Str)) = false) : ([("_posted", v)] : List (Str × V)).lookup m = none := by
  rw [List.lookup_cons, h]
  rfl
theorem Sw.row {C : Addr} {H : Hp} {x l : Addr} {rows : List Addr} {ws : List (List V)} (s : Sw C H x l rows ws) {k : Nat} (h : k < 8) : ∃ r w, rows[k]? = some r ∧ ws[k]? = some w ∧ H r = some (.lst w) := by
  have hw : k < ws.length := by rw [s.n8]; exact h
  have hr : k < rows.length := by rw [s.ll.len]; exact hw
  exact ⟨rows[k], ws[k], List.getElem?_eq_getElem hr, List.getElem?_eq_getElem hw, s.ll.row k _ _ (List.getElem?_eq_getElem hr) (List.getElem?_eq_getElem hw)⟩
/-- what a def does with a port's row -/
def OnPort (K : PySem.W.Frag) (A : Ad) (H : Hp) (E : XK) (x p : V) (ok : Nat → Addr → List V → Prop) : Prop := ∃ (o l : Addr) (rows : List Addr) (ws : List (List V)), x = .ref o ∧ Sw A.CS H o l rows ws ∧ WD K H p ∧
  ((wholeV p 0 7 = false ∧ Refuse A.CM p H E) ∨ ∃ (k : Nat) (r : Addr) (w : List V), p = .int k ∧ k < 8 ∧ rows[k]? = some r ∧ ws[k]? = some w ∧ H r = some (.lst w) ∧ ok k r w)
def spWords (K : PySem.W.Frag) (A : Ad) : Sp := fun vs H Q E => ∃ x p : V, vs = [x, p] ∧ OnPort K A H E x p fun _ r _ => Q (.ref r) H
def spPost (K : PySem.W.Frag) (A : Ad) : Sp := fun vs H Q E => ∃ x p w : V, vs = [x, p, w] ∧ OnPort K A H E x p fun _ r c => WD K H w ∧ ((wd w = false ∧ Refuse A.CW w H E) ∨ ∃ i : Int, w = .int i ∧ 0 ≤ i ∧ i ≤ 4095 ∧
  ((c.length = 200 ∧ RefuseN "many" A.CF (.int 200) H E) ∨ (c.length < 200 ∧ Q .non (upd H r (.lst (c ++ [.int i]))))))
def spPosted (K : PySem.W.Frag) (A : Ad) : Sp := fun vs H Q E => ∃ x p : V, vs = [x, p] ∧ OnPort K A H E x p fun _ _ c => ∀ q H', H q = none → Same H H' → H' q = some (.lst c) → Q (.ref q) H'
def spHow (K : PySem.W.Frag) (A : Ad) : Sp := fun vs H Q E => ∃ x p : V, vs = [x, p] ∧ OnPort K A H E x p fun _ _ c => Q (.int c.length) H
def spLetter (K : PySem.W.Frag) (A : Ad) : Sp := fun vs H Q E => ∃ x p n : V, vs = [x, p, n] ∧ OnPort K A H E x p fun _ _ c => WC K H n ∧ ((countV n = false ∧ Refuse A.CM n H E) ∨ ∃ i : Nat, n = .int i ∧ ((∃ v, c[i]? = some v ∧ Q v H) ∨ (c.length ≤ i ∧ Q .non H)))
def blank8 : List (List V) := List.replicate 8 []
def spSwInit (A : Ad) : Sp := fun vs H Q _ => ∃ (x dx : Addr), vs = [.ref x] ∧ H x = some (.ins A.CS dx []) ∧ ∀ (l : Addr) (rows : List Addr) H', But x H H' → Sw A.CS H' x l rows blank8 → (∀ b ∈ l :: rows, H b = none) → Q .non H'
def spTwin (A : Ad) : Sp := fun vs H Q _ => ∃ (x l : Addr) (rows : List Addr) (ws : List (List V)), vs = [.ref x] ∧ Sw A.CS H x l rows ws ∧ ∀ (y l' : Addr) (rows' : List Addr) H', Same H H' → Sw A.CS H' y l' rows' ws → (∀ b ∈ y :: l' :: rows', H b = none) → Q (.ref y) H'
end K24

namespace K24
open PySem PySem.Spec PyProof.Rows L2 Bk


section
variable {P : Program} {w : World} {K : PySem.W.Frag} {mg : Str → Option Value} {base : Heap} {A : Ad}
theorem ok_GE {f : Addr} {fd : FuncData} (F : Fun K "__init__" "GuestError.__init__" s_GuestError_init f fd) (T : Txt K mg A) : FnOk P w K mg base CX0 1 f fd ["self", "text"] (spGT K .ve) := by
  refine F.ok sc_GuestError_init (fun vs H Q E h => ?_) (fun cdv A' outer s H vs Q E hr h => ⟨_, (pss_one (ps_expr (pe_veI (by rfl) T.m_ValueError T.vV (pa_cons (pv 0) (pa_cons (pv 1) pa_nil))))), ?_⟩)
  · obtain ⟨a, C, x, rfl, _⟩ := h
    rfl
  · obtain ⟨a, C, x, rfl, hC, e, q⟩ := h
    exact ⟨_, rfl, _, rfl, a, C, [x], rfl, Nat.le_of_ble_eq_true rfl, hC, e, q⟩
theorem ok_BB {f : Addr} {fd : FuncData} (F : Fun K "__init__" "Barred.__init__" s_Barred_init f fd) (T : Txt K mg A) : FnOk P w K mg base CX0 1 f fd ["self", "text"] (spGT K .le) := by
  refine F.ok sc_Barred_init (fun vs H Q E h => ?_) (fun cdv A' outer s H vs Q E hr h => ⟨_, (pss_one (ps_expr (pe_leI (by rfl) T.m_LookupError T.vL (pa_cons (pv 0) (pa_cons (pv 1) pa_nil))))), ?_⟩)
  · obtain ⟨a, C, x, rfl, _⟩ := h
    rfl
  · obtain ⟨a, C, x, rfl, hC, e, q⟩ := h
    exact ⟨_, rfl, _, rfl, a, C, [x], rfl, Nat.le_of_ble_eq_true rfl, hC, e, q⟩
theorem ok_iM {f : Addr} {fd fdG : FuncData} (F : Fun K "__init__" "NoNumber.__init__" s_NoNumber_init f fd) (T : Txt K mg A) (c_GuestError_init : Own P w K mg base CX0 1 A.fG fdG ["self", "text"] (spGT K .ve)) : FnOk P w K mg base CX0 2 f fd ["self", "found"] (spInitN "found" A.CM) := by
  refine F.ok sc_NoNumber_init (fun vs H Q E h => ?_) (fun cdv A' outer s H vs Q E hr h => ⟨_, (pss_cons (ps_expr (pe_cdef c_GuestError_init.ok hr (by rfl) T.g_GuestError T.rd_GuestError T.ga_GuestError T.at_GuestError c_GuestError_init.kp c_GuestError_init.bd .nil pass0 (pa_cons (pv 0) (pa_cons pe_str pa_nil))))
    (pss_one (ps_osN (pv 0) (pv 1)))), ?_⟩)
  · obtain ⟨a, x, rfl, _⟩ := h
    rfl
  · obtain ⟨a, x, rfl, e, q⟩ := h
    walk_at "go"
    exact ⟨a, A.CM, _, rfl, T.ox_NoNumber, e, x, rfl, .ref a, rfl, .ve, a, A.CM, rfl, T.ox_NoNumber, T.nf_NoNumber, e, q⟩
theorem ok_iW {f : Addr} {fd fdG : FuncData} (F : Fun K "__init__" "NoWord.__init__" s_NoWord_init f fd) (T : Txt K mg A) (c_GuestError_init : Own P w K mg base CX0 1 A.fG fdG ["self", "text"] (spGT K .ve)) : FnOk P w K mg base CX0 2 f fd ["self", "found"] (spInitN "found" A.CW) := by
  refine F.ok sc_NoWord_init (fun vs H Q E h => ?_) (fun cdv A' outer s H vs Q E hr h => ⟨_, (pss_cons (ps_expr (pe_cdef c_GuestError_init.ok hr (by rfl) T.g_GuestError T.rd_GuestError T.ga_GuestError T.at_GuestError c_GuestError_init.kp c_GuestError_init.bd .nil pass0 (pa_cons (pv 0) (pa_cons pe_str pa_nil))))
    (pss_one (ps_osN (pv 0) (pv 1)))), ?_⟩)
  · obtain ⟨a, x, rfl, _⟩ := h
    rfl
  · obtain ⟨a, x, rfl, e, q⟩ := h
    walk_at "go"
    exact ⟨a, A.CW, _, rfl, T.ox_NoWord, e, x, rfl, .ref a, rfl, .ve, a, A.CW, rfl, T.ox_NoWord, T.nf_NoWord, e, q⟩
theorem ok_iF {f : Addr} {fd fdB : FuncData} (F : Fun K "__init__" "Full.__init__" s_Full_init f fd) (T : Txt K mg A) (c_Barred_init : Own P w K mg base CX0 1 A.fB fdB ["self", "text"] (spGT K .le)) : FnOk P w K mg base CX0 2 f fd ["self", "many"] (spInitN "many" A.CF) := by
  refine F.ok sc_Full_init (fun vs H Q E h => ?_) (fun cdv A' outer s H vs Q E hr h => ⟨_, (pss_cons (ps_expr (pe_cdef c_Barred_init.ok hr (by rfl) T.g_Barred T.rd_Barred T.ga_Barred T.at_Barred c_Barred_init.kp c_Barred_init.bd .nil pass0 (pa_cons (pv 0) (pa_cons pe_str pa_nil))))
    (pss_one (ps_osN (pv 0) (pv 1)))), ?_⟩)
  · obtain ⟨a, x, rfl, _⟩ := h
    rfl
  · obtain ⟨a, x, rfl, e, q⟩ := h
    walk_at "go"
    exact ⟨a, A.CF, _, rfl, T.ox_Full, e, x, rfl, .ref a, rfl, .le, a, A.CF, rfl, T.ox_Full, T.nf_Full, e, q⟩
theorem ok_whole {f : Addr} {fd : FuncData} (F : Fun K "is_whole" "is_whole" s_is_whole f fd) (T : Txt K mg A) : FnOk P w K mg base CX0 1 f fd ["thing", "low", "high"] (spWhole K) := by
  refine F.ok sc_is_whole (fun vs H Q E h => ?_) (fun cdv A' outer s H vs Q E hr h => ⟨_, (pss_one (ps_ret (pe_and (pe_callB call_is (by rfl) T.m_isinstance (by decide +kernel) (pa_cons (pv 0) (pa_cons (pe_bltn (v := .ty "int") (by rfl) T.m_int (by decide +kernel) rfl) pa_nil))) (pe_and (pe_not (pe_callB call_is (by rfl) T.m_isinstance (by decide +kernel) (pa_cons (pv 0) (pa_cons (pe_bltn (v := .ty "bool") (by rfl) T.m_bool (by decide +kernel) rfl) pa_nil)))) (pe_one (pe_chain op_le op_le (pv 1) (pv 0) (pv 2))))))), ?_⟩)
  · obtain ⟨x, lo, hi, rfl, _⟩ := h
    rfl
  · obtain ⟨x, lo, hi, rfl, hx, q⟩ := h
    walk_at "go"
    rcases hx with ⟨i, rfl⟩ | ⟨b, rfl⟩ | ⟨hx, hn⟩
    · refine r_is (isa_int (b := true)) ?_
      walk_at "go"
      refine r_is (isa_int (b := false)) ?_
      have q : Q (.bl (decide (lo ≤ i) && decide (i ≤ hi))) H := q
      walk_at "go"
      refine ite2 (fun e => ?_) (fun e => ?_)
      · walk_at "go"
        rw [e, Bool.true_and] at q
        exact q
      · rw [Bool.eq_false_iff.mpr e, Bool.false_and] at q
        exact q
    · refine r_is (isa_bl (b := true)) ?_
      walk_at "go"
      refine r_is (isa_bl (b := true)) ?_
      walk_at "go"
      exact q
    · refine r_is hx ?_
      walk_at "go"
      rw [hn] at q
      exact q
theorem ok_count {f : Addr} {fd : FuncData} (F : Fun K "is_count" "is_count" s_is_count f fd) (T : Txt K mg A) : FnOk P w K mg base CX0 1 f fd ["thing"] (spCount K) := by
  refine F.ok sc_is_count (fun vs H Q E h => ?_) (fun cdv A' outer s H vs Q E hr h => ⟨_, (pss_one (ps_ret (pe_and (pe_callB call_is (by rfl) T.m_isinstance (by decide +kernel) (pa_cons (pv 0) (pa_cons (pe_bltn (v := .ty "int") (by rfl) T.m_int (by decide +kernel) rfl) pa_nil))) (pe_and (pe_not (pe_callB call_is (by rfl) T.m_isinstance (by decide +kernel) (pa_cons (pv 0) (pa_cons (pe_bltn (v := .ty "bool") (by rfl) T.m_bool (by decide +kernel) rfl) pa_nil)))) (pe_one (pe_cmpR op_ge (pv 0) pe_int (nomark _))))))), ?_⟩)
  · obtain ⟨x, rfl, _⟩ := h
    rfl
  · obtain ⟨x, rfl, hx, q⟩ := h
    walk_at "go"
    rcases hx with ⟨i, rfl⟩ | ⟨b, rfl⟩ | ⟨hx, _, hn⟩
    · refine r_is (isa_int (b := true)) ?_
      walk_at "go"
      refine r_is (isa_int (b := false)) ?_
      walk_at "go"
      exact q
    · refine r_is (isa_bl (b := true)) ?_
      walk_at "go"
      refine r_is (isa_bl (b := true)) ?_
      walk_at "go"
      exact q
    · refine r_is hx ?_
      walk_at "go"
      rw [hn] at q
      exact q
theorem ok_isword {f : Addr} {fd : FuncData} (F : Fun K "is_word" "is_word" s_is_word f fd) (T : Txt K mg A) (c_is_whole : CalD P w K mg base CX0 1 "is_whole" (spWhole K) []) : FnOk P w K mg base CX0 2 f fd ["thing"] (spIsWord K) := by
  refine F.ok sc_is_word (fun vs H Q E h => ?_) (fun cdv A' outer s H vs Q E hr h => ⟨_, (pss_one (ps_ret (pe_cal c_is_whole hr (by decide) (by rfl) (pa_cons (pv 0) (pa_cons pe_int (pa_cons (C8.pe_gc (by rfl) T.c_MOST) pa_nil)))))), ?_⟩)
  · obtain ⟨x, rfl, _⟩ := h
    rfl
  · obtain ⟨x, rfl, hx, q⟩ := h
    walk_at "go"
    exact ⟨x, 0, 4095, rfl, hx, q⟩
theorem ok_check {f : Addr} {fd fdW : FuncData} (F : Fun K "check_word" "check_word" s_check_word f fd) (T : Txt K mg A) (c_is_word : CalD P w K mg base CX0 2 "is_word" (spIsWord K) [])
    (c_NoWord_init : Own P w K mg base CX0 2 A.fW fdW ["self", "found"] (spInitN "found" A.CW)) : FnOk P w K mg base (L2.CX P w) 4 f fd ["thing"] (spCheck K A.CW) := by
  refine F.okX sc_check_word (fun vs H Q E h => ?_) (fun cdv A' outer s H vs Q E hr h => ⟨_, (pss_one (ps_if (pt_not (pt_val (pe_cal c_is_word hr (by decide) (by rfl) (pa_cons (pv 0) pa_nil)))) (pss_one (ps_raise rfl (takes_of rfl rfl rfl rfl) (pmk_oexT T.ox_NoWord T.i_NoWord T.t_NoWord c_NoWord_init.ok (hr.mono (by decide)) c_NoWord_init.bd .nil pass0 (by rfl) T.g_NoWord (pa_cons (pv 0) pa_nil)))) pss_nil)), ?_⟩)
  · obtain ⟨x, rfl, _⟩ := h
    rfl
  · obtain ⟨x, rfl, hx, q⟩ := h
    walk_at "go"
    refine ⟨x, rfl, hx, ?_⟩
    walk_at "go"
    rcases q with ⟨e, q⟩ | ⟨e, q⟩
    · rw [e]
      walk_at "go"
      exact q
    · rw [e]
      walk_at "go"
      exact ⟨x, rfl, r_mkN q⟩
theorem ok_ckn {f : Addr} {fd fdM : FuncData} (F : Fun K "check_number" "check_number" s_check_number f fd) (T : Txt K mg A) (c_is_whole : CalD P w K mg base CX0 1 "is_whole" (spWhole K) [])
    (c_NoNumber_init : Own P w K mg base CX0 2 A.fM fdM ["self", "found"] (spInitN "found" A.CM)) : FnOk P w K mg base (L2.CX P w) 4 f fd ["thing", "low", "high"] (spCheckN K A.CM) := by
  refine F.okX sc_check_number (fun vs H Q E h => ?_) (fun cdv A' outer s H vs Q E hr h => ⟨_, (pss_one (ps_if (pt_not (pt_val (pe_cal c_is_whole hr (by decide) (by rfl) (pa_cons (pv 0) (pa_cons (pv 1) (pa_cons (pv 2) pa_nil)))))) (pss_one (ps_raise rfl (takes_of rfl rfl rfl rfl) (pmk_oexT T.ox_NoNumber T.i_NoNumber T.t_NoNumber c_NoNumber_init.ok (hr.mono (by decide)) c_NoNumber_init.bd .nil pass0 (by rfl) T.g_NoNumber (pa_cons (pv 0) pa_nil)))) pss_nil)), ?_⟩)
  · obtain ⟨x, lo, hi, rfl, _⟩ := h
    rfl
  · obtain ⟨x, lo, hi, rfl, hx, q⟩ := h
    walk_at "go"
    refine ⟨x, lo, hi, rfl, hx, ?_⟩
    walk_at "go"
    rcases q with ⟨e, q⟩ | ⟨e, q⟩
    · rw [e]
      walk_at "go"
      exact q
    · rw [e]
      walk_at "go"
      exact ⟨x, rfl, r_mkN q⟩
theorem ok_ckc {f : Addr} {fd fdM : FuncData} (F : Fun K "_check_count" "_check_count" s_check_count f fd) (T : Txt K mg A) (c_is_count : CalD P w K mg base CX0 1 "is_count" (spCount K) [])
    (c_NoNumber_init : Own P w K mg base CX0 2 A.fM fdM ["self", "found"] (spInitN "found" A.CM)) : FnOk P w K mg base (L2.CX P w) 4 f fd ["thing"] (spCheckC K A.CM) := by
  refine F.okX sc_check_count (fun vs H Q E h => ?_) (fun cdv A' outer s H vs Q E hr h => ⟨_, (pss_one (ps_if (pt_not (pt_val (pe_cal c_is_count hr (by decide) (by rfl) (pa_cons (pv 0) pa_nil)))) (pss_one (ps_raise rfl (takes_of rfl rfl rfl rfl) (pmk_oexT T.ox_NoNumber T.i_NoNumber T.t_NoNumber c_NoNumber_init.ok (hr.mono (by decide)) c_NoNumber_init.bd .nil pass0 (by rfl) T.g_NoNumber (pa_cons (pv 0) pa_nil)))) pss_nil)), ?_⟩)
  · obtain ⟨x, rfl, _⟩ := h
    rfl
  · obtain ⟨x, rfl, hx, q⟩ := h
    walk_at "go"
    refine ⟨x, rfl, hx, ?_⟩
    walk_at "go"
    rcases q with ⟨e, q⟩ | ⟨e, q⟩
    · rw [e]
      walk_at "go"
      exact q
    · rw [e]
      walk_at "go"
      exact ⟨x, rfl, r_mkN q⟩
/-! ### the Switch's methods -/
theorem ok_words {f : Addr} {fd : FuncData} (F : Fun K "_words" "Switch._words" s_Switch_words f fd) (T : Txt K mg A) (c_check_number : CalX P w K mg base 4 "check_number" (spCheckN K A.CM)) : FnOk P w K mg base (L2.CX P w) 5 f fd ["self", "port"] (spWords K A) := by
  refine F.okX sc_Switch_words (fun vs H Q E h => ?_) (fun cdv A' outer s H vs Q E hr h => ⟨_, (pss_cons (ps_expr (pe_calX c_check_number hr (by decide) (by rfl) (takes_of rfl rfl rfl rfl) (pa_cons (pv 1) (pa_cons pe_int (pa_cons (pe_op op_sub (C8.pe_gc (by rfl) T.c_PORTS) pe_int) pa_nil)))))
    (pss_one (ps_ret (pe_ix ix_list (pe_fld (pv 0) rfl) (pv 1) (fun _ _ => rfl))))), ?_⟩)
  · obtain ⟨x, p, rfl, _⟩ := h
    rfl
  · obtain ⟨x, p, rfl, o, l, rows, ws, rfl, hS, hp, q⟩ := h
    walk_at "go"
    refine ⟨p, 0, 7, rfl, hp, ?_⟩
    rcases q with q | ⟨k, r, c, rfl, hk, hr1, hw1, er, q⟩
    · exact .inr q
    · refine .inl ⟨whole_int (by omega) (by omega), ?_⟩
      walk_at "go"
      obtain ⟨dx, ob⟩ := hS.ob
      refine ⟨.ref o, rfl, o, A.CS, dx, _, _, rfl, ob, T.cl_Switch, T.na_posted, lk_posted, ?_⟩
      walk_at "go"
      exact r_ixL (sqL hS.ll.at_) (atI_nat (by rw [List.getElem?_map, hr1]; rfl)) q
theorem ok_posted {f : Addr} {fd : FuncData} (F : Fun K "posted" "Switch.posted" s_Switch_posted f fd) (T : Txt K mg A) (c_Switch_words : CalM P w K mg base (L2.CX P w) 5 A.CS "_words" (spWords K A)) : FnOk P w K mg base (L2.CX P w) 6 f fd ["self", "port"] (spPosted K A) := by
  refine F.okX sc_Switch_posted (fun vs H Q E h => ?_) (fun cdv A' outer s H vs Q E hr h => ⟨_, (pss_one (ps_ret (pe_callTy call_list_of (by rfl) T.m_list (by decide +kernel) (pa_cons (pe_mth (pv 0) T.cl_Switch c_Switch_words hr (by decide) (psX (takes_of rfl rfl rfl rfl)) (pa_cons (pv 1) pa_nil)) pa_nil)))), ?_⟩)
  · obtain ⟨x, p, rfl, _⟩ := h
    rfl
  · obtain ⟨x, p, rfl, o, l, rows, ws, rfl, hS, hp, q⟩ := h
    obtain ⟨dx, ob⟩ := hS.ob
    walk_at "go"
    refine ⟨o, dx, _, rfl, ob, no_post (by decide +kernel), ?_⟩
    walk_at "go"
    refine ⟨_, p, rfl, o, l, rows, ws, rfl, hS, hp, ?_⟩
    rcases q with q | ⟨k, r, c, rfl, hk, hr1, hw1, er, q⟩
    · exact .inl q
    · refine .inr ⟨k, r, c, rfl, hk, hr1, hw1, er, ?_⟩
      walk_at "go"
      exact ⟨r, c, rfl, .inl (sqL er), fun t ht => q t _ ht (same_upd ht) upd_same⟩
theorem ok_how {f : Addr} {fd : FuncData} (F : Fun K "how_many" "Switch.how_many" s_Switch_how_many f fd) (T : Txt K mg A) (c_Switch_words : CalM P w K mg base (L2.CX P w) 5 A.CS "_words" (spWords K A)) : FnOk P w K mg base (L2.CX P w) 6 f fd ["self", "port"] (spHow K A) := by
  refine F.okX sc_Switch_how_many (fun vs H Q E h => ?_) (fun cdv A' outer s H vs Q E hr h => ⟨_, (pss_one (ps_ret (pe_callB call_len_seq (by rfl) T.m_len (by decide +kernel) (pa_cons (pe_mth (pv 0) T.cl_Switch c_Switch_words hr (by decide) (psX (takes_of rfl rfl rfl rfl)) (pa_cons (pv 1) pa_nil)) pa_nil)))), ?_⟩)
  · obtain ⟨x, p, rfl, _⟩ := h
    rfl
  · obtain ⟨x, p, rfl, o, l, rows, ws, rfl, hS, hp, q⟩ := h
    obtain ⟨dx, ob⟩ := hS.ob
    walk_at "go"
    refine ⟨o, dx, _, rfl, ob, no_post (by decide +kernel), ?_⟩
    walk_at "go"
    refine ⟨_, p, rfl, o, l, rows, ws, rfl, hS, hp, ?_⟩
    rcases q with q | ⟨k, r, c, rfl, hk, hr1, hw1, er, q⟩
    · exact .inl q
    · refine .inr ⟨k, r, c, rfl, hk, hr1, hw1, er, ?_⟩
      walk_at "go"
      exact ⟨r, c, rfl, .inl (sqL er), q⟩
theorem ok_letter {f : Addr} {fd : FuncData} (F : Fun K "letter" "Switch.letter" s_Switch_letter f fd) (T : Txt K mg A) (c_Switch_words : CalM P w K mg base (L2.CX P w) 5 A.CS "_words" (spWords K A)) (c_check_count : CalX P w K mg base 4 "_check_count" (spCheckC K A.CM)) : FnOk P w K mg base (L2.CX P w) 6 f fd ["self", "port", "number"] (spLetter K A) := by
  refine F.okX sc_Switch_letter (fun vs H Q E h => ?_) (fun cdv A' outer s H vs Q E hr h => ⟨_, (pss_cons (ps_set (i := 3) sc_Switch_letter.nd rfl (.inl rfl) (pe_mth (pv 0) T.cl_Switch c_Switch_words hr (by decide) (psX (takes_of rfl rfl rfl rfl)) (pa_cons (pv 1) pa_nil)))
    (pss_cons (ps_expr (pe_calX c_check_count hr (by decide) (by rfl) (takes_of rfl rfl rfl rfl) (pa_cons (pv 2) pa_nil)))
    (pss_one (ps_ret (pe_ifExp (pt_cmpR op_lt (pv 2) (pe_callB call_len_seq (by rfl) T.m_len (by decide +kernel) (pa_cons (pv 3) pa_nil)) (nomark _)) (pe_ix ix_list (pv 3) (pv 2) (fun _ _ => rfl)) pe_non))))), ?_⟩)
  · obtain ⟨x, p, n, rfl, _⟩ := h
    rfl
  · obtain ⟨x, p, n, rfl, o, l, rows, ws, rfl, hS, hp, q⟩ := h
    obtain ⟨dx, ob⟩ := hS.ob
    walk_at "go"
    refine ⟨o, dx, _, rfl, ob, no_post (by decide +kernel), ?_⟩
    walk_at "go"
    refine ⟨_, p, rfl, o, l, rows, ws, rfl, hS, hp, ?_⟩
    rcases q with q | ⟨k, r, c, rfl, hk, hr1, hw1, er, hn, q⟩
    · exact .inl q
    · refine .inr ⟨k, r, c, rfl, hk, hr1, hw1, er, ?_⟩
      walk_at "go"
      refine ⟨n, rfl, hn, ?_⟩
      rcases q with q | ⟨i, rfl, q⟩
      · exact .inr q
      · refine .inl ⟨count_int (by omega), ?_⟩
        walk_at "go"
        refine ⟨r, c, rfl, .inl (sqL er), ?_⟩
        walk_at "go"
        rcases q with ⟨v, hv, q⟩ | ⟨hl, q⟩
        · have hi := (List.getElem?_eq_some_iff.mp hv).1
          refine iteD (by omega) ?_
          walk_at "go"
          exact r_ixL (sqL er) (atI_nat hv) q
        · refine iteDn (by omega) ?_
          walk_at "go"
          exact q
theorem ok_post {f : Addr} {fd fdF : FuncData} (F : Fun K "post" "Switch.post" s_Switch_post f fd) (T : Txt K mg A) (c_Switch_words : CalM P w K mg base (L2.CX P w) 5 A.CS "_words" (spWords K A)) (c_check_word : CalX P w K mg base 4 "check_word" (spCheck K A.CW))
    (c_Full_init : Own P w K mg base CX0 2 A.fF fdF ["self", "many"] (spInitN "many" A.CF)) : FnOk P w K mg base (L2.CX P w) 6 f fd ["self", "port", "word"] (spPost K A) := by
  refine F.okX sc_Switch_post (fun vs H Q E h => ?_) (fun cdv A' outer s H vs Q E hr h => ⟨_, (pss_cons (ps_set (i := 3) sc_Switch_post.nd rfl (.inl rfl) (pe_mth (pv 0) T.cl_Switch c_Switch_words hr (by decide) (psX (takes_of rfl rfl rfl rfl)) (pa_cons (pv 1) pa_nil)))
    (pss_cons (ps_expr (pe_calX c_check_word hr (by decide) (by rfl) (takes_of rfl rfl rfl rfl) (pa_cons (pv 2) pa_nil)))
    (pss_cons (ps_if (pt_cmpR op_eq (pe_callB call_len_seq (by rfl) T.m_len (by decide +kernel) (pa_cons (pv 3) pa_nil)) (C8.pe_gc (by rfl) T.c_MOST_POSTED) (nomark _)) (pss_one (ps_raise rfl (takes_of rfl rfl rfl rfl) (pmk_oexT T.ox_Full T.i_Full T.t_Full c_Full_init.ok (hr.mono (by decide)) c_Full_init.bd .nil pass0 (by rfl) T.g_Full (pa_cons (C8.pe_gc (by rfl) T.c_MOST_POSTED) pa_nil)))) pss_nil)
    (pss_one (ps_expr (pe_bm PySem.F.plainAttrs_list PySem.F.slot_list_append PySem.F.type_list_append mt_append (pv 3) (pa_cons (pv 2) pa_nil))))))), ?_⟩)
  · obtain ⟨x, p, n, rfl, _⟩ := h
    rfl
  · obtain ⟨x, p, n, rfl, o, l, rows, ws, rfl, hS, hp, q⟩ := h
    obtain ⟨dx, ob⟩ := hS.ob
    walk_at "go"
    refine ⟨o, dx, _, rfl, ob, no_post (by decide +kernel), ?_⟩
    walk_at "go"
    refine ⟨_, p, rfl, o, l, rows, ws, rfl, hS, hp, ?_⟩
    rcases q with q | ⟨k, r, c, rfl, hk, hr1, hw1, er, hn, q⟩
    · exact .inl q
    · refine .inr ⟨k, r, c, rfl, hk, hr1, hw1, er, ?_⟩
      walk_at "go"
      refine ⟨n, rfl, hn, ?_⟩
      rcases q with q | ⟨i, rfl, i0, i1, q⟩
      · exact .inr q
      · refine .inl ⟨wd_int i0 i1, ?_⟩
        walk_at "go"
        refine ⟨r, c, rfl, .inl (sqL er), ?_⟩
        walk_at "go"
        rcases q with ⟨hl, q⟩ | ⟨hl, q⟩
        · refine iteD (by rw [hl]; rfl) ?_
          walk_at "go"
          exact r_mkN q
        · refine iteDn (by intro z; injection z with z; omega) ?_
          walk_at "go"
          exact ⟨.inl ⟨rfl, _, sqL er⟩, _, rfl, r, c, _, rfl, rfl, er, Nat.lt_trans hl (by decide), q⟩
theorem ok_init {f : Addr} {fd : FuncData} (F : Fun K "__init__" "Switch.__init__" s_Switch_init f fd) (T : Txt K mg A) : FnOk P w K mg base CX0 1 f fd ["self"] (spSwInit A) := by
  refine F.ok sc_Switch_init (fun vs H Q E h => ?_) (fun cdv A' outer s H vs Q E hr h => ⟨_, (pss_one (ps_fld (pv 0) (pe_lc (own := [("_", 1)]) rfl sc_Switch_init.nd (pi_range1 (by rfl) T.m_range (pa_cons (C8.pe_gc (by rfl) T.c_PORTS) pa_nil)) (blkOk_by (N := ["self", "_"]) (sc := defScope s_Switch_init) (by decide +kernel)) (fun _ _ _ _ _ => (pg_name (i := 1) sc_Switch_init.nd rfl (.inl rfl))) (fun _ _ _ _ _ => pts_nil) (fun _ _ _ _ _ => (pe_lstB pa_nil))) rfl)), ?_⟩)
  · obtain ⟨x, dx, rfl, _⟩ := h
    rfl
  · obtain ⟨x, dx, rfl, ob, q⟩ := h
    refine lcNewR (n := 8) (fun _ => .lst []) (by decide) (fun _ => rfl) (fun i H1 Q' hi sm k => ?_) fun D H' ts nD sm eD l all nd fr => ?_
    · walk_at "go"
      exact newLB fun p H2 np ns s2 e2 => k p H2 np s2 e2
    · walk_at "go"
      refine ⟨x, A.CS, dx, [], rfl, sm _ _ ob, T.cl_Switch, T.na_posted, (by decide), ?_⟩
      have nx : ∀ t ∈ D :: ts, t ≠ x := fun t ht => by
        rcases List.mem_cons.mp ht with z | z
        · rw [z]; exact (ne_of_none ob nD).symm
        · exact (ne_of_none ob (fr t z)).symm
      refine q D ts _ (fun b o nb e => by rw [upd_ne nb]; exact sm _ _ e) ⟨⟨dx, upd_same⟩, ⟨?_, ?_, fun k r c hk hc => ?_, nd⟩, rfl⟩ fun b hb => ?_
      · rw [upd_ne (nx D List.mem_cons_self)]; exact eD
      · rw [l]; rfl
      · rw [upd_ne (nx r (List.mem_cons_of_mem _ (List.mem_of_getElem? hk))), all k r hk]
        rw [List.eq_of_mem_replicate (List.mem_of_getElem? hc)]
      · rcases List.mem_cons.mp hb with z | z
        · rw [z]; exact nD
        · exact fr b z
theorem ok_twin {f : Addr} {fd : FuncData} (F : Fun K "twin" "Switch.twin" s_Switch_twin f fd) (T : Txt K mg A) (c_Switch_init : CalC P w K mg base CX0 1 A.CS "Switch" (spSwInit A)) : FnOk P w K mg base CX0 3 f fd ["self"] (spTwin A) := by
  refine F.ok sc_Switch_twin (fun vs H Q E h => ?_) (fun cdv A' outer s H vs Q E hr h => ⟨_, (pss_cons (ps_set (i := 1) sc_Switch_twin.nd rfl (.inl rfl) (pe_mk0 c_Switch_init hr (by decide) (by rfl) ps0))
    (pss_cons (ps_fld (pv 1) (pe_lc (own := [("words", 2)]) rfl sc_Switch_twin.nd (pi_list (pe_fld (pv 0) rfl)) (blkOk_by (N := ["self", "other", "words"]) (sc := defScope s_Switch_twin) (by decide +kernel)) (fun _ _ _ _ _ => (pg_name (i := 2) sc_Switch_twin.nd rfl (.inl rfl))) (fun _ _ _ _ _ => pts_nil) (fun _ _ _ _ _ => (pe_callTy (call_list_ofK (K := K) rfl) (by rfl) T.m_list (by decide +kernel) (pa_cons (pv 2) pa_nil)))) rfl)
    (pss_one (ps_ret (pv 1))))), ?_⟩)
  · obtain ⟨x, l, rows, ws, rfl, _⟩ := h
    rfl
  · obtain ⟨x, l, rows, ws, rfl, hS, q⟩ := h
    walk_at "go"
    intro y dy ny ndy ney
    have s0 : Same H (upd (upd H dy (.own y)) y (.ins A.CS dy [])) := fun b o e => by
      rw [upd_ne (ne_of_none e ny), upd_ne (ne_of_none e ndy)]
      exact e
    refine ⟨y, dy, rfl, upd_same, fun l0 rows0 H1 b1 hS1 fr1 => ⟨rfl, ?_⟩⟩
    have s1 : Same H H1 := fun b o e => b1 _ _ (ne_of_none e ny) (s0 _ _ e)
    walk_at "go"
    obtain ⟨dx, ob⟩ := hS.ob
    have hS2 : LL H1 l rows ws := hS.ll.same s1
    refine lcNewL (a := l) (xs := rows.map V.ref) (fun k => .lst (ws.getD k [])) (fun QQ z => ⟨.ref x, rfl, x, A.CS, dx, _, _, rfl, s1 _ _ ob, T.cl_Switch, T.na_posted, lk_posted, z⟩) (sqL hS2.at_) (by rw [List.length_map, hS.ll.len, hS.n8]; decide) (fun _ => rfl) (fun i u H2 Q' hu sm k => ?_) fun D H2 ts nD sm eD len all nd fr => ?_
    · rw [List.getElem?_map] at hu
      cases hri : rows[i]? with
      | none => rw [hri] at hu; exact nomatch hu
      | some r =>
        rw [hri] at hu
        obtain rfl := Option.some.inj hu
        have hiw : i < ws.length := by rw [← hS.ll.len]; exact (List.getElem?_eq_some_iff.mp hri).1
        have er := sm _ _ (hS2.row i _ _ hri (List.getElem?_eq_getElem hiw))
        walk_at "go"
        refine ⟨r, _, rfl, .inl (sqL er), fun t ht => k t _ ht (same_upd ht) ?_⟩
        rw [upd_same, List.getD_eq_getElem?_getD, List.getElem?_eq_getElem hiw]
        rfl
    · walk_at "go"
      obtain ⟨dy1, oby⟩ := hS1.ob
      refine ⟨y, A.CS, dy1, _, rfl, sm _ _ oby, T.cl_Switch, T.na_posted, (by show 1 < 1000; decide), ?_⟩
      have nyt : ∀ t ∈ D :: ts, t ≠ y := fun t ht => by
        rcases List.mem_cons.mp ht with z | z
        · rw [z]; exact (ne_of_none oby nD).symm
        · exact (ne_of_none oby (fr t z)).symm
      walk_at "go"
      refine q y D ts _ (sameBut (s1.trans sm) ny) ⟨⟨dy1, by rw [upd_same]; rfl⟩, ⟨?_, ?_, fun k r c hk hc => ?_, nd⟩, hS.n8⟩ fun b hb => ?_
      · rw [upd_ne (nyt D List.mem_cons_self)]; exact eD
      · rw [len, List.length_map, hS.ll.len]
      · rw [upd_ne (nyt r (List.mem_cons_of_mem _ (List.mem_of_getElem? hk))), all k r hk, List.getD_eq_getElem?_getD, hc]
        rfl
      · rcases List.mem_cons.mp hb with z | z
        · rw [z]; exact ny
        · rcases List.mem_cons.mp z with z | z
          · rw [z]; exact s1.free nD
          · exact s1.free (fr b z)
end
end K24

namespace K24
open PySem PySem.Spec PyProof.Rows L2 Bk


/-- what a deed refuses, told as a list -/
inductive Ref (K : PySem.W.Frag) (H : Hp) : Str → V → V → Str → V → Prop
  | port {deed : Str} {one two : V} (h : WD K H one) (b : wholeV one 0 7 = false) : Ref K H deed one two "number" one
  | word {k : Nat} {two : V} (hk : k < 8) (h : WD K H two) (b : wd two = false) : Ref K H "post" (.int k) two "word" two
  | number {k : Nat} {two : V} (hk : k < 8) (h : WC K H two) (b : countV two = false) : Ref K H "letter" (.int k) two "number" two
def spCaught (K : PySem.W.Frag) (A : Ad) : Sp := fun vs H Q _ => ∃ (o l : Addr) (rows : List Addr) (ws : List (List V)) (deed : Str) (one two : V), vs = [.ref o, .str deed, one, two] ∧ Sw A.CS H o l rows ws ∧
  ((∃ tag v, Ref K H deed one two tag v ∧ ∀ p H', H p = none → p ≠ sysModules → Same H H' → H' p = some (.lst [.str tag, v, .bl true]) → Q (.ref p) H') ∨
   (deed = "post" ∧ ∃ (k : Nat) (i : Int) (r : Addr) (c : List V), one = .int k ∧ k < 8 ∧ two = .int i ∧ 0 ≤ i ∧ i ≤ 4095 ∧ rows[k]? = some r ∧ ws[k]? = some c ∧
    ((c.length = 200 ∧ ∀ p H', H p = none → p ≠ sysModules → Same H H' → H' p = some (.lst [.str "full", .int 200, .bl true]) → Q (.ref p) H') ∨
     (c.length < 200 ∧ ∀ p H', H p = none → p ≠ sysModules → But r H H' → H' r = some (.lst (c ++ [.int i])) → H' p = some (.lst [.str "told", .non]) → Q (.ref p) H'))))
section
variable {P : Program} {w : World} {K : PySem.W.Frag} {mg : Str → Option Value} {base : Heap} {A : Ad}
theorem ok_cell {f : Addr} {fd : FuncData} (F : Fun K "_law_cell" "_law_cell" s_cell_L f fd) (T : Txt K mg A) : FnOk P w K mg base CX0 1 f fd ["_law_script", "_law_k"] (spCell K) := by
  refine F.ok sc_cell_L (fun vs H Q E h => ?_) (fun cdv A' outer s H vs Q E hr h => ⟨_, (pss_cons (ps_if (pt_cmpR op_lt (pv 1) (pe_callB call_len_seq (by rfl) T.m_len (by decide +kernel) (pa_cons (pv 0) pa_nil)) (nomark _)) (pss_one (ps_ret (pe_ix ix_list (pv 0) (pv 1) (fun _ _ => rfl)))) pss_nil)
    (pss_one (ps_ret (pe_op op_add (pe_op op_mulW pe_int (pv 1)) pe_int)))), ?_⟩)
  · obtain ⟨a, ns, k, rfl, _⟩ := h
    rfl
  · obtain ⟨a, ns, k, rfl, hS, hk, q⟩ := h
    walk_at "go"
    refine ⟨a, _, rfl, .inl hS, ?_⟩
    walk_at "go"
    refine ite2 (fun e => ?_) (fun e => ?_)
    · walk_at "go"
      have hl : k < ns.length := by
        have z := of_decide_eq_true e
        rw [List.length_map] at z
        omega
      exact r_ixL hS (at_map hl) (q _)
    · walk_at "go"
      refine r_I (cmul (by decide) (by decide) (by omega) (by omega)) ?_
      walk_at "go"
      exact q _
theorem ok_box {f : Addr} {fd : FuncData} (F : Fun K "_law_box" "_law_box" s_box_L f fd) (T : Txt K mg A) : FnOk P w K mg base CX0 1 f fd ["_law_cell_here"] spBox := by
  refine F.ok sc_box_L (fun vs H Q E h => ?_) (fun cdv A' outer s H vs Q E hr h => ⟨_, (pss_one (ps_ret (pe_lstB (pa_cons (pe_callB (call_max2 rfl) (by rfl) T.m_max (by decide +kernel) (pa_cons pe_int (pa_cons (pe_op op_sub (pv 0) (pe_op op_pow pe_int pe_int)) pa_nil))) (pa_cons (pe_op op_mod (pv 0) pe_int) (pa_cons pe_int pa_nil)))))), ?_⟩)
  · obtain ⟨c, rfl, _⟩ := h
    rfl
  · obtain ⟨c, rfl, q⟩ := h
    walk_at "go"
    refine r_I ⟨by decide, by decide, by decide⟩ ?_
    walk_at "go"
    refine ⟨_, _, rfl, ?_⟩
    walk_at "go"
    refine r_I (by decide) ?_
    walk_at "go"
    refine newLB fun p H' np ns sm e => q p H' np sm ⟨_, _, _, e, ?_, ?_, ?_, ?_, ?_⟩ <;> first | omega | (split <;> omega)
theorem ok_take {f : Addr} {fd : FuncData} (F : Fun K "_law_take" "_law_take" s_take_L f fd) (T : Txt K mg A) : FnOk P w K mg base CX0 1 f fd ["_law_box_here", "_law_many"] spTake := by
  refine F.ok sc_take_L (fun vs H Q E h => ?_) (fun cdv A' outer s H vs Q E hr h => ⟨_, (pss_cons (ps_if (pt_cmpR op_gt (pe_ix ix_list (pv 0) pe_int (fun _ _ => rfl)) pe_int (nomark _)) (pss_cons (ps_set (i := 2) sc_take_L.nd rfl (.inl rfl) (pe_op op_mod (pe_ix ix_list (pv 0) pe_int (fun _ _ => rfl)) (pv 1)))
    (pss_cons (ps_asg (pe_op op_fdivW (pe_ix ix_list (pv 0) pe_int (fun _ _ => rfl)) (pv 1)) (pg_sub (pv 0) pe_int set_list))
    (pss_one (ps_ret (pv 2))))) pss_nil)
    (pss_cons (ps_asg (pe_op op_add (pe_ix ix_list (pv 0) pe_int (fun _ _ => rfl)) pe_int) (pg_sub (pv 0) pe_int set_list))
    (pss_cons (ps_set (i := 3) sc_take_L.nd rfl (.inl rfl) (pe_op op_mod (pe_op op_pow (pe_op op_add (pe_op op_add (pe_ix ix_list (pv 0) pe_int (fun _ _ => rfl)) (pe_op op_mulW pe_int (pe_ix ix_list (pv 0) pe_int (fun _ _ => rfl)))) pe_int) pe_int) pe_int))
    (pss_cons (ps_set (i := 4) sc_take_L.nd rfl (.inl rfl) (pe_op op_mod (pe_op op_pow (pe_op op_add (pe_op op_add (pe_op op_fdivW (pv 3) pe_int) (pe_op op_mulW pe_int (pe_ix ix_list (pv 0) pe_int (fun _ _ => rfl)))) pe_int) pe_int) pe_int))
    (pss_one (ps_ret (pe_op op_mod (pe_op op_add (pe_op op_fdivW (pv 3) pe_int) (pe_op op_mulW pe_int (pe_op op_fdivW (pv 4) pe_int))) (pv 1)))))))), ?_⟩)
  · obtain ⟨a, n, size, rfl, _⟩ := h
    rfl
  · obtain ⟨a, n, size, rfl, ⟨x, y, z, e, hx, hy, hy2, hz, hz2⟩, hn, h0, h1, q⟩ := h
    have i0 : SqL K H a [.int x, .int y, .int z] := sqL e
    walk_at "go"
    refine r_ixL i0 (v := .int x) rfl ?_
    walk_at "go"
    refine ite2 (fun hp => ?_) (fun hp => ?_)
    · walk_at "go"
      refine r_ixL i0 (v := .int x) rfl ?_
      walk_at "go"
      refine r_I h0 ?_
      walk_at "go"
      refine r_ixL i0 (v := .int x) rfl ?_
      walk_at "go"
      refine r_I (cdiv h0 h1) ?_
      walk_at "go"
      refine ⟨a, _, 0, 0, rfl, rfl, e, rfl, ?_⟩
      walk_at "go"
      exact q _ _ (Int.emod_nonneg _ (by omega)) (Int.emod_lt_of_pos _ h0) ⟨x / size, y, z, upd_same, Int.ediv_nonneg hx (by omega), hy, hy2, hz, by omega⟩ But.upd
    · walk_at "go"
      refine r_ixL i0 (v := .int z) rfl ?_
      walk_at "go"
      refine ⟨a, _, 2, 2, rfl, rfl, e, rfl, ?_⟩
      have i1 : SqL K (upd H a (.lst [.int x, .int y, .int (z + 1)])) a [.int x, .int y, .int (z + 1)] := sqL upd_same
      walk_at "go"
      refine r_ixL i1 (v := .int y) rfl ?_
      walk_at "go"
      refine r_ixL i1 (v := .int (z + 1)) rfl ?_
      refine r_I (cmul (by decide) (by decide) (by omega) (by omega)) ?_
      walk_at "go"
      have g1 : (y + 7907 * (z + 1) + 43).natAbs < 2 ^ 64 := by omega
      refine r_I ⟨by decide, by decide, g1⟩ ?_
      walk_at "go"
      refine r_I (by decide) ?_
      walk_at "go"
      generalize hone : (y + 7907 * (z + 1) + 43) ^ (Int.toNat 5) % 2147483647 = one
      have o1 : 0 ≤ one := by rw [← hone]; exact Int.emod_nonneg _ (by decide)
      have o2 : one < 2147483647 := by rw [← hone]; exact Int.emod_lt_of_pos _ (by decide)
      refine r_I (cdiv (by decide) (by decide)) ?_
      walk_at "go"
      refine r_ixL i1 (v := .int (z + 1)) rfl ?_
      refine r_I (cmul (by decide) (by decide) (by omega) (by omega)) ?_
      walk_at "go"
      have g2 : (one / 8 + 104729 * (z + 1) + 71).natAbs < 2 ^ 64 := by omega
      refine r_I ⟨by decide, by decide, g2⟩ ?_
      walk_at "go"
      refine r_I (by decide) ?_
      walk_at "go"
      generalize htwo : (one / 8 + 104729 * (z + 1) + 71) ^ (Int.toNat 3) % 2147483629 = two
      have t1 : 0 ≤ two := by rw [← htwo]; exact Int.emod_nonneg _ (by decide)
      have t2 : two < 2147483629 := by rw [← htwo]; exact Int.emod_lt_of_pos _ (by decide)
      refine r_I (cdiv (by decide) (by decide)) ?_
      walk_at "go"
      refine r_I (cdiv (by decide) (by decide)) ?_
      refine r_I (cmul (by decide) (by decide) (by omega) (by omega)) ?_
      walk_at "go"
      refine r_I h0 ?_
      exact q _ _ (Int.emod_nonneg _ (by omega)) (Int.emod_lt_of_pos _ h0) ⟨x, y, z + 1, upd_same, hx, hy, hy2, by omega, by omega⟩ But.upd

theorem ok_caught {f : Addr} {fd : FuncData} (F : Fun K "_law_caught" "_law_caught" s_caught_L f fd) (T : Txt K mg A) (k_Switch_post_word_port : CalMK P w K mg base (L2.CX P w) 6 0 ["word", "port"] A.CS "post" (spPost K A) (fun vs zs => vs ++ zs.reverse))
    (k_Switch_letter_number_port : CalMK P w K mg base (L2.CX P w) 6 0 ["number", "port"] A.CS "letter" (spLetter K A) (fun vs zs => vs ++ zs.reverse)) (k_Switch_posted_port : CalMK P w K mg base (L2.CX P w) 6 0 ["port"] A.CS "posted" (spPosted K A) (fun vs zs => vs ++ zs))
    (k_Switch_how_many_port : CalMK P w K mg base (L2.CX P w) 6 0 ["port"] A.CS "how_many" (spHow K A) (fun vs zs => vs ++ zs)) :
    FnOk P w K mg base CX0 7 f fd ["_law_switch", "_law_deed", "_law_one", "_law_two"] (spCaught K A) := by
  refine F.ok sc_caught_L (fun vs H Q E h => ?_) (fun cdv A' outer s H vs Q E hr h => ⟨_, (pss_one (ps_try_asM rfl rfl sc_caught_L.nd (fun W pn xe tk po => (pss_cons (ps_if (pt_cmpR op_eq (pv 1) pe_str (nomark _)) (pss_one (ps_ret (pe_lstB (pa_cons pe_str (pa_cons (pe_mthK (pv 0) T.cl_Switch k_Switch_post_word_port hr (by decide) (psT tk) (pk_cons (pv 3) (pk_cons (pv 2) pk_nil))) pa_nil))))) pss_nil)
    (pss_cons (ps_if (pt_cmpR op_eq (pv 1) pe_str (nomark _)) (pss_one (ps_ret (pe_lstB (pa_cons pe_str (pa_cons (pe_mthK (pv 0) T.cl_Switch k_Switch_letter_number_port hr (by decide) (psT tk) (pk_cons (pv 3) (pk_cons (pv 2) pk_nil))) pa_nil))))) pss_nil)
    (pss_one (ps_ret (pe_lstB (pa_cons pe_str (pa_cons (pe_ifExp (pt_cmpR op_eq (pv 1) pe_str (nomark _)) (pe_mthK (pv 0) T.cl_Switch k_Switch_posted_port hr (by decide) (psT tk) (pk_cons (pv 2) pk_nil)) (pe_mthK (pv 0) T.cl_Switch k_Switch_how_many_port hr (by decide) (psT tk) (pk_cons (pv 2) pk_nil))) pa_nil))))))))
      (.more ⟨by rfl, by decide, .inl T.g_NoNumber⟩ (i := 4) rfl rfl (fun a oe cls d pn hz hf => (pss_one (ps_ret (pe_lstB (pa_cons pe_str (pa_cons (pe_xf T.xf_NoNumber T.nf_NoNumber hz hf (pv 4)) (pa_cons (pe_and (pe_callB (call_isH T.xc_NoNumber hz hf) (by rfl) T.m_isinstance (by decide +kernel) (pa_cons (pv 4) (pa_cons (pe_glob (v := .ref _) (by rfl) T.g_GuestError rfl) pa_nil))) (pe_one (pe_not (pe_callB (call_isH2 T.xc_NoNumber hz hf) (by rfl) T.m_isinstance (by decide +kernel) (pa_cons (pv 4) (pa_cons (pe_tup (pa_cons (pe_glob (v := .ref _) (by rfl) T.g_Missing rfl) (pa_cons (pe_glob (v := .ref _) (by rfl) T.g_Barred rfl) pa_nil))) pa_nil)))))) pa_nil)))))))
      (.more ⟨by rfl, by decide, .inl T.g_NoWord⟩ (i := 4) rfl rfl (fun a oe cls d pn hz hf => (pss_one (ps_ret (pe_lstB (pa_cons pe_str (pa_cons (pe_xf T.xf_NoWord T.nf_NoWord hz hf (pv 4)) (pa_cons (pe_and (pe_callB (call_isH T.xc_NoWord hz hf) (by rfl) T.m_isinstance (by decide +kernel) (pa_cons (pv 4) (pa_cons (pe_glob (v := .ref _) (by rfl) T.g_GuestError rfl) pa_nil))) (pe_one (pe_not (pe_callB (call_isH2 T.xc_NoWord hz hf) (by rfl) T.m_isinstance (by decide +kernel) (pa_cons (pv 4) (pa_cons (pe_tup (pa_cons (pe_glob (v := .ref _) (by rfl) T.g_Missing rfl) (pa_cons (pe_glob (v := .ref _) (by rfl) T.g_Barred rfl) pa_nil))) pa_nil)))))) pa_nil)))))))
      (.more ⟨by rfl, by decide, .inl T.g_Full⟩ (i := 4) rfl rfl (fun a oe cls d pn hz hf => (pss_one (ps_ret (pe_lstB (pa_cons pe_str (pa_cons (pe_xf T.xf_Full T.nf_Full hz hf (pv 4)) (pa_cons (pe_and (pe_callB (call_isH T.xc_Full hz hf) (by rfl) T.m_isinstance (by decide +kernel) (pa_cons (pv 4) (pa_cons (pe_glob (v := .ref _) (by rfl) T.g_Barred rfl) pa_nil))) (pe_one (pe_not (pe_callB (call_isH2 T.xc_Full hz hf) (by rfl) T.m_isinstance (by decide +kernel) (pa_cons (pv 4) (pa_cons (pe_tup (pa_cons (pe_glob (v := .ref _) (by rfl) T.g_GuestError rfl) (pa_cons (pe_glob (v := .ref _) (by rfl) T.g_Missing rfl) pa_nil))) pa_nil)))))) pa_nil)))))))
      .stop))))), ?_⟩)
  · obtain ⟨o, l, rows, ws, deed, one, two, rfl, _⟩ := h
    rfl
  · obtain ⟨o, l, rows, ws, deed, one, two, rfl, hS, hc⟩ := h
    obtain ⟨dx, ob⟩ := hS.ob
    walk_at "go"
    rcases hc with ⟨tag, v, hR, q⟩ | ⟨rfl, k, i, r, c, rfl, hk, rfl, i0, i1, hr1, hw1, hq⟩
    · cases hR with
      | port hp hb =>
        have z : ∀ {ok : Nat → Addr → List V → Prop} {E : XK}, Refuse A.CM one H E → OnPort K A H E (.ref o) one ok := fun z => ⟨o, l, rows, ws, rfl, hS, hp, .inl ⟨hb, z⟩⟩
        refine iteC (fun e => ?_) (fun e => ?_)
        · walk_at "go"
          refine ⟨o, dx, _, rfl, ob, no_post (by decide +kernel), ?_⟩
          walk_at "go"
          exact ⟨rfl, .ref o, one, two, rfl, z fun d H' hd sm e => caught_lst T.eMM (Nat.le_of_ble_eq_true rfl) e T.kMG T.kMK T.kMB fun p H2 np ns s2 e2 => q p H2 (sm.free np) ns (sm.trans s2) e2⟩
        · walk_at "go"
          refine iteC (fun e => ?_) (fun e => ?_)
          · walk_at "go"
            refine ⟨o, dx, _, rfl, ob, no_post (by decide +kernel), ?_⟩
            walk_at "go"
            exact ⟨rfl, .ref o, one, two, rfl, z fun d H' hd sm e => caught_lst T.eMM (Nat.le_of_ble_eq_true rfl) e T.kMG T.kMK T.kMB fun p H2 np ns s2 e2 => q p H2 (sm.free np) ns (sm.trans s2) e2⟩
          · walk_at "go"
            refine iteC (fun e => ?_) (fun e => ?_)
            · walk_at "go"
              refine ⟨o, dx, _, rfl, ob, no_post (by decide +kernel), ?_⟩
              walk_at "go"
              exact ⟨rfl, .ref o, one, rfl, z fun d H' hd sm e => caught_lst T.eMM (Nat.le_of_ble_eq_true rfl) e T.kMG T.kMK T.kMB fun p H2 np ns s2 e2 => q p H2 (sm.free np) ns (sm.trans s2) e2⟩
            · walk_at "go"
              refine ⟨o, dx, _, rfl, ob, no_post (by decide +kernel), ?_⟩
              walk_at "go"
              exact ⟨rfl, .ref o, one, rfl, z fun d H' hd sm e => caught_lst T.eMM (Nat.le_of_ble_eq_true rfl) e T.kMG T.kMK T.kMB fun p H2 np ns s2 e2 => q p H2 (sm.free np) ns (sm.trans s2) e2⟩
      | @word k _ hk hp hb =>
        obtain ⟨r, c, hr1, hw1, er⟩ := hS.row hk
        refine iteD rfl ?_
        walk_at "go"
        refine ⟨o, dx, _, rfl, ob, no_post (by decide +kernel), ?_⟩
        walk_at "go"
        exact ⟨rfl, .ref o, _, two, rfl, o, l, rows, ws, rfl, hS, .inl ⟨_, rfl⟩, .inr ⟨k, r, c, rfl, hk, hr1, hw1, er, hp, .inl ⟨hb, fun d H' hd sm e => w_miss T.eWM (caught_lst T.eWW (Nat.le_of_ble_eq_true rfl) e T.kWG T.kWK T.kWB fun p H2 np ns s2 e2 => q p H2 (sm.free np) ns (sm.trans s2) e2)⟩⟩⟩
      | @number k _ hk hp hb =>
        obtain ⟨r, c, hr1, hw1, er⟩ := hS.row hk
        refine iteDn (by decide +kernel) ?_
        walk_at "go"
        refine iteD rfl ?_
        walk_at "go"
        refine ⟨o, dx, _, rfl, ob, no_post (by decide +kernel), ?_⟩
        walk_at "go"
        exact ⟨rfl, .ref o, _, two, rfl, o, l, rows, ws, rfl, hS, .inl ⟨_, rfl⟩, .inr ⟨k, r, c, rfl, hk, hr1, hw1, er, hp, .inl ⟨hb, fun d H' hd sm e => caught_lst T.eMM (Nat.le_of_ble_eq_true rfl) e T.kMG T.kMK T.kMB fun p H2 np ns s2 e2 => q p H2 (sm.free np) ns (sm.trans s2) e2⟩⟩⟩
    · have er := hS.ll.row k r c hr1 hw1
      refine iteD rfl ?_
      walk_at "go"
      refine ⟨o, dx, _, rfl, ob, no_post (by decide +kernel), ?_⟩
      walk_at "go"
      refine ⟨rfl, .ref o, _, _, rfl, o, l, rows, ws, rfl, hS, .inl ⟨_, rfl⟩, .inr ⟨k, r, c, rfl, hk, hr1, hw1, er, .inl ⟨_, rfl⟩, .inr ⟨i, rfl, i0, i1, ?_⟩⟩⟩
      rcases hq with ⟨hl, q⟩ | ⟨hl, q⟩
      · exact .inl ⟨hl, fun d H' hd sm e => w_miss T.eFM (w_miss T.eFW (caught_lst T.eFF (Nat.le_of_ble_eq_true rfl) e T.kFB T.kFG T.kFK fun p H2 np ns s2 e2 => q p H2 (sm.free np) ns (sm.trans s2) e2))⟩
      · refine .inr ⟨hl, ?_⟩
        walk_at "go"
        refine newLB fun p H2 np ns s2 e2 => ?_
        have nr : p ≠ r := fun z => by rw [z, upd_same] at np; exact nomatch np
        rw [upd_ne nr] at np
        exact q p H2 np ns (But.upd.same s2) (s2 _ _ upd_same) e2
end
end K24

namespace K24
open PySem PySem.Spec PyProof.Rows L2 Bk


def spOdd : Sp := fun vs H Q _ => ∃ (a : Addr) (n : Nat), vs = [.ref a] ∧ Box a n H ∧ n < 999000 ∧ ∀ v fp H', OddV H' 1 fp v → (∀ b ∈ fp, H b = none) → Box a (n + 1) H' → But a H H' → Q v H'
/-- a Switch and the law's own lists, which hold the same -/
structure Ent where
  o : Addr
  l : Addr
  rows : List Addr
  d : Addr
  drows : List Addr
def Ent.fp (e : Ent) : List Addr := (e.o :: e.l :: e.rows) ++ (e.d :: e.drows)
def okW (ws : List (List V)) : Prop := ∀ c ∈ ws, c.length ≤ 200 ∧ ∀ v ∈ c, ∃ i : Int, v = .int i ∧ 0 ≤ i ∧ i ≤ 4095
structure EntAt (C : Addr) (H : Hp) (e : Ent) : Prop where
  ex : ∃ ws, Sw C H e.o e.l e.rows ws ∧ LL H e.d e.drows ws ∧ okW ws
  nd : e.fp.Nodup
theorem EntAt.keep {C : Addr} {H H' : Hp} {e : Ent} (h : EntAt C H e) (k : ∀ b ∈ e.fp, H' b = H b) : EntAt C H' e := by
  obtain ⟨ws, ⟨⟨dx, ob⟩, ll, n8⟩, dl, ok⟩ := h.ex
  refine ⟨⟨ws, ⟨⟨dx, by rw [k _ (List.mem_append_left _ List.mem_cons_self)]; exact ob⟩, ll.keep fun b hb => k _ (List.mem_append_left _ (List.mem_cons_of_mem _ hb)), n8⟩, dl.keep fun b hb => k _ (List.mem_append_right _ hb), ok⟩, h.nd⟩
theorem EntAt.there {C : Addr} {H : Hp} {e : Ent} (h : EntAt C H e) : ∀ b ∈ e.fp, ∃ o, H b = some o := by
  obtain ⟨ws, ⟨⟨dx, ob⟩, ll, n8⟩, dl, ok⟩ := h.ex
  intro b hb
  have go : ∀ {l : Addr} {rows : List Addr}, LL H l rows ws → b ∈ l :: rows → ∃ o, H b = some o := fun {l rows} L hb => by
    rcases List.mem_cons.mp hb with z | z
    · exact ⟨_, by rw [z]; exact L.at_⟩
    · obtain ⟨k, hk⟩ := List.getElem?_of_mem z
      have : k < ws.length := by rw [← L.len]; exact (List.getElem?_eq_some_iff.mp hk).1
      exact ⟨_, L.row k b _ hk (List.getElem?_eq_getElem this)⟩
  rcases List.mem_append.mp hb with z | z
  · rcases List.mem_cons.mp z with z | z
    · exact ⟨_, by rw [z]; exact ob⟩
    · exact go ll z
  · exact go dl z
theorem EntAt.same {C : Addr} {H H' : Hp} {e : Ent} (h : EntAt C H e) (s : Same H H') : EntAt C H' e := h.keep fun b hb => by
  obtain ⟨o, e⟩ := h.there b hb
  rw [e]
  exact s _ _ e
theorem EntAt.but {C bx : Addr} {H H' : Hp} {e : Ent} (h : EntAt C H e) (n : bx ∉ e.fp) (s : But bx H H') : EntAt C H' e := h.keep fun b hb => by
  obtain ⟨o, e⟩ := h.there b hb
  rw [e]
  exact s _ _ (fun z => n (z ▸ hb)) e
def spPostedL (A : Ad) : Sp := fun vs H Q _ => ∃ (e : Ent) (k : Nat) (i : Int), vs = [.ref e.o, .ref e.d, .int k, .int i] ∧ EntAt A.CS H e ∧ k < 8 ∧ 0 ≤ i ∧ i ≤ 4095 ∧ ∀ H', EntAt A.CS H' e → (∀ b o, b ∉ e.rows → b ∉ e.drows → H b = some o → H' b = some o) → Q (.bl true) H'
def spRight (A : Ad) : Sp := fun vs H Q _ => ∃ (e : Ent) (bx : Addr) (n : Nat), vs = [.ref bx, .ref e.o, .ref e.d] ∧ EntAt A.CS H e ∧ Box bx n H ∧ bx ∉ e.fp ∧ n < 900000 ∧ ∀ H', Box bx (n + 30) H' → But bx H H' → Q (.bl true) H'
section
variable {P : Program} {w : World} {K : PySem.W.Frag} {mg : Str → Option Value} {base : Heap} {A : Ad}
theorem ok_odd {f : Addr} {fd : FuncData} (F : Fun K "_law_odd" "_law_odd" s_odd_L f fd) (T : Txt K mg A) (c_take_L : CalD P w K mg base CX0 1 "_law_take" spTake []) : FnOk P w K mg base CX0 2 f fd ["_law_box_here"] spOdd := by
  refine F.ok sc_odd_L (fun vs H Q E h => ?_) (fun cdv A' outer s H vs Q E hr h => ⟨_, (pss_cons (ps_set (i := 1) sc_odd_L.nd rfl (.inl rfl) (pe_lstB (pa_cons pe_non (pa_cons pe_bl (pa_cons pe_bl (pa_cons (pe_un un_neg pe_int) (pa_cons pe_str (pa_cons pe_str (pa_cons pe_str (pa_cons (pe_tup pa_nil) (pa_cons (pe_lstB pa_nil) (pa_cons (pe_lstB (pa_cons pe_int pa_nil)) (pa_cons (pe_tup (pa_cons pe_int pa_nil)) (pa_cons pe_dnewK (pa_cons (pe_disp (pps_cons pe_str pe_int pps_nil) rfl rfl (by simp) (by decide)) (pa_cons (pe_un un_neg (pe_op op_pow pe_int pe_int)) (pa_cons (pe_lstB (pa_cons (pe_lstB (pa_cons pe_int pa_nil)) pa_nil)) pa_nil)))))))))))))))))
    (pss_one (ps_ret (pe_ix ix_list (pv 1) (pe_cal c_take_L hr (by decide) (by rfl) (pa_cons (pv 0) (pa_cons pe_int pa_nil))) (fun _ _ => rfl))))), ?_⟩)
  · obtain ⟨a, n, rfl, _⟩ := h
    rfl
  · obtain ⟨a, n, rfl, hB, hn, q⟩ := h
    walk_at "go"
    refine newT fun p1 H1 n1 s1 e1 => ?_
    walk_at "go"
    refine newLB fun p2 H2 n2 g2 s2 e2 => ?_
    walk_at "go"
    refine newLB fun p3 H3 n3 g3 s3 e3 => ?_
    walk_at "go"
    refine newT fun p4 H4 n4 s4 e4 => ?_
    walk_at "go"
    refine newDK fun p5 H5 n5 s5 e5 => ?_
    walk_at "go"
    refine r_disp1 (k := .inr "a") fun p6 H6 n6 s6 e6 => ?_
    walk_at "go"
    refine r_I ⟨by decide, by decide, by decide⟩ ?_
    walk_at "go"
    refine newLB fun p7 H7 n7 g7 s7 e7 => ?_
    walk_at "go"
    refine newLB fun p8 H8 n8 g8 s8 e8 => ?_
    walk_at "go"
    refine newLB fun p9 H9 n9 g9 s9 e9 => ?_
    walk_at "go"
    have hB5 := (((hB.same s1).same s2).same s3).same s4 |>.same s5
    have hB9 := (((hB5.same s6).same s7).same s8).same s9
    have b09 : But a H H9 := .of (((((((((s1.trans s2).trans s3).trans s4).trans s5).trans s6).trans s7).trans s8).trans s9))
    refine r_take hB9 fun d H10 d0 d1 hB10 b10 => ?_
    have na : ∀ {p : Addr} {o : HO}, H9 p = some o → (∀ x y z : V, o ≠ .lst [x, y, z]) → p ≠ a := fun {p o} e ne z => by
      obtain ⟨x1, y1, z1, eB, _⟩ := hB9
      rw [z, eB] at e
      exact ne _ _ _ (Option.some.inj e).symm
    have up : ∀ {p : Addr} {o : HO}, H9 p = some o → (∀ x y z : V, o ≠ .lst [x, y, z]) → H10 p = some o := fun e ne => b10 _ _ (na e ne) e
    have e1 := up (s9 _ _ (s8 _ _ (s7 _ _ (s6 _ _ (s5 _ _ (s4 _ _ (s3 _ _ (s2 _ _ e1)))))))) (by intro _ _ _ z; exact nomatch z)
    have e2 := up (s9 _ _ (s8 _ _ (s7 _ _ (s6 _ _ (s5 _ _ (s4 _ _ (s3 _ _ e2))))))) (by intro _ _ _ z; exact nomatch z)
    have e3 := up (s9 _ _ (s8 _ _ (s7 _ _ (s6 _ _ (s5 _ _ (s4 _ _ e3)))))) (by intro _ _ _ z; exact nomatch z)
    have e4 := up (s9 _ _ (s8 _ _ (s7 _ _ (s6 _ _ (s5 _ _ e4))))) (by intro _ _ _ z; exact nomatch z)
    have e5 := up (s9 _ _ (s8 _ _ (s7 _ _ (s6 _ _ e5)))) (by intro _ _ _ z; exact nomatch z)
    have e6 := up (s9 _ _ (s8 _ _ (s7 _ _ e6))) (by intro _ _ _ z; exact nomatch z)
    have n78 : p7 ≠ p8 := ne_of_none e7 n8
    have e7 := up (s9 _ _ (s8 _ _ e7)) (by intro _ _ _ z; exact nomatch z)
    have e8 := up (s9 _ _ e8) (by intro _ _ _ z; exact nomatch z)
    have ne9 : p9 ≠ a := ((hB5.same s6).same s7).same s8 |>.ne n9
    have e9' := b10 _ _ ne9 e9
    have f2 : H p2 = none := s1.free n2
    have f3 : H p3 = none := (s1.trans s2).free n3
    have f7 : H p7 = none := (((((s1.trans s2).trans s3).trans s4).trans s5).trans s6).free n7
    have f8 : H p8 = none := ((((((s1.trans s2).trans s3).trans s4).trans s5).trans s6).trans s7).free n8
    refine r_ixLo (sqL e9') d0 d1 fun v hv _ => ?_
    refine (fun z : ∃ fp, OddV H10 1 fp v ∧ ∀ b ∈ fp, H b = none => let ⟨fp, o, fr⟩ := z; q v fp H10 o fr hB10 (b09.trans b10)) ?_
    have sc : ∀ {u : V}, smS u = true → (∀ lo hi, 0 ≤ lo → wholeV u lo hi = false) → countV u = false → ∃ fp, OddV H10 1 fp u ∧ ∀ b ∈ fp, H b = none := fun h1 h2 h3 => ⟨[], .sc h1 h2 h3, fun _ z => nomatch z⟩
    have neg : ∀ {i : Int}, i < 0 → ∀ lo hi : Int, 0 ≤ lo → wholeV (.int i) lo hi = false := fun h lo hi hl => by
      show (decide _ && _) = false
      rw [decide_eq_false (by omega), Bool.false_and]
    have one : ∀ {p : Addr} {xs : List V}, H10 p = some (.lst xs) → p ≠ sysModules → xs.length ≤ 1 → (∀ y ∈ xs, smS y = true) → H p = none → ∃ fp, OddV H10 1 fp (.ref p) ∧ ∀ b ∈ fp, H b = none := fun e g l h f =>
      ⟨[_], .lst e g l (fun y hy => .inl (h y hy)) (fun z => nomatch z) (fun c z => nomatch z), fun b hb => by rw [List.mem_singleton.mp hb]; exact f⟩
    simp only [List.mem_cons, List.not_mem_nil, or_false] at hv
    rcases hv with rfl | rfl | rfl | rfl | rfl | rfl | rfl | rfl | rfl | rfl | rfl | rfl | rfl | rfl | rfl
    · exact sc rfl (fun _ _ _ => rfl) rfl
    · exact sc rfl (fun _ _ _ => rfl) rfl
    · exact sc rfl (fun _ _ _ => rfl) rfl
    · exact sc (by decide +kernel) (neg (by decide)) (by decide +kernel)
    · exact sc (by decide +kernel) (fun _ _ _ => rfl) rfl
    · exact sc (by decide +kernel) (fun _ _ _ => rfl) rfl
    · exact sc (by decide +kernel) (fun _ _ _ => rfl) rfl
    · exact ⟨[], .tup e1 (fun _ z => nomatch z) (by decide), fun _ z => nomatch z⟩
    · exact one e2 g2 (by decide) (fun _ z => nomatch z) f2
    · exact one e3 g3 (by decide) (fun y hy => by rw [List.mem_singleton.mp hy]; decide +kernel) f3
    · exact ⟨[], .tup e4 (fun y hy => by rw [List.mem_singleton.mp hy]; decide +kernel) (by decide), fun _ z => nomatch z⟩
    · exact ⟨[], .dK e5 (fun _ z => nomatch z) (by decide), fun _ z => nomatch z⟩
    · exact ⟨[], .dK e6 (fun y hy => by rw [List.mem_singleton.mp hy]; decide +kernel) (by decide), fun _ z => nomatch z⟩
    · exact sc (by decide +kernel) (neg (by decide +kernel)) (by decide +kernel)
    · refine ⟨[p8, p7], .lst e8 g8 (Nat.le_refl 1) (fun y hy => .inr ⟨p7, List.mem_cons_self, List.mem_singleton.mp hy⟩) (fun z => n78 (List.mem_singleton.mp z).symm) (fun c hc => ?_), fun b hb => ?_⟩
      · rw [List.mem_singleton.mp hc]
        exact ⟨g7, _, e7, fun y hy => by rw [List.mem_singleton.mp hy]; decide +kernel, by decide⟩
      · rcases List.mem_cons.mp hb with z | z
        · rw [z]; exact f8
        · rw [List.mem_singleton.mp z]; exact f7
end
end K24

namespace K24
open PySem PySem.Spec PyProof.Rows L2 Bk


theorem okW_set {ws : List (List V)} {k : Nat} {c : List V} {i : Int} (h : okW ws) (hc : ws[k]? = some c) (l : c.length < 200) (i0 : 0 ≤ i) (i1 : i ≤ 4095) : okW (ws.set k (c ++ [.int i])) := fun c2 hc2 => by
  rcases List.mem_or_eq_of_mem_set hc2 with z | z
  · exact h c2 z
  · subst z
    obtain ⟨l1, h1⟩ := h c (List.mem_of_getElem? hc)
    refine ⟨by rw [List.length_append]; exact l, fun v hv => ?_⟩
    rcases List.mem_append.mp hv with z | z
    · exact h1 v z
    · exact ⟨i, List.mem_singleton.mp z, i0, i1⟩
section
variable {P : Program} {w : World} {K : PySem.W.Frag} {mg : Str → Option Value} {base : Heap} {A : Ad}
theorem ok_postedL {f : Addr} {fd : FuncData} (F : Fun K "_law_posted" "_law_posted" s_posted_L f fd) (T : Txt K mg A) (c_caught_L : CalD P w K mg base CX0 7 "_law_caught" (spCaught K A) []) : FnG P w K mg base CX0 8 f fd ["_law_switch", "_law_due", "_law_gate", "_law_sign"] (spPostedL A) := by
  refine fun_okG F sc_posted_L (fun vs H Q E h => ?_) (fun cdv A' outer s H vs Q E ga hr h => ⟨_, (pss_cons (ps_set (i := 4) sc_posted_L.nd rfl (.inl rfl) (pe_cal c_caught_L hr (by decide) (by rfl) (pa_cons (pv 0) (pa_cons pe_str (pa_cons (pv 2) (pa_cons (pv 3) pa_nil))))))
    (pss_cons (ps_if (pt_cmpR op_eq (pe_callB call_len_seq (by rfl) T.m_len (by decide +kernel) (pa_cons (pe_ix ix_list (pv 1) (pv 2) (fun _ _ => rfl)) pa_nil)) pe_int (nomark _)) (pss_one (ps_ret (pe_cmpR op_eq (pe_callB (call_repr_shq ga hr) (by rfl) T.m_repr (by decide +kernel) (pa_cons (pv 4) pa_nil)) (pe_callB (call_repr_shq ga hr) (by rfl) T.m_repr (by decide +kernel) (pa_cons (pe_lstB (pa_cons pe_str (pa_cons pe_int (pa_cons pe_bl pa_nil)))) pa_nil)) (nomark _)))) pss_nil)
    (pss_cons (ps_expr (pe_bm PySem.F.plainAttrs_list PySem.F.slot_list_append PySem.F.type_list_append mt_append (pe_ix ix_list (pv 1) (pv 2) (fun _ _ => rfl)) (pa_cons (pv 3) pa_nil)))
    (pss_one (ps_ret (pe_cmpR op_eq (pe_callB (call_repr_shq ga hr) (by rfl) T.m_repr (by decide +kernel) (pa_cons (pv 4) pa_nil)) (pe_callB (call_repr_shq ga hr) (by rfl) T.m_repr (by decide +kernel) (pa_cons (pe_lstB (pa_cons pe_str (pa_cons pe_non pa_nil))) pa_nil)) (nomark _))))))), ?_⟩)
  · obtain ⟨e, k, i, rfl, _⟩ := h
    rfl
  · obtain ⟨e, k, i, rfl, hE, hk, i0, i1, q⟩ := h
    obtain ⟨ws, hS, hD, hW⟩ := hE.ex
    obtain ⟨r, c, hr1, hw1, er⟩ := hS.row hk
    have hkd : k < e.drows.length := by rw [hD.len, hS.n8]; exact hk
    have hd1 : e.drows[k]? = some e.drows[k] := List.getElem?_eq_getElem hkd
    have ed := hD.row k _ c hd1 hw1
    have mr : r ∈ e.rows := List.mem_of_getElem? hr1
    have md : e.drows[k] ∈ e.drows := List.mem_of_getElem? hd1
    have dis := List.nodup_append.mp hE.nd
    have disj : ∀ x ∈ e.o :: e.l :: e.rows, ∀ y ∈ e.d :: e.drows, x ≠ y := dis.2.2
    have rd : r ≠ e.d := disj r (List.mem_cons_of_mem _ (List.mem_cons_of_mem _ mr)) _ List.mem_cons_self
    have rdr : r ≠ e.drows[k] := disj r (List.mem_cons_of_mem _ (List.mem_cons_of_mem _ mr)) _ (List.mem_cons_of_mem _ md)
    have itd : ∀ {H' : Hp}, H' e.d = some (.lst (e.drows.map V.ref)) → atI (e.drows.map V.ref) ((k : Nat) : Int) = some (.ref e.drows[k]) := fun _ => atI_nat (by rw [List.getElem?_map, hd1]; rfl)
    obtain ⟨cl, cv⟩ := hW c (List.mem_of_getElem? hw1)
    walk_at "go"
    refine ⟨e.o, e.l, e.rows, ws, "post", .int k, .int i, rfl, hS, .inr ⟨rfl, k, i, r, c, rfl, hk, rfl, i0, i1, hr1, hw1, ?_⟩⟩
    rcases Nat.lt_or_ge c.length 200 with hl | hl
    · refine .inr ⟨hl, fun p H1 np ns b1 e1 ep => ?_⟩
      have ed1 := b1 _ _ rd.symm hD.at_
      have edr1 := b1 _ _ rdr.symm ed
      walk_at "go"
      refine r_ixL (sqL ed1) (itd ed1) ?_
      walk_at "go"
      refine ⟨e.drows[k], c, rfl, .inl (sqL edr1), ?_⟩
      walk_at "go"
      refine iteDn (by intro z; injection z with z; omega) ?_
      walk_at "go"
      refine r_ixL (sqL ed1) (itd ed1) ?_
      have npd : p ≠ e.drows[k] := (ne_of_none ed np).symm
      refine ⟨.inl ⟨rfl, _, sqL edr1⟩, _, rfl, e.drows[k], c, _, rfl, rfl, edr1, Nat.lt_trans hl (by decide), ?_⟩
      have ep2 : upd H1 e.drows[k] (.lst (c ++ [.int i])) p = some (.lst [.str "told", .non]) := by rw [upd_ne npd]; exact ep
      walk_at "go"
      have er2 : upd H1 e.drows[k] (.lst (c ++ [.int i])) r = some (.lst (c ++ [.int i])) := by rw [upd_ne rdr]; exact e1
      have hE2 : EntAt A.CS (upd H1 e.drows[k] (.lst (c ++ [.int i]))) e := by
        obtain ⟨dx, ob⟩ := hS.ob
        have nro : e.o ≠ r := fun z => (List.nodup_cons.mp dis.1).1 (by rw [z]; exact List.mem_cons_of_mem _ mr)
        have ll1 := hS.ll.put hr1 hw1 b1 e1
        have nn : ∀ b ∈ e.o :: e.l :: e.rows, b ≠ e.drows[k] := fun b hb => disj b hb _ (List.mem_cons_of_mem _ md)
        have dl1 : LL H1 e.d e.drows ws := hD.keep fun b hb => by
          have hb2 : b ≠ r := (disj r (List.mem_cons_of_mem _ (List.mem_cons_of_mem _ mr)) b hb).symm
          obtain ⟨o, eo⟩ := hE.there b (List.mem_append_right _ hb)
          rw [eo]
          exact b1 _ _ hb2 eo
        exact ⟨⟨ws.set k (c ++ [.int i]), ⟨⟨dx, by rw [upd_ne (nn _ List.mem_cons_self)]; exact b1 _ _ nro ob⟩, ll1.keep (fun b hb => upd_ne (nn b (List.mem_cons_of_mem _ hb))), by rw [List.length_set]; exact hS.n8⟩,
          dl1.put hd1 hw1 But.upd upd_same, okW_set hW hw1 hl i0 i1⟩, hE.nd⟩
      refine ⟨_, _, rfl, shq_lsc (sqL ep2) (by decide +kernel) (by decide), ?_⟩
      walk_at "go"
      refine newLB fun p3 H3 n3 g3 s3 e3 => ?_
      walk_at "go"
      refine ⟨_, _, rfl, shq_lsc (sqL e3) (by decide +kernel) (by decide), ?_⟩
      refine r_eq rfl ?_
      rw [decide_eq_true rfl]
      refine q _ (hE2.same s3) fun b o nb nd e0 => s3 _ _ ?_
      rw [upd_ne (fun z => nd (by rw [z]; exact md))]
      exact b1 _ _ (fun z => nb (by rw [z]; exact mr)) e0
    · have hl : c.length = 200 := Nat.le_antisymm cl hl
      refine .inl ⟨hl, fun p H1 np ns s1 ep => ?_⟩
      have ed1 := s1 _ _ hD.at_
      have edr1 := s1 _ _ ed
      walk_at "go"
      refine r_ixL (sqL ed1) (itd ed1) ?_
      walk_at "go"
      refine ⟨e.drows[k], c, rfl, .inl (sqL edr1), ?_⟩
      walk_at "go"
      refine iteD (by rw [hl]; rfl) ?_
      walk_at "go"
      refine ⟨_, _, rfl, shq_lsc (sqL ep) (by decide +kernel) (by decide), ?_⟩
      walk_at "go"
      refine newLB fun p3 H3 n3 g3 s3 e3 => ?_
      walk_at "go"
      refine ⟨_, _, rfl, shq_lsc (sqL e3) (by decide +kernel) (by decide), ?_⟩
      refine r_eq rfl ?_
      rw [decide_eq_true rfl]
      exact q _ ((hE.same s1).same s3) fun b o _ _ e0 => s3 _ _ (s1 _ _ e0)
theorem all_sm {c : List V} (h : ∀ v ∈ c, ∃ i : Int, v = .int i ∧ 0 ≤ i ∧ i ≤ 4095) : c.all smS = true := List.all_eq_true.mpr fun v hv => by
  obtain ⟨i, rfl, i0, i1⟩ := h v hv
  exact small_int (by omega) (by omega)
theorem ok_right {f : Addr} {fd : FuncData} (F : Fun K "_law_right" "_law_right" s_right_L f fd) (T : Txt K mg A) (c_take_L : CalD P w K mg base CX0 1 "_law_take" spTake []) (c_Switch_posted : CalM P w K mg base (L2.CX P w) 6 A.CS "posted" (spPosted K A))
    (c_Switch_how_many : CalM P w K mg base (L2.CX P w) 6 A.CS "how_many" (spHow K A)) (c_Switch_letter : CalM P w K mg base (L2.CX P w) 6 A.CS "letter" (spLetter K A)) : FnG P w K mg base CX0 7 f fd ["_law_box_here", "_law_switch", "_law_due"] (spRight A) := by
  refine fun_okG F sc_right_L (fun vs H Q E h => ?_) (fun cdv A' outer s H vs Q E ga hr h => ⟨_, (pss_cons (ps_for PassesOwn.never rfl (pi_range1 (by rfl) T.m_range (pa_cons pe_int pa_nil)) (pg_name (i := 3) sc_right_L.nd rfl (.inl rfl))
      (pss_cons (ps_set (i := 4) sc_right_L.nd rfl (.inl rfl) (pe_mth (pv 1) T.cl_Switch c_Switch_posted hr (by decide) psY (pa_cons (pv 3) pa_nil)))
    (pss_cons (ps_if (PW.pt (pw_or (pt_cmpR op_ne (pe_callB (call_repr_shq ga hr) (by rfl) T.m_repr (by decide +kernel) (pa_cons (pv 4) pa_nil)) (pe_callB (call_repr_shq ga hr) (by rfl) T.m_repr (by decide +kernel) (pa_cons (pe_ix ix_list (pv 2) (pv 3) (fun _ _ => rfl)) pa_nil)) (nomark _)) (pw_or1 (pt_cmpR op_ne (pe_callB (call_repr_shq ga hr) (by rfl) T.m_repr (by decide +kernel) (pa_cons (pe_mth (pv 1) T.cl_Switch c_Switch_how_many hr (by decide) psY (pa_cons (pv 3) pa_nil)) pa_nil)) (pe_callB (call_repr_shq ga hr) (by rfl) T.m_repr (by decide +kernel) (pa_cons (pe_callB call_len_seq (by rfl) T.m_len (by decide +kernel) (pa_cons (pe_ix ix_list (pv 2) (pv 3) (fun _ _ => rfl)) pa_nil)) pa_nil)) (nomark _))))) (pss_one (ps_ret pe_bl)) pss_nil)
    (pss_cons (ps_expr (pe_bm PySem.F.plainAttrs_list PySem.F.slot_list_append PySem.F.type_list_append mt_append (pv 4) (pa_cons pe_int pa_nil)))
    (pss_cons (ps_set (i := 5) sc_right_L.nd rfl (.inl rfl) (pe_lstB (pa_cons pe_int (pa_cons (pe_cal c_take_L hr (by decide) (by rfl) (pa_cons (pv 0) (pa_cons pe_int pa_nil))) (pa_cons (pe_callB call_len_seq (by rfl) T.m_len (by decide +kernel) (pa_cons (pe_ix ix_list (pv 2) (pv 3) (fun _ _ => rfl)) pa_nil)) (pa_cons (pe_op op_sub (pe_op op_pow pe_int pe_int) pe_int) (pa_cons (pe_callB (call_max2 rfl) (by rfl) T.m_max (by decide +kernel) (pa_cons pe_int (pa_cons (pe_op op_sub (pe_callB call_len_seq (by rfl) T.m_len (by decide +kernel) (pa_cons (pe_ix ix_list (pv 2) (pv 3) (fun _ _ => rfl)) pa_nil)) pe_int) pa_nil))) pa_nil)))))))
    (pss_cons (ps_set (i := 6) sc_right_L.nd rfl (.inl rfl) (pe_ix ix_list (pe_op op_cat (pv 5) (pe_lstB (pa_cons (pe_cal c_take_L hr (by decide) (by rfl) (pa_cons (pv 0) (pa_cons (pe_op op_add (pe_callB call_len_seq (by rfl) T.m_len (by decide +kernel) (pa_cons (pe_ix ix_list (pv 2) (pv 3) (fun _ _ => rfl)) pa_nil)) pe_int) pa_nil))) pa_nil))) (pe_cal c_take_L hr (by decide) (by rfl) (pa_cons (pv 0) (pa_cons pe_int pa_nil))) (fun _ _ => rfl)))
    (pss_cons (ps_set (i := 7) sc_right_L.nd rfl (.inl rfl) (pe_ifExp (pt_cmpR op_lt (pv 6) (pe_callB call_len_seq (by rfl) T.m_len (by decide +kernel) (pa_cons (pe_ix ix_list (pv 2) (pv 3) (fun _ _ => rfl)) pa_nil)) (nomark _)) (pe_ix ix_list (pe_ix ix_list (pv 2) (pv 3) (fun _ _ => rfl)) (pv 6) (fun _ _ => rfl)) pe_non))
    (pss_one (ps_if (pt_cmpR op_ne (pe_callB (call_repr_shq ga hr) (by rfl) T.m_repr (by decide +kernel) (pa_cons (pe_mth (pv 1) T.cl_Switch c_Switch_letter hr (by decide) psY (pa_cons (pv 3) (pa_cons (pv 6) pa_nil))) pa_nil)) (pe_callB (call_repr_shq ga hr) (by rfl) T.m_repr (by decide +kernel) (pa_cons (pv 7) pa_nil)) (nomark _)) (pss_one (ps_ret pe_bl)) pss_nil)))))))))
    (pss_one (ps_ret pe_bl))), ?_⟩)
  · obtain ⟨e, bx, n, rfl, _⟩ := h
    rfl
  · obtain ⟨e, bx, n, rfl, hE, hB, nb, hn, q⟩ := h
    walk_at "go"
    refine ⟨8, rfl, by decide, by decide, ?_⟩
    refine for_range (n := 8) (fun k σ H' => (∃ x3 x4 x5 x6 x7, σ = [some (.ref bx), some (.ref e.o), some (.ref e.d), x3, x4, x5, x6, x7]) ∧ Box bx (n + 3 * k) H' ∧ But bx H H') ⟨⟨_, _, _, _, _, rfl⟩, hB, But.refl⟩ ?_ ?_
    · rintro k σ G hk ⟨⟨x3, x4, x5, x6, x7, rfl⟩, hG, bG⟩
      have k0 : (0 : Int) + (k : Int) = (k : Int) := Int.zero_add _
      rw [k0]
      have hE1 := hE.but nb bG
      obtain ⟨ws, hS, hD, hW⟩ := hE1.ex
      obtain ⟨dx, ob⟩ := hS.ob
      obtain ⟨r, c, hr1, hw1, er⟩ := hS.row hk
      have hkd : k < e.drows.length := by rw [hD.len, hS.n8]; exact hk
      have hd1 : e.drows[k]? = some e.drows[k] := List.getElem?_eq_getElem hkd
      have ed := hD.row k _ c hd1 hw1
      have itd : atI (e.drows.map V.ref) ((k : Nat) : Int) = some (.ref e.drows[k]) := atI_nat (by rw [List.getElem?_map, hd1]; rfl)
      obtain ⟨cl, cv⟩ := hW c (List.mem_of_getElem? hw1)
      have cm := all_sm cv
      walk_at "go"
      refine ⟨e.o, dx, _, rfl, ob, no_post (by decide +kernel), ?_⟩
      walk_at "go"
      refine ⟨_, .int k, rfl, e.o, e.l, e.rows, ws, rfl, hS, .inl ⟨_, rfl⟩, .inr ⟨k, r, c, rfl, hk, hr1, hw1, er, fun p H1 np s1 e1 => ?_⟩⟩
      have npb : p ≠ bx := hG.ne np
      walk_at "go"
      refine ⟨_, _, rfl, shq_lsc (sqL e1) cm (by omega), ?_⟩
      walk_at "go"
      refine r_ixL (sqL (s1 _ _ hD.at_)) itd ?_
      refine ⟨_, _, rfl, shq_lsc (sqL (s1 _ _ ed)) cm (by omega), ?_⟩
      refine r_ne rfl ?_
      rw [decide_eq_true rfl]
      walk_at "go"
      refine ⟨e.o, dx, _, rfl, s1 _ _ ob, no_post (by decide +kernel), ?_⟩
      walk_at "go"
      have hS1 : Sw A.CS H1 e.o e.l e.rows ws := ⟨⟨dx, s1 _ _ ob⟩, hS.ll.same s1, hS.n8⟩
      refine ⟨_, .int k, rfl, e.o, e.l, e.rows, ws, rfl, hS1, .inl ⟨_, rfl⟩, .inr ⟨k, r, c, rfl, hk, hr1, hw1, s1 _ _ er, ?_⟩⟩
      have sc : smS (.int (c.length : Int)) = true := small_int (by omega) (by omega)
      refine ⟨_, _, rfl, shq_sc sc, ?_⟩
      walk_at "go"
      refine r_ixL (sqL (s1 _ _ hD.at_)) itd ?_
      refine ⟨e.drows[k], c, rfl, .inl (sqL (s1 _ _ ed)), ?_⟩
      refine ⟨_, _, rfl, shq_sc sc, ?_⟩
      refine r_ne rfl ?_
      rw [decide_eq_true rfl]
      walk_at "go"
      refine ⟨.inl ⟨rfl, _, sqL e1⟩, p, c, _, rfl, rfl, e1, Nat.lt_of_le_of_lt cl (by decide), ?_⟩
      have b1 : But bx G (upd H1 p (.lst (c ++ [.int 7]))) := but_upd (.of s1) np
      have hB1 : Box bx (n + 3 * k) (upd H1 p (.lst (c ++ [.int 7]))) := box_upd (hG.same s1) npb
      clear e1
      generalize upd H1 p (.lst (c ++ [.int 7])) = G1 at b1 hB1 ⊢
      have hn3 : n + 3 * k < 950000 := by omega
      walk_at "go"
      refine r_take hB1 fun d1 G2 d10 d11 hB2 b2 => ?_
      have hE2 := hE1.but nb (b1.trans b2)
      have ndl : e.d ≠ bx := fun z => nb (by rw [← z]; exact List.mem_append_right _ List.mem_cons_self)
      have ndr : e.drows[k] ≠ bx := fun z => nb (by rw [← z]; exact List.mem_append_right _ (List.mem_cons_of_mem _ (List.mem_of_getElem? hd1)))
      have ed2 := (b1.trans b2) _ _ ndl hD.at_
      have edr2 := (b1.trans b2) _ _ ndr ed
      walk_at "go"
      refine r_ixL (sqL ed2) itd ?_
      refine ⟨e.drows[k], c, rfl, .inl (sqL edr2), ?_⟩
      walk_at "go"
      refine r_I ⟨by decide, by decide, by decide⟩ ?_
      walk_at "go"
      refine r_ixL (sqL ed2) itd ?_
      refine ⟨e.drows[k], c, rfl, .inl (sqL edr2), ?_⟩
      walk_at "go"
      refine ⟨_, _, rfl, ?_⟩
      walk_at "go"
      refine newLB fun p3 G3 n3 g3 s3 e3 => ?_
      walk_at "go"
      refine r_ixL (sqL (s3 _ _ ed2)) itd ?_
      refine ⟨e.drows[k], c, rfl, .inl (sqL (s3 _ _ edr2)), ?_⟩
      walk_at "go"
      refine r_take (hB2.same s3) (fun d4 G4 d40 d41 hB4 b4 => ?_) (by omega) (by omega) (by omega)
      walk_at "go"
      refine newLB fun p5 G5 n5 g5 s5 e5 => ?_
      have np3 : p3 ≠ bx := hB2.ne n3
      have np5 : p5 ≠ bx := hB4.ne n5
      refine r_cat (s5 _ _ (b4 _ _ np3 e3)) e5 (fun p6 G6 n6 s6 e6 => ?_) (Nat.le_of_ble_eq_true rfl)
      walk_at "go"
      have np6 : p6 ≠ bx := (hB4.same s5).ne n6
      refine r_take ((hB4.same s5).same s6) (fun d7 G7 d70 d71 hB7 b7 => ?_) (by omega)
      refine r_ixLo (sqL (b7 _ _ np6 e6)) d70 d71 fun v hv _ => ?_
      have bb : But bx G G7 := ((((b1.trans b2).same s3).trans b4).same s5 |>.same s6).trans b7
      have hE7 := hE1.but nb bb
      have ed7 := bb _ _ ndl hD.at_
      have edr7 := bb _ _ ndr ed
      obtain ⟨j, rfl, hj⟩ : ∃ j : Nat, v = .int j ∧ (j : Int) < 10 ^ 31 := by
        simp only [List.cons_append, List.nil_append, List.mem_cons, List.not_mem_nil, or_false] at hv
        have mk : ∀ {u : Int}, 0 ≤ u → u < 10 ^ 31 → ∃ j : Nat, V.int u = .int j ∧ (j : Int) < 10 ^ 31 := fun h0 h1 => by
          obtain ⟨j, rfl⟩ := Int.eq_ofNat_of_zero_le h0
          exact ⟨j, rfl, h1⟩
        rcases hv with rfl | rfl | rfl | rfl | rfl | rfl
        · exact mk (by decide) (by decide)
        · exact mk d10 (by omega)
        · exact mk (by omega) (by omega)
        · exact mk (by decide) (by decide)
        · exact mk (by split <;> omega) (by split <;> omega)
        · exact mk d40 (by omega)
      walk_at "go"
      refine r_ixL (sqL ed7) itd ?_
      refine ⟨e.drows[k], c, rfl, .inl (sqL edr7), ?_⟩
      walk_at "go"
      obtain ⟨dx7, ob7⟩ : ∃ dx, G7 e.o = some (.ins A.CS dx [("_posted", .ref e.l)]) := ⟨dx, bb _ _ (fun z => nb (by rw [← z]; exact List.mem_append_left _ List.mem_cons_self)) ob⟩
      have hS7 : Sw A.CS G7 e.o e.l e.rows ws := ⟨⟨dx7, ob7⟩, hS.ll.keep fun b hb => by
        obtain ⟨o, eo⟩ := hE1.there b (List.mem_append_left _ (List.mem_cons_of_mem _ hb))
        rw [eo]
        exact bb _ _ (fun z => nb (z ▸ List.mem_append_left _ (List.mem_cons_of_mem _ hb))) eo, hS.n8⟩
      have er7 := hS7.ll.row k r c hr1 hw1
      have fin : ∀ {u : V}, smS u = true → (∀ (Q' : VK), Q' u G7 → (∃ v, c[j]? = some v ∧ Q' v G7) ∨ (c.length ≤ j ∧ Q' .non G7)) → True := fun _ _ => trivial
      refine iteC (fun hl => ?_) (fun hl => ?_)
      · have hjl : j < c.length := by omega
        have hcj : c[j]? = some c[j] := List.getElem?_eq_getElem hjl
        obtain ⟨ci, hci, ci0, ci1⟩ := cv _ (List.getElem_mem hjl)
        walk_at "go"
        refine r_ixL (sqL ed7) itd ?_
        walk_at "go"
        refine r_ixL (sqL edr7) (atI_nat hcj) ?_
        walk_at "go"
        refine ⟨e.o, dx7, _, rfl, ob7, no_post (by decide +kernel), ?_⟩
        walk_at "go"
        refine ⟨_, .int k, .int j, rfl, e.o, e.l, e.rows, ws, rfl, hS7, .inl ⟨_, rfl⟩, .inr ⟨k, r, c, rfl, hk, hr1, hw1, er7, .inl ⟨_, rfl⟩, .inr ⟨j, rfl, .inl ⟨c[j], hcj, ?_⟩⟩⟩⟩
        rw [hci]
        have sc := small_int (i := ci) (by omega) (by omega)
        refine ⟨_, _, rfl, shq_sc sc, ?_⟩
        walk_at "go"
        refine ⟨_, _, rfl, shq_sc sc, ?_⟩
        refine r_ne rfl ?_
        rw [decide_eq_true rfl]
        walk_at "go"
        exact ⟨⟨_, _, _, _, _, rfl⟩, hB7.mono (by omega), bG.trans bb⟩
      · walk_at "go"
        refine ⟨e.o, dx7, _, rfl, ob7, no_post (by decide +kernel), ?_⟩
        walk_at "go"
        refine ⟨_, .int k, .int j, rfl, e.o, e.l, e.rows, ws, rfl, hS7, .inl ⟨_, rfl⟩, .inr ⟨k, r, c, rfl, hk, hr1, hw1, er7, .inl ⟨_, rfl⟩, .inr ⟨j, rfl, .inr ⟨by omega, ?_⟩⟩⟩⟩
        refine ⟨_, _, rfl, shq_sc (v := .non) rfl, ?_⟩
        walk_at "go"
        refine ⟨_, _, rfl, shq_sc (v := .non) rfl, ?_⟩
        refine r_ne rfl ?_
        rw [decide_eq_true rfl]
        walk_at "go"
        exact ⟨⟨_, _, _, _, _, rfl⟩, hB7.mono (by omega), bG.trans bb⟩
    · rintro σ G ⟨⟨x3, x4, x5, x6, x7, rfl⟩, hG, bG⟩
      walk_at "go"
      exact q G (hG.mono (by omega)) bG
end
end K24

namespace K24
open PySem PySem.Spec PyProof.Rows L2 Bk


def spRefusedR (A : Ad) : Sp := fun vs H Q _ => ∃ (e : Ent) (bx : Addr) (n : Nat), vs = [.ref bx, .ref e.o, .ref e.d] ∧ EntAt A.CS H e ∧ Box bx n H ∧ bx ∉ e.fp ∧ n < 900000 ∧ ∀ H', Box bx (n + 4) H' → But bx H H' → Q (.bl true) H'
/-- all but what stands at these is as it was -/
def Fr (S : List Addr) (H H' : Hp) : Prop := ∀ b o, b ∉ S → H b = some o → H' b = some o
def Th (v1 v2 : V) (u : V) : Prop := u = v1 ∨ u = v2 ∨ ∃ i : Int, u = .int i ∧ i.natAbs ≤ 10 ^ 30
def RowV (v1 v2 : V) (g : Nat) (far : Int) (deed : Str) (one two : V) (tag : Str) (v : V) : Prop := Th v1 v2 one ∧ Th v1 v2 two ∧
  (((one = v1 ∨ one = .int far) ∧ tag = "number" ∧ v = one) ∨ (one = .int g ∧ v = two ∧ ((deed = "post" ∧ tag = "word" ∧ (two = v2 ∨ two = .int 4096)) ∨ (deed = "letter" ∧ tag = "number" ∧ two = v2))))
def RowOk (S : List Addr) (v1 v2 : V) (g : Nat) (far : Int) (H : Hp) (y : V) : Prop := ∃ (t told : Addr) (deed : Str) (one two : V) (tag : Str) (v : V), y = .ref t ∧ H t = some (.tup [.str deed, one, two, .ref told]) ∧ H told = some (.lst [.str tag, v, .bl true]) ∧ told ≠ sysModules ∧ told ∉ S ∧ RowV v1 v2 g far deed one two tag v ∧ smS (.str tag) = true
theorem RowOk.same {S : List Addr} {v1 v2 : V} {g : Nat} {far : Int} {H H' : Hp} {y : V} (h : RowOk S v1 v2 g far H y) (s : Same H H') : RowOk S v1 v2 g far H' y := by
  obtain ⟨t, told, deed, one, two, tag, v, a, b, c, d⟩ := h
  exact ⟨t, told, deed, one, two, tag, v, a, s _ _ b, s _ _ c, d⟩
theorem th_int {v1 v2 : V} {i : Int} (h : i.natAbs ≤ 10 ^ 30) : Th v1 v2 (.int i) := .inr (.inr ⟨i, rfl, h⟩)
section
variable {P : Program} {w : World} {K : PySem.W.Frag} {mg : Str → Option Value} {base : Heap} {A : Ad}
theorem ok_refused {f : Addr} {fd : FuncData} (F : Fun K "_law_refused_right" "_law_refused_right" s_refused_right_L f fd) (T : Txt K mg A) (c_take_L : CalD P w K mg base CX0 1 "_law_take" spTake []) (c_odd_L : CalD P w K mg base CX0 2 "_law_odd" spOdd [])
    (c_caught_L : CalD P w K mg base CX0 7 "_law_caught" (spCaught K A) []) : FnG P w K mg base CX0 8 f fd ["_law_box_here", "_law_switch", "_law_due"] (spRefusedR A) := by
  refine fun_okG F sc_refused_right_L (fun vs H Q E h => ?_) (fun cdv A' outer s H vs Q E ga hr h => ⟨_, (pss_cons (ps_par (i := 3) (j := 4) rfl sc_refused_right_L.nd rfl rfl (by decide) rfl rfl (pa_cons (pe_cal c_odd_L hr (by decide) (by rfl) (pa_cons (pv 0) pa_nil)) (pa_cons (pe_cal c_odd_L hr (by decide) (by rfl) (pa_cons (pv 0) pa_nil)) pa_nil)) (by rfl))
    (pss_cons (ps_par (i := 5) (j := 6) rfl sc_refused_right_L.nd rfl rfl (by decide) rfl rfl (pa_cons (pe_cal c_take_L hr (by decide) (by rfl) (pa_cons (pv 0) (pa_cons pe_int pa_nil))) (pa_cons (pe_ix ix_list (pe_lstB (pa_cons pe_int (pa_cons pe_int (pa_cons (pe_op op_pow pe_int pe_int) pa_nil)))) (pe_cal c_take_L hr (by decide) (by rfl) (pa_cons (pv 0) (pa_cons pe_int pa_nil))) (fun _ _ => rfl)) pa_nil)) (by rfl))
    (pss_cons (ps_set (i := 7) sc_refused_right_L.nd rfl (.inl rfl) (pe_lstB (pa_cons (pe_tup (pa_cons pe_str (pa_cons (pv 3) (pa_cons pe_int (pa_cons (pe_lstB (pa_cons pe_str (pa_cons (pv 3) (pa_cons pe_bl pa_nil)))) pa_nil))))) (pa_cons (pe_tup (pa_cons pe_str (pa_cons (pv 6) (pa_cons (pv 3) (pa_cons (pe_lstB (pa_cons pe_str (pa_cons (pv 6) (pa_cons pe_bl pa_nil)))) pa_nil))))) pa_nil))))
    (pss_cons (ps_set (i := 7) sc_refused_right_L.nd rfl (.inl rfl) (pe_op op_cat (pv 7) (pe_lstB (pa_cons (pe_tup (pa_cons pe_str (pa_cons (pv 3) (pa_cons (pv 4) (pa_cons (pe_lstB (pa_cons pe_str (pa_cons (pv 3) (pa_cons pe_bl pa_nil)))) pa_nil))))) (pa_cons (pe_tup (pa_cons pe_str (pa_cons (pv 5) (pa_cons (pv 4) (pa_cons (pe_lstB (pa_cons pe_str (pa_cons (pv 4) (pa_cons pe_bl pa_nil)))) pa_nil))))) pa_nil)))))
    (pss_cons (ps_set (i := 7) sc_refused_right_L.nd rfl (.inl rfl) (pe_op op_cat (pv 7) (pe_lstB (pa_cons (pe_tup (pa_cons pe_str (pa_cons (pv 5) (pa_cons pe_int (pa_cons (pe_lstB (pa_cons pe_str (pa_cons pe_int (pa_cons pe_bl pa_nil)))) pa_nil))))) (pa_cons (pe_tup (pa_cons pe_str (pa_cons (pv 3) (pa_cons (pv 4) (pa_cons (pe_lstB (pa_cons pe_str (pa_cons (pv 3) (pa_cons pe_bl pa_nil)))) pa_nil))))) pa_nil)))))
    (pss_cons (ps_set (i := 7) sc_refused_right_L.nd rfl (.inl rfl) (pe_op op_cat (pv 7) (pe_lstB (pa_cons (pe_tup (pa_cons pe_str (pa_cons (pv 5) (pa_cons (pv 4) (pa_cons (pe_lstB (pa_cons pe_str (pa_cons (pv 4) (pa_cons pe_bl pa_nil)))) pa_nil))))) (pa_cons (pe_tup (pa_cons pe_str (pa_cons (pv 6) (pa_cons pe_int (pa_cons (pe_lstB (pa_cons pe_str (pa_cons (pv 6) (pa_cons pe_bl pa_nil)))) pa_nil))))) pa_nil)))))
    (pss_cons (ps_set (i := 7) sc_refused_right_L.nd rfl (.inl rfl) (pe_op op_cat (pv 7) (pe_lstB (pa_cons (pe_tup (pa_cons pe_str (pa_cons (pv 3) (pa_cons pe_int (pa_cons (pe_lstB (pa_cons pe_str (pa_cons (pv 3) (pa_cons pe_bl pa_nil)))) pa_nil))))) (pa_cons (pe_tup (pa_cons pe_str (pa_cons (pv 6) (pa_cons pe_int (pa_cons (pe_lstB (pa_cons pe_str (pa_cons (pv 6) (pa_cons pe_bl pa_nil)))) pa_nil))))) pa_nil)))))
    (pss_cons (ps_set (i := 7) sc_refused_right_L.nd rfl (.inl rfl) (pe_op op_cat (pv 7) (pe_lstB (pa_cons (pe_tup (pa_cons pe_str (pa_cons (pv 3) (pa_cons pe_int (pa_cons (pe_lstB (pa_cons pe_str (pa_cons (pv 3) (pa_cons pe_bl pa_nil)))) pa_nil))))) (pa_cons (pe_tup (pa_cons pe_str (pa_cons (pv 6) (pa_cons pe_int (pa_cons (pe_lstB (pa_cons pe_str (pa_cons (pv 6) (pa_cons pe_bl pa_nil)))) pa_nil))))) pa_nil)))))
    (pss_cons (ps_for PassesOwn.never rfl (pi_list (pv 7)) (pg_tup rfl (pgs_cons (pg_name (i := 8) sc_refused_right_L.nd rfl (.inl rfl)) (pgs_cons (pg_name (i := 9) sc_refused_right_L.nd rfl (.inl rfl)) (pgs_cons (pg_name (i := 10) sc_refused_right_L.nd rfl (.inl rfl)) (pgs_cons (pg_name (i := 11) sc_refused_right_L.nd rfl (.inl rfl)) pgs_nil)))))
      (pss_cons (ps_set (i := 12) sc_refused_right_L.nd rfl (.inl rfl) (pe_cal c_caught_L hr (by decide) (by rfl) (pa_cons (pv 1) (pa_cons (pv 8) (pa_cons (pv 9) (pa_cons (pv 10) pa_nil))))))
    (pss_cons (ps_for PassesOwn.never rfl (pi_list (pe_lstB (pa_cons (pv 9) (pa_cons (pv 10) pa_nil)))) (pg_name (i := 13) sc_refused_right_L.nd rfl (.inl rfl))
      (pss_one (ps_if (pt_val (pe_callB call_is (by rfl) T.m_isinstance (by decide +kernel) (pa_cons (pv 13) (pa_cons (pe_bltn (v := .ty "list") (by rfl) T.m_list (by decide +kernel) rfl) pa_nil)))) (pss_one (ps_expr (pe_bm PySem.F.plainAttrs_list PySem.F.slot_list_append PySem.F.type_list_append mt_append (pv 13) (pa_cons pe_int pa_nil)))) pss_nil)))
    (pss_one (ps_if (pt_cmpR op_ne (pe_callB (call_repr_shq ga hr) (by rfl) T.m_repr (by decide +kernel) (pa_cons (pv 12) pa_nil)) (pe_callB (call_repr_shq ga hr) (by rfl) T.m_repr (by decide +kernel) (pa_cons (pv 11) pa_nil)) (nomark _)) (pss_one (ps_ret pe_bl)) pss_nil)))))
    (pss_one (ps_ret pe_bl))))))))))), ?_⟩)
  · obtain ⟨e, bx, n, rfl, _⟩ := h
    rfl
  · obtain ⟨e, bx, n, rfl, hE, hB, nb, hn, q⟩ := h
    have q : ∀ H', Box bx (n + 4) H' → But bx H H' → Q (.bl true) H' := q
    obtain ⟨bxs, ebx⟩ : ∃ xs, H bx = some (.lst xs) := by
      obtain ⟨x, y, z, eB, _⟩ := hB
      exact ⟨_, eB⟩
    walk_at "go"
    refine ⟨bx, n, rfl, hB, by omega, fun v1 fp1 H1 o1 fr1 hB1 b1 => ?_⟩
    walk_at "go"
    refine ⟨bx, n + 1, rfl, hB1, by omega, fun v2 fp2 H2 o2 fr2 hB2 b2 => ?_⟩
    have bn1 : bx ∉ fp1 := fun z => by rw [fr1 _ z] at ebx; exact nomatch ebx
    obtain ⟨bxs1, ebx1⟩ : ∃ xs, H1 bx = some (.lst xs) := by
      obtain ⟨x, y, z, eB, _⟩ := hB1
      exact ⟨_, eB⟩
    have bn2 : bx ∉ fp2 := fun z => by rw [fr2 _ z] at ebx1; exact nomatch ebx1
    have dis : ∀ b ∈ fp1, b ∉ fp2 := fun b h1 h2 => by
      obtain ⟨xs, e1⟩ := o1.there b h1
      rw [fr2 b h2] at e1
      exact nomatch e1
    have fr2' : ∀ b ∈ fp2, H b = none := fun b hb => but_none b1 (fun z => bn2 (z ▸ hb)) (fr2 b hb)
    have o1 := o1.but ebx1 bn1 b2
    walk_at "go"
    refine ⟨_, _, rfl, ?_⟩
    walk_at "go"
    refine r_take hB2 fun g H3 g0 g1 hB3 b3 => ?_
    obtain ⟨g, rfl⟩ := Int.eq_ofNat_of_zero_le g0
    have hg : g < 8 := by omega
    walk_at "go"
    refine r_I ⟨by decide, by decide, by decide⟩ ?_
    walk_at "go"
    refine newLB fun p4 H4 n4 g4 s4 e4 => ?_
    walk_at "go"
    refine r_take (hB3.same s4) fun d5 H5 d50 d51 hB5 b5 => ?_
    have np4 : p4 ≠ bx := hB3.ne n4
    refine r_ixLo (sqL (b5 _ _ np4 e4)) d50 d51 fun far hfar _ => ?_
    have hfar : ∃ u : Int, far = .int u ∧ u.natAbs ≤ 10 ^ 30 ∧ 8 ≤ u := by
      simp only [List.mem_cons, List.not_mem_nil, or_false] at hfar
      rcases hfar with rfl | rfl | rfl
      · exact ⟨_, rfl, by decide, by decide⟩
      · exact ⟨_, rfl, by decide, by decide⟩
      · exact ⟨_, rfl, by decide, by decide⟩
    obtain ⟨far, rfl, far0, far1⟩ := hfar
    have nb2 : ∀ {m : Nat} {G : Hp}, Box bx m G → ∃ xs, G bx = some (.lst xs) := fun hB => by
      obtain ⟨x, y, z, eB, _⟩ := hB
      exact ⟨_, eB⟩
    have o1 : OddV H5 1 fp1 v1 := by
      obtain ⟨xs, ez⟩ := nb2 hB2
      obtain ⟨xs2, ez2⟩ := nb2 (hB3.same s4)
      exact ((o1.but ez bn1 b3).same s4).but ez2 bn1 b5
    have o2 : OddV H5 1 fp2 v2 := by
      obtain ⟨xs, ez⟩ := nb2 hB2
      obtain ⟨xs2, ez2⟩ := nb2 (hB3.same s4)
      exact ((o2.but ez bn2 b3).same s4).but ez2 bn2 b5
    have b05 : But bx H H5 := (((b1.trans b2).trans b3).same s4).trans b5
    clear b1 b2 b3 b5 s4 hB1 hB2 hB3 e4 ebx1
    walk_at "go"
    refine ⟨_, _, rfl, ?_⟩
    walk_at "go"
    have nS : ∀ {G : Hp} {p : Addr}, Same H5 G → G p = none → p ∉ fp1 ++ fp2 := fun {G p} s np z => by
      rcases List.mem_append.mp z with z | z
      · obtain ⟨xs, ez⟩ := o1.there _ z
        rw [s _ _ ez] at np
        exact nomatch np
      · obtain ⟨xs, ez⟩ := o2.there _ z
        rw [s _ _ ez] at np
        exact nomatch np
    have tg1 : smS (.str "number") = true := by decide +kernel
    have tg2 : smS (.str "word") = true := by decide +kernel
    have t1 : Th v1 v2 v1 := .inl rfl
    have t2 : Th v1 v2 v2 := .inr (.inl rfl)
    have tf : Th v1 v2 (.int far) := th_int far0
    have t5 : Th v1 v2 (.int 5) := th_int (by decide)
    have t0 : Th v1 v2 (.int 0) := th_int (by decide)
    have tm : Th v1 v2 (.int 4096) := th_int (by decide)
    have tg : Th v1 v2 (.int (g : Int)) := th_int (by omega)
    walk_at "go"
    refine newLB fun a1 A1 na1 ga1 sa1 ea1 => ?_
    walk_at "go"
    refine newT fun b1 B1 nb1 sb1 eb1 => ?_
    walk_at "go"
    refine newLB fun c1 C1 nc1 gc1 sc1 ec1 => ?_
    walk_at "go"
    refine newT fun d1 D1 nd1 sd1 ed1 => ?_
    walk_at "go"
    refine newLB fun l1 L1 nl1 gl1 sl1 el1 => ?_
    have sk1 : Same H5 L1 := (((sa1.trans sb1).trans sc1).trans sd1).trans sl1
    have r1 : ∀ y ∈ ([.ref b1, .ref d1] : List V), RowOk (fp1 ++ fp2) v1 v2 g far L1 y := fun y hy => by
      simp only [List.mem_cons, List.not_mem_nil, or_false] at hy
      rcases hy with rfl | rfl
      · exact ⟨b1, a1, _, _, _, _, _, rfl, sl1 _ _ (sd1 _ _ (sc1 _ _ eb1)), sl1 _ _ (sd1 _ _ (sc1 _ _ (sb1 _ _ ea1))), ga1, nS (Same.refl H5) na1, ⟨t1, t5, .inl ⟨.inl rfl, rfl, rfl⟩⟩, tg1⟩
      · exact ⟨d1, c1, _, _, _, _, _, rfl, sl1 _ _ ed1, sl1 _ _ (sd1 _ _ ec1), gc1, nS ((Same.refl H5).trans (sa1.trans sb1)) nc1, ⟨tf, t1, .inl ⟨.inr rfl, rfl, rfl⟩⟩, tg1⟩
    have ss1 : Same H5 L1 := sk1
    have ro1 := r1
    have en1 := el1
    clear ea1 eb1 ec1 ed1 el1 r1
    walk_at "go"
    refine newLB fun a2 A2 na2 ga2 sa2 ea2 => ?_
    walk_at "go"
    refine newT fun b2 B2 nb2 sb2 eb2 => ?_
    walk_at "go"
    refine newLB fun c2 C2 nc2 gc2 sc2 ec2 => ?_
    walk_at "go"
    refine newT fun d2 D2 nd2 sd2 ed2 => ?_
    walk_at "go"
    refine newLB fun l2 L2 nl2 gl2 sl2 el2 => ?_
    have sk2 : Same L1 L2 := (((sa2.trans sb2).trans sc2).trans sd2).trans sl2
    have r2 : ∀ y ∈ ([.ref b2, .ref d2] : List V), RowOk (fp1 ++ fp2) v1 v2 g far L2 y := fun y hy => by
      simp only [List.mem_cons, List.not_mem_nil, or_false] at hy
      rcases hy with rfl | rfl
      · exact ⟨b2, a2, _, _, _, _, _, rfl, sl2 _ _ (sd2 _ _ (sc2 _ _ eb2)), sl2 _ _ (sd2 _ _ (sc2 _ _ (sb2 _ _ ea2))), ga2, nS ss1 na2, ⟨t1, t2, .inl ⟨.inl rfl, rfl, rfl⟩⟩, tg1⟩
      · exact ⟨d2, c2, _, _, _, _, _, rfl, sl2 _ _ ed2, sl2 _ _ (sd2 _ _ ec2), gc2, nS (ss1.trans (sa2.trans sb2)) nc2, ⟨tg, t2, .inr ⟨rfl, rfl, .inl ⟨rfl, rfl, .inl rfl⟩⟩⟩, tg2⟩
    refine r_cat (sk2 _ _ en1) el2 (fun p2 P2 np2 sp2 en2 => ?_) (Nat.le_of_ble_eq_true rfl)
    have ss2 : Same H5 P2 := (ss1.trans sk2).trans sp2
    have ro2 := fun y (hy : y ∈ _ ++ _) => (List.mem_append.mp hy).elim (fun z => (ro1 y z).same (sk2.trans sp2)) (fun z => (r2 y z).same sp2)
    have nq2 : p2 ∉ fp1 ++ fp2 := nS (ss1.trans sk2) np2
    clear ea2 eb2 ec2 ed2 el2 r2
    walk_at "go"
    refine newLB fun a3 A3 na3 ga3 sa3 ea3 => ?_
    walk_at "go"
    refine newT fun b3 B3 nb3 sb3 eb3 => ?_
    walk_at "go"
    refine newLB fun c3 C3 nc3 gc3 sc3 ec3 => ?_
    walk_at "go"
    refine newT fun d3 D3 nd3 sd3 ed3 => ?_
    walk_at "go"
    refine newLB fun l3 L3 nl3 gl3 sl3 el3 => ?_
    have sk3 : Same P2 L3 := (((sa3.trans sb3).trans sc3).trans sd3).trans sl3
    have r3 : ∀ y ∈ ([.ref b3, .ref d3] : List V), RowOk (fp1 ++ fp2) v1 v2 g far L3 y := fun y hy => by
      simp only [List.mem_cons, List.not_mem_nil, or_false] at hy
      rcases hy with rfl | rfl
      · exact ⟨b3, a3, _, _, _, _, _, rfl, sl3 _ _ (sd3 _ _ (sc3 _ _ eb3)), sl3 _ _ (sd3 _ _ (sc3 _ _ (sb3 _ _ ea3))), ga3, nS ss2 na3, ⟨tg, tm, .inr ⟨rfl, rfl, .inl ⟨rfl, rfl, .inr rfl⟩⟩⟩, tg2⟩
      · exact ⟨d3, c3, _, _, _, _, _, rfl, sl3 _ _ ed3, sl3 _ _ (sd3 _ _ ec3), gc3, nS (ss2.trans (sa3.trans sb3)) nc3, ⟨t1, t2, .inl ⟨.inl rfl, rfl, rfl⟩⟩, tg1⟩
    refine r_cat (sk3 _ _ en2) el3 (fun p3 P3 np3 sp3 en3 => ?_) (Nat.le_of_ble_eq_true rfl)
    have ss3 : Same H5 P3 := (ss2.trans sk3).trans sp3
    have ro3 := fun y (hy : y ∈ _ ++ _) => (List.mem_append.mp hy).elim (fun z => (ro2 y z).same (sk3.trans sp3)) (fun z => (r3 y z).same sp3)
    have nq3 : p3 ∉ fp1 ++ fp2 := nS (ss2.trans sk3) np3
    clear ea3 eb3 ec3 ed3 el3 r3
    walk_at "go"
    refine newLB fun a4 A4 na4 ga4 sa4 ea4 => ?_
    walk_at "go"
    refine newT fun b4 B4 nb4 sb4 eb4 => ?_
    walk_at "go"
    refine newLB fun c4 C4 nc4 gc4 sc4 ec4 => ?_
    walk_at "go"
    refine newT fun d4 D4 nd4 sd4 ed4 => ?_
    walk_at "go"
    refine newLB fun l4 L4 nl4 gl4 sl4 el4 => ?_
    have sk4 : Same P3 L4 := (((sa4.trans sb4).trans sc4).trans sd4).trans sl4
    have r4 : ∀ y ∈ ([.ref b4, .ref d4] : List V), RowOk (fp1 ++ fp2) v1 v2 g far L4 y := fun y hy => by
      simp only [List.mem_cons, List.not_mem_nil, or_false] at hy
      rcases hy with rfl | rfl
      · exact ⟨b4, a4, _, _, _, _, _, rfl, sl4 _ _ (sd4 _ _ (sc4 _ _ eb4)), sl4 _ _ (sd4 _ _ (sc4 _ _ (sb4 _ _ ea4))), ga4, nS ss3 na4, ⟨tg, t2, .inr ⟨rfl, rfl, .inr ⟨rfl, rfl, rfl⟩⟩⟩, tg1⟩
      · exact ⟨d4, c4, _, _, _, _, _, rfl, sl4 _ _ ed4, sl4 _ _ (sd4 _ _ ec4), gc4, nS (ss3.trans (sa4.trans sb4)) nc4, ⟨tf, t0, .inl ⟨.inr rfl, rfl, rfl⟩⟩, tg1⟩
    refine r_cat (sk4 _ _ en3) el4 (fun p4 P4 np4 sp4 en4 => ?_) (Nat.le_of_ble_eq_true rfl)
    have ss4 : Same H5 P4 := (ss3.trans sk4).trans sp4
    have ro4 := fun y (hy : y ∈ _ ++ _) => (List.mem_append.mp hy).elim (fun z => (ro3 y z).same (sk4.trans sp4)) (fun z => (r4 y z).same sp4)
    have nq4 : p4 ∉ fp1 ++ fp2 := nS (ss3.trans sk4) np4
    clear ea4 eb4 ec4 ed4 el4 r4
    walk_at "go"
    refine newLB fun a5 A5 na5 ga5 sa5 ea5 => ?_
    walk_at "go"
    refine newT fun b5 B5 nb5 sb5 eb5 => ?_
    walk_at "go"
    refine newLB fun c5 C5 nc5 gc5 sc5 ec5 => ?_
    walk_at "go"
    refine newT fun d5 D5 nd5 sd5 ed5 => ?_
    walk_at "go"
    refine newLB fun l5 L5 nl5 gl5 sl5 el5 => ?_
    have sk5 : Same P4 L5 := (((sa5.trans sb5).trans sc5).trans sd5).trans sl5
    have r5 : ∀ y ∈ ([.ref b5, .ref d5] : List V), RowOk (fp1 ++ fp2) v1 v2 g far L5 y := fun y hy => by
      simp only [List.mem_cons, List.not_mem_nil, or_false] at hy
      rcases hy with rfl | rfl
      · exact ⟨b5, a5, _, _, _, _, _, rfl, sl5 _ _ (sd5 _ _ (sc5 _ _ eb5)), sl5 _ _ (sd5 _ _ (sc5 _ _ (sb5 _ _ ea5))), ga5, nS ss4 na5, ⟨t1, t0, .inl ⟨.inl rfl, rfl, rfl⟩⟩, tg1⟩
      · exact ⟨d5, c5, _, _, _, _, _, rfl, sl5 _ _ ed5, sl5 _ _ (sd5 _ _ ec5), gc5, nS (ss4.trans (sa5.trans sb5)) nc5, ⟨tf, t0, .inl ⟨.inr rfl, rfl, rfl⟩⟩, tg1⟩
    refine r_cat (sk5 _ _ en4) el5 (fun p5 P5 np5 sp5 en5 => ?_) (Nat.le_of_ble_eq_true rfl)
    have ss5 : Same H5 P5 := (ss4.trans sk5).trans sp5
    have ro5 := fun y (hy : y ∈ _ ++ _) => (List.mem_append.mp hy).elim (fun z => (ro4 y z).same (sk5.trans sp5)) (fun z => (r5 y z).same sp5)
    have nq5 : p5 ∉ fp1 ++ fp2 := nS (ss4.trans sk5) np5
    clear ea5 eb5 ec5 ed5 el5 r5
    walk_at "go"
    refine newLB fun a6 A6 na6 ga6 sa6 ea6 => ?_
    walk_at "go"
    refine newT fun b6 B6 nb6 sb6 eb6 => ?_
    walk_at "go"
    refine newLB fun c6 C6 nc6 gc6 sc6 ec6 => ?_
    walk_at "go"
    refine newT fun d6 D6 nd6 sd6 ed6 => ?_
    walk_at "go"
    refine newLB fun l6 L6 nl6 gl6 sl6 el6 => ?_
    have sk6 : Same P5 L6 := (((sa6.trans sb6).trans sc6).trans sd6).trans sl6
    have r6 : ∀ y ∈ ([.ref b6, .ref d6] : List V), RowOk (fp1 ++ fp2) v1 v2 g far L6 y := fun y hy => by
      simp only [List.mem_cons, List.not_mem_nil, or_false] at hy
      rcases hy with rfl | rfl
      · exact ⟨b6, a6, _, _, _, _, _, rfl, sl6 _ _ (sd6 _ _ (sc6 _ _ eb6)), sl6 _ _ (sd6 _ _ (sc6 _ _ (sb6 _ _ ea6))), ga6, nS ss5 na6, ⟨t1, t0, .inl ⟨.inl rfl, rfl, rfl⟩⟩, tg1⟩
      · exact ⟨d6, c6, _, _, _, _, _, rfl, sl6 _ _ ed6, sl6 _ _ (sd6 _ _ ec6), gc6, nS (ss5.trans (sa6.trans sb6)) nc6, ⟨tf, t0, .inl ⟨.inr rfl, rfl, rfl⟩⟩, tg1⟩
    refine r_cat (sk6 _ _ en5) el6 (fun p6 P6 np6 sp6 en6 => ?_) (Nat.le_of_ble_eq_true rfl)
    have ss6 : Same H5 P6 := (ss5.trans sk6).trans sp6
    have ro6 := fun y (hy : y ∈ _ ++ _) => (List.mem_append.mp hy).elim (fun z => (ro5 y z).same (sk6.trans sp6)) (fun z => (r6 y z).same sp6)
    have nq6 : p6 ∉ fp1 ++ fp2 := nS (ss5.trans sk6) np6
    clear ea6 eb6 ec6 ed6 el6 r6
    obtain ⟨xs, exs, rox, lx⟩ : ∃ xs, P6 p6 = some (.lst xs) ∧ (∀ y ∈ xs, RowOk (fp1 ++ fp2) v1 v2 g far P6 y) ∧ xs.length = 12 := ⟨_, en6, ro6, rfl⟩
    clear en1 en2 en3 en4 en5 en6 ro1 ro2 ro3 ro4 ro5 ro6
    have hB6 : Box bx (n + 4) P6 := hB5.same ss6
    have b06 : But bx H P6 := b05.same ss6
    have o16 := o1.same ss6
    have o26 := o2.same ss6
    have hE6 := hE.but nb b06
    have eS : ∀ b ∈ e.fp, b ∉ fp1 ++ fp2 := fun b hb z => by
      obtain ⟨o, eo⟩ := hE.there b hb
      rcases List.mem_append.mp z with z | z
      · rw [fr1 b z] at eo; exact nomatch eo
      · rw [fr2' b z] at eo; exact nomatch eo
    have lS : ∀ {b : Addr} {u : HO}, P6 b = some u → (∀ xs, u ≠ .lst xs) → b ∉ fp1 ++ fp2 := fun {b u} eu ne z => by
      rcases List.mem_append.mp z with z | z
      · obtain ⟨xs, ez⟩ := o16.there b z
        rw [ez] at eu; exact ne _ (Option.some.inj eu).symm
      · obtain ⟨xs, ez⟩ := o26.there b z
        rw [ez] at eu; exact ne _ (Option.some.inj eu).symm
    have bS : bx ∉ fp1 ++ fp2 := fun z => (List.mem_append.mp z).elim bn1 bn2
    walk_at "go"
    refine ⟨p6, rfl, ⟨xs, sqL exs⟩, for_list (K := K) (a := p6) (xs := xs) (fun i σ H' => (∃ x8 x9 x10 x11 x12 x13, σ = [some (.ref bx), some (.ref e.o), some (.ref e.d), some v1, some v2, some (.int g), some (.int far), some (.ref p6), x8, x9, x10, x11, x12, x13]) ∧ Fr (fp1 ++ fp2) P6 H' ∧ OddV H' (1 + 2 * i) fp1 v1 ∧ OddV H' (1 + 2 * i) fp2 v2)
      ⟨⟨_, _, _, _, _, _, rfl⟩, fun _ _ _ e => e, o16, o26⟩ (fun i σ H' _ ⟨_, fr, _⟩ => sqL (fr _ _ nq6 exs)) ?_ ?_⟩
    · rintro i y σ G hi ⟨⟨x8, x9, x10, x11, x12, x13, rfl⟩, fr, oa, ob⟩
      have hi12 : i < 12 := by rw [← lx]; exact (List.getElem?_eq_some_iff.mp hi).1
      obtain ⟨t, told, deed, one, two, tag, v, rfl, et, etold, tns, tS, hrow, tgs⟩ := rox y (List.mem_of_getElem? hi)
      have et := fr _ _ (lS et (fun _ z => nomatch z)) et
      have etold := fr _ _ tS etold
      refine ⟨t, _, rfl, sqT et, rfl, .str deed, _, rfl, one, _, rfl, two, _, rfl, .ref told, _, rfl, rfl, ?_⟩
      obtain ⟨th1, th2, hrow⟩ := hrow
      obtain ⟨wc1, cf1, wf1⟩ := oa.wc (K := K)
      obtain ⟨wc2, cf2, wf2⟩ := ob.wc (K := K)
      have hR : Ref K G deed one two tag v := by
        rcases hrow with ⟨ho, rfl, rfl⟩ | ⟨rfl, rfl, hw⟩
        · rcases ho with rfl | rfl
          · exact .port wc1.wd (wf1 0 7 (by decide))
          · refine .port (.inl ⟨_, rfl⟩) ?_
            show (decide (0 ≤ far) && decide (far ≤ 7)) = false
            rw [decide_eq_false (show ¬ far ≤ 7 by omega), Bool.and_false]
        · rcases hw with ⟨rfl, rfl, ho⟩ | ⟨rfl, rfl, rfl⟩
          · rcases ho with rfl | rfl
            · exact .word hg wc2.wd (wf2 0 4095 (by decide))
            · exact .word hg (.inl ⟨_, rfl⟩) (by decide)
          · exact .number hg wc2 cf2
      have hv : Th v1 v2 v := by
        rcases hrow with ⟨_, _, rfl⟩ | ⟨_, rfl, _⟩
        · exact th1
        · exact th2
      have hEG : EntAt A.CS G e := hE6.keep fun b hb => by
        obtain ⟨o, eo⟩ := hE6.there b hb
        rw [eo]
        exact fr _ _ (eS b hb) eo
      obtain ⟨ws, hS, hD, hW⟩ := hEG.ex
      walk_at "go"
      refine ⟨e.o, e.l, e.rows, ws, deed, one, two, rfl, hS, .inl ⟨tag, v, hR, fun p G1 np ns s1 e1 => ?_⟩⟩
      walk_at "go"
      refine newLB fun q2 G2 n2 k2 s2 e2 => ?_
      have npS : ∀ {c : Addr}, G c = none → c ∉ fp1 ++ fp2 := fun nc z => by
        rcases List.mem_append.mp z with z | z
        · obtain ⟨xs, ez⟩ := oa.there _ z
          rw [ez] at nc; exact nomatch nc
        · obtain ⟨xs, ez⟩ := ob.there _ z
          rw [ez] at nc; exact nomatch nc
      have pS := npS np
      have qS := npS (s1.free n2)
      walk_at "go"
      refine ⟨q2, rfl, ⟨_, sqL e2⟩, for_list (K := K) (a := q2) (xs := [one, two]) (fun j σ H' => (∃ x13, σ = [some (.ref bx), some (.ref e.o), some (.ref e.d), some v1, some v2, some (.int g), some (.int far), some (.ref p6), some (.str deed), some one, some two, some (.ref told), some (.ref p), x13]) ∧ Fr (fp1 ++ fp2) G2 H' ∧ OddV H' (1 + 2 * i + j) fp1 v1 ∧ OddV H' (1 + 2 * i + j) fp2 v2)
        ⟨⟨_, rfl⟩, fun _ _ _ e => e, (oa.same s1).same s2, (ob.same s1).same s2⟩ (fun j σ H' _ ⟨_, fr2, _⟩ => sqL (fr2 _ _ qS e2)) ?_ ?_⟩
      · rintro j y σ G3 hj ⟨⟨x13, rfl⟩, fr3, oa3, ob3⟩
        have hj2 : j < 2 := (List.getElem?_eq_some_iff.mp hj).1
        have hy : Th v1 v2 y := by
          have hm := List.mem_of_getElem? hj
          simp only [List.mem_cons, List.not_mem_nil, or_false] at hm
          rcases hm with rfl | rfl
          · exact th1
          · exact th2
        have no : ∀ {G' : Hp}, IsA K G3 y "list" false → (IsA K G3 y "list" false → G' = G3) → True := fun _ _ => trivial
        walk_at "go"
        have skip : OddV G3 (1 + 2 * i + (j + 1)) fp1 v1 ∧ OddV G3 (1 + 2 * i + (j + 1)) fp2 v2 := ⟨oa3.keep (fun _ _ => rfl) (fun _ _ e => e) (fun _ _ e => e) (by omega), ob3.keep (fun _ _ => rfl) (fun _ _ e => e) (fun _ _ e => e) (by omega)⟩
        rcases hy with rfl | rfl | ⟨u, rfl, _⟩
        · rcases oa3.isl (K := K) with ⟨h0, _⟩ | ⟨a, ys, rfl, ea, ma, la⟩
          · refine r_is h0 ?_
            walk_at "go"
            exact ⟨⟨_, rfl⟩, fr3, skip⟩
          · refine r_is (isa_lst ea (b := true)) ?_
            walk_at "go"
            refine ⟨.inl ⟨rfl, _, sqL ea⟩, a, ys, _, rfl, rfl, ea, Nat.lt_of_le_of_lt la (Nat.lt_of_lt_of_le (show _ < 100 by omega) (by decide)), ?_⟩
            refine ⟨⟨_, rfl⟩, fun b o nb eb => ?_, oa3.grow ea (by decide +kernel) (.inl rfl), ob3.grow ea (by decide +kernel) (.inr (dis a ma))⟩
            have hne : b ≠ a := fun z => nb (List.mem_append_left _ (by rw [z]; exact ma))
            rw [upd_ne hne]
            exact fr3 _ _ nb eb
        · rcases ob3.isl (K := K) with ⟨h0, _⟩ | ⟨a, ys, rfl, ea, ma, la⟩
          · refine r_is h0 ?_
            walk_at "go"
            exact ⟨⟨_, rfl⟩, fr3, skip⟩
          · refine r_is (isa_lst ea (b := true)) ?_
            walk_at "go"
            refine ⟨.inl ⟨rfl, _, sqL ea⟩, a, ys, _, rfl, rfl, ea, Nat.lt_of_le_of_lt la (Nat.lt_of_lt_of_le (show _ < 100 by omega) (by decide)), ?_⟩
            refine ⟨⟨_, rfl⟩, fun b o nb eb => ?_, oa3.grow ea (by decide +kernel) (.inr (fun z => dis a z ma)), ob3.grow ea (by decide +kernel) (.inl rfl)⟩
            have hne : b ≠ a := fun z => nb (List.mem_append_right _ (by rw [z]; exact ma))
            rw [upd_ne hne]
            exact fr3 _ _ nb eb
        · refine r_is (isa_int (b := false)) ?_
          walk_at "go"
          exact ⟨⟨_, rfl⟩, fr3, skip⟩
      · rintro σ G3 ⟨⟨x13, rfl⟩, fr3, oa3, ob3⟩
        have oa3 : OddV G3 (1 + 2 * i + 2) fp1 v1 := oa3
        have ob3 : OddV G3 (1 + 2 * i + 2) fp2 v2 := ob3
        have ep3 := fr3 _ _ pS (s2 _ _ e1)
        have et3 := fr3 _ _ tS (s2 _ _ (s1 _ _ etold))
        have itv : ItQ true K G3 (2000 + 700 * (1 + 2 * i + 2)) v := by
          rcases hv with rfl | rfl | ⟨u, rfl, hu⟩
          · exact oa3.it
          · exact ob3.it
          · exact (itq_int (Nat.lt_of_le_of_lt hu (by decide))).mono (by omega)
        obtain ⟨z, z1, z2⟩ := shq_lst2 (b := true) (K := K) (m := 30000) (sqL ep3) (sqL et3) (fun _ => ns) (fun _ => tns) (fun y hy => by
          simp only [List.mem_cons, List.not_mem_nil, or_false] at hy
          rcases hy with rfl | rfl | rfl
          · exact (itq_sc tgs).mono (by omega)
          · exact itv.mono (by omega)
          · exact (itq_sc rfl).mono (by omega)) (by show 30001 * 3 ≤ 390000; decide)
        walk_at "go"
        refine ⟨_, z, rfl, z1, ?_⟩
        walk_at "go"
        refine ⟨_, z, rfl, z2, ?_⟩
        refine r_ne rfl ?_
        rw [decide_eq_true rfl]
        walk_at "go"
        exact ⟨⟨_, _, _, _, _, _, rfl⟩, fun b o nb eb => fr3 _ _ nb (s2 _ _ (s1 _ _ (fr _ _ nb eb))), oa3, ob3⟩
    · rintro σ G ⟨⟨x8, x9, x10, x11, x12, x13, rfl⟩, fr, oa, ob⟩
      walk_at "go"
      obtain ⟨u1, u2, u3, eB, hbx⟩ := hB6
      refine q G ⟨u1, u2, u3, fr _ _ bS eB, hbx⟩ fun b o nb2 eb => fr _ _ (fun z => ?_) (b06 _ _ nb2 eb)
      rcases List.mem_append.mp z with z | z
      · rw [fr1 b z] at eb; exact nomatch eb
      · rw [fr2' b z] at eb; exact nomatch eb
end
end K24

namespace K24
open PySem PySem.Spec PyProof.Rows L2 Bk


def spLaw (K : PySem.W.Frag) : Sp := fun vs H Q _ => ∃ (a : Addr) (ns : List Int), vs = [.ref a] ∧ SqL K H a (ns.map V.int) ∧ ns.length ≤ 63 ∧ ∀ H', Q (.bl true) H'
/-- the hall: pairs of a Switch and its lists, all apart -/
structure Hall (C : Addr) (H : Hp) (h : Addr) (es : List Ent) : Prop where
  ex : ∃ ts : List Addr, H h = some (.lst (ts.map V.ref)) ∧ ts.length = es.length ∧ ∀ (k : Nat) (t : Addr) (e : Ent), ts[k]? = some t → es[k]? = some e → H t = some (.tup [.ref e.o, .ref e.d])
  ent : ∀ e ∈ es, EntAt C H e
  dis : es.Pairwise fun x y => ∀ b ∈ x.fp, b ∉ y.fp
  nh : ∀ e ∈ es, h ∉ e.fp
  n : 1 ≤ es.length ∧ es.length ≤ 5
theorem Hall.keep {C : Addr} {H H' : Hp} {h : Addr} {es : List Ent} (x : Hall C H h es) (kh : H' h = H h) (kt : ∀ t xs, H t = some (.tup xs) → H' t = some (.tup xs)) (ke : ∀ e ∈ es, EntAt C H' e) : Hall C H' h es := by
  obtain ⟨ts, e1, e2, e3⟩ := x.ex
  exact ⟨⟨ts, by rw [kh]; exact e1, e2, fun k t e a b => kt _ _ (e3 k t e a b)⟩, ke, x.dis, x.nh, x.n⟩
theorem Hall.same {C : Addr} {H H' : Hp} {h : Addr} {es : List Ent} (x : Hall C H h es) (s : Same H H') : Hall C H' h es := by
  obtain ⟨ts, e1, _⟩ := x.ex
  exact x.keep (by rw [e1]; exact s _ _ e1) (fun _ _ e => s _ _ e) fun e he => (x.ent e he).same s
/-- a box that is none of it -/
def Off (bx h : Addr) (es : List Ent) : Prop := bx ≠ h ∧ ∀ e ∈ es, bx ∉ e.fp
theorem Hall.but {C bx : Addr} {n : Nat} {H H' : Hp} {h : Addr} {es : List Ent} (x : Hall C H h es) (o : Off bx h es) (hB : Box bx n H) (b : But bx H H') : Hall C H' h es := by
  obtain ⟨ts, e1, _⟩ := x.ex
  exact x.keep (by rw [e1]; exact b _ _ o.1.symm e1) (fun t xs e => b _ _ (hB.ne_tup e) e) fun e he => (x.ent e he).but (o.2 e he) b
theorem Hall.off {C bx : Addr} {H : Hp} {h : Addr} {es : List Ent} (x : Hall C H h es) (n : H bx = none) : Off bx h es := by
  obtain ⟨ts, e1, _⟩ := x.ex
  refine ⟨(ne_of_none e1 n).symm, fun e he z => ?_⟩
  obtain ⟨o, eo⟩ := (x.ent e he).there bx z
  rw [n] at eo
  exact nomatch eo
/-- one of them is posted for -/
theorem Hall.post {C : Addr} {H H' : Hp} {h : Addr} {es : List Ent} {e : Ent} (x : Hall C H h es) (he : e ∈ es) (hE : EntAt C H' e) (fr : ∀ b o, b ∉ e.rows → b ∉ e.drows → H b = some o → H' b = some o) : Hall C H' h es := by
  have sub1 : ∀ {e : Ent} {b : Addr}, b ∈ e.rows → b ∈ e.fp := fun z => List.mem_append_left _ (List.mem_cons_of_mem _ (List.mem_cons_of_mem _ z))
  have sub2 : ∀ {e : Ent} {b : Addr}, b ∈ e.drows → b ∈ e.fp := fun z => List.mem_append_right _ (List.mem_cons_of_mem _ z)
  obtain ⟨ts, e1, e2, e3⟩ := x.ex
  have hx := x.ent e he
  refine x.keep ?_ (fun t xs et => fr _ _ (fun z => ?_) (fun z => ?_) et) fun e2 he2 => ?_
  · rw [e1]
    exact fr _ _ (fun z => x.nh e he (sub1 z)) (fun z => x.nh e he (sub2 z)) e1
  · obtain ⟨ws, hS, hD, _⟩ := hx.ex
    obtain ⟨k, hk⟩ := List.getElem?_of_mem z
    have : k < ws.length := by rw [← hS.ll.len]; exact (List.getElem?_eq_some_iff.mp hk).1
    rw [hS.ll.row k t _ hk (List.getElem?_eq_getElem this)] at et
    exact nomatch et
  · obtain ⟨ws, hS, hD, _⟩ := hx.ex
    obtain ⟨k, hk⟩ := List.getElem?_of_mem z
    have : k < ws.length := by rw [← hD.len]; exact (List.getElem?_eq_some_iff.mp hk).1
    rw [hD.row k t _ hk (List.getElem?_eq_getElem this)] at et
    exact nomatch et
  · by_cases q : e2 = e
    · rw [q]; exact hE
    · have ap : ∀ b ∈ e2.fp, b ∉ e.fp := by
        obtain ⟨i, hi, rfl⟩ := List.getElem_of_mem he
        obtain ⟨j, hj, rfl⟩ := List.getElem_of_mem he2
        have pw := List.pairwise_iff_getElem.mp x.dis
        rcases Nat.lt_trichotomy i j with l | l | l
        · exact fun b h1 h2 => pw i j hi hj l b h2 h1
        · subst l; exact absurd rfl q
        · exact pw j i hj hi l
      refine (x.ent e2 he2).keep fun b hb => ?_
      obtain ⟨o, eo⟩ := (x.ent e2 he2).there b hb
      rw [eo]
      exact fr _ _ (fun z => ap b hb (sub1 z)) (fun z => ap b hb (sub2 z)) eo
theorem blank_ok : okW blank8 := fun c hc => by
  rw [List.eq_of_mem_replicate hc]
  exact ⟨Nat.zero_le _, fun _ z => nomatch z⟩
theorem Sw.apart {C : Addr} {H : Hp} {x l : Addr} {rows : List Addr} {ws : List (List V)} (s : Sw C H x l rows ws) : (x :: l :: rows).Nodup := by
  obtain ⟨dx, ob⟩ := s.ob
  refine List.nodup_cons.mpr ⟨fun z => ?_, s.ll.nd⟩
  rcases List.mem_cons.mp z with z | z
  · have e := s.ll.at_
    rw [← z, ob] at e
    exact nomatch e
  · obtain ⟨k, hk⟩ := List.getElem?_of_mem z
    have hk2 : k < ws.length := by rw [← s.ll.len]; exact (List.getElem?_eq_some_iff.mp hk).1
    have e := s.ll.row k x _ hk (List.getElem?_eq_getElem hk2)
    rw [ob] at e
    exact nomatch e
theorem Sw.there {C : Addr} {H : Hp} {x l : Addr} {rows : List Addr} {ws : List (List V)} (s : Sw C H x l rows ws) : ∀ b ∈ x :: l :: rows, ∃ o, H b = some o := fun b hb => by
  obtain ⟨dx, ob⟩ := s.ob
  rcases List.mem_cons.mp hb with z | z
  · exact ⟨_, by rw [z]; exact ob⟩
  · rcases List.mem_cons.mp z with z | z
    · exact ⟨_, by rw [z]; exact s.ll.at_⟩
    · obtain ⟨k, hk⟩ := List.getElem?_of_mem z
      have hk2 : k < ws.length := by rw [← s.ll.len]; exact (List.getElem?_eq_some_iff.mp hk).1
      exact ⟨_, s.ll.row k b _ hk (List.getElem?_eq_getElem hk2)⟩
theorem mkEnt {C : Addr} {H0 H1 H2 : Hp} {x l D : Addr} {rows ts : List Addr} {ws : List (List V)} (s : Sw C H1 x l rows ws) (f1 : ∀ b ∈ x :: l :: rows, H0 b = none) (s01 : Same H0 H1) (s12 : Same H1 H2) (eD : H2 D = some (.lst (ts.map V.ref))) (len : ts.length = ws.length)
    (all : ∀ (k : Nat) (t : Addr), ts[k]? = some t → H2 t = some (.lst (ws.getD k []))) (nd : (D :: ts).Nodup) (fD : H1 D = none) (ft : ∀ t ∈ ts, H1 t = none) (ok : okW ws) : EntAt C H2 ⟨x, l, rows, D, ts⟩ ∧ ∀ b ∈ (⟨x, l, rows, D, ts⟩ : Ent).fp, H0 b = none := by
  have fr : ∀ b ∈ D :: ts, H1 b = none := fun b hb => by
    rcases List.mem_cons.mp hb with z | z
    · rw [z]; exact fD
    · exact ft b z
  refine ⟨⟨⟨ws, ⟨s.ob.elim fun dx ob => ⟨dx, s12 _ _ ob⟩, s.ll.same s12, s.n8⟩, ⟨eD, len, fun k r c hk hc => ?_, nd⟩, ok⟩, ?_⟩, fun b hb => ?_⟩
  · rw [all k r hk, List.getD_eq_getElem?_getD, hc]
    rfl
  · refine List.nodup_append.mpr ⟨s.apart, nd, fun a ha b hb q => ?_⟩
    obtain ⟨o, eo⟩ := s.there a ha
    have z := fr b hb
    have q : a = b := q
    rw [← q, eo] at z
    exact nomatch z
  · rcases List.mem_append.mp hb with z | z
    · exact f1 b z
    · exact s01.free (fr b z)
theorem Hall.push {C : Addr} {H H1 : Hp} {h t : Addr} {es : List Ent} {ts : List Addr} {e : Ent} (x : Hall C H h es) (e1 : H h = some (.lst (ts.map V.ref))) (e2 : ts.length = es.length) (e3 : ∀ (k : Nat) (t : Addr) (e : Ent), ts[k]? = some t → es[k]? = some e → H t = some (.tup [.ref e.o, .ref e.d]))
    (s : Same H H1) (he : EntAt C H1 e) (fe : ∀ b ∈ e.fp, H b = none) (et : H1 t = some (.tup [.ref e.o, .ref e.d])) (l : es.length < 5) : Hall C (upd H1 h (.lst (ts.map V.ref ++ [.ref t]))) h (es ++ [e]) := by
  have hh : H1 h = some (.lst (ts.map V.ref)) := s _ _ e1
  have ne : ∀ {b : Addr} {o : HO}, H1 b = some o → (∀ xs, o ≠ .lst xs) → b ≠ h := fun {b o} eb n z => by
    rw [z, hh] at eb
    exact n _ (Option.some.inj eb).symm
  have nhe : h ∉ e.fp := fun z => by rw [fe h z] at e1; exact nomatch e1
  refine ⟨⟨ts ++ [t], by rw [upd_same, List.map_append]; rfl, by rw [List.length_append, List.length_append, e2]; rfl, fun k u e' hk he' => ?_⟩, fun e' he' => ?_, ?_, fun e' he' => ?_, by rw [List.length_append]; exact ⟨Nat.le_add_left _ _, l⟩⟩
  · by_cases hk2 : k < ts.length
    · rw [List.getElem?_append_left hk2] at hk
      rw [List.getElem?_append_left (by rw [← e2]; exact hk2)] at he'
      have z := s _ _ (e3 k u e' hk he')
      rw [upd_ne (ne z (fun _ q => nomatch q))]
      exact z
    · have hk3 : k = ts.length := by
        have := (List.getElem?_eq_some_iff.mp hk).1
        rw [List.length_append] at this
        have h1 : [t].length = 1 := rfl
        omega
      subst hk3
      rw [List.getElem?_append_right (Nat.le_refl _), Nat.sub_self] at hk
      rw [List.getElem?_append_right (by rw [e2]; exact Nat.le_refl _), e2, Nat.sub_self] at he'
      obtain rfl := Option.some.inj hk
      obtain rfl := Option.some.inj he'
      rw [upd_ne (ne et (fun _ q => nomatch q))]
      exact et
  · rcases List.mem_append.mp he' with z | z
    · have nn := x.nh e' z
      exact ((x.ent e' z).same s).keep fun b hb => upd_ne fun q => nn (q ▸ hb)
    · rw [List.mem_singleton.mp z]
      exact he.keep fun b hb => upd_ne fun q => nhe (q ▸ hb)
  · refine List.pairwise_append.mpr ⟨x.dis, List.pairwise_singleton _ _, fun a ha b hb c hc hc2 => ?_⟩
    rw [List.mem_singleton.mp hb] at hc2
    obtain ⟨o, eo⟩ := (x.ent a ha).there c hc
    rw [fe c hc2] at eo
    exact nomatch eo
  · rcases List.mem_append.mp he' with z | z
    · exact x.nh e' z
    · rw [List.mem_singleton.mp z]; exact nhe
section
variable {P : Program} {w : World} {K : PySem.W.Frag} {mg : Str → Option Value} {base : Heap} {A : Ad}
theorem ok_law {f : Addr} {fd : FuncData} (F : Fun K "law" "law" s_law f fd) (T : Txt K mg A) (c_cell_L : CalD P w K mg base CX0 1 "_law_cell" (spCell K) []) (c_box_L : CalD P w K mg base CX0 1 "_law_box" spBox []) (c_take_L : CalD P w K mg base CX0 1 "_law_take" spTake [])
    (c_Switch_init : CalC P w K mg base CX0 1 A.CS "Switch" (spSwInit A)) (c_Switch_twin : CalM P w K mg base CX0 3 A.CS "twin" (spTwin A)) (c_posted_L : CalG P w K mg base CX0 8 "_law_posted" (spPostedL A)) (c_refused_right_L : CalG P w K mg base CX0 8 "_law_refused_right" (spRefusedR A))
    (c_right_L : CalG P w K mg base CX0 7 "_law_right" (spRight A)) : FnG P w K mg base CX0 9 f fd ["_law_script"] (spLaw K) := by
  refine fun_okG F sc_law (fun vs H Q E h => ?_) (fun cdv A' outer s H vs Q E ga hr h => ⟨_, (pss_cons (ps_set (i := 1) sc_law.nd rfl (.inl rfl) (pe_cal c_box_L hr (by decide) (by rfl) (pa_cons (pe_cal c_cell_L hr (by decide) (by rfl) (pa_cons (pv 0) (pa_cons pe_int pa_nil))) pa_nil)))
    (pss_cons (ps_set (i := 2) sc_law.nd rfl (.inl rfl) (pe_cal c_take_L hr (by decide) (by rfl) (pa_cons (pv 1) (pa_cons pe_int pa_nil))))
    (pss_cons (ps_set (i := 4) sc_law.nd rfl (.inl rfl) (pe_lstB (pa_cons (pe_tup (pa_cons (pe_mk0 c_Switch_init hr (by decide) (by rfl) ps0) (pa_cons (pe_lc (own := [("_law_gate", 3)]) rfl sc_law.nd (pi_range1 (by rfl) T.m_range (pa_cons pe_int pa_nil)) (blkOk_by (N := ["_law_script", "_law_box_here", "_law_large", "_law_gate", "_law_hall", "_law_k", "_law_elder", "_law_there", "_law_words", "_law_switch", "_law_due", "_law_lone", "_law_turn", "_law_one"]) (sc := defScope s_law) (by decide +kernel)) (fun _ _ _ _ _ => (pg_name (i := 3) sc_law.nd rfl (.inl rfl))) (fun _ _ _ _ _ => pts_nil) (fun _ _ _ _ _ => (pe_lstB pa_nil))) pa_nil))) (pa_cons (pe_tup (pa_cons (pe_mk0 c_Switch_init hr (by decide) (by rfl) ps0) (pa_cons (pe_lc (own := [("_law_gate", 3)]) rfl sc_law.nd (pi_range1 (by rfl) T.m_range (pa_cons pe_int pa_nil)) (blkOk_by (N := ["_law_script", "_law_box_here", "_law_large", "_law_gate", "_law_hall", "_law_k", "_law_elder", "_law_there", "_law_words", "_law_switch", "_law_due", "_law_lone", "_law_turn", "_law_one"]) (sc := defScope s_law) (by decide +kernel)) (fun _ _ _ _ _ => (pg_name (i := 3) sc_law.nd rfl (.inl rfl))) (fun _ _ _ _ _ => pts_nil) (fun _ _ _ _ _ => (pe_lstB pa_nil))) pa_nil))) pa_nil))))
    (C8.pss_cut (ps_if (pt_cmpR op_eq (pv 2) pe_int (nomark _)) (pss_cons (ps_set (i := 3) sc_law.nd rfl (.inl rfl) (pe_cal c_take_L hr (by decide) (by rfl) (pa_cons (pv 1) (pa_cons pe_int pa_nil))))
    (pss_one (ps_for PassesOwn.never rfl (pi_range1 (by rfl) T.m_range (pa_cons (pe_op op_add pe_int (pe_cal c_take_L hr (by decide) (by rfl) (pa_cons (pv 1) (pa_cons pe_int pa_nil)))) pa_nil)) (pg_name (i := 5) sc_law.nd rfl (.inl rfl))
      (pss_one (ps_if (pt_not (pt_val (pe_calG c_posted_L ga hr (by decide) (by rfl) (pa_cons (pe_ix ix_tup (pe_ix ix_list (pv 4) pe_int (fun _ _ => rfl)) pe_int (fun _ _ => rfl)) (pa_cons (pe_ix ix_tup (pe_ix ix_list (pv 4) pe_int (fun _ _ => rfl)) pe_int (fun _ _ => rfl)) (pa_cons (pv 3) (pa_cons (pe_op op_sub pe_int (pe_op op_mulW pe_int (pv 5))) pa_nil))))))) (pss_one (ps_ret pe_bl)) pss_nil))))) pss_nil)
    (pss_cons (ps_for PassesOwn.never rfl (pi_range2 (by rfl) T.m_range (pa_cons pe_int (pa_cons (pe_callB (call_max2 rfl) (by rfl) T.m_max (by decide +kernel) (pa_cons pe_int (pa_cons (pe_callB (call_min2 rfl) (by rfl) T.m_min (by decide +kernel) (pa_cons (pe_callB call_len_seq (by rfl) T.m_len (by decide +kernel) (pa_cons (pv 0) pa_nil)) (pa_cons pe_int pa_nil))) pa_nil))) pa_nil))) (pg_name (i := 5) sc_law.nd rfl (.inl rfl))
      (pss_cons (ps_set (i := 1) sc_law.nd rfl (.inl rfl) (pe_cal c_box_L hr (by decide) (by rfl) (pa_cons (pe_cal c_cell_L hr (by decide) (by rfl) (pa_cons (pv 0) (pa_cons (pv 5) pa_nil))) pa_nil)))
    (C8.pss_cut (ps_if (PW.pt (pw_and (pt_cmpR op_lt (pe_callB call_len_seq (by rfl) T.m_len (by decide +kernel) (pa_cons (pv 4) pa_nil)) pe_int (nomark _)) (pw_and1 (pt_cmpR op_eq (pe_cal c_take_L hr (by decide) (by rfl) (pa_cons (pv 1) (pa_cons pe_int pa_nil))) pe_int (nomark _))))) (pss_cons (ps_asg (pe_ix ix_list (pv 4) (pe_ix ix_list (pe_lstB (pa_cons pe_int (pa_cons (pe_cal c_take_L hr (by decide) (by rfl) (pa_cons (pv 1) (pa_cons (pe_callB call_len_seq (by rfl) T.m_len (by decide +kernel) (pa_cons (pv 4) pa_nil)) pa_nil))) pa_nil))) (pe_cal c_take_L hr (by decide) (by rfl) (pa_cons (pv 1) (pa_cons pe_int pa_nil))) (fun _ _ => rfl)) (fun _ _ => rfl)) (pg_tup rfl (pgs_cons (pg_name (i := 6) sc_law.nd rfl (.inl rfl)) (pgs_cons (pg_name (i := 7) sc_law.nd rfl (.inl rfl)) pgs_nil))))
    (pss_one (ps_expr (pe_bm PySem.F.plainAttrs_list PySem.F.slot_list_append PySem.F.type_list_append mt_append (pv 4) (pa_cons (pe_tup (pa_cons (pe_mth0 (pv 6) T.cl_Switch c_Switch_twin hr (by decide) ps0) (pa_cons (pe_lc (own := [("_law_words", 8)]) rfl sc_law.nd (pi_list (pv 7)) (blkOk_by (N := ["_law_script", "_law_box_here", "_law_large", "_law_gate", "_law_hall", "_law_k", "_law_elder", "_law_there", "_law_words", "_law_switch", "_law_due", "_law_lone", "_law_turn", "_law_one"]) (sc := defScope s_law) (by decide +kernel)) (fun _ _ _ _ _ => (pg_name (i := 8) sc_law.nd rfl (.inl rfl))) (fun _ _ _ _ _ => pts_nil) (fun _ _ _ _ _ => (pe_callTy (call_list_ofK (K := K) rfl) (by rfl) T.m_list (by decide +kernel) (pa_cons (pv 8) pa_nil)))) pa_nil))) pa_nil))))) pss_nil)
    (pss_cons (ps_asg (pe_ix ix_list (pv 4) (pe_cal c_take_L hr (by decide) (by rfl) (pa_cons (pv 1) (pa_cons (pe_callB call_len_seq (by rfl) T.m_len (by decide +kernel) (pa_cons (pv 4) pa_nil)) pa_nil))) (fun _ _ => rfl)) (pg_tup rfl (pgs_cons (pg_name (i := 9) sc_law.nd rfl (.inl rfl)) (pgs_cons (pg_name (i := 10) sc_law.nd rfl (.inl rfl)) pgs_nil))))
    (pss_cons (ps_set (i := 11) sc_law.nd rfl (.inl rfl) (pe_cal c_take_L hr (by decide) (by rfl) (pa_cons (pv 1) (pa_cons pe_int pa_nil))))
    (pss_cons (ps_for PassesOwn.never rfl (pi_range1 (by rfl) T.m_range (pa_cons (pe_op op_add pe_int (pe_cal c_take_L hr (by decide) (by rfl) (pa_cons (pv 1) (pa_cons pe_int pa_nil)))) pa_nil)) (pg_name (i := 12) sc_law.nd rfl (.inl rfl))
      (pss_cons (ps_set (i := 3) sc_law.nd rfl (.inl rfl) (pe_ifExp (pt_cmpR op_eq (pe_cal c_take_L hr (by decide) (by rfl) (pa_cons (pv 1) (pa_cons pe_int pa_nil))) pe_int (nomark _)) (pv 11) (pe_cal c_take_L hr (by decide) (by rfl) (pa_cons (pv 1) (pa_cons pe_int pa_nil)))))
    (pss_one (ps_if (pt_not (pt_val (pe_calG c_posted_L ga hr (by decide) (by rfl) (pa_cons (pv 9) (pa_cons (pv 10) (pa_cons (pv 3) (pa_cons (pe_ix ix_list (pe_lstB (pa_cons pe_int (pa_cons pe_int (pa_cons (pe_cal c_take_L hr (by decide) (by rfl) (pa_cons (pv 1) (pa_cons pe_int pa_nil))) pa_nil)))) (pe_cal c_take_L hr (by decide) (by rfl) (pa_cons (pv 1) (pa_cons pe_int pa_nil))) (fun _ _ => rfl)) pa_nil))))))) (pss_one (ps_ret pe_bl)) pss_nil))))
    (pss_cons (ps_if (pt_not (pt_val (pe_calG c_refused_right_L ga hr (by decide) (by rfl) (pa_cons (pv 1) (pa_cons (pv 9) (pa_cons (pv 10) pa_nil)))))) (pss_one (ps_ret pe_bl)) pss_nil)
    (pss_one (ps_for PassesOwn.never rfl (pi_list (pv 4)) (pg_tup rfl (pgs_cons (pg_name (i := 13) sc_law.nd rfl (.inl rfl)) (pgs_cons (pg_name (i := 8) sc_law.nd rfl (.inl rfl)) pgs_nil)))
      (pss_one (ps_if (pt_not (pt_val (pe_calG c_right_L ga hr (by decide) (by rfl) (pa_cons (pv 1) (pa_cons (pv 13) (pa_cons (pv 8) pa_nil)))))) (pss_one (ps_ret pe_bl)) pss_nil)))))))))))
    (pss_one (ps_ret pe_bl))))))), ?_⟩)
  · obtain ⟨a, ns, rfl, _⟩ := h
    rfl
  · obtain ⟨a, ns, rfl, hS, hl, q⟩ := h
    walk_at "go"
    refine ⟨a, ns, 0, rfl, hS, by decide, fun c => ?_⟩
    walk_at "go"
    refine ⟨c, rfl, fun bx H1 nbx s1 hB => ?_⟩
    walk_at "go"
    refine r_take hB fun lg H2 lg0 lg1 hB2 b2 => ?_
    have s2 := butSame s1 nbx b2
    walk_at "go"
    intro x1 dx1 nx1 ndx1 nex1
    have t0 : Same H2 (upd (upd H2 dx1 (.own x1)) x1 (.ins A.CS dx1 [])) := fun b o e => by
      rw [upd_ne (ne_of_none e nx1), upd_ne (ne_of_none e ndx1)]
      exact e
    refine ⟨x1, dx1, rfl, upd_same, fun l1 rows1 H3 b3 hS3 fr3 => ⟨rfl, ?_⟩⟩
    have s23 : Same H2 H3 := fun b o e => b3 _ _ (ne_of_none e nx1) (t0 _ _ e)
    have f3 : ∀ b ∈ x1 :: l1 :: rows1, H2 b = none := fun b hb => by
      rcases List.mem_cons.mp hb with z | z
      · rw [z]; exact nx1
      · exact t0.free (fr3 b z)
    refine lcNewR (n := 8) (fun _ => .lst []) (by decide) (fun _ => rfl) (fun i G Q' hi sm k => ?_) fun D1 H4 ts1 nD1 s34 eD1 len1 all1 nd1 fr4 => ?_
    · walk_at "go"
      exact newLB fun p G2 np ns s2 e2 => k p G2 np s2 e2
    obtain ⟨E1, F1⟩ := mkEnt (H0 := H2) hS3 f3 s23 s34 eD1 len1 (fun k t hk => by
      rw [all1 k t hk]
      unfold blank8
      rw [List.getD_eq_getElem?_getD, List.getElem?_eq_getElem (by rw [List.length_replicate, ← len1]; exact (List.getElem?_eq_some_iff.mp hk).1), List.getElem_replicate]
      rfl) nd1 nD1 fr4 blank_ok
    have s24 : Same H2 H4 := s23.trans s34
    clear hS3 f3 fr3 fr4 all1 nd1 nD1 b3 t0 eD1 len1
    walk_at "go"
    refine newT fun t1 H5 nt1 s45 et1 => ?_
    walk_at "go"
    intro x2 dx2 nx2 ndx2 nex2
    have t0 : Same H5 (upd (upd H5 dx2 (.own x2)) x2 (.ins A.CS dx2 [])) := fun b o e => by
      rw [upd_ne (ne_of_none e nx2), upd_ne (ne_of_none e ndx2)]
      exact e
    refine ⟨x2, dx2, rfl, upd_same, fun l2 rows2 H6 b6 hS6 fr6 => ⟨rfl, ?_⟩⟩
    have s56 : Same H5 H6 := fun b o e => b6 _ _ (ne_of_none e nx2) (t0 _ _ e)
    have f6 : ∀ b ∈ x2 :: l2 :: rows2, H5 b = none := fun b hb => by
      rcases List.mem_cons.mp hb with z | z
      · rw [z]; exact nx2
      · exact t0.free (fr6 b z)
    refine lcNewR (n := 8) (fun _ => .lst []) (by decide) (fun _ => rfl) (fun i G Q' hi sm k => ?_) fun D2 H7 ts2 nD2 s67 eD2 len2 all2 nd2 fr7 => ?_
    · walk_at "go"
      exact newLB fun p G2 np ns s2 e2 => k p G2 np s2 e2
    obtain ⟨E2, F2⟩ := mkEnt (H0 := H5) hS6 f6 s56 s67 eD2 len2 (fun k t hk => by
      rw [all2 k t hk]
      unfold blank8
      rw [List.getD_eq_getElem?_getD, List.getElem?_eq_getElem (by rw [List.length_replicate, ← len2]; exact (List.getElem?_eq_some_iff.mp hk).1), List.getElem_replicate]
      rfl) nd2 nD2 fr7 blank_ok
    have s57 : Same H5 H7 := s56.trans s67
    clear hS6 f6 fr6 fr7 all2 nd2 nD2 b6 t0 eD2 len2
    walk_at "go"
    refine newT fun t2 H8 nt2 s78 et2 => ?_
    walk_at "go"
    refine newLB fun h H9 nh gh s89 eh => ?_
    have s59 : Same H5 H9 := (s57.trans s78).trans s89
    have s9 : Same H H9 := ((s2.trans s24).trans s45).trans s59
    obtain ⟨es, hH, hF, hO⟩ : ∃ es : List Ent, Hall A.CS H9 h es ∧ (∀ e ∈ es, ∀ b ∈ e.fp, H b = none) ∧ Off bx h es := by
      obtain ⟨u1, u2, u3, eBx, _⟩ := hB2
      have E1' := E1.same (s45.trans s59)
      have E2' := E2.same (s78.trans s89)
      refine ⟨[⟨x1, l1, rows1, D1, ts1⟩, ⟨x2, l2, rows2, D2, ts2⟩], ⟨⟨[t1, t2], eh, rfl, fun k t e hk he => ?_⟩, fun e he => ?_, ?_, fun e he z => ?_, by show 1 ≤ 2 ∧ 2 ≤ 5; decide⟩, fun e he b hb => ?_, fun z => ?_, fun e he z => ?_⟩
      · rcases k with _ | _ | k
        · obtain rfl := Option.some.inj hk
          obtain rfl := Option.some.inj he
          exact s59 _ _ et1
        · obtain rfl := Option.some.inj hk
          obtain rfl := Option.some.inj he
          exact s89 _ _ et2
        · exact nomatch hk
      · rcases List.mem_cons.mp he with z | z
        · rw [z]; exact E1'
        · rw [List.mem_singleton.mp z]; exact E2'
      · refine .cons (fun e he b hb z => ?_) (List.pairwise_singleton _ _)
        rw [List.mem_singleton.mp he] at z
        obtain ⟨o, eo⟩ := (E1.same s45).there b hb
        rw [F2 b z] at eo
        exact nomatch eo
      · rcases List.mem_cons.mp he with y | y
        · rw [y] at z
          obtain ⟨o, eo⟩ := (E1.same ((s45.trans s57).trans s78)).there h z
          rw [nh] at eo
          exact nomatch eo
        · rw [List.mem_singleton.mp y] at z
          obtain ⟨o, eo⟩ := (E2.same s78).there h z
          rw [nh] at eo
          exact nomatch eo
      · rcases List.mem_cons.mp he with y | y
        · rw [y] at hb; exact s2.free (F1 b hb)
        · rw [List.mem_singleton.mp y] at hb; exact ((s2.trans s24).trans s45).free (F2 b hb)
      · have := (((s24.trans s45).trans s57).trans s78) _ _ eBx
        rw [z, nh] at this
        exact nomatch this
      · rcases List.mem_cons.mp he with y | y
        · rw [y] at z
          rw [F1 bx z] at eBx
          exact nomatch eBx
        · rw [List.mem_singleton.mp y] at z
          have := (s24.trans s45) _ _ eBx
          rw [F2 bx z] at this
          exact nomatch this
    have fh : H h = none := (((s2.trans s24).trans s45).trans (s57.trans s78)).free nh
    have hB9 : Box bx 1 H9 := hB2.same (((s24.trans s45).trans s59))
    clear E1 F1 E2 F2 et1 et2 eh s89 s78 s57 s45 s24 nh
    have ub : ∀ {G G' : Hp} {e : Ent}, Same H G → (∀ b ∈ e.fp, H b = none) → (∀ b o, b ∉ e.rows → b ∉ e.drows → G b = some o → G' b = some o) → Same H G' := fun s hf fr b o eb =>
      fr _ _ (fun z => by rw [hf b (List.mem_append_left _ (List.mem_cons_of_mem _ (List.mem_cons_of_mem _ z)))] at eb; exact nomatch eb) (fun z => by rw [hf b (List.mem_append_right _ (List.mem_cons_of_mem _ z))] at eb; exact nomatch eb) (s _ _ eb)
    have ux : ∀ {G G' : Hp} {e : Ent} {bx : Addr} {n : Nat}, bx ∉ e.fp → (∀ b o, b ∉ e.rows → b ∉ e.drows → G b = some o → G' b = some o) → Box bx n G → Box bx n G' := fun nb fr ⟨u1, u2, u3, eB, hx⟩ =>
      ⟨u1, u2, u3, fr _ _ (fun z => nb (List.mem_append_left _ (List.mem_cons_of_mem _ (List.mem_cons_of_mem _ z)))) (fun z => nb (List.mem_append_right _ (List.mem_cons_of_mem _ z))) eB, hx⟩
    walk_at "go"
    refine r_cut (fun σ G => (∃ x3 x5 x6 x7 x8 x9 x10 x11 x12 x13, σ = [some (.ref a), some (.ref bx), some (.int lg), x3, some (.ref h), x5, x6, x7, x8, x9, x10, x11, x12, x13]) ∧ Same H G ∧ Hall A.CS G h es) ?_ ?_
    · walk_at "go"
      refine iteC (fun z => ?_) (fun z => ?_)
      · walk_at "go"
        refine r_take hB9 fun g H10 g0 g1 hB10 b10 => ?_
        obtain ⟨g, rfl⟩ := Int.eq_ofNat_of_zero_le g0
        walk_at "go"
        refine r_take hB10 fun d H11 d0 d1 hB11 b11 => ?_
        walk_at "go"
        have hH11 := (hH.but hO hB9 b10).but hO hB10 b11
        have s11 := butSame (butSame s9 nbx b10) nbx b11
        refine ⟨_, rfl, by omega, by omega, ?_⟩
        refine for_range (n := (197 + d).toNat) (fun k σ G => (∃ x5 x6 x7 x8 x9 x10 x11 x12 x13, σ = [some (.ref a), some (.ref bx), some (.int lg), some (.int (g : Int)), some (.ref h), x5, x6, x7, x8, x9, x10, x11, x12, x13]) ∧ Same H G ∧ Hall A.CS G h es) ⟨⟨_, _, _, _, _, _, _, _, _, rfl⟩, s11, hH11⟩ ?_ ?_
        · rintro k σ G hk ⟨⟨x5, x6, x7, x8, x9, x10, x11, x12, x13, rfl⟩, sG, hG⟩
          rw [Int.zero_add]
          obtain ⟨ts, e1, e2, e3⟩ := hG.ex
          have n0 : 0 < es.length := hG.n.1
          have n1 : 0 < ts.length := by rw [e2]; exact n0
          have he : es[0]? = some es[0] := List.getElem?_eq_getElem n0
          have ht : ts[0]? = some ts[0] := List.getElem?_eq_getElem n1
          have et := e3 0 _ _ ht he
          have hm := List.getElem_mem n0
          have i0 : atI (ts.map V.ref) (0 : Int) = some (.ref ts[0]) := atI_nat (j := 0) (by rw [List.getElem?_map, ht]; rfl)
          walk_at "go"
          refine r_ixL (sqL e1) i0 ?_
          walk_at "go"
          refine r_ixT (sqT et) (v := .ref es[0].o) rfl ?_
          walk_at "go"
          refine r_ixL (sqL e1) i0 ?_
          walk_at "go"
          refine r_ixT (sqT et) (v := .ref es[0].d) rfl ?_
          walk_at "go"
          refine r_I (cmul (by decide) (by decide) (by omega) (by omega)) ?_
          walk_at "go"
          refine ⟨es[0], g, 4095 - 7 * (k : Int), rfl, hG.ent _ hm, by omega, by omega, by omega, fun G' hE' fr => ?_⟩
          walk_at "go"
          exact ⟨⟨_, _, _, _, _, _, _, _, _, rfl⟩, ub sG (hF _ hm) fr, hG.post hm hE' fr⟩
        · rintro σ G ⟨⟨x5, x6, x7, x8, x9, x10, x11, x12, x13, rfl⟩, sG, hG⟩
          exact ⟨⟨_, _, _, _, _, _, _, _, _, _, rfl⟩, sG, hG⟩
      · walk_at "go"
        exact ⟨⟨_, _, _, _, _, _, _, _, _, _, rfl⟩, s9, hH⟩
    · rintro σ G ⟨⟨x3, x5, x6, x7, x8, x9, x10, x11, x12, x13, rfl⟩, sG, hG⟩
      clear hH hB9 s9 hO
      walk_at "go"
      refine ⟨a, _, rfl, .inl (sG.seq hS), ?_⟩
      walk_at "go"
      refine ⟨_, _, rfl, ?_⟩
      walk_at "go"
      refine ⟨_, _, rfl, ?_⟩
      rw [List.length_map]
      refine ⟨_, _, rfl, ⟨by decide, by decide, ?_, ?_⟩, ?_⟩
      · split <;> omega
      · split <;> omega
      have hn : ((if (if 31 < (ns.length : Int) then (31 : Int) else ns.length) > 4 then if 31 < (ns.length : Int) then (31 : Int) else ns.length else 4) - 1).toNat ≤ 100 := by
        split <;> split <;> omega
      refine for_range (lo := 1) (fun k σ G => (∃ x1 x3 x5 x6 x7 x8 x9 x10 x11 x12 x13, σ = [some (.ref a), x1, some (.int lg), x3, some (.ref h), x5, x6, x7, x8, x9, x10, x11, x12, x13]) ∧ Same H G ∧ ∃ es, Hall A.CS G h es ∧ ∀ e ∈ es, ∀ b ∈ e.fp, H b = none) ⟨⟨_, _, _, _, _, _, _, _, _, _, _, rfl⟩, sG, es, hG, hF⟩ ?_ ?_
      · clear hG sG hF G
        clear x3 x5 x6 x7 x8 x9 x10 x11 x12 x13 es
        rintro k σ G hk ⟨⟨x1, x3, x5, x6, x7, x8, x9, x10, x11, x12, x13, rfl⟩, sG, es, hG, hF⟩
        have k1 : (1 : Int) + (k : Int) = ((1 + k : Nat) : Int) := by omega
        rw [k1]
        walk_at "go"
        refine ⟨a, ns, 1 + k, rfl, sG.seq hS, by omega, fun c => ?_⟩
        walk_at "go"
        refine ⟨c, rfl, fun by_ G1 nby s1 hB => ?_⟩
        have nbH : H by_ = none := sG.free nby
        have hO := hG.off nby
        have hG1 := hG.same s1
        have sG1 := sG.trans s1
        clear hG sG s1
        walk_at "go"
        refine r_cut (fun σ G => (∃ x3 x6 x7 x8 x9 x10 x11 x12 x13, σ = [some (.ref a), some (.ref by_), some (.int lg), x3, some (.ref h), some (.int ((1 + k : Nat) : Int)), x6, x7, x8, x9, x10, x11, x12, x13]) ∧ Same H G ∧ ∃ es, Hall A.CS G h es ∧ (∀ e ∈ es, ∀ b ∈ e.fp, H b = none) ∧ Off by_ h es ∧ Box by_ 3 G) ?_ ?_
        · obtain ⟨ts, e1, e2, e3⟩ := hG1.ex
          have hn5 := hG1.n
          walk_at "go"
          refine ⟨h, _, rfl, .inl (sqL e1), ?_⟩
          rw [List.length_map]
          walk_at "go"
          refine iteC (fun hlt => ?_) (fun hlt => ?_)
          · walk_at "go"
            refine r_take hB fun d2 G2 d20 d21 hB2 b2 => ?_
            have hG2 := hG1.but hO hB b2
            have sG2 := butSame sG1 nbH b2
            walk_at "go"
            refine iteC (fun z => ?_) (fun z => ?_)
            · have e1' := b2 _ _ hO.1.symm e1
              have e3' : ∀ (k : Nat) (t : Addr) (e : Ent), ts[k]? = some t → es[k]? = some e → G2 t = some (.tup [.ref e.o, .ref e.d]) := fun k t e h1 h2 => b2 _ _ (hB.ne_tup (e3 k t e h1 h2)) (e3 k t e h1 h2)
              walk_at "go"
              refine ⟨h, _, rfl, .inl (sqL e1'), ?_⟩
              rw [List.length_map]
              walk_at "go"
              refine r_take hB2 (fun d3 G3 d30 d31 hB3 b3 => ?_) (by omega) (by omega) (by omega)
              walk_at "go"
              refine newLB fun p4 G4 n4 g4 s4 e4 => ?_
              have np4 : p4 ≠ by_ := hB3.ne n4
              walk_at "go"
              refine r_take (hB3.same s4) fun d5 G5 d50 d51 hB5 b5 => ?_
              refine r_ixLo (sqL (b5 _ _ np4 e4)) d50 d51 fun v hv _ => ?_
              obtain ⟨j, rfl, hj⟩ : ∃ j : Nat, v = .int j ∧ j < ts.length := by
                simp only [List.mem_cons, List.not_mem_nil, or_false] at hv
                rcases hv with rfl | rfl
                · exact ⟨0, rfl, by omega⟩
                · obtain ⟨j, rfl⟩ := Int.eq_ofNat_of_zero_le d30
                  exact ⟨j, rfl, by omega⟩
              have b25 : But by_ G2 G5 := (b3.same s4).trans b5
              have hG5 := hG2.but hO hB2 b25
              have sG5 := butSame sG2 nbH b25
              have e15 := b25 _ _ hO.1.symm e1'
              have e35 : ∀ (k : Nat) (t : Addr) (e : Ent), ts[k]? = some t → es[k]? = some e → G5 t = some (.tup [.ref e.o, .ref e.d]) := fun k t e h1 h2 => b25 _ _ (hB2.ne_tup (e3' k t e h1 h2)) (e3' k t e h1 h2)
              have hje : j < es.length := by rw [← e2]; exact hj
              have ht : ts[j]? = some ts[j] := List.getElem?_eq_getElem hj
              have he : es[j]? = some es[j] := List.getElem?_eq_getElem hje
              have et := e35 j _ _ ht he
              have hm := List.getElem_mem hje
              refine r_ixL (sqL e15) (atI_nat (j := j) (by rw [List.getElem?_map, ht]; rfl)) ?_
              refine ⟨ts[j], _, rfl, sqT et, rfl, .ref es[j].o, _, rfl, .ref es[j].d, _, rfl, rfl, ?_⟩
              obtain ⟨ws, hS5, hD5, hW5⟩ := (hG5.ent _ hm).ex
              obtain ⟨dx, ob⟩ := hS5.ob
              walk_at "go"
              refine ⟨.inl ⟨rfl, _, sqL e15⟩, ?_⟩
              walk_at "go"
              refine ⟨es[j].o, dx, _, rfl, ob, no_post (by decide +kernel), ?_⟩
              walk_at "go"
              refine ⟨es[j].o, es[j].l, es[j].rows, ws, rfl, hS5, fun y l' rows' G6 s56 hS6 fr6 => ?_⟩
              have hD6 : LL G6 es[j].d es[j].drows ws := hD5.same s56
              refine lcNewL (a := es[j].d) (xs := es[j].drows.map V.ref) (fun k => .lst (ws.getD k [])) (fun QQ z => ⟨_, rfl, z⟩) (sqL hD6.at_) (by rw [List.length_map, hD6.len, hS5.n8]; decide) (fun _ => rfl) (fun i u G7 Q' hu sm kk => ?_) fun D G7 ts7 nD s67 eD len all nd fr7 => ?_
              · rw [List.getElem?_map] at hu
                cases hri : es[j].drows[i]? with
                | none => rw [hri] at hu; exact nomatch hu
                | some r =>
                  rw [hri] at hu
                  obtain rfl := Option.some.inj hu
                  have hiw : i < ws.length := by rw [← hD6.len]; exact (List.getElem?_eq_some_iff.mp hri).1
                  have er := sm _ _ (hD6.row i _ _ hri (List.getElem?_eq_getElem hiw))
                  walk_at "go"
                  refine ⟨r, _, rfl, .inl (sqL er), fun t ht => kk t _ ht (same_upd ht) ?_⟩
                  rw [upd_same, List.getD_eq_getElem?_getD, List.getElem?_eq_getElem hiw]
                  rfl
              obtain ⟨E7, F7⟩ := mkEnt (H0 := G5) hS6 fr6 s56 s67 eD (by rw [len, List.length_map, hD6.len]) all nd nD fr7 hW5
              walk_at "go"
              refine newT fun tp G8 ntp s78 etp => ?_
              have s58 : Same G5 G8 := (s56.trans s67).trans s78
              have hG8 := hG5.push e15 e2 e35 s58 (E7.same s78) F7 etp (by omega)
              have nth : h ≠ by_ := hO.1.symm
              have hB8 : Box by_ 3 (upd G8 h (.lst (ts.map V.ref ++ [.ref tp]))) := box_upd ((hB5.same s58).mono (by omega)) nth
              have fh2 : H h = none := fh
              refine ⟨h, _, _, rfl, rfl, s58 _ _ e15, by rw [List.length_map, e2]; exact Nat.lt_of_lt_of_le (show es.length < 5 by omega) (by decide), ?_⟩
              refine ⟨⟨_, _, _, _, _, _, _, _, _, rfl⟩, sameBut (sG5.trans s58) fh, _, hG8, fun e he b hb => ?_, ⟨hO.1, fun e he z => ?_⟩, hB8⟩
              · rcases List.mem_append.mp he with z | z
                · exact hF e z b hb
                · rw [List.mem_singleton.mp z] at hb
                  exact sG5.free (F7 b hb)
              · rcases List.mem_append.mp he with y1 | y1
                · exact hO.2 e y1 z
                · rw [List.mem_singleton.mp y1] at z
                  obtain ⟨u1, u2, u3, eB, _⟩ := hB5
                  rw [F7 _ z] at eB
                  exact nomatch eB
            · walk_at "go"
              exact ⟨⟨_, _, _, _, _, _, _, _, _, rfl⟩, sG2, es, hG2, hF, hO, hB2.mono (by omega)⟩
          · walk_at "go"
            exact ⟨⟨_, _, _, _, _, _, _, _, _, rfl⟩, sG1, es, hG1, hF, hO, hB.mono (by omega)⟩
        · clear hG1 sG1 hF hO hB nby G G1 es
          clear x1 x3 x5 x6 x7 x8 x9 x10 x11 x12 x13
          rintro σ G ⟨⟨x3, x6, x7, x8, x9, x10, x11, x12, x13, rfl⟩, sG, es, hG, hF, hO, hB⟩
          obtain ⟨ts, e1, e2, e3⟩ := hG.ex
          have hn5 := hG.n
          walk_at "go"
          refine ⟨h, _, rfl, .inl (sqL e1), ?_⟩
          rw [List.length_map]
          walk_at "go"
          refine r_take hB (fun d1 G1 d10 d11 hB1 b1 => ?_) (by omega) (by omega) (by omega)
          obtain ⟨j, rfl⟩ := Int.eq_ofNat_of_zero_le d10
          have hj : j < ts.length := by omega
          have hje : j < es.length := by rw [← e2]; exact hj
          have ht : ts[j]? = some ts[j] := List.getElem?_eq_getElem hj
          have he : es[j]? = some es[j] := List.getElem?_eq_getElem hje
          have et := b1 _ _ (hB.ne_tup (e3 j _ _ ht he)) (e3 j _ _ ht he)
          have hm := List.getElem_mem hje
          refine r_ixL (sqL (b1 _ _ hO.1.symm e1)) (atI_nat (j := j) (by rw [List.getElem?_map, ht]; rfl)) ?_
          refine ⟨ts[j], _, rfl, sqT et, rfl, .ref es[j].o, _, rfl, .ref es[j].d, _, rfl, rfl, ?_⟩
          walk_at "go"
          refine r_take hB1 fun lo G2 lo0 lo1 hB2 b2 => ?_
          walk_at "go"
          refine r_take hB2 fun m G3 m0 m1 hB3 b3 => ?_
          have b13 := (b1.trans b2).trans b3
          have hG3 := hG.but hO hB b13
          have sG3 := butSame sG (nbH) b13
          walk_at "go"
          refine ⟨_, rfl, by omega, by omega, ?_⟩
          refine for_range (n := (1 + m).toNat) (fun t σ G => (∃ x3 x6 x7 x8 x12 x13, σ = [some (.ref a), some (.ref by_), some (.int lg), x3, some (.ref h), some (.int ((1 + k : Nat) : Int)), x6, x7, x8, some (.ref es[j].o), some (.ref es[j].d), some (.int lo), x12, x13]) ∧ Same H G ∧ Hall A.CS G h es ∧ Box by_ (6 + 4 * t) G)
            ⟨⟨_, _, _, _, _, _, rfl⟩, sG3, hG3, hB3⟩ ?_ ?_
          · rintro t σ G4 ht8 ⟨⟨x3, x6, x7, x8, x12, x13, rfl⟩, sG4, hG4, hB4⟩
            walk_at "go"
            refine r_take hB4 (fun d5 G5 d50 d51 hB5 b5 => ?_) (by omega)
            have hG5 := hG4.but hO hB4 b5
            have sG5 := butSame sG4 nbH b5
            walk_at "go"
            refine iteC (fun z => ?_) (fun z => ?_)
            · have gt0 := lo0
              have gt1 := lo1
              walk_at "go"
              obtain ⟨gt, rfl⟩ := Int.eq_ofNat_of_zero_le gt0
              walk_at "go"
              refine r_take hB5 (fun s0 G6 s00 s01 hB6 b6 => ?_) (by omega)
              walk_at "go"
              refine newLB fun p7 G7 n7 g7 s7 e7 => ?_
              have np7 : p7 ≠ by_ := hB6.ne n7
              walk_at "go"
              refine r_take (hB6.same s7) (fun d8 G8 d80 d81 hB8 b8 => ?_) (by omega)
              refine r_ixLo (sqL (b8 _ _ np7 e7)) d80 d81 fun v hv _ => ?_
              obtain ⟨sg, rfl, sg0, sg1⟩ : ∃ i : Int, v = .int i ∧ 0 ≤ i ∧ i ≤ 4095 := by
                simp only [List.mem_cons, List.not_mem_nil, or_false] at hv
                rcases hv with rfl | rfl | rfl
                · exact ⟨_, rfl, by decide, by decide⟩
                · exact ⟨_, rfl, by decide, by decide⟩
                · exact ⟨_, rfl, s00, by omega⟩
              have b58 := (b6.same s7).trans b8
              have hG8 := hG5.but hO hB5 b58
              walk_at "go"
              refine ⟨es[j], gt, sg, rfl, hG8.ent _ hm, by omega, sg0, sg1, fun G' hE' fr => ?_⟩
              walk_at "go"
              exact ⟨⟨_, _, _, _, _, _, rfl⟩, ub (butSame sG5 nbH b58) (hF _ hm) fr, hG8.post hm hE' fr, (ux (hO.2 _ hm) fr hB8).mono (by omega)⟩
            · walk_at "go"
              refine r_take hB5 (fun gt G5' gt0 gt1 hB5' b5' => ?_) (by omega)
              replace hG5 := hG5.but hO hB5 b5'
              replace sG5 := butSame sG5 nbH b5'
              replace hB5 := hB5'
              obtain ⟨gt, rfl⟩ := Int.eq_ofNat_of_zero_le gt0
              walk_at "go"
              refine r_take hB5 (fun s0 G6 s00 s01 hB6 b6 => ?_) (by omega)
              walk_at "go"
              refine newLB fun p7 G7 n7 g7 s7 e7 => ?_
              have np7 : p7 ≠ by_ := hB6.ne n7
              walk_at "go"
              refine r_take (hB6.same s7) (fun d8 G8 d80 d81 hB8 b8 => ?_) (by omega)
              refine r_ixLo (sqL (b8 _ _ np7 e7)) d80 d81 fun v hv _ => ?_
              obtain ⟨sg, rfl, sg0, sg1⟩ : ∃ i : Int, v = .int i ∧ 0 ≤ i ∧ i ≤ 4095 := by
                simp only [List.mem_cons, List.not_mem_nil, or_false] at hv
                rcases hv with rfl | rfl | rfl
                · exact ⟨_, rfl, by decide, by decide⟩
                · exact ⟨_, rfl, by decide, by decide⟩
                · exact ⟨_, rfl, s00, by omega⟩
              have b58 := (b6.same s7).trans b8
              have hG8 := hG5.but hO hB5 b58
              walk_at "go"
              refine ⟨es[j], gt, sg, rfl, hG8.ent _ hm, by omega, sg0, sg1, fun G' hE' fr => ?_⟩
              walk_at "go"
              exact ⟨⟨_, _, _, _, _, _, rfl⟩, ub (butSame sG5 nbH b58) (hF _ hm) fr, hG8.post hm hE' fr, (ux (hO.2 _ hm) fr hB8).mono (by omega)⟩
          · clear hG3 sG3 b13 et e1 e3 hG sG
            rintro σ G4 ⟨⟨x3, x6, x7, x8, x12, x13, rfl⟩, sG4, hG4, hB4⟩
            walk_at "go"
            refine ⟨es[j], by_, _, rfl, hG4.ent _ hm, hB4, hO.2 _ hm, by omega, fun G5 hB5 b5 => ?_⟩
            have hG5 := hG4.but hO hB4 b5
            have sG5 := butSame sG4 nbH b5
            obtain ⟨ts, e1, e2, e3⟩ := hG5.ex
            walk_at "go"
            refine ⟨h, rfl, ⟨_, sqL e1⟩, for_list (K := K) (a := h) (xs := ts.map V.ref) (fun i σ G => (∃ x3 x6 x7 x8 x12 x13, σ = [some (.ref a), some (.ref by_), some (.int lg), x3, some (.ref h), some (.int ((1 + k : Nat) : Int)), x6, x7, x8, some (.ref es[j].o), some (.ref es[j].d), some (.int lo), x12, x13]) ∧ But by_ G5 G ∧ Box by_ (100 + 30 * i) G)
              ⟨⟨_, _, _, _, _, _, rfl⟩, But.refl, hB5.mono (by omega)⟩ (fun i σ G _ ⟨_, b, _⟩ => sqL (b _ _ hO.1.symm e1)) ?_ ?_⟩
            · rintro i y σ G6 hi ⟨⟨x3, x6, x7, x8, x12, x13, rfl⟩, b6, hB6⟩
              rw [List.getElem?_map] at hi
              cases hti : ts[i]? with
              | none => rw [hti] at hi; exact nomatch hi
              | some u =>
                rw [hti] at hi
                obtain rfl := Option.some.inj hi
                have hil : i < es.length := by rw [← e2]; exact (List.getElem?_eq_some_iff.mp hti).1
                have he := List.getElem?_eq_getElem hil
                have et := b6 _ _ (hB5.ne_tup (e3 i u _ hti he)) (e3 i u _ hti he)
                have hmi := List.getElem_mem hil
                have hn5 := hG4.n
                refine ⟨u, _, rfl, sqT et, rfl, .ref es[i].o, _, rfl, .ref es[i].d, _, rfl, rfl, ?_⟩
                walk_at "go"
                refine ⟨es[i], by_, _, rfl, ((hG5.but hO hB5 b6).ent _ hmi), hB6, hO.2 _ hmi, by omega, fun G7 hB7 b7 => ?_⟩
                walk_at "go"
                exact ⟨⟨_, _, _, _, _, _, rfl⟩, b6.trans b7, hB7.mono (by omega)⟩
            · rintro σ G6 ⟨⟨x3, x6, x7, x8, x12, x13, rfl⟩, b6, hB6⟩
              exact ⟨⟨_, _, _, _, _, _, _, _, _, _, _, rfl⟩, butSame sG5 nbH b6, es, hG5.but hO hB5 b6, hF⟩
      · rintro σ G1 ⟨⟨x1, x3, x5, x6, x7, x8, x9, x10, x11, x12, x13, rfl⟩, sG, es, hG, hF⟩
        walk_at "go"
        exact q G1
end
end K24

namespace K24
open PySem PySem.Spec PyProof.Rows L2 Bk
theorem all_mk {l : PySem.W.OpenLaw} {w : World} {K : PySem.W.Frag} {h : Heap} {mg : Str → Option Value} {fa C_GuestError C_Missing C_Barred C_NoNumber C_NoWord C_Full C_Switch f_GuestError_init f_Missing_init f_Barred_init f_NoNumber_init f_NoWord_init f_Full_init f_is_count f_is_whole f_is_word f_check_number f_check_word f_Switch_init f_Switch_post f_Switch_posted f_Switch_how_many f_Switch_letter f_Switch_twin f_Switch_words f_check_count f_cell_L f_box_L f_take_L f_caught_L f_odd_L f_posted_L f_right_L f_refused_right_L f_law : Addr} (X : K.In h) (G : h.Ns mainGlobals mg) (hfa : mg "law" = some (.ref fa))
    {od_GuestError_init an_GuestError_init : Option Addr} {sl_GuestError_init : Array (Option Value)} {oc_GuestError_init kV_GuestError_init dc_GuestError_init pm_GuestError_init cd_GuestError_init ct_GuestError_init : Value}
    {od_Missing_init an_Missing_init : Option Addr} {sl_Missing_init : Array (Option Value)} {oc_Missing_init kV_Missing_init dc_Missing_init pm_Missing_init cd_Missing_init ct_Missing_init : Value}
    {od_Barred_init an_Barred_init : Option Addr} {sl_Barred_init : Array (Option Value)} {oc_Barred_init kV_Barred_init dc_Barred_init pm_Barred_init cd_Barred_init ct_Barred_init : Value}
    {od_NoNumber_init an_NoNumber_init : Option Addr} {sl_NoNumber_init : Array (Option Value)} {oc_NoNumber_init kV_NoNumber_init dc_NoNumber_init pm_NoNumber_init cd_NoNumber_init ct_NoNumber_init : Value}
    {od_NoWord_init an_NoWord_init : Option Addr} {sl_NoWord_init : Array (Option Value)} {oc_NoWord_init kV_NoWord_init dc_NoWord_init pm_NoWord_init cd_NoWord_init ct_NoWord_init : Value}
    {od_Full_init an_Full_init : Option Addr} {sl_Full_init : Array (Option Value)} {oc_Full_init kV_Full_init dc_Full_init pm_Full_init cd_Full_init ct_Full_init : Value}
    {od_is_count an_is_count : Option Addr} {sl_is_count : Array (Option Value)} {oc_is_count kV_is_count dc_is_count pm_is_count cd_is_count ct_is_count : Value}
    {od_is_whole an_is_whole : Option Addr} {sl_is_whole : Array (Option Value)} {oc_is_whole kV_is_whole dc_is_whole pm_is_whole cd_is_whole ct_is_whole : Value}
    {od_is_word an_is_word : Option Addr} {sl_is_word : Array (Option Value)} {oc_is_word kV_is_word dc_is_word pm_is_word cd_is_word ct_is_word : Value}
    {od_check_number an_check_number : Option Addr} {sl_check_number : Array (Option Value)} {oc_check_number kV_check_number dc_check_number pm_check_number cd_check_number ct_check_number : Value}
    {od_check_word an_check_word : Option Addr} {sl_check_word : Array (Option Value)} {oc_check_word kV_check_word dc_check_word pm_check_word cd_check_word ct_check_word : Value}
    {od_Switch_init an_Switch_init : Option Addr} {sl_Switch_init : Array (Option Value)} {oc_Switch_init kV_Switch_init dc_Switch_init pm_Switch_init cd_Switch_init ct_Switch_init : Value}
    {od_Switch_post an_Switch_post : Option Addr} {sl_Switch_post : Array (Option Value)} {oc_Switch_post kV_Switch_post dc_Switch_post pm_Switch_post cd_Switch_post ct_Switch_post : Value}
    {od_Switch_posted an_Switch_posted : Option Addr} {sl_Switch_posted : Array (Option Value)} {oc_Switch_posted kV_Switch_posted dc_Switch_posted pm_Switch_posted cd_Switch_posted ct_Switch_posted : Value}
    {od_Switch_how_many an_Switch_how_many : Option Addr} {sl_Switch_how_many : Array (Option Value)} {oc_Switch_how_many kV_Switch_how_many dc_Switch_how_many pm_Switch_how_many cd_Switch_how_many ct_Switch_how_many : Value}
    {od_Switch_letter an_Switch_letter : Option Addr} {sl_Switch_letter : Array (Option Value)} {oc_Switch_letter kV_Switch_letter dc_Switch_letter pm_Switch_letter cd_Switch_letter ct_Switch_letter : Value}
    {od_Switch_twin an_Switch_twin : Option Addr} {sl_Switch_twin : Array (Option Value)} {oc_Switch_twin kV_Switch_twin dc_Switch_twin pm_Switch_twin cd_Switch_twin ct_Switch_twin : Value}
    {od_Switch_words an_Switch_words : Option Addr} {sl_Switch_words : Array (Option Value)} {oc_Switch_words kV_Switch_words dc_Switch_words pm_Switch_words cd_Switch_words ct_Switch_words : Value}
    {od_check_count an_check_count : Option Addr} {sl_check_count : Array (Option Value)} {oc_check_count kV_check_count dc_check_count pm_check_count cd_check_count ct_check_count : Value}
    {od_cell_L an_cell_L : Option Addr} {sl_cell_L : Array (Option Value)} {oc_cell_L kV_cell_L dc_cell_L pm_cell_L cd_cell_L ct_cell_L : Value}
    {od_box_L an_box_L : Option Addr} {sl_box_L : Array (Option Value)} {oc_box_L kV_box_L dc_box_L pm_box_L cd_box_L ct_box_L : Value}
    {od_take_L an_take_L : Option Addr} {sl_take_L : Array (Option Value)} {oc_take_L kV_take_L dc_take_L pm_take_L cd_take_L ct_take_L : Value}
    {od_caught_L an_caught_L : Option Addr} {sl_caught_L : Array (Option Value)} {oc_caught_L kV_caught_L dc_caught_L pm_caught_L cd_caught_L ct_caught_L : Value}
    {od_odd_L an_odd_L : Option Addr} {sl_odd_L : Array (Option Value)} {oc_odd_L kV_odd_L dc_odd_L pm_odd_L cd_odd_L ct_odd_L : Value}
    {od_posted_L an_posted_L : Option Addr} {sl_posted_L : Array (Option Value)} {oc_posted_L kV_posted_L dc_posted_L pm_posted_L cd_posted_L ct_posted_L : Value}
    {od_right_L an_right_L : Option Addr} {sl_right_L : Array (Option Value)} {oc_right_L kV_right_L dc_right_L pm_right_L cd_right_L ct_right_L : Value}
    {od_refused_right_L an_refused_right_L : Option Addr} {sl_refused_right_L : Array (Option Value)} {oc_refused_right_L kV_refused_right_L dc_refused_right_L pm_refused_right_L cd_refused_right_L ct_refused_right_L : Value}
    {od_law an_law : Option Addr} {sl_law : Array (Option Value)} {oc_law kV_law dc_law pm_law cd_law ct_law : Value}
    {t_most t_ports t_mp : Tok}
    {nmM qM : Str} {NM : Addr} {bsM : List Value} {snM : List Str} {subM : List Value} {abM : Bool} {colM : Option Bool} {ddM : Option Addr} {wM0 wM1 wM2 wM3 wM5 : Option Value}
    {nmW qW : Str} {NW : Addr} {bsW : List Value} {snW : List Str} {subW : List Value} {abW : Bool} {colW : Option Bool} {ddW : Option Addr} {wW0 wW1 wW2 wW3 wW5 : Option Value}
    {nmF qF : Str} {NF : Addr} {bsF : List Value} {snF : List Str} {subF : List Value} {abF : Bool} {colF : Option Bool} {ddF : Option Addr} {wF0 wF1 wF2 wF3 wF5 : Option Value}
    (aC_GuestError : PySem.W.nsIn K mainGlobals "GuestError" = some (some (.ref C_GuestError)))
    (aC_Missing : PySem.W.nsIn K mainGlobals "Missing" = some (some (.ref C_Missing)))
    (aC_Barred : PySem.W.nsIn K mainGlobals "Barred" = some (some (.ref C_Barred)))
    (aC_NoNumber : PySem.W.nsIn K mainGlobals "NoNumber" = some (some (.ref C_NoNumber)))
    (aC_NoWord : PySem.W.nsIn K mainGlobals "NoWord" = some (some (.ref C_NoWord)))
    (aC_Full : PySem.W.nsIn K mainGlobals "Full" = some (some (.ref C_Full)))
    (aC_Switch : PySem.W.nsIn K mainGlobals "Switch" = some (some (.ref C_Switch)))
    (a_GuestError_init : PySem.W.findIn K (.ref C_GuestError) "__init__" = some (some (.ref f_GuestError_init)))
    (l_GuestError_init : K.lookup f_GuestError_init = some ⟨oc_GuestError_init, od_GuestError_init, .func (PySem.W.fnOf "__init__" "GuestError.__init__" (defArgs s_GuestError_init) (defBody s_GuestError_init) (defScope s_GuestError_init) .none kV_GuestError_init dc_GuestError_init pm_GuestError_init an_GuestError_init cd_GuestError_init ct_GuestError_init), sl_GuestError_init⟩)
    (c_GuestError_init : PySem.W.codeIn K cd_GuestError_init "GuestError.__init__" = true)
    (k_GuestError_init : PySem.W.keepIn K (.ref f_GuestError_init) = true)
    (a_Missing_init : PySem.W.findIn K (.ref C_Missing) "__init__" = some (some (.ref f_Missing_init)))
    (l_Missing_init : K.lookup f_Missing_init = some ⟨oc_Missing_init, od_Missing_init, .func (PySem.W.fnOf "__init__" "Missing.__init__" (defArgs s_Missing_init) (defBody s_Missing_init) (defScope s_Missing_init) .none kV_Missing_init dc_Missing_init pm_Missing_init an_Missing_init cd_Missing_init ct_Missing_init), sl_Missing_init⟩)
    (c_Missing_init : PySem.W.codeIn K cd_Missing_init "Missing.__init__" = true)
    (k_Missing_init : PySem.W.keepIn K (.ref f_Missing_init) = true)
    (a_Barred_init : PySem.W.findIn K (.ref C_Barred) "__init__" = some (some (.ref f_Barred_init)))
    (l_Barred_init : K.lookup f_Barred_init = some ⟨oc_Barred_init, od_Barred_init, .func (PySem.W.fnOf "__init__" "Barred.__init__" (defArgs s_Barred_init) (defBody s_Barred_init) (defScope s_Barred_init) .none kV_Barred_init dc_Barred_init pm_Barred_init an_Barred_init cd_Barred_init ct_Barred_init), sl_Barred_init⟩)
    (c_Barred_init : PySem.W.codeIn K cd_Barred_init "Barred.__init__" = true)
    (k_Barred_init : PySem.W.keepIn K (.ref f_Barred_init) = true)
    (a_NoNumber_init : PySem.W.findIn K (.ref C_NoNumber) "__init__" = some (some (.ref f_NoNumber_init)))
    (l_NoNumber_init : K.lookup f_NoNumber_init = some ⟨oc_NoNumber_init, od_NoNumber_init, .func (PySem.W.fnOf "__init__" "NoNumber.__init__" (defArgs s_NoNumber_init) (defBody s_NoNumber_init) (defScope s_NoNumber_init) .none kV_NoNumber_init dc_NoNumber_init pm_NoNumber_init an_NoNumber_init cd_NoNumber_init ct_NoNumber_init), sl_NoNumber_init⟩)
    (c_NoNumber_init : PySem.W.codeIn K cd_NoNumber_init "NoNumber.__init__" = true)
    (k_NoNumber_init : PySem.W.keepIn K (.ref f_NoNumber_init) = true)
    (a_NoWord_init : PySem.W.findIn K (.ref C_NoWord) "__init__" = some (some (.ref f_NoWord_init)))
    (l_NoWord_init : K.lookup f_NoWord_init = some ⟨oc_NoWord_init, od_NoWord_init, .func (PySem.W.fnOf "__init__" "NoWord.__init__" (defArgs s_NoWord_init) (defBody s_NoWord_init) (defScope s_NoWord_init) .none kV_NoWord_init dc_NoWord_init pm_NoWord_init an_NoWord_init cd_NoWord_init ct_NoWord_init), sl_NoWord_init⟩)
    (c_NoWord_init : PySem.W.codeIn K cd_NoWord_init "NoWord.__init__" = true)
    (k_NoWord_init : PySem.W.keepIn K (.ref f_NoWord_init) = true)
    (a_Full_init : PySem.W.findIn K (.ref C_Full) "__init__" = some (some (.ref f_Full_init)))
    (l_Full_init : K.lookup f_Full_init = some ⟨oc_Full_init, od_Full_init, .func (PySem.W.fnOf "__init__" "Full.__init__" (defArgs s_Full_init) (defBody s_Full_init) (defScope s_Full_init) .none kV_Full_init dc_Full_init pm_Full_init an_Full_init cd_Full_init ct_Full_init), sl_Full_init⟩)
    (c_Full_init : PySem.W.codeIn K cd_Full_init "Full.__init__" = true)
    (k_Full_init : PySem.W.keepIn K (.ref f_Full_init) = true)
    (a_is_count : PySem.W.nsIn K mainGlobals "is_count" = some (some (.ref f_is_count)))
    (l_is_count : K.lookup f_is_count = some ⟨oc_is_count, od_is_count, .func (PySem.W.fnOf "is_count" "is_count" (defArgs s_is_count) (defBody s_is_count) (defScope s_is_count) .none kV_is_count dc_is_count pm_is_count an_is_count cd_is_count ct_is_count), sl_is_count⟩)
    (c_is_count : PySem.W.codeIn K cd_is_count "is_count" = true)
    (k_is_count : PySem.W.keepIn K (.ref f_is_count) = true)
    (a_is_whole : PySem.W.nsIn K mainGlobals "is_whole" = some (some (.ref f_is_whole)))
    (l_is_whole : K.lookup f_is_whole = some ⟨oc_is_whole, od_is_whole, .func (PySem.W.fnOf "is_whole" "is_whole" (defArgs s_is_whole) (defBody s_is_whole) (defScope s_is_whole) .none kV_is_whole dc_is_whole pm_is_whole an_is_whole cd_is_whole ct_is_whole), sl_is_whole⟩)
    (c_is_whole : PySem.W.codeIn K cd_is_whole "is_whole" = true)
    (k_is_whole : PySem.W.keepIn K (.ref f_is_whole) = true)
    (a_is_word : PySem.W.nsIn K mainGlobals "is_word" = some (some (.ref f_is_word)))
    (l_is_word : K.lookup f_is_word = some ⟨oc_is_word, od_is_word, .func (PySem.W.fnOf "is_word" "is_word" (defArgs s_is_word) (defBody s_is_word) (defScope s_is_word) .none kV_is_word dc_is_word pm_is_word an_is_word cd_is_word ct_is_word), sl_is_word⟩)
    (c_is_word : PySem.W.codeIn K cd_is_word "is_word" = true)
    (k_is_word : PySem.W.keepIn K (.ref f_is_word) = true)
    (a_check_number : PySem.W.nsIn K mainGlobals "check_number" = some (some (.ref f_check_number)))
    (l_check_number : K.lookup f_check_number = some ⟨oc_check_number, od_check_number, .func (PySem.W.fnOf "check_number" "check_number" (defArgs s_check_number) (defBody s_check_number) (defScope s_check_number) .none kV_check_number dc_check_number pm_check_number an_check_number cd_check_number ct_check_number), sl_check_number⟩)
    (c_check_number : PySem.W.codeIn K cd_check_number "check_number" = true)
    (k_check_number : PySem.W.keepIn K (.ref f_check_number) = true)
    (a_check_word : PySem.W.nsIn K mainGlobals "check_word" = some (some (.ref f_check_word)))
    (l_check_word : K.lookup f_check_word = some ⟨oc_check_word, od_check_word, .func (PySem.W.fnOf "check_word" "check_word" (defArgs s_check_word) (defBody s_check_word) (defScope s_check_word) .none kV_check_word dc_check_word pm_check_word an_check_word cd_check_word ct_check_word), sl_check_word⟩)
    (c_check_word : PySem.W.codeIn K cd_check_word "check_word" = true)
    (k_check_word : PySem.W.keepIn K (.ref f_check_word) = true)
    (a_Switch_init : PySem.W.findIn K (.ref C_Switch) "__init__" = some (some (.ref f_Switch_init)))
    (l_Switch_init : K.lookup f_Switch_init = some ⟨oc_Switch_init, od_Switch_init, .func (PySem.W.fnOf "__init__" "Switch.__init__" (defArgs s_Switch_init) (defBody s_Switch_init) (defScope s_Switch_init) .none kV_Switch_init dc_Switch_init pm_Switch_init an_Switch_init cd_Switch_init ct_Switch_init), sl_Switch_init⟩)
    (c_Switch_init : PySem.W.codeIn K cd_Switch_init "Switch.__init__" = true)
    (k_Switch_init : PySem.W.keepIn K (.ref f_Switch_init) = true)
    (a_Switch_post : PySem.W.findIn K (.ref C_Switch) "post" = some (some (.ref f_Switch_post)))
    (l_Switch_post : K.lookup f_Switch_post = some ⟨oc_Switch_post, od_Switch_post, .func (PySem.W.fnOf "post" "Switch.post" (defArgs s_Switch_post) (defBody s_Switch_post) (defScope s_Switch_post) .none kV_Switch_post dc_Switch_post pm_Switch_post an_Switch_post cd_Switch_post ct_Switch_post), sl_Switch_post⟩)
    (c_Switch_post : PySem.W.codeIn K cd_Switch_post "Switch.post" = true)
    (k_Switch_post : PySem.W.keepIn K (.ref f_Switch_post) = true)
    (a_Switch_posted : PySem.W.findIn K (.ref C_Switch) "posted" = some (some (.ref f_Switch_posted)))
    (l_Switch_posted : K.lookup f_Switch_posted = some ⟨oc_Switch_posted, od_Switch_posted, .func (PySem.W.fnOf "posted" "Switch.posted" (defArgs s_Switch_posted) (defBody s_Switch_posted) (defScope s_Switch_posted) .none kV_Switch_posted dc_Switch_posted pm_Switch_posted an_Switch_posted cd_Switch_posted ct_Switch_posted), sl_Switch_posted⟩)
    (c_Switch_posted : PySem.W.codeIn K cd_Switch_posted "Switch.posted" = true)
    (k_Switch_posted : PySem.W.keepIn K (.ref f_Switch_posted) = true)
    (a_Switch_how_many : PySem.W.findIn K (.ref C_Switch) "how_many" = some (some (.ref f_Switch_how_many)))
    (l_Switch_how_many : K.lookup f_Switch_how_many = some ⟨oc_Switch_how_many, od_Switch_how_many, .func (PySem.W.fnOf "how_many" "Switch.how_many" (defArgs s_Switch_how_many) (defBody s_Switch_how_many) (defScope s_Switch_how_many) .none kV_Switch_how_many dc_Switch_how_many pm_Switch_how_many an_Switch_how_many cd_Switch_how_many ct_Switch_how_many), sl_Switch_how_many⟩)
    (c_Switch_how_many : PySem.W.codeIn K cd_Switch_how_many "Switch.how_many" = true)
    (k_Switch_how_many : PySem.W.keepIn K (.ref f_Switch_how_many) = true)
    (a_Switch_letter : PySem.W.findIn K (.ref C_Switch) "letter" = some (some (.ref f_Switch_letter)))
    (l_Switch_letter : K.lookup f_Switch_letter = some ⟨oc_Switch_letter, od_Switch_letter, .func (PySem.W.fnOf "letter" "Switch.letter" (defArgs s_Switch_letter) (defBody s_Switch_letter) (defScope s_Switch_letter) .none kV_Switch_letter dc_Switch_letter pm_Switch_letter an_Switch_letter cd_Switch_letter ct_Switch_letter), sl_Switch_letter⟩)
    (c_Switch_letter : PySem.W.codeIn K cd_Switch_letter "Switch.letter" = true)
    (k_Switch_letter : PySem.W.keepIn K (.ref f_Switch_letter) = true)
    (a_Switch_twin : PySem.W.findIn K (.ref C_Switch) "twin" = some (some (.ref f_Switch_twin)))
    (l_Switch_twin : K.lookup f_Switch_twin = some ⟨oc_Switch_twin, od_Switch_twin, .func (PySem.W.fnOf "twin" "Switch.twin" (defArgs s_Switch_twin) (defBody s_Switch_twin) (defScope s_Switch_twin) .none kV_Switch_twin dc_Switch_twin pm_Switch_twin an_Switch_twin cd_Switch_twin ct_Switch_twin), sl_Switch_twin⟩)
    (c_Switch_twin : PySem.W.codeIn K cd_Switch_twin "Switch.twin" = true)
    (k_Switch_twin : PySem.W.keepIn K (.ref f_Switch_twin) = true)
    (a_Switch_words : PySem.W.findIn K (.ref C_Switch) "_words" = some (some (.ref f_Switch_words)))
    (l_Switch_words : K.lookup f_Switch_words = some ⟨oc_Switch_words, od_Switch_words, .func (PySem.W.fnOf "_words" "Switch._words" (defArgs s_Switch_words) (defBody s_Switch_words) (defScope s_Switch_words) .none kV_Switch_words dc_Switch_words pm_Switch_words an_Switch_words cd_Switch_words ct_Switch_words), sl_Switch_words⟩)
    (c_Switch_words : PySem.W.codeIn K cd_Switch_words "Switch._words" = true)
    (k_Switch_words : PySem.W.keepIn K (.ref f_Switch_words) = true)
    (a_check_count : PySem.W.nsIn K mainGlobals "_check_count" = some (some (.ref f_check_count)))
    (l_check_count : K.lookup f_check_count = some ⟨oc_check_count, od_check_count, .func (PySem.W.fnOf "_check_count" "_check_count" (defArgs s_check_count) (defBody s_check_count) (defScope s_check_count) .none kV_check_count dc_check_count pm_check_count an_check_count cd_check_count ct_check_count), sl_check_count⟩)
    (c_check_count : PySem.W.codeIn K cd_check_count "_check_count" = true)
    (k_check_count : PySem.W.keepIn K (.ref f_check_count) = true)
    (a_cell_L : PySem.W.nsIn K mainGlobals "_law_cell" = some (some (.ref f_cell_L)))
    (l_cell_L : K.lookup f_cell_L = some ⟨oc_cell_L, od_cell_L, .func (PySem.W.fnOf "_law_cell" "_law_cell" (defArgs s_cell_L) (defBody s_cell_L) (defScope s_cell_L) .none kV_cell_L dc_cell_L pm_cell_L an_cell_L cd_cell_L ct_cell_L), sl_cell_L⟩)
    (c_cell_L : PySem.W.codeIn K cd_cell_L "_law_cell" = true)
    (k_cell_L : PySem.W.keepIn K (.ref f_cell_L) = true)
    (a_box_L : PySem.W.nsIn K mainGlobals "_law_box" = some (some (.ref f_box_L)))
    (l_box_L : K.lookup f_box_L = some ⟨oc_box_L, od_box_L, .func (PySem.W.fnOf "_law_box" "_law_box" (defArgs s_box_L) (defBody s_box_L) (defScope s_box_L) .none kV_box_L dc_box_L pm_box_L an_box_L cd_box_L ct_box_L), sl_box_L⟩)
    (c_box_L : PySem.W.codeIn K cd_box_L "_law_box" = true)
    (k_box_L : PySem.W.keepIn K (.ref f_box_L) = true)
    (a_take_L : PySem.W.nsIn K mainGlobals "_law_take" = some (some (.ref f_take_L)))
    (l_take_L : K.lookup f_take_L = some ⟨oc_take_L, od_take_L, .func (PySem.W.fnOf "_law_take" "_law_take" (defArgs s_take_L) (defBody s_take_L) (defScope s_take_L) .none kV_take_L dc_take_L pm_take_L an_take_L cd_take_L ct_take_L), sl_take_L⟩)
    (c_take_L : PySem.W.codeIn K cd_take_L "_law_take" = true)
    (k_take_L : PySem.W.keepIn K (.ref f_take_L) = true)
    (a_caught_L : PySem.W.nsIn K mainGlobals "_law_caught" = some (some (.ref f_caught_L)))
    (l_caught_L : K.lookup f_caught_L = some ⟨oc_caught_L, od_caught_L, .func (PySem.W.fnOf "_law_caught" "_law_caught" (defArgs s_caught_L) (defBody s_caught_L) (defScope s_caught_L) .none kV_caught_L dc_caught_L pm_caught_L an_caught_L cd_caught_L ct_caught_L), sl_caught_L⟩)
    (c_caught_L : PySem.W.codeIn K cd_caught_L "_law_caught" = true)
    (k_caught_L : PySem.W.keepIn K (.ref f_caught_L) = true)
    (a_odd_L : PySem.W.nsIn K mainGlobals "_law_odd" = some (some (.ref f_odd_L)))
    (l_odd_L : K.lookup f_odd_L = some ⟨oc_odd_L, od_odd_L, .func (PySem.W.fnOf "_law_odd" "_law_odd" (defArgs s_odd_L) (defBody s_odd_L) (defScope s_odd_L) .none kV_odd_L dc_odd_L pm_odd_L an_odd_L cd_odd_L ct_odd_L), sl_odd_L⟩)
    (c_odd_L : PySem.W.codeIn K cd_odd_L "_law_odd" = true)
    (k_odd_L : PySem.W.keepIn K (.ref f_odd_L) = true)
    (a_posted_L : PySem.W.nsIn K mainGlobals "_law_posted" = some (some (.ref f_posted_L)))
    (l_posted_L : K.lookup f_posted_L = some ⟨oc_posted_L, od_posted_L, .func (PySem.W.fnOf "_law_posted" "_law_posted" (defArgs s_posted_L) (defBody s_posted_L) (defScope s_posted_L) .none kV_posted_L dc_posted_L pm_posted_L an_posted_L cd_posted_L ct_posted_L), sl_posted_L⟩)
    (c_posted_L : PySem.W.codeIn K cd_posted_L "_law_posted" = true)
    (k_posted_L : PySem.W.keepIn K (.ref f_posted_L) = true)
    (a_right_L : PySem.W.nsIn K mainGlobals "_law_right" = some (some (.ref f_right_L)))
    (l_right_L : K.lookup f_right_L = some ⟨oc_right_L, od_right_L, .func (PySem.W.fnOf "_law_right" "_law_right" (defArgs s_right_L) (defBody s_right_L) (defScope s_right_L) .none kV_right_L dc_right_L pm_right_L an_right_L cd_right_L ct_right_L), sl_right_L⟩)
    (c_right_L : PySem.W.codeIn K cd_right_L "_law_right" = true)
    (k_right_L : PySem.W.keepIn K (.ref f_right_L) = true)
    (a_refused_right_L : PySem.W.nsIn K mainGlobals "_law_refused_right" = some (some (.ref f_refused_right_L)))
    (l_refused_right_L : K.lookup f_refused_right_L = some ⟨oc_refused_right_L, od_refused_right_L, .func (PySem.W.fnOf "_law_refused_right" "_law_refused_right" (defArgs s_refused_right_L) (defBody s_refused_right_L) (defScope s_refused_right_L) .none kV_refused_right_L dc_refused_right_L pm_refused_right_L an_refused_right_L cd_refused_right_L ct_refused_right_L), sl_refused_right_L⟩)
    (c_refused_right_L : PySem.W.codeIn K cd_refused_right_L "_law_refused_right" = true)
    (k_refused_right_L : PySem.W.keepIn K (.ref f_refused_right_L) = true)
    (a_law : PySem.W.nsIn K mainGlobals "law" = some (some (.ref f_law)))
    (l_law : K.lookup f_law = some ⟨oc_law, od_law, .func (PySem.W.fnOf "law" "law" (defArgs s_law) (defBody s_law) (defScope s_law) .none kV_law dc_law pm_law an_law cd_law ct_law), sl_law⟩)
    (c_law : PySem.W.codeIn K cd_law "law" = true)
    (k_law : PySem.W.keepIn K (.ref f_law) = true)
    (cMOST : PySem.W.nsIn K mainGlobals "MOST" = some (some (.int 4095 t_most)))
    (cPORTS : PySem.W.nsIn K mainGlobals "PORTS" = some (some (.int 8 t_ports)))
    (cMP : PySem.W.nsIn K mainGlobals "MOST_POSTED" = some (some (.int 200 t_mp)))
    (rd_GuestError : PySem.W.readsIn K C_GuestError (.type "type") = true)
    (ga_GuestError : PySem.W.specialIn K (.ref C_GuestError) "__getattribute__" = some (some (.builtin "type.__getattribute__")))
    (at_GuestError : PySem.W.findCls K (.ref C_GuestError) (.type "type") "__init__" = some (.val (.ref f_GuestError_init)))
    (v_ValueError : PySem.W.findCls K (.type "ValueError") (.type "type") "__init__" = some (.val (.builtin "ValueError.__init__")))
    (rd_Barred : PySem.W.readsIn K C_Barred (.type "type") = true)
    (ga_Barred : PySem.W.specialIn K (.ref C_Barred) "__getattribute__" = some (some (.builtin "type.__getattribute__")))
    (at_Barred : PySem.W.findCls K (.ref C_Barred) (.type "type") "__init__" = some (.val (.ref f_Barred_init)))
    (v_LookupError : PySem.W.findCls K (.type "LookupError") (.type "type") "__init__" = some (.val (.builtin "LookupError.__init__")))
    (xL_M : K.lookup C_NoNumber = some (excClassObj nmM qM C_NoNumber NM bsM [.ref C_GuestError, .type "ValueError", .type "Exception", .type "BaseException", .type "object"] true snM subM abM colM ddM wM0 wM1 wM2 wM3 wM5 "ValueError.__new__"))
    (sa_M : PySem.W.findIn K (.ref C_NoNumber) "__setattr__" = some (some (.builtin "object.__setattr__")))
    (ex_M : PySem.W.subIn K (.ref C_NoNumber) (.type "BaseException") = some true)
    (ty_M : PySem.W.typeIn K (.ref C_NoNumber) = some (.type "type"))
    (kp_M : PySem.W.keepIn K (.ref C_NoNumber) = true)
    (tf_M : PySem.W.typeIn K (.ref f_NoNumber_init) = some (.type "function"))
    (nf_M : PySem.W.findIn K (.ref C_NoNumber) "found" = some none)
    (hg_M : PySem.W.findIn K (.ref C_NoNumber) "__getattribute__" = some (some (.builtin "BaseException.__getattribute__")))
    (hk_M : PySem.W.findIn K (.ref C_NoNumber) "__getattr__" = some none)
    (hd_M : PySem.W.hasDictIn K C_NoNumber = true)
    (ha_M : PySem.W.findIn K (.ref C_NoNumber) "__class__" = some (some (.builtin "object.__class__")))
    (hm_M : PySem.W.mroIn K C_NoNumber (.type "object") = some true)
    (s_M_GuestError : PySem.W.subIn K (.ref C_NoNumber) (.ref C_GuestError) = some true)
    (s_M_Missing : PySem.W.subIn K (.ref C_NoNumber) (.ref C_Missing) = some false)
    (s_M_Barred : PySem.W.subIn K (.ref C_NoNumber) (.ref C_Barred) = some false)
    (xL_W : K.lookup C_NoWord = some (excClassObj nmW qW C_NoWord NW bsW [.ref C_GuestError, .type "ValueError", .type "Exception", .type "BaseException", .type "object"] true snW subW abW colW ddW wW0 wW1 wW2 wW3 wW5 "ValueError.__new__"))
    (sa_W : PySem.W.findIn K (.ref C_NoWord) "__setattr__" = some (some (.builtin "object.__setattr__")))
    (ex_W : PySem.W.subIn K (.ref C_NoWord) (.type "BaseException") = some true)
    (ty_W : PySem.W.typeIn K (.ref C_NoWord) = some (.type "type"))
    (kp_W : PySem.W.keepIn K (.ref C_NoWord) = true)
    (tf_W : PySem.W.typeIn K (.ref f_NoWord_init) = some (.type "function"))
    (nf_W : PySem.W.findIn K (.ref C_NoWord) "found" = some none)
    (hg_W : PySem.W.findIn K (.ref C_NoWord) "__getattribute__" = some (some (.builtin "BaseException.__getattribute__")))
    (hk_W : PySem.W.findIn K (.ref C_NoWord) "__getattr__" = some none)
    (hd_W : PySem.W.hasDictIn K C_NoWord = true)
    (ha_W : PySem.W.findIn K (.ref C_NoWord) "__class__" = some (some (.builtin "object.__class__")))
    (hm_W : PySem.W.mroIn K C_NoWord (.type "object") = some true)
    (s_W_GuestError : PySem.W.subIn K (.ref C_NoWord) (.ref C_GuestError) = some true)
    (s_W_Missing : PySem.W.subIn K (.ref C_NoWord) (.ref C_Missing) = some false)
    (s_W_Barred : PySem.W.subIn K (.ref C_NoWord) (.ref C_Barred) = some false)
    (xL_F : K.lookup C_Full = some (excClassObj nmF qF C_Full NF bsF [.ref C_Barred, .type "LookupError", .type "Exception", .type "BaseException", .type "object"] true snF subF abF colF ddF wF0 wF1 wF2 wF3 wF5 "LookupError.__new__"))
    (sa_F : PySem.W.findIn K (.ref C_Full) "__setattr__" = some (some (.builtin "object.__setattr__")))
    (ex_F : PySem.W.subIn K (.ref C_Full) (.type "BaseException") = some true)
    (ty_F : PySem.W.typeIn K (.ref C_Full) = some (.type "type"))
    (kp_F : PySem.W.keepIn K (.ref C_Full) = true)
    (tf_F : PySem.W.typeIn K (.ref f_Full_init) = some (.type "function"))
    (nf_F : PySem.W.findIn K (.ref C_Full) "many" = some none)
    (hg_F : PySem.W.findIn K (.ref C_Full) "__getattribute__" = some (some (.builtin "BaseException.__getattribute__")))
    (hk_F : PySem.W.findIn K (.ref C_Full) "__getattr__" = some none)
    (hd_F : PySem.W.hasDictIn K C_Full = true)
    (ha_F : PySem.W.findIn K (.ref C_Full) "__class__" = some (some (.builtin "object.__class__")))
    (hm_F : PySem.W.mroIn K C_Full (.type "object") = some true)
    (s_F_GuestError : PySem.W.subIn K (.ref C_Full) (.ref C_GuestError) = some false)
    (s_F_Missing : PySem.W.subIn K (.ref C_Full) (.ref C_Missing) = some false)
    (s_F_Barred : PySem.W.subIn K (.ref C_Full) (.ref C_Barred) = some true)
    (s_M_M : PySem.W.subIn K (.ref C_NoNumber) (.ref C_NoNumber) = some true)
    (s_W_M : PySem.W.subIn K (.ref C_NoWord) (.ref C_NoNumber) = some false)
    (s_W_W : PySem.W.subIn K (.ref C_NoWord) (.ref C_NoWord) = some true)
    (s_F_M : PySem.W.subIn K (.ref C_Full) (.ref C_NoNumber) = some false)
    (s_F_W : PySem.W.subIn K (.ref C_Full) (.ref C_NoWord) = some false)
    (s_F_F : PySem.W.subIn K (.ref C_Full) (.ref C_Full) = some true)
    (hn : PySem.W.specialIn K (.builtin "object.__class__") "__get__" = some (some (.builtin "getset_descriptor.__get__")))
    (htk : PySem.W.takesIn K (.builtin "object.__class__") = some true)
    (hdF_GuestError : PySem.W.hasDictIn K C_GuestError = true)
    (tyF_GuestError : PySem.W.typeIn K (.ref C_GuestError) = some (.type "type"))
    (hdF_Missing : PySem.W.hasDictIn K C_Missing = true)
    (tyF_Missing : PySem.W.typeIn K (.ref C_Missing) = some (.type "type"))
    (hdF_Barred : PySem.W.hasDictIn K C_Barred = true)
    (tyF_Barred : PySem.W.typeIn K (.ref C_Barred) = some (.type "type"))
    (pg_Switch : PySem.W.plainGet K C_Switch Str.empty = true)
    (hdd_Switch : PySem.W.hasDictIn K C_Switch = true)
    (po_Switch : PySem.W.plainOver K C_Switch = true)
    (saa_Switch : PySem.W.findIn K (.ref C_Switch) "__setattr__" = some (some (.builtin "object.__setattr__")))
    (mk_Switch : PySem.W.makesIn K C_Switch = true)
    (kc_Switch : PySem.W.keepIn K (.ref C_Switch) = true)
    (na_Switch_posted : PySem.W.findIn K (.ref C_Switch) "_posted" = some none)
    (fn_Switch_init : PySem.W.isFn K (.ref f_Switch_init) = true)
    (fn_Switch_post : PySem.W.isFn K (.ref f_Switch_post) = true)
    (fn_Switch_posted : PySem.W.isFn K (.ref f_Switch_posted) = true)
    (fn_Switch_how_many : PySem.W.isFn K (.ref f_Switch_how_many) = true)
    (fn_Switch_letter : PySem.W.isFn K (.ref f_Switch_letter) = true)
    (fn_Switch_twin : PySem.W.isFn K (.ref f_Switch_twin) = true)
    (fn_Switch_words : PySem.W.isFn K (.ref f_Switch_words) = true)
    (z_isinstance : PySem.W.nsIn K mainGlobals "isinstance" = some none)
    (z_int : PySem.W.nsIn K mainGlobals "int" = some none)
    (z_bool : PySem.W.nsIn K mainGlobals "bool" = some none)
    (z_list : PySem.W.nsIn K mainGlobals "list" = some none)
    (z_len : PySem.W.nsIn K mainGlobals "len" = some none)
    (z_max : PySem.W.nsIn K mainGlobals "max" = some none)
    (z_min : PySem.W.nsIn K mainGlobals "min" = some none)
    (z_range : PySem.W.nsIn K mainGlobals "range" = some none)
    (z_repr : PySem.W.nsIn K mainGlobals "repr" = some none)
    (z_ValueError : PySem.W.nsIn K mainGlobals "ValueError" = some none)
    (z_LookupError : PySem.W.nsIn K mainGlobals "LookupError" = some none)
    (z_KeyError : PySem.W.nsIn K mainGlobals "KeyError" = some none) :
    ∃ fd : FuncData, (∀ (s : Shared) (v : Value), BindsTo s fd ⟨[v], []⟩ [("_law_script", v)]) ∧ ∀ base : Heap, K.In base → base.Ns mainGlobals mg → FnG l.prog w K mg base CX0 9 fa fd ["_law_script"] (spLaw K) := by
  have e := hfa.symm.trans (PySem.W.mg_of X G a_law)
  cases e
  have mo : ∀ {x : Str} {u : Value}, PySem.W.nsIn K mainGlobals x = some (some u) → mg x = some u := fun q => PySem.W.mg_of X G q
  have mz : ∀ {x : Str}, PySem.W.nsIn K mainGlobals x = some none → mg x = none := fun q => PySem.W.mg_none_of X G q
  have F_GuestError_init := fun_mk (st := s_GuestError_init) l_GuestError_init c_GuestError_init k_GuestError_init
  have b_GuestError_init := F_GuestError_init.binds (ps := ["self", "text"]) fun _ _ _ _ _ _ us hl => match us, hl with | [_, _], _ => rfl
  have F_Missing_init := fun_mk (st := s_Missing_init) l_Missing_init c_Missing_init k_Missing_init
  have b_Missing_init := F_Missing_init.binds (ps := ["self", "text"]) fun _ _ _ _ _ _ us hl => match us, hl with | [_, _], _ => rfl
  have F_Barred_init := fun_mk (st := s_Barred_init) l_Barred_init c_Barred_init k_Barred_init
  have b_Barred_init := F_Barred_init.binds (ps := ["self", "text"]) fun _ _ _ _ _ _ us hl => match us, hl with | [_, _], _ => rfl
  have F_NoNumber_init := fun_mk (st := s_NoNumber_init) l_NoNumber_init c_NoNumber_init k_NoNumber_init
  have b_NoNumber_init := F_NoNumber_init.binds (ps := ["self", "found"]) fun _ _ _ _ _ _ us hl => match us, hl with | [_, _], _ => rfl
  have F_NoWord_init := fun_mk (st := s_NoWord_init) l_NoWord_init c_NoWord_init k_NoWord_init
  have b_NoWord_init := F_NoWord_init.binds (ps := ["self", "found"]) fun _ _ _ _ _ _ us hl => match us, hl with | [_, _], _ => rfl
  have F_Full_init := fun_mk (st := s_Full_init) l_Full_init c_Full_init k_Full_init
  have b_Full_init := F_Full_init.binds (ps := ["self", "many"]) fun _ _ _ _ _ _ us hl => match us, hl with | [_, _], _ => rfl
  have F_is_count := fun_mk (st := s_is_count) l_is_count c_is_count k_is_count
  have b_is_count := F_is_count.binds (ps := ["thing"]) fun _ _ _ _ _ _ us hl => match us, hl with | [_], _ => rfl
  have F_is_whole := fun_mk (st := s_is_whole) l_is_whole c_is_whole k_is_whole
  have b_is_whole := F_is_whole.binds (ps := ["thing", "low", "high"]) fun _ _ _ _ _ _ us hl => match us, hl with | [_, _, _], _ => rfl
  have F_is_word := fun_mk (st := s_is_word) l_is_word c_is_word k_is_word
  have b_is_word := F_is_word.binds (ps := ["thing"]) fun _ _ _ _ _ _ us hl => match us, hl with | [_], _ => rfl
  have F_check_number := fun_mk (st := s_check_number) l_check_number c_check_number k_check_number
  have b_check_number := F_check_number.binds (ps := ["thing", "low", "high"]) fun _ _ _ _ _ _ us hl => match us, hl with | [_, _, _], _ => rfl
  have F_check_word := fun_mk (st := s_check_word) l_check_word c_check_word k_check_word
  have b_check_word := F_check_word.binds (ps := ["thing"]) fun _ _ _ _ _ _ us hl => match us, hl with | [_], _ => rfl
  have F_Switch_init := fun_mk (st := s_Switch_init) l_Switch_init c_Switch_init k_Switch_init
  have b_Switch_init := F_Switch_init.binds (ps := ["self"]) fun _ _ _ _ _ _ us hl => match us, hl with | [_], _ => rfl
  have F_Switch_post := fun_mk (st := s_Switch_post) l_Switch_post c_Switch_post k_Switch_post
  have b_Switch_post := F_Switch_post.binds (ps := ["self", "port", "word"]) fun _ _ _ _ _ _ us hl => match us, hl with | [_, _, _], _ => rfl
  have F_Switch_posted := fun_mk (st := s_Switch_posted) l_Switch_posted c_Switch_posted k_Switch_posted
  have b_Switch_posted := F_Switch_posted.binds (ps := ["self", "port"]) fun _ _ _ _ _ _ us hl => match us, hl with | [_, _], _ => rfl
  have F_Switch_how_many := fun_mk (st := s_Switch_how_many) l_Switch_how_many c_Switch_how_many k_Switch_how_many
  have b_Switch_how_many := F_Switch_how_many.binds (ps := ["self", "port"]) fun _ _ _ _ _ _ us hl => match us, hl with | [_, _], _ => rfl
  have F_Switch_letter := fun_mk (st := s_Switch_letter) l_Switch_letter c_Switch_letter k_Switch_letter
  have b_Switch_letter := F_Switch_letter.binds (ps := ["self", "port", "number"]) fun _ _ _ _ _ _ us hl => match us, hl with | [_, _, _], _ => rfl
  have F_Switch_twin := fun_mk (st := s_Switch_twin) l_Switch_twin c_Switch_twin k_Switch_twin
  have b_Switch_twin := F_Switch_twin.binds (ps := ["self"]) fun _ _ _ _ _ _ us hl => match us, hl with | [_], _ => rfl
  have F_Switch_words := fun_mk (st := s_Switch_words) l_Switch_words c_Switch_words k_Switch_words
  have b_Switch_words := F_Switch_words.binds (ps := ["self", "port"]) fun _ _ _ _ _ _ us hl => match us, hl with | [_, _], _ => rfl
  have F_check_count := fun_mk (st := s_check_count) l_check_count c_check_count k_check_count
  have b_check_count := F_check_count.binds (ps := ["thing"]) fun _ _ _ _ _ _ us hl => match us, hl with | [_], _ => rfl
  have F_cell_L := fun_mk (st := s_cell_L) l_cell_L c_cell_L k_cell_L
  have b_cell_L := F_cell_L.binds (ps := ["_law_script", "_law_k"]) fun _ _ _ _ _ _ us hl => match us, hl with | [_, _], _ => rfl
  have F_box_L := fun_mk (st := s_box_L) l_box_L c_box_L k_box_L
  have b_box_L := F_box_L.binds (ps := ["_law_cell_here"]) fun _ _ _ _ _ _ us hl => match us, hl with | [_], _ => rfl
  have F_take_L := fun_mk (st := s_take_L) l_take_L c_take_L k_take_L
  have b_take_L := F_take_L.binds (ps := ["_law_box_here", "_law_many"]) fun _ _ _ _ _ _ us hl => match us, hl with | [_, _], _ => rfl
  have F_caught_L := fun_mk (st := s_caught_L) l_caught_L c_caught_L k_caught_L
  have b_caught_L := F_caught_L.binds (ps := ["_law_switch", "_law_deed", "_law_one", "_law_two"]) fun _ _ _ _ _ _ us hl => match us, hl with | [_, _, _, _], _ => rfl
  have F_odd_L := fun_mk (st := s_odd_L) l_odd_L c_odd_L k_odd_L
  have b_odd_L := F_odd_L.binds (ps := ["_law_box_here"]) fun _ _ _ _ _ _ us hl => match us, hl with | [_], _ => rfl
  have F_posted_L := fun_mk (st := s_posted_L) l_posted_L c_posted_L k_posted_L
  have b_posted_L := F_posted_L.binds (ps := ["_law_switch", "_law_due", "_law_gate", "_law_sign"]) fun _ _ _ _ _ _ us hl => match us, hl with | [_, _, _, _], _ => rfl
  have F_right_L := fun_mk (st := s_right_L) l_right_L c_right_L k_right_L
  have b_right_L := F_right_L.binds (ps := ["_law_box_here", "_law_switch", "_law_due"]) fun _ _ _ _ _ _ us hl => match us, hl with | [_, _, _], _ => rfl
  have F_refused_right_L := fun_mk (st := s_refused_right_L) l_refused_right_L c_refused_right_L k_refused_right_L
  have b_refused_right_L := F_refused_right_L.binds (ps := ["_law_box_here", "_law_switch", "_law_due"]) fun _ _ _ _ _ _ us hl => match us, hl with | [_, _, _], _ => rfl
  have F_law := fun_mk (st := s_law) l_law c_law k_law
  have oex : ∀ {b : Bs} {C : Addr} {nm q : Str} {N : Addr} {bs bm : List Value} {sn : List Str} {sub : List Value} {ab : Bool} {col : Option Bool} {dd : Option Addr} {k0 k1 k2 k3 k5 : Option Value}, K.lookup C = some (excClassObj nm q C N bs bm true sn sub ab col dd k0 k1 k2 k3 k5 b.new) → Tail b bm →
      PySem.W.findIn K (.ref C) "__setattr__" = some (some (.builtin "object.__setattr__")) → PySem.W.subIn K (.ref C) (.type "BaseException") = some true → PySem.W.typeIn K (.ref C) = some (.type "type") → PySem.W.keepIn K (.ref C) = true → OexT K b C :=
    fun l t a b c d => ⟨⟨_, _, _, _, _, _, _, _, _, _, _, _, _, _, _, l, t⟩, a, b, c, d⟩
  have T : Txt K mg { CG := C_GuestError, fG := f_GuestError_init, CK := C_Missing, CB := C_Barred, fB := f_Barred_init, CM := C_NoNumber, fM := f_NoNumber_init, CW := C_NoWord, fW := f_NoWord_init, CF := C_Full, fF := f_Full_init, CS := C_Switch } :=
    { m_isinstance := mz z_isinstance, m_int := mz z_int, m_bool := mz z_bool, m_list := mz z_list, m_len := mz z_len, m_max := mz z_max, m_min := mz z_min, m_range := mz z_range, m_repr := mz z_repr, m_ValueError := mz z_ValueError, m_LookupError := mz z_LookupError,
      c_MOST := ⟨_, mo cMOST, ⟨_, rfl⟩⟩, c_PORTS := ⟨_, mo cPORTS, ⟨_, rfl⟩⟩, c_MOST_POSTED := ⟨_, mo cMP, ⟨_, rfl⟩⟩,
      g_GuestError := mo aC_GuestError, rd_GuestError := rd_GuestError, ga_GuestError := ga_GuestError, at_GuestError := at_GuestError, g_Missing := mo aC_Missing, g_Barred := mo aC_Barred, rd_Barred := rd_Barred, ga_Barred := ga_Barred, at_Barred := at_Barred, vV := v_ValueError, vL := v_LookupError,
      g_NoNumber := mo aC_NoNumber, g_NoWord := mo aC_NoWord, g_Full := mo aC_Full,
      xM := ⟨oex (b := .ve) xL_M (.own _ .here) sa_M ex_M ty_M kp_M, a_NoNumber_init, tf_M, nf_M, ⟨hg_M, hk_M, ex_M, hd_M⟩, ⟨hg_M, hk_M, ex_M, hd_M, ha_M, hn, htk, hm_M⟩⟩,
      xW := ⟨oex (b := .ve) xL_W (.own _ .here) sa_W ex_W ty_W kp_W, a_NoWord_init, tf_W, nf_W, ⟨hg_W, hk_W, ex_W, hd_W⟩, ⟨hg_W, hk_W, ex_W, hd_W, ha_W, hn, htk, hm_W⟩⟩,
      xF := ⟨oex (b := .le) xL_F (.own _ .here) sa_F ex_F ty_F kp_F, a_Full_init, tf_F, nf_F, ⟨hg_F, hk_F, ex_F, hd_F⟩, ⟨hg_F, hk_F, ex_F, hd_F, ha_F, hn, htk, hm_F⟩⟩,
      eMM := PySem.W.exm_ref ex_M hd_M ty_M s_M_M, eWM := PySem.W.exm_ref ex_M hd_M ty_M s_W_M, eWW := PySem.W.exm_ref ex_W hd_W ty_W s_W_W, eFM := PySem.W.exm_ref ex_M hd_M ty_M s_F_M, eFW := PySem.W.exm_ref ex_W hd_W ty_W s_F_W, eFF := PySem.W.exm_ref ex_F hd_F ty_F s_F_F,
      kMG := kit_own s_M_M hdF_GuestError tyF_GuestError s_M_GuestError, kMK := kit_own s_M_M hdF_Missing tyF_Missing s_M_Missing, kMB := kit_own s_M_M hdF_Barred tyF_Barred s_M_Barred,
      kWG := kit_own s_W_W hdF_GuestError tyF_GuestError s_W_GuestError, kWK := kit_own s_W_W hdF_Missing tyF_Missing s_W_Missing, kWB := kit_own s_W_W hdF_Barred tyF_Barred s_W_Barred,
      kFG := kit_own s_F_F hdF_GuestError tyF_GuestError s_F_GuestError, kFK := kit_own s_F_F hdF_Missing tyF_Missing s_F_Missing, kFB := kit_own s_F_F hdF_Barred tyF_Barred s_F_Barred,
      cl_Switch := ⟨pg_Switch, hdd_Switch, po_Switch, saa_Switch⟩, na_posted := na_Switch_posted }
  refine ⟨PySem.W.fnOf "law" "law" (defArgs s_law) (defBody s_law) (defScope s_law) .none kV_law dc_law pm_law an_law cd_law ct_law, fun s v => .of_eq rfl, fun base _ _ => ?_⟩
  have c_cell := CalD.mk' (P := l.prog) (w := w) (base := base) (mo a_cell_L) k_cell_L (ok_cell F_cell_L T) b_cell_L
  have c_box := CalD.mk' (P := l.prog) (w := w) (base := base) (mo a_box_L) k_box_L (ok_box F_box_L T) b_box_L
  have c_take := CalD.mk' (P := l.prog) (w := w) (base := base) (mo a_take_L) k_take_L (ok_take F_take_L T) b_take_L
  have o_GE : Own l.prog w K mg base CX0 1 f_GuestError_init _ ["self", "text"] (spGT K .ve) := ⟨ok_GE F_GuestError_init T, b_GuestError_init, k_GuestError_init⟩
  have o_BB : Own l.prog w K mg base CX0 1 f_Barred_init _ ["self", "text"] (spGT K .le) := ⟨ok_BB F_Barred_init T, b_Barred_init, k_Barred_init⟩
  have o_M : Own l.prog w K mg base CX0 2 f_NoNumber_init _ ["self", "found"] (spInitN "found" C_NoNumber) := ⟨ok_iM F_NoNumber_init T o_GE, b_NoNumber_init, k_NoNumber_init⟩
  have o_W : Own l.prog w K mg base CX0 2 f_NoWord_init _ ["self", "found"] (spInitN "found" C_NoWord) := ⟨ok_iW F_NoWord_init T o_GE, b_NoWord_init, k_NoWord_init⟩
  have o_F : Own l.prog w K mg base CX0 2 f_Full_init _ ["self", "many"] (spInitN "many" C_Full) := ⟨ok_iF F_Full_init T o_BB, b_Full_init, k_Full_init⟩
  have c_wh := CalD.mk' (P := l.prog) (w := w) (base := base) (mo a_is_whole) k_is_whole (ok_whole F_is_whole T) b_is_whole
  have c_cn := CalD.mk' (P := l.prog) (w := w) (base := base) (mo a_is_count) k_is_count (ok_count F_is_count T) b_is_count
  have c_iw := CalD.mk' (P := l.prog) (w := w) (base := base) (mo a_is_word) k_is_word (ok_isword F_is_word T c_wh) b_is_word
  have c_ck := CalX.mk' (P := l.prog) (w := w) (base := base) (mo a_check_word) k_check_word (ok_check F_check_word T c_iw o_W) b_check_word
  have c_cm := CalX.mk' (P := l.prog) (w := w) (base := base) (mo a_check_number) k_check_number (ok_ckn F_check_number T c_wh o_M) b_check_number
  have c_cc := CalX.mk' (P := l.prog) (w := w) (base := base) (mo a_check_count) k_check_count (ok_ckc F_check_count T c_cn o_M) b_check_count
  have m_words : CalM l.prog w K mg base (L2.CX l.prog w) 5 C_Switch "_words" (spWords K _) := ⟨_, _, _, ⟨a_Switch_words, fn_Switch_words, k_Switch_words⟩, ok_words F_Switch_words T c_cm, b_Switch_words⟩
  have f_posted := ok_posted F_Switch_posted T m_words
  have f_how := ok_how F_Switch_how_many T m_words
  have f_letter := ok_letter F_Switch_letter T m_words c_cc
  have f_post := ok_post F_Switch_post T m_words c_ck o_F
  have M_posted : Meth K C_Switch "posted" f_Switch_posted := ⟨a_Switch_posted, fn_Switch_posted, k_Switch_posted⟩
  have M_how : Meth K C_Switch "how_many" f_Switch_how_many := ⟨a_Switch_how_many, fn_Switch_how_many, k_Switch_how_many⟩
  have M_letter : Meth K C_Switch "letter" f_Switch_letter := ⟨a_Switch_letter, fn_Switch_letter, k_Switch_letter⟩
  have M_post : Meth K C_Switch "post" f_Switch_post := ⟨a_Switch_post, fn_Switch_post, k_Switch_post⟩
  have m_posted : CalM l.prog w K mg base (L2.CX l.prog w) 6 C_Switch "posted" (spPosted K _) := ⟨_, _, _, M_posted, f_posted, b_Switch_posted⟩
  have m_how : CalM l.prog w K mg base (L2.CX l.prog w) 6 C_Switch "how_many" (spHow K _) := ⟨_, _, _, M_how, f_how, b_Switch_how_many⟩
  have m_letter : CalM l.prog w K mg base (L2.CX l.prog w) 6 C_Switch "letter" (spLetter K _) := ⟨_, _, _, M_letter, f_letter, b_Switch_letter⟩
  have n_posted : CalMK l.prog w K mg base (L2.CX l.prog w) 6 0 ["port"] C_Switch "posted" (spPosted K _) (fun vs zs => vs ++ zs) := ⟨_, _, _, _, M_posted, f_posted, kbPlain F_Switch_posted 1 ["port"] (fun vs zs => vs ++ zs) (fun r1 r2 => r1.append r2) (fun _ _ _ _ _ _ us ws h1 h2 => match us, ws, h1, h2 with | [_], [_], _, _ => rfl)⟩
  have n_how : CalMK l.prog w K mg base (L2.CX l.prog w) 6 0 ["port"] C_Switch "how_many" (spHow K _) (fun vs zs => vs ++ zs) := ⟨_, _, _, _, M_how, f_how, kbPlain F_Switch_how_many 1 ["port"] (fun vs zs => vs ++ zs) (fun r1 r2 => r1.append r2) (fun _ _ _ _ _ _ us ws h1 h2 => match us, ws, h1, h2 with | [_], [_], _, _ => rfl)⟩
  have n_letter : CalMK l.prog w K mg base (L2.CX l.prog w) 6 0 ["number", "port"] C_Switch "letter" (spLetter K _) (fun vs zs => vs ++ zs.reverse) := ⟨_, _, _, _, M_letter, f_letter, kbPlain F_Switch_letter 1 ["number", "port"] (fun vs zs => vs ++ zs.reverse) (fun r1 r2 => r1.append (vals_rev r2)) (fun _ _ _ _ _ _ us ws h1 h2 => match us, ws, h1, h2 with | [_], [_, _], _, _ => rfl)⟩
  have n_post : CalMK l.prog w K mg base (L2.CX l.prog w) 6 0 ["word", "port"] C_Switch "post" (spPost K _) (fun vs zs => vs ++ zs.reverse) := ⟨_, _, _, _, M_post, f_post, kbPlain F_Switch_post 1 ["word", "port"] (fun vs zs => vs ++ zs.reverse) (fun r1 r2 => r1.append (vals_rev r2)) (fun _ _ _ _ _ _ us ws h1 h2 => match us, ws, h1, h2 with | [_], [_, _], _, _ => rfl)⟩
  have i_sw : CalC l.prog w K mg base CX0 1 C_Switch "Switch" (spSwInit _) := ⟨_, _, _, ⟨mk_Switch, a_Switch_init, fn_Switch_init, kc_Switch⟩, ok_init F_Switch_init T, b_Switch_init, mo aC_Switch⟩
  have m_twin : CalM l.prog w K mg base CX0 3 C_Switch "twin" (spTwin _) := ⟨_, _, _, ⟨a_Switch_twin, fn_Switch_twin, k_Switch_twin⟩, ok_twin F_Switch_twin T i_sw, b_Switch_twin⟩
  have c_ca := CalD.mk' (mo a_caught_L) k_caught_L (ok_caught F_caught_L T n_post n_letter n_posted n_how) b_caught_L
  have c_od := CalD.mk' (mo a_odd_L) k_odd_L (ok_odd F_odd_L T c_take) b_odd_L
  have c_po := CalG.mk' (mo a_posted_L) k_posted_L (ok_postedL F_posted_L T c_ca) b_posted_L
  have c_ri := CalG.mk' (mo a_right_L) k_right_L (ok_right F_right_L T c_take m_posted m_how m_letter) b_right_L
  have c_rr := CalG.mk' (mo a_refused_right_L) k_refused_right_L (ok_refused F_refused_right_L T c_take c_od c_ca) b_refused_right_L
  exact ok_law F_law T c_cell c_box c_take i_sw m_twin c_po c_rr c_ri
end K24
open PySem PySem.W PyProof.Rows
set_option maxHeartbeats 0 in
theorem PySem.Challenge.cw_guestsalone_k24_words_posted_for_ports_holds : PySem.Challenge.rw_guestsalone_k24_words_posted_for_ports.Holds := by
  w_on; o_law; k_head; (case hw => w_witness2)
  k_fill
  refine Bk.walk_ofG (l := PySem.Challenge.rw_guestsalone_k24_words_posted_for_ports) (n := 63) (k := 9) (x := "_law_script") (sp := fun w => K24.spLaw _) rfl (by decide) rfl ⟨rfl, by decide, by decide⟩ (fun w h Y => PySem.W.kIn_of Y) ?F (fun _ _ a ns hl _ hS => ⟨a, ns, rfl, hS, hl, fun _ => rfl⟩)
  case F =>
    intro w mg fa h KX G hmg
    refine' K24.all_mk KX G hmg ?aC_GuestError ?aC_Missing ?aC_Barred ?aC_NoNumber ?aC_NoWord ?aC_Full ?aC_Switch ?a_GuestError_init ?l_GuestError_init ?c_GuestError_init ?k_GuestError_init ?a_Missing_init ?l_Missing_init ?c_Missing_init ?k_Missing_init ?a_Barred_init ?l_Barred_init ?c_Barred_init ?k_Barred_init ?a_NoNumber_init ?l_NoNumber_init ?c_NoNumber_init ?k_NoNumber_init ?a_NoWord_init ?l_NoWord_init ?c_NoWord_init ?k_NoWord_init ?a_Full_init ?l_Full_init ?c_Full_init ?k_Full_init ?a_is_count ?l_is_count ?c_is_count ?k_is_count ?a_is_whole ?l_is_whole ?c_is_whole ?k_is_whole ?a_is_word ?l_is_word ?c_is_word ?k_is_word ?a_check_number ?l_check_number ?c_check_number ?k_check_number ?a_check_word ?l_check_word ?c_check_word ?k_check_word ?a_Switch_init ?l_Switch_init ?c_Switch_init ?k_Switch_init ?a_Switch_post ?l_Switch_post ?c_Switch_post ?k_Switch_post ?a_Switch_posted ?l_Switch_posted ?c_Switch_posted ?k_Switch_posted ?a_Switch_how_many ?l_Switch_how_many ?c_Switch_how_many ?k_Switch_how_many ?a_Switch_letter ?l_Switch_letter ?c_Switch_letter ?k_Switch_letter ?a_Switch_twin ?l_Switch_twin ?c_Switch_twin ?k_Switch_twin ?a_Switch_words ?l_Switch_words ?c_Switch_words ?k_Switch_words ?a_check_count ?l_check_count ?c_check_count ?k_check_count ?a_cell_L ?l_cell_L ?c_cell_L ?k_cell_L ?a_box_L ?l_box_L ?c_box_L ?k_box_L ?a_take_L ?l_take_L ?c_take_L ?k_take_L ?a_caught_L ?l_caught_L ?c_caught_L ?k_caught_L ?a_odd_L ?l_odd_L ?c_odd_L ?k_odd_L ?a_posted_L ?l_posted_L ?c_posted_L ?k_posted_L ?a_right_L ?l_right_L ?c_right_L ?k_right_L ?a_refused_right_L ?l_refused_right_L ?c_refused_right_L ?k_refused_right_L ?a_law ?l_law ?c_law ?k_law ?cMOST ?cPORTS ?cMP ?rd_GuestError ?ga_GuestError ?at_GuestError ?v_ValueError ?rd_Barred ?ga_Barred ?at_Barred ?v_LookupError ?xL_M ?sa_M ?ex_M ?ty_M ?kp_M ?tf_M ?nf_M ?hg_M ?hk_M ?hd_M ?ha_M ?hm_M ?s_M_GuestError ?s_M_Missing ?s_M_Barred ?xL_W ?sa_W ?ex_W ?ty_W ?kp_W ?tf_W ?nf_W ?hg_W ?hk_W ?hd_W ?ha_W ?hm_W ?s_W_GuestError ?s_W_Missing ?s_W_Barred ?xL_F ?sa_F ?ex_F ?ty_F ?kp_F ?tf_F ?nf_F ?hg_F ?hk_F ?hd_F ?ha_F ?hm_F ?s_F_GuestError ?s_F_Missing ?s_F_Barred ?s_M_M ?s_W_M ?s_W_W ?s_F_M ?s_F_W ?s_F_F ?hn ?htk ?hdF_GuestError ?tyF_GuestError ?hdF_Missing ?tyF_Missing ?hdF_Barred ?tyF_Barred ?pg_Switch ?hdd_Switch ?po_Switch ?saa_Switch ?mk_Switch ?kc_Switch ?na_Switch_posted ?fn_Switch_init ?fn_Switch_post ?fn_Switch_posted ?fn_Switch_how_many ?fn_Switch_letter ?fn_Switch_twin ?fn_Switch_words ?z_isinstance ?z_int ?z_bool ?z_list ?z_len ?z_max ?z_min ?z_range ?z_repr ?z_ValueError ?z_LookupError ?z_KeyError
    (case aC_GuestError => k_is)
    (case aC_Missing => k_is)
    (case aC_Barred => k_is)
    (case aC_NoNumber => k_is)
    (case aC_NoWord => k_is)
    (case aC_Full => k_is)
    (case aC_Switch => k_is)
    (case a_GuestError_init => k_is)
    (case l_GuestError_init => k_is)
    (case c_GuestError_init => k_is)
    (case k_GuestError_init => k_is)
    (case a_Missing_init => k_is)
    (case l_Missing_init => k_is)
    (case c_Missing_init => k_is)
    (case k_Missing_init => k_is)
    (case a_Barred_init => k_is)
    (case l_Barred_init => k_is)
    (case c_Barred_init => k_is)
    (case k_Barred_init => k_is)
    (case a_NoNumber_init => k_is)
    (case l_NoNumber_init => k_is)
    (case c_NoNumber_init => k_is)
    (case k_NoNumber_init => k_is)
    (case a_NoWord_init => k_is)
    (case l_NoWord_init => k_is)
    (case c_NoWord_init => k_is)
    (case k_NoWord_init => k_is)
    (case a_Full_init => k_is)
    (case l_Full_init => k_is)
    (case c_Full_init => k_is)
    (case k_Full_init => k_is)
    (case a_is_count => k_is)
    (case l_is_count => k_is)
    (case c_is_count => k_is)
    (case k_is_count => k_is)
    (case a_is_whole => k_is)
    (case l_is_whole => k_is)
    (case c_is_whole => k_is)
    (case k_is_whole => k_is)
    (case a_is_word => k_is)
    (case l_is_word => k_is)
    (case c_is_word => k_is)
    (case k_is_word => k_is)
    (case a_check_number => k_is)
    (case l_check_number => k_is)
    (case c_check_number => k_is)
    (case k_check_number => k_is)
    (case a_check_word => k_is)
    (case l_check_word => k_is)
    (case c_check_word => k_is)
    (case k_check_word => k_is)
    (case a_Switch_init => k_is)
    (case l_Switch_init => k_is)
    (case c_Switch_init => k_is)
    (case k_Switch_init => k_is)
    (case a_Switch_post => k_is)
    (case l_Switch_post => k_is)
    (case c_Switch_post => k_is)
    (case k_Switch_post => k_is)
    (case a_Switch_posted => k_is)
    (case l_Switch_posted => k_is)
    (case c_Switch_posted => k_is)
    (case k_Switch_posted => k_is)
    (case a_Switch_how_many => k_is)
    (case l_Switch_how_many => k_is)
    (case c_Switch_how_many => k_is)
    (case k_Switch_how_many => k_is)
    (case a_Switch_letter => k_is)
    (case l_Switch_letter => k_is)
    (case c_Switch_letter => k_is)
    (case k_Switch_letter => k_is)
    (case a_Switch_twin => k_is)
    (case l_Switch_twin => k_is)
    (case c_Switch_twin => k_is)
    (case k_Switch_twin => k_is)
    (case a_Switch_words => k_is)
    (case l_Switch_words => k_is)
    (case c_Switch_words => k_is)
    (case k_Switch_words => k_is)
    (case a_check_count => k_is)
    (case l_check_count => k_is)
    (case c_check_count => k_is)
    (case k_check_count => k_is)
    (case a_cell_L => k_is)
    (case l_cell_L => k_is)
    (case c_cell_L => k_is)
    (case k_cell_L => k_is)
    (case a_box_L => k_is)
    (case l_box_L => k_is)
    (case c_box_L => k_is)
    (case k_box_L => k_is)
    (case a_take_L => k_is)
    (case l_take_L => k_is)
    (case c_take_L => k_is)
    (case k_take_L => k_is)
    (case a_caught_L => k_is)
    (case l_caught_L => k_is)
    (case c_caught_L => k_is)
    (case k_caught_L => k_is)
    (case a_odd_L => k_is)
    (case l_odd_L => k_is)
    (case c_odd_L => k_is)
    (case k_odd_L => k_is)
    (case a_posted_L => k_is)
    (case l_posted_L => k_is)
    (case c_posted_L => k_is)
    (case k_posted_L => k_is)
    (case a_right_L => k_is)
    (case l_right_L => k_is)
    (case c_right_L => k_is)
    (case k_right_L => k_is)
    (case a_refused_right_L => k_is)
    (case l_refused_right_L => k_is)
    (case c_refused_right_L => k_is)
    (case k_refused_right_L => k_is)
    (case a_law => k_is)
    (case l_law => k_is)
    (case c_law => k_is)
    (case k_law => k_is)
    (case cMOST => k_is)
    (case cPORTS => k_is)
    (case cMP => k_is)
    (case rd_GuestError => k_is)
    (case ga_GuestError => k_is)
    (case at_GuestError => k_is)
    (case v_ValueError => k_is)
    (case rd_Barred => k_is)
    (case ga_Barred => k_is)
    (case at_Barred => k_is)
    (case v_LookupError => k_is)
    (case xL_M => k_is)
    (case sa_M => k_is)
    (case ex_M => k_is)
    (case ty_M => k_is)
    (case kp_M => k_is)
    (case tf_M => k_is)
    (case nf_M => k_is)
    (case hg_M => k_is)
    (case hk_M => k_is)
    (case hd_M => k_is)
    (case ha_M => k_is)
    (case hm_M => k_is)
    (case s_M_GuestError => k_is)
    (case s_M_Missing => k_is)
    (case s_M_Barred => k_is)
    (case xL_W => k_is)
    (case sa_W => k_is)
    (case ex_W => k_is)
    (case ty_W => k_is)
    (case kp_W => k_is)
    (case tf_W => k_is)
    (case nf_W => k_is)
    (case hg_W => k_is)
    (case hk_W => k_is)
    (case hd_W => k_is)
    (case ha_W => k_is)
    (case hm_W => k_is)
    (case s_W_GuestError => k_is)
    (case s_W_Missing => k_is)
    (case s_W_Barred => k_is)
    (case xL_F => k_is)
    (case sa_F => k_is)
    (case ex_F => k_is)
    (case ty_F => k_is)
    (case kp_F => k_is)
    (case tf_F => k_is)
    (case nf_F => k_is)
    (case hg_F => k_is)
    (case hk_F => k_is)
    (case hd_F => k_is)
    (case ha_F => k_is)
    (case hm_F => k_is)
    (case s_F_GuestError => k_is)
    (case s_F_Missing => k_is)
    (case s_F_Barred => k_is)
    (case s_M_M => k_is)
    (case s_W_M => k_is)
    (case s_W_W => k_is)
    (case s_F_M => k_is)
    (case s_F_W => k_is)
    (case s_F_F => k_is)
    (case hn => k_is)
    (case htk => k_is)
    (case hdF_GuestError => k_is)
    (case tyF_GuestError => k_is)
    (case hdF_Missing => k_is)
    (case tyF_Missing => k_is)
    (case hdF_Barred => k_is)
    (case tyF_Barred => k_is)
    (case pg_Switch => k_is)
    (case hdd_Switch => k_is)
    (case po_Switch => k_is)
    (case saa_Switch => k_is)
    (case mk_Switch => k_is)
    (case kc_Switch => k_is)
    (case na_Switch_posted => k_is)
    (case fn_Switch_init => k_is)
    (case fn_Switch_post => k_is)
    (case fn_Switch_posted => k_is)
    (case fn_Switch_how_many => k_is)
    (case fn_Switch_letter => k_is)
    (case fn_Switch_twin => k_is)
    (case fn_Switch_words => k_is)
    (case z_isinstance => k_is)
    (case z_int => k_is)
    (case z_bool => k_is)
    (case z_list => k_is)
    (case z_len => k_is)
    (case z_max => k_is)
    (case z_min => k_is)
    (case z_range => k_is)
    (case z_repr => k_is)
    (case z_ValueError => k_is)
    (case z_LookupError => k_is)
    (case z_KeyError => k_is)
