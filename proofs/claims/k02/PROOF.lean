import PyProof.Rows.All
import Wide.All
import OpenK.AllK
import Wide.FinOn
import HandS.Base
import HandS.Call
import HandS.List
import HandS.Comp
import HandS.Ends
import HandS.Dict
import HandS.Iter
import HandS.Text
import HandS.Words
import HandS.Wide
import HandS.Flow
import HandS.Style
import HandS.IsInst
import HandS.ExcInit
import HandS.ExcIs
import HandS.Defaults
import HandS.Walk
import HandS.Codes
import KE.IntTextLaws
import PyProof.ReprRoads
import HandS.WordsExc
import HandS.TryMany
import HandS.ExcOwn
import HandS.ExcField
import KE.GoesEnum
import PyProof.ReprBulk
import HandS.WideBits
import PyProof.EqKinds
import PyProof.FactsAll.dict_1
import PyProof.FactsAll.subtypes_3
import PyProof.FactsAll.subtypes_4
import PySem.Challenge.RW_guestsalone_k02_codes_and_entries
set_option Elab.async false
set_option linter.all false
set_option maxRecDepth 100000
set_option maxHeartbeats 8000000
namespace Bk
open PySem PySem.Spec PyProof.Rows L2
/-! ## 1. rules of our own -/
section
variable {X : Cx} {CX : CXT} {k n : Nat} {f : Addr} {fd : FuncData} {ps ks : List Str} {sp : Sp} {E : XK} {x m : Str} {p p1 p2 pos : Pos} {e : Expr} {es : List Expr} {kws : List Keyword} {t tk ta : TA} {g : List Value → List Value → List Value} {gV : List V → List V → List V}
/-- f(k = v, ..): keywords alone -/
theorem pe_callN0 (F : FnOk X.prog X.w X.K X.mg X.base CX k f fd ps sp) (hr : Room k X.A) (hg : Gl X x) (hm : X.mg x = some (.ref f)) (hk : PySem.W.keepIn X.K (.ref f) = true) (hb : KBn X.K fd ps 0 ks g gV) (hx : Passes CX X E)
    (hkw : PK X kws tk) (hall : (backToKw pos (keywordEach kws X.env)).all (·.1.isSome) = true := by rfl) (hks : (backToKw pos (keywordEach kws X.env)).filterMap (·.1) = ks := by rfl)
    (hdb : (x == ("__debug__" : Str)) = false := by decide)
    (hpl : ((backTo pos (starEach [] X.env)).any (·.1) || (backToKw pos (keywordEach kws X.env)).any (·.1.isNone)) = false := by rfl) :
    PE X (.Call (.Name x p) [] kws pos) (tCallN 0 ks.length sp gV E tNil tk) := by
  refine ⟨fun pins s σ H Q I h => ?_⟩
  refine wpAny_Call_Name_kw (ld_glob I hg hm ?_ hdb)
  refine PySem.W.callWith_KW0 (h₀ := X.base) I.ok.mod.kin hk hall ?_ hpl
  refine thn (hkw.run pos pins s σ H _ I h) fun ws s2 ⟨zs, H2, I2, rz, l1, l2, q2⟩ => ⟨I2.kIn, ?_⟩
  rw [hks]
  exact run_fnN (us := []) (vs := []) F hr hb hx I2 .nil rz rfl l2 q2
/-- C.m(e, ..): m a plain def of the class at B (or above it), read off the class -/
theorem pe_cdef {B : Addr} {mc : Value} {ds : List Value} {dvs : List V} {pl : Sem Bool} (F : FnOk X.prog X.w X.K X.mg X.base CX k f fd ps sp) (hr : Room k X.A) (hg : Gl X x) (hm : X.mg x = some (.ref B))
    (rd : PySem.W.readsIn X.K B mc = true) (ga : PySem.W.specialIn X.K (.ref B) "__getattribute__" = some (some (.builtin "type.__getattribute__"))) (at_ : PySem.W.findCls X.K (.ref B) mc m = some (.val (.ref f)))
    (hk : PySem.W.keepIn X.K (.ref f) = true) (hb : Binds X.K fd ps ds) (hd : Vals dvs ds) (hx : Passes CX X E) (ha : PA X (e :: es) t)
    (ht : eval (.Call (.Attribute (.Name x p1) m p2) (e :: es) [] pos) X.env = (do
      let ov ← eval (.Name x p1) X.env
      standAt p2.atName
      let (f, first) ← holding [ov] (getMethod ov m pl)
      callWith pos f first (backTo pos (starEach (e :: es) X.env)) (backToKw pos (keywordEach [] X.env))) := by rfl)
    (hdb : (x == ("__debug__" : Str)) = false := by decide) (he : starEach (e :: es) X.env = (false, eval e X.env) :: starEach es X.env := by rfl) (hpl : (backTo pos (starEach es X.env)).any (·.1) = false := by rfl) :
    PE X (.Call (.Attribute (.Name x p1) m p2) (e :: es) [] pos) (tCall sp dvs E t) := by
  refine ⟨fun pins s σ H Q I h => ?_⟩
  refine PySem.W.methodCall_KW (pl := pl) (ld_glob I hg hm ?_ hdb) ht
  refine PySem.W.method_cls I.kIn ga (PySem.W.cls_value I.kIn rd at_ rfl ?_)
  have I1 := I.tok (s.toks + 1)
  refine PySem.W.callWith_K (h₀ := X.base) I.ok.mod.kin hk (thn (ha.run pos pins _ σ H _ I1 h) fun us s1 ⟨vs, H1, I2, r, q⟩ => ⟨I2.kIn, ?_⟩) he hpl
  exact run_fn F hr hb hd hx I2 r q
/-- C(e, ..) as a value, C an own exception class under ValueError whose own __init__ keeps sp -/
def tMkV (C : Addr) (sp : Sp) (dvs : List V) (ta : TA) : TE := fun σ H Q => ta σ H fun vs H1 => vs.length ≤ 1000 ∧ ∀ a, H1 a = none → sp (.ref a :: (vs ++ dvs)) (upd H1 a (exo a C none)) (fun v H2 => v = .non ∧ Q (.ref a) H2) (fun _ _ _ => False)
theorem pe_oex {C fI : Addr} {ds : List Value} {dvs : List V} (T : OexC X.K C) (iC : PySem.W.findIn X.K (.ref C) "__init__" = some (some (.ref fI))) (tI : PySem.W.typeIn X.K (.ref fI) = some (.type "function"))
    (F1 : FnOk X.prog X.w X.K X.mg X.base CX k fI fd ps sp) (hr : Room (k + 1) X.A) (hb : Binds X.K fd ps ds) (hd : Vals dvs ds) (hx : Passes CX X (fun _ _ _ => False)) (hg : Gl X x) (hm : X.mg x = some (.ref C)) (ha : PA X (e :: es) ta)
    (hdb : (x == ("__debug__" : Str)) = false := by decide) (he : starEach (e :: es) X.env = (false, eval e X.env) :: starEach es X.env := by rfl) (hpl : (backTo pos (starEach es X.env)).any (·.1) = false := by rfl) :
    PE X (.Call (.Name x p) (e :: es) [] pos) (tMkV C sp dvs ta) := by
  refine ⟨fun pins s σ H Q I h => ?_⟩
  obtain ⟨nm, q, N, bs, bm, sn, sub, ab, col, dd, k0, k1, k2, k3, k5, hC, hbm⟩ := T.cls
  refine wpAny_Call_Name_kw (ld_glob I hg hm ?_ hdb)
  refine PySem.W.callWith_K (h₀ := X.base) I.ok.mod.kin T.kC (thn (ha.run pos pins s σ H _ I h) fun us s1 ⟨vs, H1, I1, r1, hz, q1⟩ => ⟨I1.kIn, ?_⟩) he hpl
  show wpAny _ _ (call (.ref C) us) _ _ _
  obtain ⟨hp, g, dr, tk, os⟩ := s1
  have hsz : hp.objs.size ≤ hp.objs.size + 1 := Nat.le_succ _
  have hn : H1 (hp.objs.size + 1) = none := I1.hok.fresh hsz
  have hq := q1 (hp.objs.size + 1) hn
  have kk : ∀ b o, hp.get? b = some o → ((hp.push (PySem.W.kdv_tup us)).push (PySem.HandSPX.excO C hp.objs.size)).get? b = some o := fun b o e => Heap.get?_push_of_some _ (Heap.get?_push_of_some _ e)
  have hget : ((hp.push (PySem.W.kdv_tup us)).push (PySem.HandSPX.excO C hp.objs.size)).get? (hp.objs.size + 1) = some (PySem.HandSPX.excO C hp.objs.size) := by heap_get
  have I2 : Inv X pins σ (upd H1 (hp.objs.size + 1) (exo (hp.objs.size + 1) C none)) ⟨(hp.push (PySem.W.kdv_tup us)).push (PySem.HandSPX.excO C hp.objs.size), g, dr, tk, os⟩ :=
    I1.laid (t' := tk) (a := hp.objs.size + 1) (o := exo (hp.objs.size + 1) C none) (h' := (hp.push (PySem.W.kdv_tup us)).push (PySem.HandSPX.excO C hp.objs.size)) kk hsz (exo_ok hget)
  have r2 : Vals (V.ref (hp.objs.size + 1) :: (vs ++ dvs)) (Value.ref (hp.objs.size + 1) :: (us ++ ds)) := .cons rfl (r1.append hd)
  have hl : (Value.ref (hp.objs.size + 1) :: us ++ ds).length = ps.length := by
    have e := r2.length
    rw [F1.len _ _ _ _ hq] at e
    exact e.symm
  have hus : us.length ≤ sizeLine := by
    rw [← Paired.length r1, sizeLine_eq]
    omega
  refine wpAny_call (PySem.HandSPX.call_own F.excBase_ValueError (fun Y => PySem.HandSPX.refsVE_contains Y bm hbm) (I1.kIn _ _ hC) (PySem.W.looks_findIn I1.kIn iC) (fun self => PySem.W.bind_fn I1.kIn self tI) hus
    (codeAny_mono (F1.run _ X.stack _ _ ⟨Value.ref (hp.objs.size + 1) :: us, []⟩ (Value.ref (hp.objs.size + 1) :: (us ++ ds)) _ _ (fun _ _ _ => False) (hr.make C us []) (I2.env0.make C us []) (hb _ (Value.ref (hp.objs.size + 1) :: us) I2.kIn hl) r2 hq) fun r s' hq' => ?_))
  cases r with
  | error er => exact hx pins σ _ _ er s' I2 hq'
  | ok fl =>
    cases fl with
    | ret u =>
      obtain ⟨v, H2, I3, rv, ev, q2⟩ := I2.after hq'
      subst ev
      exact ⟨rv, .ref (hp.objs.size + 1), H2, I3, rfl, q2⟩
    | next => exact False.elim hq'
    | brk => exact False.elim hq'
    | cont => exact False.elim hq'
/-- repr of a truth -/
def reprB (b : Bool) : Str := if b then "True" else "False"
theorem reprB_inj {a b : Bool} : decide (V.str (reprB a) = V.str (reprB b)) = decide (a = b) := by
  cases a <;> cases b <;> decide +kernel
theorem call_repr_bl : CallR X (.builtin "repr") (fun xs H Q => ∃ b, xs = [.bl b] ∧ Q (.str (reprB b)) H) := by
  intro pins s σ H xs us Q I r h
  obtain ⟨b, rfl, q⟩ := h
  obtain ⟨u, rfl, rfl⟩ := vals1 r
  exact PySem.P.repr_of_bool ⟨.str _, H, I.tok _, ⟨_, rfl⟩, q⟩
end
/-! ### an exception as a value: isinstance, its field -/
end Bk
namespace PySem.W
open PySem PySem.Spec PySem.Calls PyProof.Rows
section
variable {prog : Program} {w : World} {A : Around} {E : Value → Shared → Prop} {s : Shared} {K : Frag} {x D : Addr} {ox : Obj} {od : Option Obj}
theorem bk_findObj {C : Addr} {name : Str} {a g : Value} (hc : (clsIn K C).isSome = true) (ha : findIn K (.ref C) name = some (some a)) (hg : specialIn K a "__get__" = some (some g)) (ht : takesIn K a = some true) : findObj K C od name = some (.bind g a) := by
  obtain ⟨cd, hc⟩ := Option.isSome_iff_exists.mp hc
  unfold findObj
  rw [hc, Option.bind_some, ha, Option.bind_some]
  simp [hg, ht]
theorem bk_class {Q : Option Value → Shared → Prop} (hga : findIn K (.ref D) "__getattribute__" = some (some (.builtin "BaseException.__getattribute__"))) (hgt : findIn K (.ref D) "__getattr__" = some none) (hsub : subIn K (.ref D) (.type "BaseException") = some true)
    (hdct : hasDictIn K D = true) (ha : findIn K (.ref D) "__class__" = some (some (.builtin "object.__class__")))
    (hn : specialIn K (.builtin "object.__class__") "__get__" = some (some (.builtin "getset_descriptor.__get__"))) (htk : takesIn K (.builtin "object.__class__") = some true) (hm : mroIn K D (.type "object") = some true)
    (X : K.In s.heap) (I : InstAt s.heap x ox D od) (h : Q (some (.ref D)) { s with toks := s.toks + 1 }) : wpAny (model prog w) A (getAttr? (.ref x) "__class__") Q E s := by
  have hf : findObj K D od "__class__" = some (.bind (.builtin "getset_descriptor.__get__") (.builtin "object.__class__")) := bk_findObj (by obtain ⟨cd, hc, _⟩ := any_some hdct; rw [hc]; rfl) ha hn htk
  obtain ⟨hp, g, d, t, os⟩ := s
  have L0 := I.type (M := model prog w)
  have L1 := looks_findIn (M := model prog w) X hga
  have L2 := looks_findIn (M := model prog w) X hgt
  have L3 := looks_find (M := model prog w) X I hf
  have sub : Looks (model prog w) hp (isInstance (.ref x) (.type "BaseException")) true := L0.andThen (looks_subIn X hsub)
  have hx0 : (false && onTheHeap (Value.builtin "BaseException.__getattribute__")) = false := rfl
  have hx2 : (Value.builtin "BaseException.__getattribute__" == Value.builtin "object.__getattribute__") = false := by decide +kernel
  have hx1 : (onTheHeap (Value.ref D) && Value.builtin "BaseException.__getattribute__" == Value.builtin "object.__getattribute__") = false := by rw [hx2]; rfl
  unfold getAttr? getAttrBy? getAttrBy
  refine wpAny_bind (wpAny_mkText (wpAny_bind (wpAny_attempt (wpAny_holding (wpAny_bind (L0.at (wpAny_bind (L1.at ?_))))))))
  show wpAny _ _ (if (onTheHeap (Value.ref D) && Value.builtin "BaseException.__getattribute__" == Value.builtin "object.__getattribute__") = true then _ else _) _ _ _
  rw [hx1, if_neg Bool.false_ne_true]
  unfold getAttrByItsOwn hookBefore
  refine wpAny_bind ?_
  rw [if_pos (show onTheHeap (Value.ref D) = true from rfl)]
  refine L2.at ?_
  refine wpAny_bind (wpAny_attempt (wpAny_holding ?_))
  unfold callGetattribute
  rw [hx0, if_neg Bool.false_ne_true]
  unfold boundAndCalled
  rw [PySem.F.excAttr_ValueError.ga.bind (.ref x)]
  refine wpAny_bind (wpAny_pure ?_)
  show wpAny _ _ (call (.builtin "BaseException.__getattribute__") [.ref x, .str "__class__" t]) _ _ _
  refine wpAny_call (codeAny_call_builtin PySem.F.excAttr_ValueError.ga.plain PySem.F.entry_bexc_ga ?_)
  refine @check_slot (model prog w) _ _ ⟨hp, g, d, t + 1, os⟩ "BaseException.__getattribute__" "BaseException" "__getattribute__" (.ref x) [.str "__class__" t] [] _ (by decide +kernel) (by decide +kernel) sub (PySem.F.args_bexc_ga (.ref x) (.str "__class__" t)) ?_
  unfold Builtin.«object.__getattribute__»
  refine wpAny_bind (wpAny_of_eq (a := ((Value.ref x : Value), [Value.str "__class__" t])) (by first | rfl | (simp only [slotArgs]; rfl)) ?_)
  refine wpAny_bind (wpAny_pure (wpAny_bind (L0.at (wpAny_bind (L3.at ?_)))))
  show wpAny _ _ (holding [Value.builtin "object.__class__"] (call (.builtin "getset_descriptor.__get__") [.builtin "object.__class__", .ref x, .ref D]) >>= ret) _ _ _
  refine wpAny_bind (wpAny_holding (wpAny_call (class_get (s := ⟨hp, g, d, t + 1, os⟩) (ox := ox) (od := od) X I hm ?_)))
  refine wpAny_pure ?_
  show wpAny _ _ (handedOut (.ref D)) _ _ _
  rw [handedOut_of (v := .ref D) rfl]
  first
    | exact wpAny_pure (wpAny_pure h)
    | exact wpAny_pure h
    | exact wpAny_pure (wpAny_bind (wpAny_pure (wpAny_pure h)))
theorem bk_kitx (hga : findIn K (.ref D) "__getattribute__" = some (some (.builtin "BaseException.__getattribute__"))) (hgt : findIn K (.ref D) "__getattr__" = some none) (hsub : subIn K (.ref D) (.type "BaseException") = some true) (hdct : hasDictIn K D = true) (ha : findIn K (.ref D) "__class__" = some (some (.builtin "object.__class__")))
    (hn : specialIn K (.builtin "object.__class__") "__get__" = some (some (.builtin "getset_descriptor.__get__"))) (htk : takesIn K (.builtin "object.__class__") = some true) (hm : mroIn K D (.type "object") = some true) :
    KitX K (.ref x) (.ref D) (fun h => InstAt h x ox D od) where
  ty := fun _ _ _ I => I.type
  it := fun _ _ X _ => by
    obtain ⟨cdD, hcD, _⟩ := any_some hdct
    unfold clsIn at hcD
    split at hcD
    · rename_i c' d' cd' sl' ho
      intro A' Q' E' s' k q
      unfold isType loadHead
      exact wpAny_bind (wpAny_loadPart (k _ _ (X _ _ ho)) (wpAny_pure q))
    · cases hcD
  ne := fun h tp dd its n sl X htp => by
    obtain ⟨cdD, hcD, _⟩ := any_some hdct
    refine Bool.eq_false_iff.mpr fun q => ?_
    have e : D = tp := Value.ref.inj (beq_iff_eq.mp q)
    subst e
    unfold clsIn at hcD
    split at hcD
    · rename_i c' d' cd' sl' ho
      have z := (X _ _ ho).symm.trans htp
      cases z
    · cases hcD
  ca := fun X I k => bk_class hga hgt hsub hdct ha hn htk hm X I k
end
end PySem.W
namespace Bk
open PySem PySem.Spec PyProof.Rows L2
/-- at a: an exception of the class at D, its own dict (at dx) holds fs -/
def XV (H : Hp) (a D dx : Addr) (fs : List (Str × V)) : Prop := H a = some (exo a D (some dx)) ∧ H dx = some (exd dx fs)
theorem xv_inst {X : Cx} {pins : List (Addr × Obj)} {σ : L2.St} {H : Hp} {s : Shared} {a D dx : Addr} {fs : List (Str × V)} (I : Inv X pins σ H s) (h : XV H a D dx fs) :
    ∃ (ox od : Obj) (mA : Str → Option Value), PySem.W.InstAt s.heap a ox D (some od) ∧ (∀ f, PySem.W.lookIn f od = some (mA f)) ∧ ∀ f, RelO (fs.lookup f) (mA f) := by
  obtain ⟨t1, ho⟩ := exo_at I.hok h.1
  obtain ⟨mA, hns, rel⟩ := exd_at I.hok h.2
  obtain ⟨od, hod, hl⟩ := lookIn_ns hns
  exact ⟨_, od, mA, ⟨ho, rfl, rfl, hod⟩, hl, rel⟩
/-- isinstance(e, c), e such an exception -/
def rIsX (K : PySem.W.Frag) : List V → Hp → VK → Prop := fun xs H Q => ∃ (a D dx : Addr) (fs : List (Str × V)) (c : V) (u : Value) (b : Bool), xs = [.ref a, c] ∧ XV H a D dx fs ∧ ExcC K D ∧ ClsV c u ∧ PySem.W.kitOne K (.ref D) u = some b ∧ Q (.bl b) H
theorem call_isX {X : Cx} : CallR X (.builtin "isinstance") (rIsX X.K) := by
  intro pins s σ H xs us Q I r h
  obtain ⟨a, D, dx, fs, c, u, b, rfl, xv, C, k, e, q⟩ := h
  obtain ⟨u1, u2, rfl, r1, r2⟩ := vals2 r
  have e2 := k.eq r2
  subst e2
  obtain rfl : u1 = Value.ref a := r1
  obtain ⟨ox, od, mA, J, _, _⟩ := xv_inst I xv
  exact PySem.W.kia_one (PySem.W.bk_kitx (ox := ox) (od := some od) C.hg C.hk C.hs C.hd C.ha C.hn C.ht C.hm) I.kIn J e (fun z => nomatch z) fun tk => ⟨.bl b, H, I.tok tk, rfl, q⟩
/-- isinstance of a value of any form met here -/
def rIs (K : PySem.W.Frag) : List V → Hp → VK → Prop := fun xs H Q => rIsi K xs H Q ∨ rIsX K xs H Q
theorem call_is {X : Cx} : CallR X (.builtin "isinstance") (rIs X.K) := CallR.or call_isi call_isX
end Bk

namespace Bk
open PySem PySem.Spec PyProof.Rows L2
/-! ## 2. a def that may be called by its name -/
structure Cal (P : Program) (w : World) (K : PySem.W.Frag) (mg : Str → Option Value) (base : Heap) (CX : CXT) (k : Nat) (x : Str) (sp : Sp) : Prop where
  ex : ∃ (f : Addr) (fd : FuncData) (ps : List Str) (ds : List Value) (dvs : List V), mg x = some (.ref f) ∧ PySem.W.keepIn K (.ref f) = true ∧ FnOk P w K mg base CX k f fd ps (fun vs H Q E => sp vs H Q E ∧ vs.length = ps.length) ∧ Binds K fd ps [] ∧ ds = [] ∧ dvs = []
/-- the same with keywords: n values by places, then those of the keywords ks; gV orders them -/
structure CalN (P : Program) (w : World) (K : PySem.W.Frag) (mg : Str → Option Value) (base : Heap) (CX : CXT) (k n : Nat) (ks : List Str) (x : Str) (sp : Sp) (gV : List V → List V → List V) : Prop where
  ex : ∃ (f : Addr) (fd : FuncData) (ps : List Str) (g : List Value → List Value → List Value), mg x = some (.ref f) ∧ PySem.W.keepIn K (.ref f) = true ∧ FnOk P w K mg base CX k f fd ps sp ∧ KBn K fd ps n ks g gV
/-- defaults fill up -/
structure CalD (P : Program) (w : World) (K : PySem.W.Frag) (mg : Str → Option Value) (base : Heap) (CX : CXT) (k : Nat) (x : Str) (sp : Sp) (dvs : List V) : Prop where
  ex : ∃ (f : Addr) (fd : FuncData) (ps : List Str) (ds : List Value), mg x = some (.ref f) ∧ PySem.W.keepIn K (.ref f) = true ∧ FnOk P w K mg base CX k f fd ps sp ∧ Binds K fd ps ds ∧ Vals dvs ds
/-- a method's def, by itself -/
structure Own (P : Program) (w : World) (K : PySem.W.Frag) (mg : Str → Option Value) (base : Heap) (CX : CXT) (k : Nat) (f : Addr) (fd : FuncData) (ps : List Str) (sp : Sp) : Prop where
  ok : FnOk P w K mg base CX k f fd ps sp
  bd : Binds K fd ps []
  kp : PySem.W.keepIn K (.ref f) = true
section
variable {X : Cx} {CX : CXT} {k j n : Nat} {ks : List Str} {sp : Sp} {E : XK} {x : Str} {p pos : Pos} {e : Expr} {es : List Expr} {kws : List Keyword} {t tk : TA} {gV : List V → List V → List V} {dvs : List V}
theorem pe_cal (c : CalD X.prog X.w X.K X.mg X.base CX0 k x sp []) (hr : Room j X.A) (hk : k ≤ j) (hg : Gl X x) (ha : PA X (e :: es) t)
    (hdb : (x == ("__debug__" : Str)) = false := by decide) (he : starEach (e :: es) X.env = (false, eval e X.env) :: starEach es X.env := by rfl) (hpl : (backTo pos (starEach es X.env)).any (·.1) = false := by rfl) :
    PE X (.Call (.Name x p) (e :: es) [] pos) (tCall sp [] E0 t) := by
  obtain ⟨f, fd, ps, ds, h1, h2, h3, h4, h5⟩ := c.ex
  exact pe_call h3 (hr.mono hk) hg h1 h2 h4 h5 pass0 ha hdb he hpl
theorem pe_calD (c : CalD X.prog X.w X.K X.mg X.base CX0 k x sp dvs) (hr : Room j X.A) (hk : k ≤ j) (hg : Gl X x) (ha : PA X (e :: es) t)
    (hdb : (x == ("__debug__" : Str)) = false := by decide) (he : starEach (e :: es) X.env = (false, eval e X.env) :: starEach es X.env := by rfl) (hpl : (backTo pos (starEach es X.env)).any (·.1) = false := by rfl) :
    PE X (.Call (.Name x p) (e :: es) [] pos) (tCall sp dvs E0 t) := by
  obtain ⟨f, fd, ps, ds, h1, h2, h3, h4, h5⟩ := c.ex
  exact pe_call h3 (hr.mono hk) hg h1 h2 h4 h5 pass0 ha hdb he hpl
theorem pe_cal0 (c : CalD X.prog X.w X.K X.mg X.base CX0 k x sp []) (hr : Room j X.A) (hk : k ≤ j) (hg : Gl X x) (hdb : (x == ("__debug__" : Str)) = false := by decide) :
    PE X (.Call (.Name x p) [] [] pos) (tCall sp [] E0 tNil) := by
  obtain ⟨f, fd, ps, ds, h1, h2, h3, h4, h5⟩ := c.ex
  exact pe_call0 h3 (hr.mono hk) hg h1 h2 h4 h5 pass0 hdb
theorem pe_calN (c : CalN X.prog X.w X.K X.mg X.base CX0 k n ks x sp gV) (hr : Room k X.A) (hg : Gl X x) (ha : PA X (e :: es) t) (hkw : PK X kws tk)
    (hall : (backToKw pos (keywordEach kws X.env)).all (·.1.isSome) = true := by rfl) (hks : (backToKw pos (keywordEach kws X.env)).filterMap (·.1) = ks := by rfl)
    (hdb : (x == ("__debug__" : Str)) = false := by decide) (he : starEach (e :: es) X.env = (false, eval e X.env) :: starEach es X.env := by rfl)
    (hpl : ((backTo pos (starEach (e :: es) X.env)).any (·.1) || (backToKw pos (keywordEach kws X.env)).any (·.1.isNone)) = false := by rfl) :
    PE X (.Call (.Name x p) (e :: es) kws pos) (tCallN n ks.length sp gV E0 t tk) := by
  obtain ⟨f, fd, ps, g, h1, h2, h3, h4⟩ := c.ex
  exact pe_callN h3 hr hg h1 h2 h4 pass0 ha hkw hall hks hdb he hpl
theorem pe_calN0 (c : CalN X.prog X.w X.K X.mg X.base CX0 k 0 ks x sp gV) (hr : Room k X.A) (hg : Gl X x) (hkw : PK X kws tk)
    (hall : (backToKw pos (keywordEach kws X.env)).all (·.1.isSome) = true := by rfl) (hks : (backToKw pos (keywordEach kws X.env)).filterMap (·.1) = ks := by rfl)
    (hdb : (x == ("__debug__" : Str)) = false := by decide)
    (hpl : ((backTo pos (starEach [] X.env)).any (·.1) || (backToKw pos (keywordEach kws X.env)).any (·.1.isNone)) = false := by rfl) :
    PE X (.Call (.Name x p) [] kws pos) (tCallN 0 ks.length sp gV E0 tNil tk) := by
  obtain ⟨f, fd, ps, g, h1, h2, h3, h4⟩ := c.ex
  exact pe_callN0 h3 hr hg h1 h2 h4 pass0 hkw hall hks hdb hpl
end
theorem CalD.mk' {P : Program} {w : World} {K : PySem.W.Frag} {mg : Str → Option Value} {base : Heap} {CX : CXT} {k : Nat} {x : Str} {sp : Sp} {f : Addr} {fd : FuncData} {ps : List Str} (g : mg x = some (.ref f)) (kp : PySem.W.keepIn K (.ref f) = true) (F : FnOk P w K mg base CX k f fd ps sp) (b : Binds K fd ps []) :
    CalD P w K mg base CX k x sp [] := ⟨f, fd, ps, [], g, kp, F, b, .nil⟩
/-! ## 3. going through a reading -/
section
variable {K : PySem.W.Frag} {σ : L2.St} {H : Hp} {ta tb tc te : TE} {t u : TT} {x y v : V} {Q : VK} {QB : Bool → Hp → Prop} {QL : List V → Hp → Prop} {r r' : R2} {D : Ends} {a b : TS} {tr : TA}
theorem r_var {i : Nat} (h : σ[i]? = some (some v)) (q : Q v H) : tVar i σ H Q := ⟨v, h, q⟩
theorem r_c (q : Q v H) : tC v σ H Q := q
theorem r_op (q : ta σ H fun x H1 => tb σ H1 fun y H2 => r x y H2 Q) : tOp r ta tb σ H Q := q
theorem r_un {r : V → Hp → VK → Prop} (q : ta σ H fun x H1 => r x H1 Q) : tUn r ta σ H Q := q
theorem r_I0 {g : Int → Int → V} {i j : Int} (q : Q (g i j) H) : rI0 g (.int i) (.int j) H Q := ⟨i, j, rfl, rfl, q⟩
theorem r_I {C : Int → Int → Prop} {g : Int → Int → V} {i j : Int} (c : C i j) (q : Q (g i j) H) : rI C g (.int i) (.int j) H Q := ⟨i, j, rfl, rfl, c, q⟩
theorem r_U {g : Int → V} {i : Int} (q : Q (g i) H) : rU g (.int i) H Q := ⟨i, rfl, q⟩
theorem r_eq (s : scal x y = true) (q : Q (.bl (decide (x = y))) H) : rEq x y H Q := ⟨s, q⟩
theorem r_ne (s : scal x y = true) (q : Q (.bl (!decide (x = y))) H) : rNe x y H Q := ⟨s, q⟩
theorem r_nil (q : QL [] H) : tNil σ H QL := q
theorem r_cons (q : ta σ H fun x H1 => tr σ H1 fun xs H2 => QL (x :: xs) H2) : tCons ta tr σ H QL := q
theorem r_call {sp : Sp} {dvs : List V} {E : XK} (q : tr σ H fun vs H1 => sp (vs ++ dvs) H1 Q E) : tCall sp dvs E tr σ H Q := q
theorem r_callN {n m : Nat} {sp : Sp} {gV : List V → List V → List V} {E : XK} {tk : TA} (q : tr σ H fun vs H1 => tk σ H1 fun zs H2 => vs.length = n ∧ zs.length = m ∧ sp (gV vs zs) H2 Q E) : tCallN n m sp gV E tr tk σ H Q := q
theorem r_cb {rc : List V → Hp → VK → Prop} (q : tr σ H fun vs H1 => rc vs H1 Q) : tCB rc tr σ H Q := q
theorem r_ret (q : te σ H D.rt) : tRet te D σ H := q
theorem r_seq (q : a { D with nx := b D } σ H) : tSeq a b D σ H := q
theorem r_asg {g : TG} (q : te σ H fun x H1 => g x σ H1 D.nx) : tAsg te g D σ H := q
theorem r_name {i : Nat} {Qs : L2.St → Hp → Prop} (q : Qs (σ.set i (some v)) H) : gName i v σ H Qs := q
theorem r_if (q : t σ H fun b' H1 => if b' = true then a D σ H1 else b D σ H1) : tIfS t a b D σ H := q
theorem r_next (q : D.nx σ H) : tNext D σ H := q
theorem r_drop (q : te σ H fun _ H1 => D.nx σ H1) : tDrop te D σ H := q
theorem r_test (q : te σ H fun x H' => ∃ k, x = .bl k ∧ QB k H') : tTest te σ H QB := q
theorem r_tB (q : te σ H fun x H' => ∃ k, x = .bl k ∧ QB k H') : tB te σ H QB := q
theorem r_isb {k : Bool} (q : QB k H) : ∃ k', V.bl k = .bl k' ∧ QB k' H := ⟨k, rfl, q⟩
theorem r_isv {k : Bool} {A : Bool → Prop} (q : A k) : ∃ k', V.bl k = .bl k' ∧ A k' := ⟨k, rfl, q⟩
theorem r_not (q : t σ H fun c H1 => QB (!c) H1) : tNot t σ H QB := q
theorem r_and (q : t σ H fun c H1 => if c = true then u σ H1 QB else QB false H1) : tAnd t u σ H QB := q
theorem r_or (q : t σ H fun c H1 => if c = true then QB true H1 else u σ H1 QB) : tOr t u σ H QB := q
theorem r_andV (q : ta σ H fun x H1 => ∃ c, x = .bl c ∧ if c = true then tb σ H1 Q else Q (.bl false) H1) : tAndV ta tb σ H Q := q
theorem r_orV (q : ta σ H fun x H1 => ∃ c, x = .bl c ∧ if c = true then Q (.bl true) H1 else tb σ H1 Q) : tOrV ta tb σ H Q := q
theorem r_notV (q : ta σ H fun x H1 => ∃ c, x = .bl c ∧ Q (.bl (!c)) H1) : tNotV ta σ H Q := q
theorem r_chain (q : ta σ H fun x H1 => tb σ H1 fun y H2 => r x y H2 fun z H3 => ∃ k, z = .bl k ∧ (if k = true then tc σ H3 fun w' H4 => r' y w' H4 Q else Q (.bl false) H3)) : tChain r r' ta tb tc σ H Q := q
theorem r_ifE (q : t σ H fun c H1 => if c = true then ta σ H1 Q else tb σ H1 Q) : tIf t ta tb σ H Q := q
theorem r_isN (q : Q (.bl (decide (x = .non))) H) : (fun x y H Q => y = V.non ∧ Q (.bl (decide (x = .non))) H : R2) x .non H Q := ⟨rfl, q⟩
def NewL (xs : List V) (H : Hp) (Q : VK) : Prop := xs.length ≤ sizeLine ∧ ∀ p, H p = none → Q (.ref p) (upd H p (.lst xs))
def NewT (xs : List V) (H : Hp) (Q : VK) : Prop := xs.length ≤ sizeLine ∧ ∀ p, H p = none → Q (.ref p) (upd H p (.tup xs))
theorem r_lst (q : tr σ H fun xs H1 => NewL xs H1 Q) : tLst tr σ H Q := q
theorem r_tup (q : tr σ H fun xs H1 => NewT xs H1 Q) : tTup tr σ H Q := q
theorem same_upd {p : Addr} {o : HO} (h : H p = none) : Same H (upd H p o) := fun b x e => by
  rw [upd_ne (ne_of_none e h)]
  exact e
/-- a new object: the heap behind it by what stands in it -/
theorem newL {xs : List V} (q : ∀ p H', H p = none → Same H H' → H' p = some (.lst xs) → Q (.ref p) H') (hl : xs.length ≤ 10000 := by exact Nat.le_of_ble_eq_true rfl) : NewL xs H Q :=
  ⟨Nat.le_trans hl (by decide), fun p hp => q p _ hp (same_upd hp) upd_same⟩
theorem newT {xs : List V} (q : ∀ p H', H p = none → Same H H' → H' p = some (.tup xs) → Q (.ref p) H') (hl : xs.length ≤ 10000 := by exact Nat.le_of_ble_eq_true rfl) : NewT xs H Q :=
  ⟨Nat.le_trans hl (by decide), fun p hp => q p _ hp (same_upd hp) upd_same⟩
def NewDK (kvs : List (Key × V)) (H : Hp) (Q : VK) : Prop := ∀ p, H p = none → Q (.ref p) (upd H p (.dK kvs))
theorem r_dnewK (q : NewDK [] H Q) : tDNewK σ H Q := q
theorem newDK {kvs : List (Key × V)} (q : ∀ p H', H p = none → Same H H' → H' p = some (.dK kvs) → Q (.ref p) H') : NewDK kvs H Q := fun p hp => q p _ hp (same_upd hp) upd_same
def MkV (C : Addr) (sp : Sp) (dvs vs : List V) (H : Hp) (Q : VK) : Prop := vs.length ≤ 1000 ∧ ∀ a, H a = none → sp (.ref a :: (vs ++ dvs)) (upd H a (exo a C none)) (fun v H2 => v = .non ∧ Q (.ref a) H2) (fun _ _ _ => False)
theorem r_mkV {C : Addr} {sp : Sp} {dvs : List V} (q : tr σ H fun vs H1 => MkV C sp dvs vs H1 Q) : tMkV C sp dvs tr σ H Q := q
def ForL (J : It) (g : TG) (tb : TS) (D : Ends) (σ : L2.St) (H : Hp) : Prop := ∃ W : Nat → Nat → L2.St → Hp → Prop, (∃ m, W 0 m σ H) ∧ ∀ i m σ H, W i m σ H →
  (J.stop i H ∧ D.nx σ H) ∨ (J.go i H ∧ ∃ N : L2.St → Hp → Prop, (∀ σ' H', N σ' H' → ∃ m', m' < m ∧ W (i + 1) m' σ' H') ∧ ∀ x H', J.yld i H x H' → g x σ H' fun σ2 H2 => tb { D with nx := N, ct := N, bk := D.nx } σ2 H2)
theorem r_for {wi : TI} {g : TG} (q : wi σ H fun J H1 => ForL J g a D σ H1) : tFor wi g a D σ H := q
theorem r_iList {tl : TE} {R : It → Hp → Prop} (q : tl σ H fun x H1 => ∃ p, x = .ref p ∧ (∃ xs, SqL K H1 p xs) ∧ R (Itl K p) H1) : iList K tl σ H R := q
theorem r_iTup {tl : TE} {R : It → Hp → Prop} (q : tl σ H fun x H1 => ∃ p, x = .ref p ∧ (∃ xs, SqT K H1 p xs) ∧ R (Itt K p) H1) : iTup K tl σ H R := q
theorem r_iRng1 {R : It → Hp → Prop} (q : tr σ H fun vs H1 => ∃ j : Int, vs = [.int j] ∧ -(2 ^ 62) ≤ j ∧ j < 2 ^ 62 ∧ R (Itr 0 j.toNat) H1) : iRng1 tr σ H R := q
theorem r_iRng2 {R : It → Hp → Prop} (q : tr σ H fun vs H1 => ∃ i j : Int, vs = [.int i, .int j] ∧ (-(2 ^ 62) ≤ i ∧ i < 2 ^ 62 ∧ -(2 ^ 62) ≤ j ∧ j < 2 ^ 62) ∧ R (Itr i (j - i).toNat) H1) : iRng2 tr σ H R := q
theorem r_ixL {p : Addr} {xs : List V} {i : Int} (h : SqL K H p xs) (ha : atI xs i = some v) (q : Q v H) : rIxL K (.ref p) (.int i) H Q := ⟨p, xs, i, v, rfl, rfl, h, ha, q⟩
theorem r_ixT {p : Addr} {xs : List V} {i : Int} (h : SqT K H p xs) (ha : atI xs i = some v) (q : Q v H) : rIxT K (.ref p) (.int i) H Q := ⟨p, xs, i, v, rfl, rfl, h, ha, q⟩
theorem r_gSub {to ti : TE} {ts : TSet} {Qs : L2.St → Hp → Prop} (q : to σ H fun o H1 => ti σ H1 fun i H2 => ts o i v H2 fun H3 => Qs σ H3) : gSub to ti ts v σ H Qs := q
theorem r_bm {T : String} {rm : V → List V → Hp → VK → Prop} {to : TE} (q : to σ H fun x H1 => tyV K T x H1 ∧ tr σ H1 fun xs H2 => rm x xs H2 Q) : tBM K T rm to tr σ H Q := q
theorem iteNF {A B : Prop} (h : B) : if (!true) = true then A else B := iteF h
theorem iteNT {A B : Prop} (h : A) : if (!false) = true then A else B := iteT h
theorem iteD {c A B : Prop} [Decidable c] (hc : c) (h : A) : if decide c = true then A else B := by rw [decide_eq_true hc]; exact iteT h
theorem iteDn {c A B : Prop} [Decidable c] (hc : ¬ c) (h : B) : if decide c = true then A else B := by rw [decide_eq_false hc]; exact iteF h
theorem iteND {c A B : Prop} [Decidable c] (hc : c) (h : B) : if (!decide c) = true then A else B := by rw [decide_eq_true hc]; exact iteF h
theorem iteNDn {c A B : Prop} [Decidable c] (hc : ¬ c) (h : A) : if (!decide c) = true then A else B := by rw [decide_eq_false hc]; exact iteT h
/-- a test that is open: both ways, by what it says -/
theorem iteC {c A B : Prop} [Decidable c] (h1 : c → A) (h2 : ¬ c → B) : if decide c = true then A else B := by
  by_cases h : c
  · exact iteD h (h1 h)
  · exact iteDn h (h2 h)
theorem iteNC {c A B : Prop} [Decidable c] (h1 : ¬ c → A) (h2 : c → B) : if (!decide c) = true then A else B := by
  by_cases h : c
  · exact iteND h (h2 h)
  · exact iteNDn h (h1 h)
theorem iteB {b : Bool} {A B : Prop} (h1 : b = true → A) (h2 : b = false → B) : if b = true then A else B := by
  cases b
  · exact iteF (h2 rfl)
  · exact iteT (h1 rfl)
theorem iteNB {b : Bool} {A B : Prop} (h1 : b = false → A) (h2 : b = true → B) : if (!b) = true then A else B := by
  cases b
  · exact iteT (h1 rfl)
  · exact iteF (h2 rfl)
theorem r_m1 {rm : V → List V → Hp → VK → Prop} {to te : TE} (q : to σ H fun x H1 => (∃ a, x = .str a) ∧ te σ H1 fun y H2 => rm x [y] H2 Q) : tM1 rm to te σ H Q := q
theorem r_len {z : Str} (h : z.length ≤ 100000) (q : Q (.int z.length) H) : ∃ z', [V.str z] = [V.str z'] ∧ z'.length ≤ sizeLine ∧ Q (.int z'.length) H := ⟨z, rfl, Nat.le_trans h (by decide), q⟩
theorem sqL {p : Addr} {xs : List V} (h : H p = some (.lst xs)) : SqL K H p xs := .inl (.inl h)
theorem sqT {p : Addr} {xs : List V} (h : H p = some (.tup xs)) : SqT K H p xs := .inl (.inl h)
end
end Bk

namespace Bk
open PySem PySem.Spec PyProof.Rows L2
/-! ## 4. what isinstance answers -/
def IsA (K : PySem.W.Frag) (H : Hp) (x : V) (T : String) (b : Bool) : Prop :=
  (∃ t, TyX K H x t ∧ PySem.W.kitOne K t (.type T) = some b) ∨ (∃ (a D dx : Addr) (fs : List (Str × V)), x = .ref a ∧ XV H a D dx fs ∧ ExcC K D ∧ PySem.W.kitOne K (.ref D) (.type T) = some b)
section
variable {K : PySem.W.Frag} {H H' : Hp} {x : V} {T : String} {b : Bool} {Q : VK}
theorem r_is (h : IsA K H x T b) (q : Q (.bl b) H) : rIs K [x, .ty T] H Q := by
  rcases h with ⟨t, h1, h2⟩ | ⟨a, D, dx, fs, rfl, h1, h2, h3⟩
  · exact .inl ⟨x, .ty T, t, .type T, b, rfl, .ty T, h1, h2, q⟩
  · exact .inr ⟨a, D, dx, fs, .ty T, .type T, b, rfl, h1, h2, .ty T, h3, q⟩
theorem isa_int {i : Int} (h : kitB "int" T = some b := by decide +kernel) : IsA K H (.int i) T b := .inl ⟨.type "int", .base (.int i), kit_ty h⟩
theorem isa_bl {c : Bool} (h : kitB "bool" T = some b := by decide +kernel) : IsA K H (.bl c) T b := .inl ⟨.type "bool", .base (.bl c), kit_ty h⟩
theorem isa_str {z : Str} (h : kitB "str" T = some b := by decide +kernel) : IsA K H (.str z) T b := .inl ⟨.type "str", .base (.str z), kit_ty h⟩
theorem isa_non (h : kitB "NoneType" T = some b := by decide +kernel) : IsA K H .non T b := .inl ⟨.type "NoneType", .base .non, kit_ty h⟩
theorem isa_lst {a : Addr} {xs : List V} (e : H a = some (.lst xs)) (h : kitB "list" T = some b := by decide +kernel) : IsA K H (.ref a) T b := .inl ⟨.type "list", .base (.lst e), kit_ty h⟩
theorem isa_tup {a : Addr} {xs : List V} (e : H a = some (.tup xs)) (h : kitB "tuple" T = some b := by decide +kernel) : IsA K H (.ref a) T b := .inl ⟨.type "tuple", .base (.tup e), kit_ty h⟩
theorem isa_dK {a : Addr} {kvs : List (Key × V)} (e : H a = some (.dK kvs)) (h : kitB "dict" T = some b := by decide +kernel) : IsA K H (.ref a) T b := .inl ⟨.type "dict", .base (.dK e), kit_ty h⟩
theorem isa_exc {a D dx : Addr} {fs : List (Str × V)} (e : XV H a D dx fs) (C : ExcC K D) (h : PySem.W.kitOne K (.ref D) (.type T) = some b) : IsA K H (.ref a) T b := .inr ⟨a, D, dx, fs, rfl, e, C, h⟩
end
/-! ## 5. the box of draws -/
def Box (a : Addr) (n : Nat) (H : Hp) : Prop := ∃ x y z : Int, H a = some (.lst [.int x, .int y, .int z]) ∧ 0 ≤ x ∧ 0 ≤ y ∧ y < 2147483629 ∧ 0 ≤ z ∧ z ≤ (n : Int)
/-- all but what stands at a is as it was -/
def But (a : Addr) (H H' : Hp) : Prop := ∀ b o, b ≠ a → H b = some o → H' b = some o
theorem But.refl {a : Addr} {H : Hp} : But a H H := fun _ _ _ h => h
theorem But.trans {a : Addr} {H H1 H2 : Hp} (x : But a H H1) (y : But a H1 H2) : But a H H2 := fun b o n e => y b o n (x b o n e)
theorem But.same {a : Addr} {H H1 H2 : Hp} (x : But a H H1) (y : Same H1 H2) : But a H H2 := fun b o n e => y b o (x b o n e)
theorem But.of {a : Addr} {H H1 : Hp} (y : Same H H1) : But a H H1 := fun b o _ e => y b o e
theorem But.upd {a : Addr} {H : Hp} {o : HO} : But a H (upd H a o) := fun b u n e => by rw [upd_ne n]; exact e
theorem Box.same {a : Addr} {n : Nat} {H H' : Hp} (h : Box a n H) (s : Same H H') : Box a n H' := by
  obtain ⟨x, y, z, e, r⟩ := h
  exact ⟨x, y, z, s _ _ e, r⟩
theorem Box.mono {a : Addr} {n m : Nat} {H : Hp} (h : Box a n H) (l : n ≤ m) : Box a m H := by
  obtain ⟨x, y, z, e, r1, r2, r3, r4, r5⟩ := h
  exact ⟨x, y, z, e, r1, r2, r3, r4, by omega⟩
theorem Box.ne {a p : Addr} {n : Nat} {H : Hp} (h : Box a n H) (hp : H p = none) : p ≠ a := by
  obtain ⟨x, y, z, e, _⟩ := h
  exact (ne_of_none e hp).symm
theorem Box.ne_tup {a p : Addr} {n : Nat} {H : Hp} {xs : List V} (h : Box a n H) (hp : H p = some (.tup xs)) : p ≠ a := by
  obtain ⟨x, y, z, e, _⟩ := h
  exact fun q => by rw [q, e] at hp; cases hp
def spCell (K : PySem.W.Frag) : Sp := fun vs H Q _ => ∃ (a : Addr) (ns : List Int) (k : Nat), vs = [.ref a, .int k] ∧ SqL K H a (ns.map V.int) ∧ k ≤ 100000 ∧ ∀ c, Q (.int c) H
def spBox : Sp := fun vs H Q _ => ∃ c : Int, vs = [.int c] ∧ ∀ p H', H p = none → Same H H' → Box p 0 H' → Q (.ref p) H'
def spTake : Sp := fun vs H Q _ => ∃ (a : Addr) (n : Nat) (size : Int), vs = [.ref a, .int size] ∧ Box a n H ∧ n < 1000000 ∧ 0 < size ∧ size < 2 ^ 128 ∧
  ∀ d H', 0 ≤ d → d < size → Box a (n + 1) H' → But a H H' → Q (.int d) H'
theorem cdiv {i j : Int} (h : 0 < j) (h2 : j < 2 ^ 128) : CDivW i j := wide_div (b := 128) h (by omega) (by decide) (by decide)
theorem cmul {i j : Int} (h1 : -(2 ^ 128) < i) (h2 : i < 2 ^ 128) (h3 : -(2 ^ 128) < j) (h4 : j < 2 ^ 128) : CMulW i j := wide_mul (a := 128) (b := 128) (by omega) (by omega) (by decide) (by decide) (by decide)
theorem at_map {ns : List Int} {k : Nat} (h : k < ns.length) : atI (ns.map V.int) ((k : Nat) : Int) = some (.int ns[k]) := atI_nat (by rw [List.getElem?_map, List.getElem?_eq_getElem h]; rfl)
end Bk

namespace Bk
open PySem PySem.Spec PyProof.Rows L2
theorem sameBut {H H' : Hp} {D : Addr} {o : HO} (h : Same H H') (n : H D = none) : Same H (upd H' D o) := fun b u e => by
  rw [upd_ne (ne_of_none e n)]
  exact h b u e
/-! ## 6. a comprehension over a text's signs, all of it -/
section
variable {K : PySem.W.Frag} {σ : L2.St} {H : Hp} {Q : VK} {te : TE}
/-- the list of p of each sign -/
theorem r_lcStr {i0 j : Nat} {vs : List Nat} {z : Str} (p : Nat → V) (hv : σ[i0]? = some (some (.str z))) (hz : z.length ≤ 100000)
    (hw : ∀ x, wipe ((wipe σ vs).set j (some x)) vs = wipe σ vs)
    (ht : ∀ (c : Nat) (H' : Hp) (Q' : VK), c ∈ z.cps.toList → Same H H' → (∀ H2, Same H' H2 → Q' (p c) H2) → te ((wipe σ vs).set j (some (.str ⟨#[c]⟩))) H' Q')
    (q : ∀ D H', H D = none → Same H H' → H' D = some (.lst (z.cps.toList.map p)) → Q (.ref D) H') :
    tLc (iStr (tVar i0)) (gName j) tYes te vs σ H Q := by
  refine ⟨_, hv, z, rfl, fun D hD => ?_⟩
  refine lc_it (n := z.cps.size) walk_str (fun i H' => Same H H' ∧ H' D = some (.lst ((z.cps.toList.take i).map p))) ⟨same_upd hD, by rw [upd_same]; rfl⟩ (fun _ _ _ _ => trivial) ?_ ?_
  · rintro i x H1 H2 hi ⟨sm, e⟩ ⟨rfl, c, hc, rfl⟩
    have hc' : z.cps.toList[i]? = some c := by rw [Array.getElem?_toList]; exact hc
    refine ⟨hw _, ?_⟩
    show te _ _ _
    refine ht c _ _ (List.mem_of_getElem? hc') sm fun H3 s3 => ⟨_, s3 _ _ e, ?_, sameBut (sm.trans s3) hD, ?_⟩
    · have l : ((z.cps.toList.take i).map p).length ≤ z.cps.size := by
        rw [List.length_map, List.length_take, Array.length_toList]
        omega
      have hz' : z.cps.size ≤ 100000 := hz
      exact Nat.lt_of_le_of_lt (Nat.le_trans l hz') (by decide)
    · rw [upd_same, List.take_add_one, hc', List.map_append]
      rfl
  · rintro H1 ⟨sm, e⟩
    refine q D H1 hD sm ?_
    rw [e]
    have l : z.cps.size = z.cps.toList.length := (Array.length_toList).symm
    rw [l, List.take_length]
/-- all([p(sign) for sign in text]) -/
theorem r_allStr {i0 j : Nat} {vs : List Nat} {z : Str} (p : Nat → Bool) (hv : σ[i0]? = some (some (.str z))) (hz : z.length ≤ 100000)
    (hw : ∀ x, wipe ((wipe σ vs).set j (some x)) vs = wipe σ vs)
    (ht : ∀ (c : Nat) (H' : Hp) (Q' : VK), c ∈ z.cps.toList → Same H H' → (∀ H2, Same H' H2 → Q' (.bl (p c)) H2) → te ((wipe σ vs).set j (some (.str ⟨#[c]⟩))) H' Q')
    (q : ∀ H', Same H H' → Q (.bl (z.cps.toList.all p)) H') :
    tCB (rAll K) (tCons (tLc (iStr (tVar i0)) (gName j) tYes te vs) tNil) σ H Q := by
  refine r_cb (r_cons ?_)
  refine r_lcStr (fun c => .bl (p c)) hv hz hw ht fun D H' nD sm e => ?_
  refine r_nil ⟨D, z.cps.toList.map p, rfl, sqL ?_, ?_⟩
  · rw [e, List.map_map]
    rfl
  · rw [List.all_map]
    exact q H' sm
end
/-! ## 7. draws, items, slices -/
section
variable {K : PySem.W.Frag} {σ : L2.St} {H : Hp} {Q : VK} {E : XK} {te : TE} {tl th : TO} {QO : Option Int → Hp → Prop}
theorem r_take {a : Addr} {n : Nat} {size : Int} (hB : Box a n H) (q : ∀ d H', 0 ≤ d → d < size → Box a (n + 1) H' → But a H H' → Q (.int d) H') (hn : n < 1000000 := by omega) (h0 : 0 < size := by decide) (h1 : size < 2 ^ 128 := by decide) : spTake [.ref a, .int size] H Q E :=
  ⟨a, n, size, rfl, hB, hn, h0, h1, q⟩
theorem r_ixS {z : Str} {d : Int} (h0 : 0 ≤ d) (h1 : d < (z.cps.toList.length : Int)) (hz : z.length ≤ 100000) (q : ∀ c, z.cps.toList[d.toNat]? = some c → Q (.str ⟨#[c]⟩) H) : rIxS (.str z) (.int d) H Q := by
  have l : d.toNat < z.cps.toList.length := by omega
  obtain ⟨c, hc⟩ : ∃ c, z.cps.toList[d.toNat]? = some c := ⟨_, List.getElem?_eq_getElem l⟩
  refine ⟨z, d, c, rfl, rfl, Nat.le_trans hz (by decide), ?_, q c hc⟩
  have e : d = ((d.toNat : Nat) : Int) := by omega
  rw [e]
  exact atI_nat hc
theorem r_ixLo {p : Addr} {xs : List V} {d : Int} (h : SqL K H p xs) (h0 : 0 ≤ d) (h1 : d < (xs.length : Int)) (q : ∀ v, v ∈ xs → xs[d.toNat]? = some v → Q v H) : rIxL K (.ref p) (.int d) H Q := by
  have l : d.toNat < xs.length := by omega
  obtain ⟨v, hv⟩ : ∃ v, xs[d.toNat]? = some v := ⟨_, List.getElem?_eq_getElem l⟩
  refine r_ixL h (v := v) ?_ (q v (List.mem_of_getElem? hv) hv)
  have e : d = ((d.toNat : Nat) : Int) := by omega
  rw [e]
  exact atI_nat hv
theorem r_sl {r : V → Option Int → Option Int → Hp → VK → Prop} (q : te σ H fun x H1 => tl σ H1 fun l H2 => th σ H2 fun u H3 => r x l u H3 Q) : tSl r te tl th σ H Q := q
theorem r_noPart (q : QO none H) : tNoPart σ H QO := q
theorem r_part (q : te σ H fun x H1 => ∃ i, x = .int i ∧ QO (some i) H1) : tPart te σ H QO := q
theorem r_isi {i : Int} {A : Int → Prop} (q : A i) : ∃ i', V.int i = .int i' ∧ A i' := ⟨i, rfl, q⟩
theorem r_slS {z : Str} {lo hi : Option Int} (hz : z.length ≤ 100000) (q : ∀ y : Str, y.length ≤ z.length → Q (.str y) H) : rSlS (.str z) lo hi H Q := ⟨z, rfl, Nat.le_trans hz (by decide), q _ (cutS_length z lo hi)⟩
end
theorem r_cut {a b : TS} {D : Ends} {σ : L2.St} {H : Hp} (Mid : L2.St → Hp → Prop) (h1 : a { D with nx := Mid } σ H) (h2 : ∀ σ' H', Mid σ' H' → b D σ' H') : C8.tCut a b D σ H := ⟨Mid, h1, h2⟩
theorem str_len_add (x y : Str) : (x ++ y).length = x.length + y.length := by
  have h : ∀ z : Str, z.length = z.cps.toList.length := fun z => (Array.length_toList).symm
  rw [h, h, h]; show (TL.tl (x ++ y)).length = _; rw [TL.tl_append]
  exact List.length_append
theorem lt1 {c d : Nat} : decide ([c] < [d]) = decide (c < d) := by
  by_cases h : c < d
  · rw [decide_eq_true h]
    exact decide_eq_true (List.Lex.rel h)
  · rw [decide_eq_false h]
    refine decide_eq_false fun z => ?_
    cases z with
    | rel q => exact h q
    | cons q => cases q
theorem sign_tl {c : Nat} : (⟨#[c]⟩ : Str).cps.toList = [c] := rfl
/-- a text begins with this sign -/
theorem starts1 (z : Str) (c : Nat) : Txt.startswith z ⟨#[c]⟩ = decide (z.cps.toList[0]? = some c) := by
  have h := PySem.StrLaws.subAt_one z c 0
  unfold Txt.startswith
  by_cases e : z.cps.toList[0]? = some c
  · obtain ⟨h1, h2⟩ := h.mpr e
    rw [decide_eq_true e, h2, decide_eq_true h1]
    rfl
  · rw [decide_eq_false e]
    by_cases h1 : 0 + (⟨#[c]⟩ : Str).length ≤ z.length
    · rw [decide_eq_true h1, Bool.true_and]
      exact Bool.eq_false_iff.mpr fun h2 => e (h.mp ⟨h1, h2⟩)
    · rw [decide_eq_false h1]
      rfl
end Bk

namespace Bk
open PySem PySem.Spec PyProof.Rows L2
/-! ## 9. defs that are run where no text is being told of a thing -/
structure FnG (P : Program) (w : World) (K : PySem.W.Frag) (mg : Str → Option Value) (base : Heap) (CX : CXT) (k : Nat) (f : Addr) (fd : FuncData) (ps : List Str) (sp : Sp) : Prop where
  len : ∀ vs H Q E, sp vs H Q E → vs.length = ps.length
  go : ∀ (A : Around) (ou : List Env) (s : Shared) (H : Hp) (ar : Args) (us : List Value) (vs : List V) (Q : VK) (E : XK), A.guards = some [] → Room k A → Env0 P w K mg base A ou s H → BindsTo s fd ar (ps.zip us) → Vals vs us → sp vs H Q E →
    codeAny (model P w) A (.call (.ref f) ar) (CR CX ou P w H s Q E) s
section
variable {P : Program} {w : World} {K : PySem.W.Frag} {mg : Str → Option Value} {base : Heap} {CX : CXT} {j k : Nat} {f : Addr} {fd : FuncData} {N ps : List Str} {sp : Sp} {x qual : Str} {st : Stmt}
theorem FnG.of (F : FnOk P w K mg base CX k f fd ps sp) : FnG P w K mg base CX k f fd ps sp := ⟨F.len, fun A ou s H ar us vs Q E _ => F.run A ou s H ar us vs Q E⟩
theorem FnG.up (F : FnG P w K mg base CX j f fd ps sp) (h : j ≤ k) : FnG P w K mg base CX k f fd ps sp := ⟨F.len, fun A ou s H ar us vs Q E g hr => F.go A ou s H ar us vs Q E g (hr.mono h)⟩
/-- by its body -/
theorem fun_okG (F : Fun K x qual st f fd) (S : FnScope N ps (defScope st)) (len : ∀ vs H Q E, sp vs H Q E → vs.length = ps.length)
    (hbody : ∀ (cdv : Value) (A : Around) (ou : List Env) (s : Shared) (H : Hp) (vs : List V) (Q : VK) (E : XK), (A.deeper (envOfC qual (defScope st) s.heap.objs.size f cdv)).guards = some [] → Room k (A.deeper (envOfC qual (defScope st) s.heap.objs.size f cdv)) → sp vs H Q E →
      ∃ t, PSs (cxOf CX0 P w K mg base N qual (defScope st) f cdv A ou s H E).nox (defBody st) t ∧ t { nx := fun _ H' => Q .non H', rt := Q } (start N vs) H) : FnG P w K mg base CX0 (k + 1) f fd ps sp := by
  obtain ⟨oc, od, kV, doc, pm, an, cdv, ct, osl, rfl, lk, hcd⟩ := F.ex
  refine ⟨len, fun A ou s H ar us vs Q E hg hr e0 hb rv hsp => ?_⟩
  have KX : K.In s.heap := e0.mod.kin.keeps fun b o z => (e0.bs b o z).1
  refine Att.call_fn KX (e0.mod.nolimit.keeps fun b o z => (e0.bs b o z).1) lk hcd hr.depth hb ?_ (fun s1 x1 => ?_) S.co S.gen S.kind
  · rw [List.all_eq_true]
    rintro ⟨n, v⟩ hy
    rcases S.par n (List.of_mem_zip hy).1 with q | q <;> simp [q]
  · obtain ⟨t, ht, hq⟩ := hbody cdv A ou s H vs Q E hg (hr.deeper _) hsp
    have I := inv_start (CX := CX0) (E := E) S hr.hd e0 (len _ _ _ _ hsp) rv x1
    refine wpAny_mono (ht.nox.run [] s1 (start N vs) H _ I hq) (fun fl s2 z => ?_) fun _ _ z => z
    cases fl with
    | ret u => exact let ⟨v, _, H2, J, r2, q2⟩ := z; ⟨v, H2, J.os, J.bare, J.base, J.hok, r2, q2⟩
    | next => exact let ⟨_, H2, J, q2⟩ := z; ⟨.non, H2, J.os, J.bare, J.base, J.hok, rfl, q2⟩
    | brk => exact (let ⟨_, _, _, q2⟩ := z; q2 : False).elim
    | cont => exact (let ⟨_, _, _, q2⟩ := z; q2 : False).elim
end
structure CalG (P : Program) (w : World) (K : PySem.W.Frag) (mg : Str → Option Value) (base : Heap) (CX : CXT) (k : Nat) (x : Str) (sp : Sp) : Prop where
  ex : ∃ (f : Addr) (fd : FuncData) (ps : List Str), mg x = some (.ref f) ∧ PySem.W.keepIn K (.ref f) = true ∧ FnG P w K mg base CX k f fd ps sp ∧ Binds K fd ps []
theorem CalG.mk' {P : Program} {w : World} {K : PySem.W.Frag} {mg : Str → Option Value} {base : Heap} {CX : CXT} {k : Nat} {x : Str} {sp : Sp} {f : Addr} {fd : FuncData} {ps : List Str} (g : mg x = some (.ref f)) (kp : PySem.W.keepIn K (.ref f) = true) (F : FnG P w K mg base CX k f fd ps sp) (b : Binds K fd ps []) :
    CalG P w K mg base CX k x sp := ⟨f, fd, ps, g, kp, F, b⟩
section
variable {X : Cx} {k j : Nat} {sp : Sp} {x : Str} {p pos : Pos} {e : Expr} {es : List Expr} {t : TA}
theorem pe_calG (c : CalG X.prog X.w X.K X.mg X.base CX0 k x sp) (ga : X.A.guards = some []) (hr : Room j X.A) (hk : k ≤ j) (hg : Gl X x) (ha : PA X (e :: es) t)
    (hdb : (x == ("__debug__" : Str)) = false := by decide) (he : starEach (e :: es) X.env = (false, eval e X.env) :: starEach es X.env := by rfl) (hpl : (backTo pos (starEach es X.env)).any (·.1) = false := by rfl) :
    PE X (.Call (.Name x p) (e :: es) [] pos) (tCall sp [] E0 t) := by
  obtain ⟨f, fd, ps, h1, h2, h3, h4⟩ := c.ex
  refine ⟨fun pins s σ H Q I h => wpAny_Call_Name_kw (ld_glob I hg h1 (PySem.W.callWith_K (h₀ := X.base) I.ok.mod.kin h2 (thn (ha.run pos pins s σ H _ I h) fun us s1 ⟨vs, H1, I1, r, q⟩ => ⟨I1.kIn, ?_⟩) he hpl) hdb)⟩
  have q' : sp vs H1 Q E0 := by have z : sp (vs ++ []) H1 Q E0 := q; rw [List.append_nil] at z; exact z
  have b := h4 s1 us I1.kIn (by rw [List.append_nil, ← r.length]; exact h3.len _ _ _ _ q')
  rw [List.append_nil] at b
  refine wpAny_call (codeAny_mono (h3.go X.A X.stack s1 H1 ⟨us, []⟩ us vs Q E0 ga (hr.mono hk) I1.env0 b r q') fun rr s2 z => ?_)
  match rr, z with
  | .ok (.ret _), z => exact I1.after z
end
/-! ### the head -/
section
variable {P : Program} {w : World} {K : PySem.W.Frag} {mg mb : Str → Option Value} {s : Shared} {a : Addr} {vs : List Value} {ns : List Int} {H : Hp}
theorem lawG_core {k : Nat} {fa : Addr} {fd : FuncData} {x : Str} {sp : Sp} (KX : K.In s.heap) (hns : s.heap.Ns mainGlobals mg) (hb : s.heap.Ns builtinsNs mb) (hbb : ∀ x : Str, x ≠ "__name__" → mb x = bootBuiltins x) (hlim : s.heap.NoLimit) (hg : s.gens = #[])
    (ha : s.heap.get? a = some { cls := .type "list", data := .seq vs.toArray }) (hr : Room k callerA)
    (F : ∀ base : Heap, K.In base → base.Ns mainGlobals mg → FnG P w K mg base CX0 k fa fd [x] sp) (hbind : ∀ (s : Shared) (u : Value), BindsTo s fd ⟨[u], []⟩ [(x, u)])
    (hO : Only H) (hq : sp [.ref a] H (fun v _ => v = .bl true) fun _ _ _ => False) (ok : HOk P w H s.heap) (hA : ∀ b, H b ≠ none → b = a ∧ K.lookup a = none) :
    codeAny (model P w) callerA (.call (.ref fa) ⟨[.ref a], []⟩) (fun r s' => r = .ok (.ret (.bool true)) ∧ OldK s.heap s'.heap ∧ s'.os = s.os ∧ AllBare s'.gens) s := by
  have un : ∀ {b : Addr} {o : Obj}, s.heap.get? b = some o → (b = a → K.lookup a ≠ none ∨ ∃ es ep, o.data = .dict es ep) → (hidT s.heap H).get? b = some o := fun {b o} e n => hidT_get e (by
    apply Classical.byContradiction
    intro z
    obtain ⟨rfl, kn⟩ := hA b z
    rcases n rfl with q | ⟨es, ep, q⟩
    · exact q kn
    · rw [ha] at e
      cases e
      exact nomatch q)
  have nsK : ∀ {b : Addr} {m : Str → Option Value}, s.heap.Ns b m → (hidT s.heap H).Ns b m := fun ⟨o, es, ep, e, d, r⟩ => ⟨o, es, ep, un e fun _ => .inr ⟨es, ep, d⟩, d, r⟩
  have hKb : K.In (hidT s.heap H) := fun b o e => un (KX b o e) fun z => .inl (by rw [← z, e]; exact Option.some_ne_none o)
  have e0 : Env0 P w K mg (hidT s.heap H) callerA [] s H := ⟨rfl, ⟨hKb, nsK hns, ⟨mb, nsK hb, hbb⟩, hlim.elim fun mc z => ⟨mc, nsK z.1, z.2⟩⟩, fun b o z => of_hidT z, Nat.le_of_eq (hidT_size _ _), trivial, fun _ z => absurd z List.not_mem_nil, ok, .of_eq hg⟩
  refine codeAny_mono ((F _ hKb (nsK hns)).go callerA [] s H ⟨[.ref a], []⟩ [.ref a] [.ref a] _ _ rfl hr e0 (hbind s (.ref a)) (.cons rfl .nil) hq) fun r s' h => ?_
  match r, h with
  | .ok (.ret u), h =>
    obtain ⟨v, H2, os, bare, un2, ok2, rv, q2⟩ := h
    obtain rfl : v = .bl true := q2
    obtain rfl : u = Value.bool true := rv
    refine ⟨rfl, OldK.of_keep fun b o e => ?_, os, bare⟩
    rcases hO b with z | ⟨ob, xs, z⟩
    · exact un2.keep b o e z List.not_mem_nil List.not_mem_nil
    · have o1 := (ok b _ z).1
      have o2 := (ok2 b _ (un2.frzs b ob _ z)).1
      rw [e] at o1
      rw [o1]
      exact o2
theorem lawG {k : Nat} {fa : Addr} {fd : FuncData} {x : Str} {sp : Sp} (KX : K.In s.heap) (hns : s.heap.Ns mainGlobals mg) (hb : s.heap.Ns builtinsNs mb) (hbb : ∀ x : Str, x ≠ "__name__" → mb x = bootBuiltins x) (hlim : s.heap.NoLimit) (hg : s.gens = #[])
    (ha : s.heap.get? a = some { cls := .type "list", data := .seq vs.toArray }) (hi : IntsAre vs ns) (hl : ns.length ≤ sizeLine) (hr : Room k callerA)
    (F : ∀ base : Heap, K.In base → base.Ns mainGlobals mg → FnG P w K mg base CX0 k fa fd [x] sp) (hbind : ∀ (s : Shared) (u : Value), BindsTo s fd ⟨[u], []⟩ [(x, u)])
    (hsp : ∀ H : Hp, Only H → SqL K H a (ns.map V.int) → sp [.ref a] H (fun v _ => v = .bl true) fun _ _ _ => False) :
    codeAny (model P w) callerA (.call (.ref fa) ⟨[.ref a], []⟩) (fun r s' => r = .ok (.ret (.bool true)) ∧ OldK s.heap s'.heap ∧ s'.os = s.os ∧ AllBare s'.gens) s := by
  have rv := vals_ints hi
  cases hk : K.lookup a with
  | some o =>
    have e := KX a o hk
    rw [ha] at e
    cases e
    exact lawG_core KX hns hb hbb hlim hg ha hr F hbind (fun _ => .inl rfl) (hsp (fun _ => none) (fun _ => .inl rfl) (.inr ⟨_, vs.toArray, _, hk, rfl, rfl, rfl, by rw [List.size_toArray, hi.length]; exact hl, rv⟩)) (fun b u z => nomatch z) fun b z => absurd rfl z
  | none =>
    have ke : (fun b => if b = a then some (HO.frz { cls := .type "list", data := .seq vs.toArray } (.lst (ns.map V.int))) else none) a = some (HO.frz { cls := .type "list", data := .seq vs.toArray } (.lst (ns.map V.int))) := if_pos rfl
    have only : ∀ b, (fun b => if b = a then some (HO.frz { cls := .type "list", data := .seq vs.toArray } (.lst (ns.map V.int))) else none) b ≠ none → b = a := fun b z => Classical.byContradiction fun n => z (if_neg n)
    have hO : Only (fun b => if b = a then some (HO.frz { cls := .type "list", data := .seq vs.toArray } (.lst (ns.map V.int))) else none) := fun b => by
      by_cases q : b = a
      · exact .inr ⟨_, _, if_pos q⟩
      · exact .inl (if_neg q)
    refine lawG_core KX hns hb hbb hlim hg ha hr F hbind hO (hsp _ hO (.inl (.inr ⟨_, ke⟩))) (fun b u z => ?_) fun b z => ⟨only b z, hk⟩
    obtain rfl := only b fun y => nomatch z.symm.trans y
    have z2 := ke.symm.trans z
    cases z2
    exact ⟨ha, by rw [List.length_map]; exact hl, vs, _, rv, ha⟩
end
theorem walk_ofG {l : PySem.W.OpenLaw} {n k : Nat} {q : Program} {loose : List Str} {XP : (Str → Option Value) → Heap → Prop} {YP : World → Heap → Prop} {d : DefRec} {K : Params → PySem.W.Frag} {sp : World → Sp} {x : Str}
    (hn : l.most = some n) (hn2 : n ≤ sizeLine) (hdf : d.params.defaults = []) (hr : Room k callerA) (hY : ∀ (w : World) (h : Heap), YP w h → (K w.params).In h)
    (F : ∀ (w : World) (mg : Str → Option Value) (fa : Addr) (h : Heap), (K w.params).In h → h.Ns mainGlobals mg → mg d.name = some (.ref fa) →
      ∃ fd : FuncData, (∀ (s : Shared) (u : Value), BindsTo s fd ⟨[u], []⟩ [(x, u)]) ∧ ∀ base : Heap, (K w.params).In base → base.Ns mainGlobals mg → FnG l.prog w (K w.params) mg base CX0 k fa fd [x] (sp w))
    (hsp : ∀ (w : World) (H : Hp) (a : Addr) (ns : List Int), ns.length ≤ n → Only H → SqL (K w.params) H a (ns.map V.int) → sp w [.ref a] H (fun v _ => v = .bl true) fun _ _ _ => False) :
    PySem.W.WalkO q loose XP YP l.row.toRowW d [] (fun f vs => PySem.call f vs) :=
  Att.attach_call hn hdf fun w s₀ s₁ mg mb fa o pm cd doc a vs ns G Y ho hd hcd hmg hobj hints hlen hg => by
    obtain ⟨fd, hb, hF⟩ := F w mg fa _ (hY w _ Y) G.T.g hmg
    exact lawG (hY w _ Y) G.T.g G.T.b G.T.builtins G.T.nolimit hg hobj hints (Nat.le_trans hlen hn2) hr hF hb fun H hO hS => hsp w H a ns hlen hO hS
/-! ## 10. a thing's text -/
mutual
theorem dp_flat {K : PySem.W.Frag} {H : Hp} : ∀ (d : PyData) (v : V), Dp K H v d → d.hasDict = false
  | .none, _, _ => by simp only [PyData.hasDict]
  | .bool _, _, _ => by simp only [PyData.hasDict]
  | .int _, _, _ => by simp only [PyData.hasDict]
  | .str _, _, _ => by simp only [PyData.hasDict]
  | .list ds, _, h => by
    cases h with
    | lst _ ha => simpa only [PyData.hasDict] using dp_flatAll ds _ ha
  | .tuple ds, _, h => by
    cases h with
    | tup _ ha => simpa only [PyData.hasDict] using dp_flatAll ds _ ha
  | .dict _, _, h => by cases h
theorem dp_flatAll {K : PySem.W.Frag} {H : Hp} : ∀ (ds : List PyData) (vs : List V), DpAll K H vs ds → PyData.hasDictAll ds = false
  | [], _, _ => by simp only [PyData.hasDictAll]
  | d :: ds, _, h => by
    cases h with
    | cons h1 h2 => simp only [PyData.hasDictAll, dp_flat d _ h1, dp_flatAll ds _ h2, Bool.or_false]
end
/-- z is how repr tells v -/
def Shw (K : PySem.W.Frag) (H : Hp) (v : V) (z : Str) : Prop := (∃ d, Dp K H v d ∧ d.showable = true ∧ d.shown.length ≤ sizeLine ∧ d.depth ≤ 60 ∧ z = d.shown) ∨ ∃ a, v = .ref a ∧ H a = some (.dK []) ∧ z = "{}"
section
variable {X : Cx} {j : Nat}
theorem call_repr_shw (ga : X.A.guards = some []) (hr : Room j X.A) : CallR X (.builtin "repr") (fun xs H Q => ∃ v z, xs = [v] ∧ Shw X.K H v z ∧ Q (.str z) H) := by
  intro pins s σ H xs us Q I r h
  obtain ⟨v, z, rfl, hs, q⟩ := h
  obtain ⟨u, rfl, rv⟩ := vals1 r
  have hu := hr.units
  rcases hs with ⟨d, hd, h1, h2, h3, rfl⟩ | ⟨a, rfl, ha, rfl⟩
  · have fin : ∀ {x : Str} {t : Nat}, x = d.shown → EP X pins σ Q (.str x s.toks) { s with toks := t } := fun {x t} e => ⟨.str _, H, I.tok _, ⟨_, rfl⟩, by rw [e]; exact q⟩
    have ref : ∀ {a : Addr}, v = .ref a → wpAny (model X.prog X.w) X.A (call (.builtin "repr") [u]) (EP X pins σ Q) X.xe s := fun {a} e => by
      subst e
      obtain rfl : u = Value.ref a := rv
      obtain ⟨as, rd⟩ := Dp.reads I d (.ref a) _ hd rfl
      exact repr_of_reads' rd h1 (PyData.noDict_hsm (dp_flat d _ hd)) ga (by omega) (fun _ _ e => e) (fun h' u tk hk => ⟨.str _, H, I.kept hk, ⟨_, rfl⟩, q⟩) h2
    cases hd with
    | non =>
      cases rv
      exact PySem.P.repr_of_none (fin (by simp only [PyData.shown]))
    | bl b =>
      cases rv
      exact PySem.P.repr_of_bool (fin (by simp only [PyData.shown]))
    | int i =>
      obtain ⟨t, rfl⟩ := rv
      exact PySem.P.repr_of_int (by simpa only [PyData.showable, decide_eq_true_eq] using h1) (fin (by simp only [PyData.shown]))
    | str x =>
      obtain ⟨t, rfl⟩ := rv
      exact PySem.P.repr_of_str (fin (by simp only [PyData.shown])) (by simpa only [PyData.shown] using h2)
    | lst _ _ => exact ref rfl
    | tup _ _ => exact ref rfl
  · obtain rfl : u = Value.ref a := rv
    obtain ⟨_, hm, vs, kv, o, es, ep, ho, hx, hde, _, pr, _⟩ := I.hok a _ ha
    cases kv
    have e0 : es.toList = [] := by
      have z := pr
      generalize es.toList = l at z
      cases z
      rfl
    have hc : o.cls = .type "dict" := hx.1
    have rd : Reads s.heap (.ref a) (.dict []) [a] := by
      have z : Reads s.heap (.ref a) (.dict []) (a :: [] ++ []) := .dict ho hc hde (by rw [e0]; exact .nil) (by rw [e0]; exact .nil)
      exact z
    have nm : sysModules ∉ [a] := fun z => by
      rw [List.mem_singleton.mp z] at hm
      exact absurd hm (by simp)
    have dp : (PyData.dict []).depth = 1 := by simp [PyData.depth, PyData.depthKv]
    have tx : (PyData.dict []).shown = ("{}" : Str) := by simp [PyData.shown, PyData.shownKv]; rfl
    refine repr_of_reads' rd (by simp only [PyData.showable, PyData.showableKv]) (fun _ => nm) ga (by rw [dp]; omega) (fun _ _ e => e) (fun h' u tk hk => ⟨.str _, H, I.kept hk, ⟨_, rfl⟩, ?_⟩) ?_
    · rw [tx]
      exact q
    · rw [tx]
      decide
end
end Bk

namespace Bk
open PySem PySem.Spec PyProof.Rows L2
/-! ## 11. try: .. except A as e: .. except B as e: .. , what none of them takes does not come -/
abbrev ClA := Value × Nat × (Addr → Value → Option Addr → TS)
def offI (i : Nat) (D : Ends) : Ends := { nx := fun τ G => D.nx (τ.set i none) G, rt := D.rt, bk := fun τ G => D.bk (τ.set i none) G, ct := fun τ G => D.ct (τ.set i none) G }
def wAM (K : PySem.W.Frag) (D : Ends) : List ClA → WX
  | [] => fun _ _ _ _ => False
  | q :: l => fun cls d τ G => ∃ b, PySem.W.exmOne K cls q.1 = some b ∧ (b = true → ∀ a, G a = none → q.2.2 a cls d (offI q.2.1 D) (τ.set q.2.1 (some (.ref a))) G) ∧ (b = false → wAM K D l cls d τ G)
inductive HdA (X : Cx) : List ExceptHandler → List ClA → Prop
  | stop {hds : List ExceptHandler} : HdA X hds []
  | more {x n : Str} {c : Value} {i : Nat} {ts : Addr → Value → Option Addr → TS} {b : Stmt} {bs : List Stmt} {p1 p2 : Pos} {hds : List ExceptHandler} {l : List ClA} (nm : Names X x c) (hi : X.N[i]? = some n) (hn : X.env.kindOf n = some .local)
      (su : ∀ (a : Addr) (oe : Obj) (cls : Value) (d : Option Addr) (pn : List (Addr × Obj)), Zc cls d oe → (∃ vs, oe.data = .fields vs) → PSs (X.suite a ((a, oe) :: pn)) (b :: bs) (ts a cls d)) (r : HdA X hds l) :
      HdA X (.ExceptHandler (some (.Name x p1)) (some n) (b :: bs) p2 :: hds) ((c, i, ts) :: l)
section
variable {X : Cx} {body : List Stmt} {h₀ : ExceptHandler} {hds : List ExceptHandler} {l : List ClA} {pos : Pos} {tb : WX → TS}
theorem ps_try_asM (st : X.stack = X.env :: X.outer) (fr : X.env.frame = some X.env.locals) (nd : X.N.Nodup)
    (hb : ∀ (W : WX) (pn : List (Addr × Obj)) (xe : Value → Shared → Prop), Takes (X.tr pn xe) W → PassesOwn (model X.prog X.w) X.A X.env xe → PSs (X.tr pn xe) body (tb W))
    (hh : HdA X (h₀ :: hds) l) : PS X (.Try body (h₀ :: hds) [] [] pos) (fun D τ G => tb (wAM X.K D l) D τ G) := by
  refine ⟨fun pins s τ G D I hq => wpAny_Try_except ?_⟩
  have ok := I.ok
  refine wpAny_mono ((hb (wAM X.K D l) (X.pn ++ pins) _ (fun u s2 z => ?_) PassesOwn.looking).run [] s τ G D (I.toTry _) hq) (fun fl s2 z => ?_) (fun _ _ z => z)
  · -- what came out of the body
    obtain ⟨a, B, sI, pins2, τ2, G2, cls, d, rfl, J2, nb, up, sky, na, os, ag, w⟩ := z
    have J : Inv X pins τ2 G2 sI := J2.ofTry ok
    refine Sky.land Zc.steady (show X.A.frames = some (X.env :: X.outer) by rw [ok.frames, st]) fr (by rw [← st]; exact sky) fun h3 fl3 up3 => ?_
    obtain ⟨o3, v3, g3, z3, d3⟩ := fl3.there
    have J3 : Inv X pins τ2 G2 { s2 with heap := h3 } := J.landed nb fl3.1 (up.trans up3) os ag
    have out : a ∉ frs (X.env :: X.outer) := fun m => by
      obtain ⟨_, o4, g4, n4⟩ := fl3.2.2.1.mem m
      rw [g3] at g4
      cases g4
      exact n4 _ d3
    have aL : a ≠ X.env.locals := fun e => out (List.mem_filterMap.mpr ⟨X.env, List.mem_cons_self, by rw [fr, e]⟩)
    have aF : a ∉ X.fs := fun m => by
      obtain ⟨e, me, q⟩ := List.mem_filterMap.mp m
      exact out (List.mem_filterMap.mpr ⟨e, List.mem_cons_of_mem _ me, q⟩)
    have S3 := J3.suite g3 d3 na aL aF
    have all : ∀ {hs : List ExceptHandler} {k : List ClA}, HdA X hs k → wAM X.K D k cls d τ2 G2 → wpAny (model X.prog X.w) X.A (handleBy (.ref a) X.env hs) (SP X pins D) X.xe { s2 with heap := h3 } := by
      intro hs k hk
      induction hk with
      | stop => exact fun z => z.elim
      | @more x n c i ts b bs p1 p2 hs2 k2 nm hi hn su r ih =>
        rintro ⟨yes, e1, w1, w2⟩
        refine wpAny_handleBy_cons (codeAny_handlers_test ?_) (fun q => nomatch q)
        have T1 : PySem.W.Looks (model X.prog X.w) h3 (typeOf (.ref a)) cls := fun A Q E s k q => wpAny_typeOf_ref (k _ _ g3) (by rw [z3.1]; exact q)
        have T2 := PySem.W.exm_one (M := model X.prog X.w) J3.kIn T1 e1
        have ask : ∀ {Q : Value → Shared → Prop} {E : Value → Shared → Prop}, Q c { s2 with heap := h3 } → wpAny (model X.prog X.w) (X.A.mark (some (.ref a))) (eval (.Name x p1) X.env) Q E { s2 with heap := h3 } := fun {Q E} q => by
          obtain ⟨g1, g2, m1 | ⟨m1, m2, m3⟩⟩ := nm
          · exact ld_glob (X := X.suite a ((a, o3) :: (X.pn ++ pins))) S3 g1 m1 q g2
          · exact ld_blt (X := X.suite a ((a, o3) :: (X.pn ++ pins))) S3 g1 m1 m2 q m3 g2
        refine ask (T2.here ?_)
        match yes, w1, w2 with
        | false, w1, w2 => exact ih (w2 rfl)
        | true, w1, w2 =>
          refine codeAny_handlers_suite_as (HandSPX.lands_againZ fl3 fun h4 fl4 up4 => ?_)
          obtain ⟨o4, v4, g4, z4, d4⟩ := fl4.there
          have S4 := (J.landed nb fl4.1 ((up.trans up3).trans up4) os ag : Inv X pins τ2 G2 { s2 with heap := h4 }).suite g4 d4 na aL aF
          refine store_ok (X := X.suite a ((a, o4) :: (X.pn ++ pins))) (v := .ref a) S4 nd hi (.inl hn) rfl (fun s5 S5 => ?_) (.inr hn)
          refine wpAny_mono ((su a o4 cls d (X.pn ++ pins) z4 ⟨_, d4⟩).run [] s5 _ G2 _ S5 (w1 rfl a na)) (fun fl s6 z6 => ?_) fun _ _ z6 => z6.elim
          have back : ∀ {τ6 : L2.St} {G6 : Hp} {R : Shared → Prop}, Inv (X.suite a ((a, o4) :: (X.pn ++ pins))) [] τ6 G6 s6 → (∀ s7, Inv X pins (τ6.set i none) G6 s7 → R s7) →
              wpAny (model X.prog X.w) X.A (do bindName X.env n .none; unbindBehindTheSuite X.env n p2) (fun _ s7 => R s7) X.xe s6 := fun {τ6 G6 R} S6 f => gone_ok (S6.unsuite ok) nd hi hn f
          match fl, z6 with
          | .next, ⟨_, _, S6, q6⟩ => exact back S6 fun s7 J7 => ⟨_, _, J7, q6⟩
          | .brk, ⟨_, _, S6, q6⟩ => exact back S6 fun s7 J7 => ⟨_, _, J7, q6⟩
          | .cont, ⟨_, _, S6, q6⟩ => exact back S6 fun s7 J7 => ⟨_, _, J7, q6⟩
          | .ret u, ⟨_, _, _, S6, r6, q6⟩ => exact back S6 fun s7 J7 => ⟨_, _, _, J7, r6, q6⟩
    exact all hh w
  · match fl, z with
    | .next, ⟨_, _, J, q⟩ => exact wpAny_execs_nil ⟨_, _, J.ofTry ok, q⟩
    | .brk, ⟨_, _, J, q⟩ => exact ⟨_, _, J.ofTry ok, q⟩
    | .cont, ⟨_, _, J, q⟩ => exact ⟨_, _, J.ofTry ok, q⟩
    | .ret u, ⟨_, _, _, J, r, q⟩ => exact ⟨_, _, _, J.ofTry ok, r, q⟩
end
end Bk

namespace Bk
open PySem PySem.Spec PyProof.Rows L2
/-! ## 12. enumerate of a tuple -/
theorem meets_enum1 {v : Value} {o : Obj} {S : Heap → Prop} (B : Begins v o S) :
    Meets (Builtin.«enumerate.__new__» ⟨[.type "enumerate", v], []⟩) (fun _ R s => S s.heap ∧
      R (.ok (.ret (.ref (s.heap.push o).objs.size))) { s with heap := (s.heap.push o).push { cls := .type "enumerate", data := .fields #[.none, .bool false, .ref s.heap.objs.size, rawInt 0, .none, .none] } }) :=
  .of_wp fun prog w A R s z => by
    obtain ⟨hp, g, d, tk, os⟩ := s
    obtain ⟨z1, z2⟩ := z
    have sub := sub_enumerate
    have it : ∀ {A' : Around} {E : Value → Shared → Prop} {Q : Value → Shared → Prop}, Q (.ref hp.objs.size) ⟨hp.push o, g, d, tk, os⟩ → wpAny (model prog w) A' (pyIter v) Q E ⟨hp, g, d, tk, os⟩ := fun q => B.iter prog w _ _ _ _ z1 q
    wp_walk using it
    refine wpAny_stack_any fun st => wpAny_pure ?_
    split
    · rename_i c _ _ _ _ _
      cases (c == Value.type "enumerate") <;> (wp_walk using it; exact ⟨_, rfl, z2⟩)
    · wp_walk using it
      exact ⟨_, rfl, z2⟩
theorem enum1 {prog : Program} {w : World} {A : Around} {E : Value → Shared → Prop} {s : Shared} {v : Value} {o : Obj} {S : Heap → Prop} {Q : Value → Shared → Prop} (B : Begins v o S) (z : S s.heap)
    (q : ∀ h', IsEnum h' (s.heap.objs.size + 1) s.heap.objs.size 0 .none → h'.get? s.heap.objs.size = some o → h'.objs.size = s.heap.objs.size + 2 → (∀ b u, s.heap.get? b = some u → h'.get? b = some u) → Q (.ref (s.heap.objs.size + 1)) { s with heap := h' }) :
    wpAny (model prog w) A (call (.type "enumerate") [v]) Q E s := by
  refine callType_new F.called_enumerate (by decide) (F.typeCall_enumerate_1 _) (F.newCall_enumerate_1 _) (fun u => F.args_object_init_2 u _) F.entry_enumerate_new (meets_enum1 B) ⟨z, ?_⟩
  have sz : (s.heap.push o).objs.size = s.heap.objs.size + 1 := Heap.size_push ..
  have top := Heap.get?_push_size (s.heap.push o) (o := { cls := .type "enumerate", data := .fields #[.none, .bool false, .ref s.heap.objs.size, rawInt 0, .none, .none] }) rfl
  show _ ∧ _
  rw [sz] at top ⊢
  exact ⟨⟨_, top, rfl⟩, q _ top (Heap.get?_push_of_some _ (Heap.get?_push_size _ B.free)) (by rw [Heap.size_push, sz]) fun b u e => Heap.get?_push_of_some _ (Heap.get?_push_of_some _ e)⟩
/-- the tuple's items in new pairs -/
def Itu (K : PySem.W.Frag) (a : Addr) : It :=
  ⟨fun i H => ∃ (xs : List V) (x : V), SqT K H a xs ∧ xs[i]? = some x, fun i H v H' => ∃ T x, v = .ref T ∧ H T = none ∧ H' = upd H T (.tup [.int (i : Nat), x]) ∧ ∀ xs, SqT K H a xs → xs[i]? = some x, fun i H => ∃ xs : List V, SqT K H a xs ∧ xs.length ≤ i⟩
theorem turn_enumT {P : Program} {w : World} {K : PySem.W.Frag} {elts : List Expr} {kk : Nat} {tpos : Pos} (a e it : Addr) (ai : a ≠ it) (ae : a ≠ e) :
    Turn P w K (.Tuple elts kk tpos) (Itu K a) [e, it] e (fun i h => (∃ old, IsEnum h e it ((i : Nat) : Int) old) ∧ h.IsTupleIter it a i ∧ e ≠ it) where
  mem := List.mem_cons_self
  obj := fun i h st b hb => by
    obtain ⟨⟨old, he⟩, ⟨o, ho, _, hd⟩, _⟩ := st
    rcases List.mem_cons.mp hb with z | z
    · subst z
      exact ⟨_, he, fun v q => nomatch q⟩
    · exact ⟨o, by rw [List.mem_singleton.mp z]; exact ho, fun v q => by rw [hd] at q; exact nomatch q⟩
  keep := fun i h h' st k => ⟨st.1.elim fun old z => ⟨old, k e List.mem_cons_self _ z⟩, st.2.1.at fun o q => k it (List.mem_cons_of_mem _ List.mem_cons_self) o q, st.2.2⟩
  item := by
    intro X hP hw hK hc i pins s σ H E I hf st hg
    subst hP hw hK
    obtain ⟨⟨old, he⟩, hit, ne⟩ := st
    obtain ⟨xs, x, hq, hx⟩ := hg
    obtain ⟨its, rv, p, _⟩ := I.tuple hq
    obtain ⟨u, hu, ru⟩ := rv.get hx
    have e1 := Heap.lt_size he
    have i1 : it < s.heap.objs.size := let ⟨_, q, _⟩ := hit; Heap.lt_size q
    have li : i < its.toArray.size := by
      rw [List.size_toArray]
      exact (List.getElem?_eq_some_iff.mp hu).1
    refine wpAny_pyNext_enum_itemD (Draws.tuple (show X.A.in1.handled = none from I.ok.hd hc) it a ai its.toArray) he ⟨hit, p⟩ li ne (fun z => ?_) fun v h' tk hv ho hs hT _ hk => ?_
    · rcases List.mem_cons.mp z with z | z
      · exact ne z
      · exact ae (List.mem_singleton.mp z).symm
    obtain rfl : v = u := by
      have hv' : its.toArray[i]? = some v := hv
      rw [List.getElem?_toArray, hu] at hv'
      exact (Option.some.inj hv').symm
    refine ⟨_, rfl, wpAny_letOwnedTupleGo_enum (s := { s with heap := h', toks := tk + 1 }) ho fun h2 he2 sb => ?_⟩
    have T2 : h2.get? s.heap.objs.size = some { cls := .type "tuple", data := .seq #[.int i tk, v] } := (sb.2 _ (Nat.ne_of_gt e1)).trans hT
    have fresh := I.hok.fresh (Nat.le_refl s.heap.objs.size)
    have J : Inv X pins σ (upd H s.heap.objs.size (.tup [.int (i : Nat), x])) { s with heap := h2, toks := tk + 1 } :=
      I.turnedNew (ch := [e, it]) (fun b ob hb q => (sb.2 b (fun z => hb (by simp [z]))).trans (hk b ob (fun z => hb (by simp [z])) (fun z => hb (by simp [z])) q)) hf (Nat.le_refl _)
        (show ObjOk X.prog X.w _ h2 _ (.tup [.int (i : Nat), x]) from ⟨Nat.le_of_ble_eq_true rfl, [.int i tk, v], .cons ⟨_, rfl⟩ (.cons ru .nil), ⟨_, T2, rfl, _, rfl⟩⟩)
    refine ⟨.ref s.heap.objs.size, _, J, rfl, ⟨_, x, rfl, fresh, rfl, fun ys hy => by rw [I.tuple_inj hy hq]; exact hx⟩, ⟨⟨v, ?_⟩, hs.1.at fun o q => (sb.2 it (Ne.symm ne)).trans q, ne⟩, fun b hb => ?_⟩
    · rw [show ((i + 1 : Nat) : Int) = (i : Int) + 1 by omega]
      exact he2
    · have lb : b < s.heap.objs.size := by
        rcases List.mem_cons.mp hb with z | z
        · rw [z]; exact e1
        · rw [List.mem_singleton.mp z]; exact i1
      rw [upd_ne (Nat.ne_of_lt lb)]
      exact (hf b hb).1
  done := by
    intro X hP hw hK hc i pins s σ H E I hf st hg
    subst hP hw hK
    obtain ⟨⟨old, he⟩, hit, ne⟩ := st
    obtain ⟨xs, hq, hx⟩ := hg
    obtain ⟨its, rv, p, _⟩ := I.tuple hq
    obtain ⟨f0, f1, f2, f3, f4, f5⟩ := hf it (List.mem_cons_of_mem _ List.mem_cons_self)
    have ln := rv.length
    have hn : its.toArray[i]? = none := by
      rw [List.getElem?_toArray]
      exact List.getElem?_eq_none (by omega)
    have hT : s.TypeIs (.ref e) "enumerate" := ⟨_, he, rfl⟩
    unfold pyNext
    refine wpAny_bind (wpAny_attempt (wpAny_callSpecial?_slot (name := Str.ofString "__next__") hT F.slot_enumerate_next
      (wpAny_call_entry F.slot_enumerate_next hT F.entry_enumerate_next ?_ (F.args_enumerate_next_1 _))))
    show wpAny (model X.prog X.w) _ (field (.ref e) 2 >>= _) _ _ _
    refine wpAny_bind (wpAny_field he rfl (x := .ref it) rfl ?_)
    refine wpAny_bind (wpAny_nextOf_tuple_end (I.ok.hd hc) hit p hn fun h' x he' hx' => ?_)
    obtain ⟨o, ho, hcl⟩ := hx'
    exact wpAny_bind (wpAny_isInstance (T := "StopIteration") (b := true) ⟨o, ho, hcl⟩ isSubtype_stop (wpAny_pure ⟨rfl, I.turned (t' := s.toks) (fun b o hb q => he' b o hb q) f0 f1 f3 f4 f5⟩))
  self := fun A i s Q E st h => let ⟨⟨_, he⟩, _⟩ := st; wpAny_pyIter_enum he h
def iEnumA (K : PySem.W.Frag) (ta : TA) : TI := fun σ H R => ta σ H fun vs H1 => ∃ a xs, vs = [.ref a] ∧ ((SqL K H1 a xs ∧ R (Ite K a) H1) ∨ (SqT K H1 a xs ∧ R (Itu K a) H1))
def iSeqA (K : PySem.W.Frag) (te : TE) : TI := fun σ H R => te σ H fun x H1 => ∃ a xs, x = .ref a ∧ ((SqL K H1 a xs ∧ R (Itl K a) H1) ∨ (SqT K H1 a xs ∧ R (Itt K a) H1))
section
variable {X : Cx} {e tg : Expr} {ta : TA} {te : TE} {p pos tpos : Pos} {elts : List Expr} {kk : Nat}
theorem pi_enumA (hg : Gl X "enumerate") (hm : X.mg "enumerate" = none) (ha : PA X [e] ta) (hs : starEach [e] X.env = [(false, eval e X.env)] := by rfl) : PI X (.Tuple elts kk tpos) (.Call (.Name "enumerate" p) [e] [] pos) (iEnumA X.K ta) := by
  refine ⟨fun pins s σ H R I h => Call_ (ld_blt I hg hm boot_enumerate (PyProof.Rows.callWith_type1 (thn (ha.run pos pins s σ H _ I h) fun us s1 ⟨vs, H1, I1, r1, q1⟩ => ?_) hs rfl))⟩
  obtain ⟨a, xs, rfl, q⟩ := q1
  obtain ⟨u, rfl, rv⟩ := vals1 r1
  obtain rfl : u = Value.ref a := rv
  have near : ∀ {b : Addr}, b ∈ [s1.heap.objs.size + 1, s1.heap.objs.size] → FpOk X pins H1 b := fun {b} hb => by
    have le : s1.heap.objs.size ≤ b := by
      rcases List.mem_cons.mp hb with z | z
      · rw [z]; exact Nat.le_succ _
      · rw [List.mem_singleton.mp z]; exact Nat.le_refl _
    exact I1.fpOk le (I1.hok.fresh le)
  rcases q with ⟨hq, q⟩ | ⟨hq, q⟩
  · obtain ⟨its, rv, p', hz⟩ := I1.list hq
    refine call_enumerate_list p'.isList fun h' he hit _ hk => wpAny_pyIter_enum he ?_
    exact ⟨s1.heap.objs.size + 1, [s1.heap.objs.size + 1, s1.heap.objs.size], _, _, H1, rfl, I1.kept (t' := s1.toks) hk, turn_enum a (s1.heap.objs.size + 1) s1.heap.objs.size, ⟨⟨.none, he⟩, hit, Nat.succ_ne_self _⟩, fun b hb => near hb, q⟩
  · obtain ⟨its, rv, p', hz⟩ := I1.tuple hq
    have la : a < s1.heap.objs.size := let ⟨_, z, _⟩ := p'; Heap.lt_size z
    refine enum1 (begins_tuple a its.toArray) p' fun h' he hit _ hk => wpAny_pyIter_enum he ?_
    exact ⟨s1.heap.objs.size + 1, [s1.heap.objs.size + 1, s1.heap.objs.size], _, _, H1, rfl, I1.kept (t' := s1.toks) hk, turn_enumT a (s1.heap.objs.size + 1) s1.heap.objs.size (Nat.ne_of_lt la) (Nat.ne_of_lt (Nat.lt_succ_of_lt la)), ⟨⟨.none, he⟩, ⟨_, hit, rfl, rfl⟩, Nat.succ_ne_self _⟩, fun b hb => near hb, q⟩
theorem pi_seqA (he : PE X e te) : PI X tg e (iSeqA X.K te) := by
  refine ⟨fun pins s σ H R I h => thn (he.run pins s σ H _ I h) fun v s1 ⟨x, H1, I1, r1, q1⟩ => ?_⟩
  obtain ⟨a, xs, rfl, q⟩ := q1
  obtain rfl : v = Value.ref a := r1
  have near : ∀ {b : Addr}, b ∈ [s1.heap.objs.size] → FpOk X pins H1 b := fun {b} hb => by
    rw [List.mem_singleton.mp hb]
    exact I1.fpOk (Nat.le_refl _) (I1.hok.fresh (Nat.le_refl _))
  have J : ∀ {o : Obj}, Inv X pins σ H1 { s1 with heap := s1.heap.push o } := fun {o} => I1.kept (t' := s1.toks) fun b u z => Heap.get?_push_of_some _ z
  rcases q with ⟨hq, q⟩ | ⟨hq, q⟩
  · obtain ⟨its, rv, p', hz⟩ := I1.list hq
    exact wpAny_pyIter_list p'.isList ⟨s1.heap.objs.size, [s1.heap.objs.size], _, _, H1, rfl, J, turn_list a _, ⟨_, Heap.get?_push_size _ rfl, rfl, rfl⟩, fun b hb => near hb, q⟩
  · obtain ⟨its, rv, p', hz⟩ := I1.tuple hq
    exact wpAny_pyIter_tuple (show s1.heap.IsTuple a its.toArray from p') ⟨s1.heap.objs.size, [s1.heap.objs.size], _, _, H1, rfl, J, turn_tuple a _, ⟨_, Heap.get?_push_size _ rfl, rfl, rfl⟩, fun b hb => near hb, q⟩
end
section
variable {K : PySem.W.Frag} {a : Addr} {xs : List V}
theorem walk_enumT : Walk (Itu K a) xs.length (fun H => SqT K H a xs) (YPair (fun i => some (.int (i : Nat))) (fun i => xs[i]?)) :=
  ⟨fun i _ hi q => ⟨xs, xs[i], q, List.getElem?_eq_getElem hi⟩, fun _ q => ⟨xs, q, Nat.le_refl _⟩, fun i H v H' _ q ⟨T, x, h1, h2, h3, h4⟩ => ⟨T, .int (i : Nat), x, h1, h2, h3, rfl, h4 xs q⟩⟩
end
end Bk

namespace Bk
open PySem PySem.Spec PyProof.Rows L2
/-! ## 13. defs that refuse -/
/-- what a refusal is: a new own exception of the class at C, v its only field -/
def Refuse (C : Addr) (v : V) (H : Hp) (E : XK) : Prop := ∀ d H', H d = none → Same H H' → H' d = some (.xd [("found", v)]) → E (.ref C) (some d) H'
theorem Refuse.same {C : Addr} {v : V} {H H' : Hp} {E : XK} (r : Refuse C v H E) (s : Same H H') (n : ∀ d, H' d = none → H d = none) : Refuse C v H' E := fun d H2 hd s2 e => r d H2 (n d hd) (s.trans s2) e
def noE : XK := fun _ _ _ => False
structure CalX (P : Program) (w : World) (K : PySem.W.Frag) (mg : Str → Option Value) (base : Heap) (k : Nat) (x : Str) (sp : Sp) : Prop where
  ex : ∃ (f : Addr) (fd : FuncData) (ps : List Str), mg x = some (.ref f) ∧ PySem.W.keepIn K (.ref f) = true ∧ FnOk P w K mg base (L2.CX P w) k f fd ps sp ∧ Binds K fd ps []
theorem CalX.mk' {P : Program} {w : World} {K : PySem.W.Frag} {mg : Str → Option Value} {base : Heap} {k : Nat} {x : Str} {sp : Sp} {f : Addr} {fd : FuncData} {ps : List Str} (g : mg x = some (.ref f)) (kp : PySem.W.keepIn K (.ref f) = true) (F : FnOk P w K mg base (L2.CX P w) k f fd ps sp) (b : Binds K fd ps []) :
    CalX P w K mg base k x sp := ⟨f, fd, ps, g, kp, F, b⟩
/-- with keywords alone -/
structure CalNX (P : Program) (w : World) (K : PySem.W.Frag) (mg : Str → Option Value) (base : Heap) (k : Nat) (ks : List Str) (x : Str) (sp : Sp) (gV : List V → List V → List V) : Prop where
  ex : ∃ (f : Addr) (fd : FuncData) (ps : List Str) (g : List Value → List Value → List Value), mg x = some (.ref f) ∧ PySem.W.keepIn K (.ref f) = true ∧ FnOk P w K mg base (L2.CX P w) k f fd ps sp ∧ KBn K fd ps 0 ks g gV
theorem CalNX.mk' {P : Program} {w : World} {K : PySem.W.Frag} {mg : Str → Option Value} {base : Heap} {k : Nat} {ks : List Str} {x : Str} {sp : Sp} {gV : List V → List V → List V} {f : Addr} {fd : FuncData} {ps : List Str} {g : List Value → List Value → List Value} (a : mg x = some (.ref f)) (kp : PySem.W.keepIn K (.ref f) = true)
    (F : FnOk P w K mg base (L2.CX P w) k f fd ps sp) (b : KBn K fd ps 0 ks g gV) : CalNX P w K mg base k ks x sp gV := ⟨f, fd, ps, g, a, kp, F, b⟩
section
variable {X : Cx} {k j : Nat} {ks : List Str} {sp : Sp} {x : Str} {p pos : Pos} {e : Expr} {es : List Expr} {kws : List Keyword} {t tk : TA} {W : WX} {gV : List V → List V → List V}
/-- in a def that may let it out itself -/
theorem pe_calX {E : XK} (c : CalX X.prog X.w X.K X.mg X.base k x sp) (hr : Room j X.A) (hk : k ≤ j) (hg : Gl X x) (tk : Takes X (fun cls d _ H => E cls d H)) (ha : PA X (e :: es) t)
    (hdb : (x == ("__debug__" : Str)) = false := by decide) (he : starEach (e :: es) X.env = (false, eval e X.env) :: starEach es X.env := by rfl) (hpl : (backTo pos (starEach es X.env)).any (·.1) = false := by rfl) :
    PE X (.Call (.Name x p) (e :: es) [] pos) (tCall sp [] E t) := by
  obtain ⟨f, fd, ps, h1, h2, h3, h4⟩ := c.ex
  exact pe_call h3 (hr.mono hk) hg h1 h2 h4 .nil (passes_call tk fun _ _ _ _ h => h) ha hdb he hpl
theorem pass_no : Passes (L2.CX X.prog X.w) X noE := fun _ _ _ _ _ _ _ z => by
  obtain ⟨_, _, _, _, _, _, _, _, _, _, _, _, q⟩ := z
  exact q.elim
/-- where it is not refused -/
theorem pe_calY (c : CalX X.prog X.w X.K X.mg X.base k x sp) (hr : Room j X.A) (hk : k ≤ j) (hg : Gl X x) (ha : PA X (e :: es) t)
    (hdb : (x == ("__debug__" : Str)) = false := by decide) (he : starEach (e :: es) X.env = (false, eval e X.env) :: starEach es X.env := by rfl) (hpl : (backTo pos (starEach es X.env)).any (·.1) = false := by rfl) :
    PE X (.Call (.Name x p) (e :: es) [] pos) (tCall sp [] noE t) := by
  obtain ⟨f, fd, ps, h1, h2, h3, h4⟩ := c.ex
  exact pe_call h3 (hr.mono hk) hg h1 h2 h4 .nil pass_no ha hdb he hpl
theorem pe_calNY (c : CalNX X.prog X.w X.K X.mg X.base k ks x sp gV) (hr : Room j X.A) (hk : k ≤ j) (hg : Gl X x) (hkw : PK X kws tk)
    (hall : (backToKw pos (keywordEach kws X.env)).all (·.1.isSome) = true := by rfl) (hks : (backToKw pos (keywordEach kws X.env)).filterMap (·.1) = ks := by rfl)
    (hdb : (x == ("__debug__" : Str)) = false := by decide)
    (hpl : ((backTo pos (starEach [] X.env)).any (·.1) || (backToKw pos (keywordEach kws X.env)).any (·.1.isNone)) = false := by rfl) :
    PE X (.Call (.Name x p) [] kws pos) (tCallN 0 ks.length sp gV noE tNil tk) := by
  obtain ⟨f, fd, ps, g, h1, h2, h3, h4⟩ := c.ex
  exact pe_callN0 h3 (hr.mono hk) hg h1 h2 h4 pass_no hkw hall hks hdb hpl
/-- in a try -/
theorem pe_calT (c : CalX X.prog X.w X.K X.mg X.base k x sp) (hr : Room j X.A) (hk : k ≤ j) (hg : Gl X x) (tk : Takes X W) (ha : PA X (e :: es) t)
    (hdb : (x == ("__debug__" : Str)) = false := by decide) (he : starEach (e :: es) X.env = (false, eval e X.env) :: starEach es X.env := by rfl) (hpl : (backTo pos (starEach es X.env)).any (·.1) = false := by rfl) :
    PE X (.Call (.Name x p) (e :: es) [] pos) (tCallS sp (WE W) t) := by
  obtain ⟨f, fd, ps, h1, h2, h3, h4⟩ := c.ex
  exact pe_callS h3 (hr.mono hk) hg h1 h2 h4 (passAt tk) ha hdb he hpl
end
section
variable {K : PySem.W.Frag} {σ : L2.St} {H : Hp} {Q : VK} {D : Ends} {l : List ClA} {q : ClA} {cls : Value} {d : Option Addr}
theorem r_callS {sp : Sp} {E : L2.St → XK} {t : TA} (z : t σ H fun vs H1 => sp vs H1 Q (E σ)) : tCallS sp E t σ H Q := z
theorem r_try {tb : WX → TS} (z : tb (wAM K D l) D σ H) : (fun D τ G => tb (wAM K D l) D τ G) D σ H := z
theorem w_hit (h : PySem.W.exmOne K cls q.1 = some true) (z : ∀ a, H a = none → q.2.2 a cls d (offI q.2.1 D) (σ.set q.2.1 (some (.ref a))) H) : wAM K D (q :: l) cls d σ H := ⟨true, h, fun _ => z, fun y => absurd y.symm Bool.false_ne_true⟩
theorem w_miss (h : PySem.W.exmOne K cls q.1 = some false) (z : wAM K D l cls d σ H) : wAM K D (q :: l) cls d σ H := ⟨false, h, fun y => absurd y Bool.false_ne_true, fun _ => z⟩
theorem r_raise {t : L2.St → Hp → XK → Prop} {W : WX} (z : t σ H fun cls d H' => W cls d σ H') : (fun (_ : Ends) (τ : L2.St) (G : Hp) => t τ G fun cls d G' => W cls d τ G') D σ H := z
/-- raise C(v), C's own __init__ being this -/
def spInit (C : Addr) : Sp := fun vs H Q _ => ∃ (a : Addr) (x : V), vs = [.ref a, x] ∧ H a = some (exo a C none) ∧ ∀ dx, H dx = none → dx ≠ a → Q .non (upd (upd H dx (exd dx [("found", x)])) a (exo a C (some dx)))
theorem r_mkO {C : Addr} {v : V} {E : XK} (z : Refuse C v H E) : [v].length ≤ 1000 ∧ ∀ a, H a = none → spInit C (.ref a :: ([v] ++ [])) (upd H a (exo a C none))
    (fun u H2 => u = .non ∧ ∃ (d : Addr) (fs : List (Str × V)), H2 a = some (exo a C (some d)) ∧ H2 d = some (exd d fs) ∧ H d = none ∧ E (.ref C) (some d) (upd (del H2 a) d (.xd fs))) (fun _ _ _ => False) := by
  refine ⟨Nat.le_of_ble_eq_true rfl, fun a ha => ⟨a, v, rfl, upd_same, fun dx hd ne => ⟨rfl, dx, [("found", v)], upd_same, ?_, ?_, ?_⟩⟩⟩
  · rw [upd_ne ne, upd_same]
  · rw [upd_ne ne] at hd
    exact hd
  · rw [upd_ne ne] at hd
    refine z dx _ hd (fun b o e => ?_) upd_same
    have h1 : b ≠ a := ne_of_none e ha
    have h2 : b ≠ dx := ne_of_none e hd
    rw [upd_ne h2]
    show del _ a b = some o
    unfold del
    rw [if_neg h1, upd_ne h1, upd_ne h2, upd_ne h1]
    exact e
end
/-! ## 14. isinstance of several classes -/
def rIs2 (K : PySem.W.Frag) : List V → Hp → VK → Prop := fun xs H Q => rIsi K xs H Q ∨ rIsiT K xs H Q
theorem call_is2 {X : Cx} : CallR X (.builtin "isinstance") (rIs2 X.K) := CallR.or call_isi call_isiT
def IsB (K : PySem.W.Frag) (H : Hp) (x : V) (T U : String) (b : Bool) : Prop := ∃ t, TyX K H x t ∧ PySem.W.kitAny K t [.type T, .type U] = some b
theorem kit2 {K : PySem.W.Frag} {t : Value} {T U : String} {a b : Bool} (h : PySem.W.kitOne K t (.type T) = some a) (h2 : PySem.W.kitOne K t (.type U) = some b) : PySem.W.kitAny K t [.type T, .type U] = some (a || b) := by
  cases a with
  | true => exact kitAny_cons h (fun z => nomatch z) (fun _ => rfl)
  | false => exact kitAny_cons h (fun _ => by cases b with
      | true => exact kitAny_cons h2 (fun z => nomatch z) (fun _ => rfl)
      | false => exact kitAny_cons h2 (fun _ => kitAny_nil) (fun z => nomatch z)) (fun z => nomatch z)
section
variable {K : PySem.W.Frag} {H H' : Hp} {x : V} {T U : String} {b c : Bool} {Q : VK} {tp : Addr}
theorem r_is2 (h : IsB K H x T U b) (e : H tp = some (.tup [.ty T, .ty U])) (q : Q (.bl b) H) : rIs2 K [x, .ref tp] H Q := by
  obtain ⟨t, h1, h2⟩ := h
  exact .inr ⟨x, tp, [.ty T, .ty U], t, [.type T, .type U], b, rfl, e, .cons (.ty T) (.cons (.ty U) .nil), h1, h2, q⟩
theorem r_is1 (h : ∃ t, TyX K H x t ∧ PySem.W.kitOne K t (.type T) = some b) (q : Q (.bl b) H) : rIs2 K [x, .ty T] H Q := by
  obtain ⟨t, h1, h2⟩ := h
  exact .inl ⟨x, .ty T, t, .type T, b, rfl, .ty T, h1, h2, q⟩
end
/-! ## 15. a comprehension, by what each turn gives -/
section
variable {J : It} {n : Nat} {G : Hp → Prop} {Y : Nat → Hp → V → Hp → Prop} {g : TG} {tt : TT} {te : TE} {vs : List Nat} {σ : L2.St} {H : Hp} {D : Addr} {Q : VK}
theorem lc_by (w : Walk J n G Y) (p : Nat → Option V) (hD : H D = none) (hn : n ≤ 10000) (hG : ∀ H', Same H H' → G H')
    (hs : ∀ i x H1 H2 (Q' : VK) (R' : Hp → Prop), i < n → Same H H1 → Y i H1 x H2 → (∀ v, p i = some v → ∀ H3, Same H1 H3 → Q' v H3) → (p i = none → ∀ H3, Same H1 H3 → R' H3) →
      g x (wipe σ vs) H2 fun τ H3 => wipe τ vs = wipe σ vs ∧ tt τ H3 fun b H4 => if b = true then te τ H4 Q' else R' H4)
    (q : ∀ H', Same H H' → H' D = some (.lst ((List.range n).filterMap p)) → Q (.ref D) H') :
    ∃ W : Nat → Nat → Hp → Prop, (∃ m, W 0 m (upd H D (.lst []))) ∧ ∀ i m H, W i m H →
      (J.stop i H ∧ Q (.ref D) H) ∨ (J.go i H ∧ ∃ Nx : Hp → Prop, (∀ H', Nx H' → ∃ m', m' < m ∧ W (i + 1) m' H') ∧ ∀ x H', J.yld i H x H' → g x (wipe σ vs) H' fun σ2 H2 => wipe σ2 vs = wipe σ vs ∧ tt σ2 H2 fun b H3 =>
        if b = true then te σ2 H3 fun y H4 => ∃ acc, H4 D = some (.lst acc) ∧ acc.length < sizeLine ∧ Nx (upd H4 D (.lst (acc ++ [y]))) else Nx H3) := by
  refine lc_it w (fun i G => Same H G ∧ G D = some (.lst ((List.range i).filterMap p))) ⟨same_upd hD, by rw [upd_same]; rfl⟩ (fun i G _ z => hG G z.1) (fun i x H1 H2 hi ⟨sm, e⟩ y => ?_) fun G z => q G z.1 z.2
  refine hs i x H1 H2 _ _ hi sm y (fun v hv H3 s3 => ⟨_, s3 _ _ e, ?_, sameBut (sm.trans s3) hD, ?_⟩) fun hv H3 s3 => ⟨sm.trans s3, ?_⟩
  · have l := List.length_filterMap_le p (List.range i)
    rw [List.length_range] at l
    exact Nat.lt_of_le_of_lt (Nat.le_trans l (Nat.le_trans (Nat.le_of_lt hi) hn)) (by decide)
  · rw [upd_same, List.range_succ, List.filterMap_append]
    simp only [List.filterMap_cons, List.filterMap_nil, hv]
  · rw [s3 _ _ e, List.range_succ, List.filterMap_append]
    simp only [List.filterMap_cons, List.filterMap_nil, hv, List.append_nil]
end
end Bk

namespace Bk
open PySem PySem.Spec PyProof.Rows L2
/-! ## 8. binding with keywords -/
theorem vals_rev : ∀ {zs : List V} {ws : List Value}, Vals zs ws → Vals zs.reverse ws.reverse
  | _, _, .nil => .nil
  | _, _, .cons r t => by
    rw [List.reverse_cons, List.reverse_cons]
    exact (vals_rev t).append (.cons r .nil)
section
variable {K : PySem.W.Frag} {x qual : Str} {params : Arguments} {body : List Stmt} {scope : Scope} {kws : List (Str × V)} {f : Addr} {fd : FuncData} {ps : List Str}
theorem kbinds0 (F : FunD K x qual params body scope [] kws f fd) (n : Nat) (ks : List Str) (ms : List (Str × V)) (g : {α : Type} → List α → List α → List α → List α) (hk : kws ≠ []) (hms : ∀ q ∈ ms, q ∈ kws)
    (hrel : ∀ {vs mz zs : List V} {us mv ws : List Value}, Vals vs us → Vals mz mv → Vals zs ws → Vals (g vs mz zs) (g us mv ws))
    (h : ∀ (D : Addr) (doc pm : Value) (an : Option Addr) (cdv ct : Value) (us mv ws : List Value), us.length = n → mv.length = ms.length → ws.length = ks.length →
      KwChain D ((ms.map (·.1)).zip mv) (bindArgs (PySem.W.fnOf x qual params body scope .none (.ref D) doc pm an cdv ct) ⟨us, ks.zip ws⟩) (ps.zip (g us mv ws))) :
    ∃ mv : List Value, KBn K fd ps n ks (fun us ws => g us mv ws) (fun vs zs => g vs (ms.map (·.2)) zs) := by
  obtain ⟨oc, od, dV, kV, doc, pm, an, cdv, ct, osl, rfl, lk, hcd, hD, hK⟩ := F.ex
  rcases hD with ⟨_, rfl⟩ | ⟨e, _⟩
  · rcases hK with e | ⟨D, rfl, hq⟩
    · exact absurd e hk
    · obtain ⟨mv, hl, rk, hks⟩ := kwd_vals (ms := ms) fun q hm => hq q (hms q hm)
      refine ⟨mv, ⟨fun s us ws X l1 l2 => ?_, fun r1 r2 => hrel r1 rk r2⟩⟩
      exact BindsTo.of_looks fun M => KwChain.looks X hks (h D doc pm an cdv ct us mv ws l1 hl l2)
  · exact absurd rfl e
/-- keywords alone or beside values, no defaults -/
theorem kbPlain {st : Stmt} {f : Addr} {fd : FuncData} (F : Fun K x qual st f fd) (n : Nat) (ks : List Str) (g : {α : Type} → List α → List α → List α)
    (hrel : ∀ {vs zs : List V} {us ws : List Value}, Vals vs us → Vals zs ws → Vals (g vs zs) (g us ws))
    (h : ∀ (kV doc pm : Value) (an : Option Addr) (cdv ct : Value) (us ws : List Value), us.length = n → ws.length = ks.length → bindArgs (PySem.W.fnOf x qual (defArgs st) (defBody st) (defScope st) .none kV doc pm an cdv ct) ⟨us, ks.zip ws⟩ = pure (ps.zip (g us ws))) :
    KBn K fd ps n ks (fun us ws => g us ws) (fun vs zs => g vs zs) := by
  obtain ⟨oc, od, kV, doc, pm, an, cdv, ct, osl, rfl, lk, hcd⟩ := F.ex
  exact ⟨fun s us ws X l1 l2 => .of_eq (h kV doc pm an cdv ct us ws l1 l2), fun r1 r2 => hrel r1 r2⟩
end
theorem kit_sub {K : PySem.W.Frag} {C : Addr} {T : String} {b : Bool} (hm : PySem.W.kitMeta T = true) (h : PySem.W.subIn K (.ref C) (.type T) = some b) : PySem.W.kitOne K (.ref C) (.type T) = some b := by
  unfold PySem.W.kitOne PySem.W.kitCls
  rw [if_neg (fun z => by cases (beq_iff_eq.mp z))]
  show (if PySem.W.kitMeta T = true then PySem.W.subIn K (.ref C) (.type T) else none) = some b
  rw [if_pos hm]
  exact h
theorem CalN.mk' {P : Program} {w : World} {K : PySem.W.Frag} {mg : Str → Option Value} {base : Heap} {CX : CXT} {k n : Nat} {ks : List Str} {x : Str} {sp : Sp} {gV : List V → List V → List V} {f : Addr} {fd : FuncData} {ps : List Str} {g : List Value → List Value → List Value} (a : mg x = some (.ref f)) (kp : PySem.W.keepIn K (.ref f) = true) (F : FnOk P w K mg base CX k f fd ps sp) (b : KBn K fd ps n ks g gV) :
    CalN P w K mg base CX k n ks x sp gV := ⟨f, fd, ps, g, a, kp, F, b⟩
/-! ### within a comprehension: K by name -/
theorem call_isK {X : Cx} {K : PySem.W.Frag} (h : X.K = K) : CallR X (.builtin "isinstance") (rIs K) := by
  subst h
  exact call_is
theorem pg_tupK {X : Cx} {K : PySem.W.Frag} {es : List Expr} {k : Nat} {t : TGs} {n : Nat} {pos : Pos} (e : X.K = K) (hc : X.calm = true) (h : PGs X es t) (hn : (assignEach es X.env).length = n := by rfl) (hst : (assignEach es X.env).findIdx? (·.1) = none := by rfl) :
    PG X (.Tuple es k pos) (gTup K n t) := by
  subst e
  exact pg_tup hc h hn hst
theorem butSame {p : Addr} {H H1 H2 : Hp} (s : Same H H1) (n : H p = none) (b : But p H1 H2) : Same H H2 := fun c o e => b c o (ne_of_none e n) (s c o e)
end Bk

namespace Bk
open PySem PySem.Spec PyProof.Rows L2
/-! ## 16. things whose text is short -/
mutual
def smallD : PyData → Bool
  | .none | .bool _ => true
  | .int i => decide (i.natAbs < 10 ^ 38)
  | .str x => x.cps.toList.all fun c => decide (c < 16 ^ 8)
  | .list xs | .tuple xs => smallL xs
  | .dict _ => false
def smallL : List PyData → Bool
  | [] => true
  | x :: xs => smallD x && smallL xs
end
mutual
theorem small_ok : ∀ d : PyData, smallD d = true → d.showable = true ∧ d.leavesShort 40 = true
  | .none, _ => ⟨rfl, rfl⟩
  | .bool _, _ => ⟨rfl, rfl⟩
  | .int i, h => by
    have h' : i.natAbs < 10 ^ 38 := by simpa only [smallD, decide_eq_true_eq] using h
    have l1 := int_text_length_le10 (k := 38) (by decide) h'
    refine ⟨?_, ?_⟩
    · simp only [PyData.showable, decide_eq_true_eq]
      by_cases z : i.natAbs = 0
      · rw [z]; decide
      · have z2 := (Nat.log2_lt z (k := 128)).mpr (Nat.lt_of_lt_of_le h' (by decide))
        omega
    · simp only [PyData.leavesShort]
      refine decide_eq_true ?_
      have e : (PyData.shown (.int i)).length = (toString i).length := by
        simp only [PyData.shown]
        exact PySem.ofString_length _
      omega
  | .str x, h => ⟨by simp only [PyData.showable], by simpa only [smallD, PyData.leavesShort] using h⟩
  | .list xs, h => by simpa only [PyData.showable, PyData.leavesShort] using small_okL xs (by simpa only [smallD] using h)
  | .tuple xs, h => by simpa only [PyData.showable, PyData.leavesShort] using small_okL xs (by simpa only [smallD] using h)
  | .dict _, h => by simp only [smallD] at h; exact nomatch h
theorem small_okL : ∀ xs : List PyData, smallL xs = true → PyData.showableAll xs = true ∧ PyData.leavesShortAll 40 xs = true
  | [], _ => ⟨rfl, rfl⟩
  | x :: xs, h => by
    have h' : smallD x = true ∧ smallL xs = true := by simpa only [smallL, Bool.and_eq_true] using h
    obtain ⟨a, b⟩ := small_ok x h'.1
    obtain ⟨c, d⟩ := small_okL xs h'.2
    exact ⟨by simp only [PyData.showableAll, a, c, Bool.and_true], by simp only [PyData.leavesShortAll, b, d, Bool.and_true]⟩
end
section
variable {K : PySem.W.Frag} {H H' : Hp} {v : V} {a : Addr} {xs : List V}
theorem shw_of {d : PyData} (h : Dp K H v d) (s : smallD d = true) (b : d.bulk ≤ 20000) (e : d.depth ≤ 60) : Shw K H v d.shown := by
  obtain ⟨h1, h2⟩ := small_ok d s
  have h3 := PyData.shown_le_bulk 40 (by decide) d h2
  exact .inl ⟨d, h, h1, by rw [sizeLine_eq]; omega, e, rfl⟩
theorem shw_dK (e : H a = some (.dK [])) : Shw K H (.ref a) "{}" := .inr ⟨a, rfl, e, rfl⟩
/-- a thing within a list -/
def Itm (K : PySem.W.Frag) (H : Hp) (v : V) : Prop := ∃ d, Dp K H v d ∧ smallD d = true ∧ d.bulk ≤ 100 ∧ d.depth ≤ 20
theorem itm_shw (h : Itm K H v) : ∃ z, Shw K H v z := let ⟨_, h1, h2, h3, h4⟩ := h; ⟨_, shw_of h1 h2 (by omega) (by omega)⟩
theorem itms : ∀ {xs : List V}, (∀ y ∈ xs, Itm K H y) → ∃ ds, DpAll K H xs ds ∧ smallL ds = true ∧ PyData.bulkAll ds ≤ 101 * xs.length ∧ PyData.depthAll ds ≤ 20
  | [], _ => ⟨[], .nil, rfl, Nat.le_refl _, Nat.zero_le _⟩
  | y :: ys, h => by
    obtain ⟨d, h1, h2, h3, h4⟩ := h y List.mem_cons_self
    obtain ⟨ds, g1, g2, g3, g4⟩ := itms fun z hz => h z (List.mem_cons_of_mem _ hz)
    refine ⟨d :: ds, .cons h1 g1, by simp only [smallL, h2, g2, Bool.and_true], ?_, ?_⟩
    · simp only [PyData.bulkAll, List.length_cons]
      omega
    · simp only [PyData.depthAll]
      omega
theorem shw_lst (h : SqL K H a xs) (i : ∀ y ∈ xs, Itm K H y) (l : xs.length ≤ 150) : ∃ z, Shw K H (.ref a) z := by
  obtain ⟨ds, g1, g2, g3, g4⟩ := itms i
  exact ⟨_, shw_of (.lst h g1) (by simpa only [smallD] using g2) (by simp only [PyData.bulk]; omega) (by simp only [PyData.depth]; omega)⟩
theorem shw_tup (h : SqT K H a xs) (i : ∀ y ∈ xs, Itm K H y) (l : xs.length ≤ 150) : ∃ z, Shw K H (.ref a) z := by
  obtain ⟨ds, g1, g2, g3, g4⟩ := itms i
  exact ⟨_, shw_of (.tup h g1) (by simpa only [smallD] using g2) (by simp only [PyData.bulk]; omega) (by simp only [PyData.depth]; omega)⟩
/-! scalars -/
def datS : V → PyData
  | .bl b => .bool b
  | .int i => .int i
  | .str z => .str z
  | _ => .none
def smS : V → Bool
  | .non | .bl _ => true
  | .int i => decide (i.natAbs < 10 ^ 38)
  | .str z => decide (z.length ≤ 90) && z.cps.toList.all fun c => decide (c < 16 ^ 8)
  | _ => false
theorem datS_ok (h : smS v = true) : Dp K H v (datS v) ∧ smallD (datS v) = true ∧ (datS v).bulk ≤ 100 ∧ (datS v).depth = 0 := by
  cases v with
  | non => exact ⟨.non, by simp only [datS, smallD], by simp [datS, PyData.bulk], by simp only [datS, PyData.depth]⟩
  | bl b => exact ⟨.bl b, by simp only [datS, smallD], by simp [datS, PyData.bulk], by simp only [datS, PyData.depth]⟩
  | int i => exact ⟨.int i, by simpa only [datS, smallD, smS] using h, by simp [datS, PyData.bulk], by simp only [datS, PyData.depth]⟩
  | str z =>
    have h' : z.length ≤ 90 ∧ (z.cps.toList.all fun c => decide (c < 16 ^ 8)) = true := by
      have z2 := Bool.and_eq_true_iff.mp (show (decide (z.length ≤ 90) && z.cps.toList.all fun c => decide (c < 16 ^ 8)) = true from h)
      exact ⟨of_decide_eq_true z2.1, z2.2⟩
    have hz : z.cps.size ≤ 90 := h'.1
    exact ⟨.str z, by simpa only [datS, smallD] using h'.2, by simp only [datS, PyData.bulk]; omega, by simp only [datS, PyData.depth]⟩
  | _ => exact nomatch h
theorem itm_sc (h : smS v = true) : Itm K H v := let ⟨h1, h2, h3, h4⟩ := datS_ok h; ⟨_, h1, h2, h3, by omega⟩
theorem shw_sc (h : smS v = true) : Shw K H v (datS v).shown := let ⟨h1, h2, h3, h4⟩ := datS_ok h; shw_of h1 h2 (by omega) (by omega)
theorem datSs : ∀ {xs : List V}, xs.all smS = true → DpAll K H xs (xs.map datS) ∧ smallL (xs.map datS) = true ∧ PyData.bulkAll (xs.map datS) ≤ 101 * xs.length ∧ PyData.depthAll (xs.map datS) = 0
  | [], _ => ⟨.nil, rfl, Nat.le_refl _, rfl⟩
  | y :: ys, h => by
    rw [List.all_cons, Bool.and_eq_true] at h
    obtain ⟨h1, h2, h3, h4⟩ := datS_ok (K := K) (H := H) h.1
    obtain ⟨g1, g2, g3, g4⟩ := datSs h.2
    rw [List.map_cons]
    refine ⟨.cons h1 g1, by simp only [smallL, h2, g2, Bool.and_true], ?_, ?_⟩
    · simp only [PyData.bulkAll, List.length_cons]
      omega
    · simp only [PyData.depthAll, h4, g4]
      rfl
theorem shw_lsc (h : SqL K H a xs) (i : xs.all smS = true) (l : xs.length ≤ 150) : Shw K H (.ref a) (PyData.list (xs.map datS)).shown := by
  obtain ⟨g1, g2, g3, g4⟩ := datSs (K := K) (H := H) i
  exact shw_of (.lst h g1) (by simpa only [smallD] using g2) (by simp only [PyData.bulk]; omega) (by simp only [PyData.depth]; omega)
theorem shw_tsc (h : SqT K H a xs) (i : xs.all smS = true) (l : xs.length ≤ 150) : Shw K H (.ref a) (PyData.tuple (xs.map datS)).shown := by
  obtain ⟨g1, g2, g3, g4⟩ := datSs (K := K) (H := H) i
  exact shw_of (.tup h g1) (by simpa only [smallD] using g2) (by simp only [PyData.bulk]; omega) (by simp only [PyData.depth]; omega)
end
theorem smS_int {i : Int} (h : i.natAbs < 10 ^ 38) : smS (.int i) = true := decide_eq_true h
theorem smS_bls {bs : List Bool} : (bs.map V.bl).all smS = true := by
  rw [List.all_map]
  exact List.all_eq_true.mpr fun _ _ => rfl
end Bk

namespace Bk
open PySem PySem.Spec PyProof.Rows L2
/-! ## 18. what k03 left for all -/
theorem seqT {K : PySem.W.Frag} {H H' : Hp} {a : Addr} {xs : List V} (s : Same H H') (h : SqT K H a xs) : SqT K H' a xs := by
  rcases h with (h | ⟨o, h⟩) | h
  · exact .inl (.inl (s _ _ h))
  · exact .inl (.inr ⟨o, s _ _ h⟩)
  · exact .inr h
theorem Refuse.on {C : Addr} {v : V} {H H' : Hp} {E : XK} (r : Refuse C v H E) (s : Same H H') : Refuse C v H' E := fun d H2 hd s2 e => r d H2 (s.free hd) (s.trans s2) e
section
variable {K : PySem.W.Frag} {H : Hp} {a : Addr} {T U : String} {b c : Bool}
theorem isb_lst {xs : List V} (e : H a = some (.lst xs)) (h : kitB "list" T = some b := by decide +kernel) (h2 : kitB "list" U = some c := by decide +kernel) : IsB K H (.ref a) T U (b || c) := ⟨.type "list", .base (.lst e), kit2 (kit_ty h) (kit_ty h2)⟩
theorem isb_tup {xs : List V} (e : H a = some (.tup xs)) (h : kitB "tuple" T = some b := by decide +kernel) (h2 : kitB "tuple" U = some c := by decide +kernel) : IsB K H (.ref a) T U (b || c) := ⟨.type "tuple", .base (.tup e), kit2 (kit_ty h) (kit_ty h2)⟩
theorem isb_dK {kvs : List (Key × V)} (e : H a = some (.dK kvs)) (h : kitB "dict" T = some b := by decide +kernel) (h2 : kitB "dict" U = some c := by decide +kernel) : IsB K H (.ref a) T U (b || c) := ⟨.type "dict", .base (.dK e), kit2 (kit_ty h) (kit_ty h2)⟩
theorem isb_int {i : Int} (h : kitB "int" T = some b := by decide +kernel) (h2 : kitB "int" U = some c := by decide +kernel) : IsB K H (.int i) T U (b || c) := ⟨.type "int", .base (.int i), kit2 (kit_ty h) (kit_ty h2)⟩
theorem isb_bl {k : Bool} (h : kitB "bool" T = some b := by decide +kernel) (h2 : kitB "bool" U = some c := by decide +kernel) : IsB K H (.bl k) T U (b || c) := ⟨.type "bool", .base (.bl k), kit2 (kit_ty h) (kit_ty h2)⟩
theorem isb_str {z : Str} (h : kitB "str" T = some b := by decide +kernel) (h2 : kitB "str" U = some c := by decide +kernel) : IsB K H (.str z) T U (b || c) := ⟨.type "str", .base (.str z), kit2 (kit_ty h) (kit_ty h2)⟩
theorem isb_non (h : kitB "NoneType" T = some b := by decide +kernel) (h2 : kitB "NoneType" U = some c := by decide +kernel) : IsB K H .non T U (b || c) := ⟨.type "NoneType", .base .non, kit2 (kit_ty h) (kit_ty h2)⟩
end
theorem r_yes {σ : L2.St} {H : Hp} {te : TE} {Q : VK} {R : Hp → Prop} (q : te σ H Q) : tYes σ H (fun b H4 => if b = true then te σ H4 Q else R H4) := by
  show if true = true then te σ H Q else R H
  exact iteT q
section
variable {K : PySem.W.Frag} {σ : L2.St} {H : Hp} {Q : VK} {i0 j j1 j2 : Nat} {vs : List Nat} {a : Addr} {xs : List V} {te : TE} {tt : TT}
/-- over a list or a tuple -/
theorem lcA (p : Nat → V) (hv : σ[i0]? = some (some (.ref a))) (hs : SqL K H a xs ∨ SqT K H a xs) (hl : xs.length ≤ 10000) (hw : ∀ x, wipe ((wipe σ vs).set j (some x)) vs = wipe σ vs)
    (ht : ∀ (i : Nat) (y : V) (H' : Hp) (Q' : VK), xs[i]? = some y → Same H H' → (∀ H2, Same H' H2 → Q' (p i) H2) → te ((wipe σ vs).set j (some y)) H' Q')
    (q : ∀ D H', H D = none → Same H H' → H' D = some (.lst ((List.range xs.length).map p)) → Q (.ref D) H') : tLc (iSeqA K (tVar i0)) (gName j) tYes te vs σ H Q := by
  have go : ∀ {J : It} {G : Hp → Prop}, Walk J xs.length G (YAt xs) → (∀ H', Same H H' → G H') → ∀ D, H D = none → _ := fun {J G} wk hG D hD =>
    lc_by (g := gName j) (tt := tYes) (te := te) (vs := vs) (σ := σ) (Q := Q) wk (fun i => some (p i)) hD hl hG (fun i y H1 H2 Q' R' hi sm ⟨e, hy⟩ h1 _ => ⟨hw _, by
      subst e
      exact r_yes (ht i y H2 Q' hy sm (h1 _ rfl))⟩) fun H' sm e => q D H' hD sm (by
      rw [e]
      show some (HO.lst (List.filterMap (some ∘ p) _)) = _
      rw [List.filterMap_eq_map])
  refine ⟨_, hv, a, xs, rfl, ?_⟩
  rcases hs with hs | hs
  · exact .inl ⟨hs, go walk_list fun H' sm => sm.seq hs⟩
  · exact .inr ⟨hs, go walk_tup fun H' sm => seqT sm hs⟩
/-- enumerate of a list or a tuple, some left out -/
theorem lcE (p : Nat → V → Option V) (hv : σ[i0]? = some (some (.ref a))) (hs : SqL K H a xs ∨ SqT K H a xs) (hl : xs.length ≤ 10000) (hw : ∀ x y, wipe (((wipe σ vs).set j1 (some x)).set j2 (some y)) vs = wipe σ vs)
    (ht : ∀ (i : Nat) (y : V) (H' : Hp) (Q' : VK) (R' : Hp → Prop), xs[i]? = some y → Same H H' → (∀ v, p i y = some v → ∀ H2, Same H' H2 → Q' v H2) → (p i y = none → ∀ H2, Same H' H2 → R' H2) →
      tt (((wipe σ vs).set j1 (some (.int i))).set j2 (some y)) H' fun b H4 => if b = true then te (((wipe σ vs).set j1 (some (.int i))).set j2 (some y)) H4 Q' else R' H4)
    (q : ∀ D H', H D = none → Same H H' → H' D = some (.lst ((List.range xs.length).filterMap fun i => xs[i]?.bind (p i))) → Q (.ref D) H') :
    tLc (iEnumA K (tCons (tVar i0) tNil)) (gTup K 2 (gCons (gName j1) (gCons (gName j2) gNil))) tt te vs σ H Q := by
  have go : ∀ {J : It} {G : Hp → Prop}, Walk J xs.length G (YPair (fun i => some (.int (i : Nat))) (fun i => xs[i]?)) → (∀ H', Same H H' → G H') → ∀ D, H D = none → _ := fun {J G} wk hG D hD =>
    lc_by (g := gTup K 2 (gCons (gName j1) (gCons (gName j2) gNil))) (tt := tt) (te := te) (vs := vs) (σ := σ) (Q := Q) wk (fun i => xs[i]?.bind (p i)) hD hl hG (fun i v H1 H2 Q' R' hi sm ⟨Tn, x, y, e1, nT, e2, hx, hy⟩ h1 h2 => by
      subst e1 e2
      injection hx with hx
      subst hx
      have sT := same_upd (o := .tup [.int (i : Nat), y]) nT
      have ey : xs[i]?.bind (p i) = p i y := by
        rw [show xs[i]? = some y from hy]
        rfl
      refine ⟨Tn, _, rfl, sqT upd_same, rfl, .int i, _, rfl, y, _, rfl, rfl, hw _ _, ?_⟩
      exact ht i y _ Q' R' hy (sm.trans sT) (fun v hv H3 s3 => h1 v (by rw [ey]; exact hv) H3 (sT.trans s3)) fun hn H3 s3 => h2 (by rw [ey]; exact hn) H3 (sT.trans s3)) fun H' sm e => q D H' hD sm e
  refine ⟨_, hv, a, xs, rfl, ?_⟩
  rcases hs with hs | hs
  · exact .inl ⟨hs, go walk_enum fun H' sm => sm.seq hs⟩
  · exact .inr ⟨hs, go walk_enumT fun H' sm => seqT sm hs⟩
end
theorem map_getD {α : Type} (f : V → α) (d : V) (xs : List V) : (List.range xs.length).map (fun i => f (xs.getD i d)) = xs.map f := by
  refine List.ext_getElem (by simp) fun i h1 h2 => ?_
  simp only [List.getElem_map, List.getElem_range]
  have h : i < xs.length := by simpa using h1
  rw [List.getD_eq_getElem?_getD, List.getElem?_eq_getElem h]
  rfl
/-! ## 17. comprehensions over a list, a tuple, a range -/
section
variable {K : PySem.W.Frag} {σ : L2.St} {H : Hp} {Q : VK} {i0 j : Nat} {vs : List Nat} {a : Addr} {xs : List V} {te : TE}
theorem lc_map {J : It} {n : Nat} {G : Hp → Prop} {Y : Nat → Hp → V → Hp → Prop} {D : Addr} (wk : Walk J n G Y) (hY : ∀ i H1 x H2, i < n → Y i H1 x H2 → H2 = H1) (p : Nat → V) (hl : n ≤ 10000) (hG : ∀ H', Same H H' → G H') (hw : ∀ x, wipe ((wipe σ vs).set j (some x)) vs = wipe σ vs)
    (ht : ∀ (i : Nat) (y : V) (H1 H' : Hp) (Q' : VK), i < n → Y i H1 y H' → Same H H' → (∀ H2, Same H' H2 → Q' (p i) H2) → te ((wipe σ vs).set j (some y)) H' Q')
    (q : ∀ D H', H D = none → Same H H' → H' D = some (.lst ((List.range n).map p)) → Q (.ref D) H') (hD : H D = none) : ∃ W : Nat → Nat → Hp → Prop, (∃ m, W 0 m (upd H D (.lst []))) ∧ ∀ i m H, W i m H →
      (J.stop i H ∧ Q (.ref D) H) ∨ (J.go i H ∧ ∃ Nx : Hp → Prop, (∀ H', Nx H' → ∃ m', m' < m ∧ W (i + 1) m' H') ∧ ∀ x H', J.yld i H x H' → gName j x (wipe σ vs) H' fun σ2 H2 => wipe σ2 vs = wipe σ vs ∧ tYes σ2 H2 fun b H3 =>
        if b = true then te σ2 H3 fun y H4 => ∃ acc, H4 D = some (.lst acc) ∧ acc.length < sizeLine ∧ Nx (upd H4 D (.lst (acc ++ [y]))) else Nx H3) :=
  lc_by (g := gName j) (tt := tYes) (te := te) (vs := vs) (σ := σ) (Q := Q) wk (fun i => some (p i)) hD hl hG (fun i y H1 H2 Q' R' hi sm e h1 _ => ⟨hw _, by
    obtain rfl := hY i _ _ _ hi e
    exact r_yes (ht i y H2 H2 Q' hi e sm (h1 _ rfl))⟩) fun H' sm e => q D H' hD sm (by
      rw [e]
      show some (HO.lst (List.filterMap (some ∘ p) _)) = _
      rw [List.filterMap_eq_map])
theorem lcT (p : Nat → V) (hv : σ[i0]? = some (some (.ref a))) (hs : SqT K H a xs) (hl : xs.length ≤ 10000) (hw : ∀ x, wipe ((wipe σ vs).set j (some x)) vs = wipe σ vs)
    (ht : ∀ (i : Nat) (y : V) (H' : Hp) (Q' : VK), xs[i]? = some y → Same H H' → (∀ H2, Same H' H2 → Q' (p i) H2) → te ((wipe σ vs).set j (some y)) H' Q')
    (q : ∀ D H', H D = none → Same H H' → H' D = some (.lst ((List.range xs.length).map p)) → Q (.ref D) H') : tLc (iTup K (tVar i0)) (gName j) tYes te vs σ H Q :=
  ⟨_, hv, a, rfl, ⟨xs, hs⟩, fun D hD => lc_map (j := j) walk_tup (fun _ _ _ _ _ z => z.1) p hl (fun H' sm => seqT sm hs) hw (fun i y H1 H' Q' _ e sm k => ht i y H' Q' e.2 sm k) q hD⟩
theorem lcL (p : Nat → V) (hv : σ[i0]? = some (some (.ref a))) (hs : SqL K H a xs) (hl : xs.length ≤ 10000) (hw : ∀ x, wipe ((wipe σ vs).set j (some x)) vs = wipe σ vs)
    (ht : ∀ (i : Nat) (y : V) (H' : Hp) (Q' : VK), xs[i]? = some y → Same H H' → (∀ H2, Same H' H2 → Q' (p i) H2) → te ((wipe σ vs).set j (some y)) H' Q')
    (q : ∀ D H', H D = none → Same H H' → H' D = some (.lst ((List.range xs.length).map p)) → Q (.ref D) H') : tLc (iList K (tVar i0)) (gName j) tYes te vs σ H Q :=
  ⟨_, hv, a, rfl, ⟨xs, hs⟩, fun D hD => lc_map (j := j) walk_list (fun _ _ _ _ _ z => z.1) p hl (fun H' sm => sm.seq hs) hw (fun i y H1 H' Q' _ e sm k => ht i y H' Q' e.2 sm k) q hD⟩
/-- what is drawn at each turn: the box changes -/
theorem lcDraw {n m : Nat} {bx : Addr} (p : V → Prop) (hb : Box bx m H) (hl : n ≤ 1000) (hw : ∀ x, wipe ((wipe σ vs).set j (some x)) vs = wipe σ vs)
    (ht : ∀ (i : Nat) (H' : Hp) (Q' : VK), i < n → Box bx (m + i) H' → (∀ v H2, p v → Box bx (m + i + 1) H2 → But bx H' H2 → Q' v H2) → te ((wipe σ vs).set j (some (.int i))) H' Q')
    (q : ∀ D H' xs, H D = none → But bx H H' → Box bx (m + n) H' → H' D = some (.lst xs) → xs.length = n → (∀ v ∈ xs, p v) → Q (.ref D) H') : tLc (iRng1 (tCons (tC (.int n)) tNil)) (gName j) tYes te vs σ H Q := by
  refine ⟨_, rfl, by omega, by omega, fun D hD => ?_⟩
  have nD : D ≠ bx := hb.ne hD
  rw [Int.toNat_natCast]
  refine lc_it (g := gName j) (tt := tYes) (te := te) (vs := vs) (σ := σ) (n := n) walk_range (fun i G => But bx H G ∧ Box bx (m + i) G ∧ ∃ xs, G D = some (.lst xs) ∧ xs.length = i ∧ ∀ v ∈ xs, p v)
    ⟨.of (same_upd hD), hb.same (same_upd hD), [], upd_same, rfl, fun _ z => nomatch z⟩ (fun _ _ _ _ => trivial) (fun i x H1 H2 hi ⟨bt, hB, xs, e, l, hp⟩ y => ?_) fun G ⟨bt, hB, xs, e, l, hp⟩ => q D G xs hD bt hB e l hp
  obtain ⟨rfl, rfl⟩ := y
  refine ⟨hw _, ?_⟩
  show te ((wipe σ vs).set j (some (.int (0 + (i : Int))))) _ _
  rw [Int.zero_add]
  refine ht i H2 _ hi hB fun v H3 pv hB3 b3 => ⟨xs, b3 _ _ nD e, by rw [l]; exact Nat.lt_of_lt_of_le hi (Nat.le_trans hl (by decide)), ?_, ?_, xs ++ [v], upd_same, by rw [List.length_append, l]; rfl, fun u hu => ?_⟩
  · exact fun b o ne e0 => by
      have z := b3 _ _ ne (bt _ _ ne e0)
      rw [upd_ne (ne_of_none e0 hD)]
      exact z
  · obtain ⟨x1, y1, z1, eB, r⟩ := hB3
    exact ⟨x1, y1, z1, by rw [upd_ne nD.symm]; exact eB, r⟩
  · rcases List.mem_append.mp hu with z | z
    · exact hp u z
    · rw [List.mem_singleton.mp z]; exact pv
end
/-- except C as e: return (tag, e.found) -/
theorem caught_at {K : PySem.W.Frag} {C d : Addr} {i : Nat} {σ : L2.St} {H' : Hp} {D : Ends} {l : List ClA} {v : V} {tag : Str} (e : PySem.W.exmOne K (.ref C) (.ref C) = some true) (hi : i < σ.length) (ed : H' d = some (.xd [("found", v)]))
    (q : ∀ p H2, H' p = none → Same H' H2 → H2 p = some (.tup [.str tag, v]) → D.rt (.ref p) H2) :
    wAM K D ((.ref C, i, fun a cls d => tRet (tTup (tCons (tC (.str tag)) (tCons (tXf a cls d C "found" (tVar i)) tNil)))) :: l) (.ref C) (some d) σ H' := by
  refine w_hit e fun a na => ?_
  show tRet (tTup (tCons (tC (.str tag)) (tCons (tXf a (.ref C) (some d) C "found" (tVar i)) tNil))) (offI i D) (σ.set i (some (.ref a))) H'
  refine r_ret (r_tup (r_cons (r_c (r_cons ?_))))
  refine ⟨.ref a, List.getElem?_set_self hi, rfl, rfl, d, _, v, rfl, ed, rfl, ?_⟩
  exact r_nil (newT fun p H2 np s2 e2 => q p H2 np s2 e2)
theorem fm_congr {α β : Type} {f g : α → Option β} : ∀ {l : List α}, (∀ x ∈ l, f x = g x) → l.filterMap f = l.filterMap g
  | [], _ => rfl
  | x :: l, h => by
    rw [List.filterMap_cons, List.filterMap_cons, h x List.mem_cons_self, fm_congr fun y hy => h y (List.mem_cons_of_mem _ hy)]
section
variable {K : PySem.W.Frag} {H : Hp} {x y : V} {Q : VK}
theorem r_neSame {d : PyData} (h1 : Dp K H x d) (h2 : Dp K H y d) (s : SeqAt.shaped d = true) (q : Q (.bl false) H) : rNeD K x y H Q :=
  ⟨d, d, h1, h2, s, s, by rw [SeqAt.eqv_refl d (SeqAt.canLay_of_shaped s)]; exact q⟩
end
theorem box_upd {bx a : Addr} {n : Nat} {H : Hp} {o : HO} (h : Box bx n H) (ne : a ≠ bx) : Box bx n (upd H a o) := by
  obtain ⟨x, y, z, e, r⟩ := h
  exact ⟨x, y, z, by rw [upd_ne ne.symm]; exact e, r⟩
theorem but_upd {bx a : Addr} {H0 H : Hp} {o : HO} (b : But bx H0 H) (fr : H0 a = none) : But bx H0 (upd H a o) := fun c u ne e => by
  rw [upd_ne (ne_of_none e fr)]
  exact b c u ne e
theorem cut_to {xs : List V} {m : Nat} (h : m ≤ xs.length) : cutV xs none (some (m : Int)) = xs.take m := by
  unfold cutV
  rw [HT.sIx_none, HT.sIx_nat, Nat.min_eq_left h, List.drop_zero, Nat.sub_zero]
theorem cut_from {xs : List V} {m : Nat} (h : m ≤ xs.length) : cutV xs (some (m : Int)) none = xs.drop m := by
  unfold cutV
  rw [HT.sIx_none, HT.sIx_nat, Nat.min_eq_left h]
  exact List.take_of_length_le (by rw [List.length_drop]; exact Nat.le_refl _)
section
variable {H : Hp} {Q : VK} {a b : Addr} {xs ys : List V} {lo hi : Option Int}
theorem r_slL {K : PySem.W.Frag} (h : SqL K H a xs) (e : cutV xs lo hi = ys) (q : ∀ p H', H p = none → Same H H' → H' p = some (.lst ys) → Q (.ref p) H') : rSlL K (.ref a) lo hi H Q :=
  ⟨a, xs, rfl, h, fun p n => q p _ n (same_upd n) (by rw [upd_same, e])⟩
theorem r_cat (h1 : H a = some (.lst xs)) (h2 : H b = some (.lst ys)) (q : ∀ p H', H p = none → Same H H' → H' p = some (.lst (xs ++ ys)) → Q (.ref p) H') (l : xs.length + ys.length ≤ 10000 := by omega) : rCat (.ref a) (.ref b) H Q :=
  ⟨a, b, xs, ys, rfl, rfl, h1, h2, Nat.le_trans l (by decide), fun p n => q p _ n (same_upd n) upd_same⟩
end
theorem shw_tup2 {K : PySem.W.Frag} {H : Hp} {a b : Addr} {xs : List V} (h : SqT K H a xs) (h2 : SqT K H b xs) (i : ∀ y ∈ xs, Itm K H y) (l : xs.length ≤ 150) : ∃ z, Shw K H (.ref a) z ∧ Shw K H (.ref b) z := by
  obtain ⟨ds, g1, g2, g3, g4⟩ := itms i
  exact ⟨_, shw_of (.tup h g1) (by simpa only [smallD] using g2) (by simp only [PyData.bulk]; omega) (by simp only [PyData.depth]; omega),
    shw_of (.tup h2 g1) (by simpa only [smallD] using g2) (by simp only [PyData.bulk]; omega) (by simp only [PyData.depth]; omega)⟩
theorem but_none {a c : Addr} {H G : Hp} (b : But a H G) (ne : c ≠ a) (h : G c = none) : H c = none := by
  cases e : H c with
  | none => rfl
  | some o => exact nomatch h.symm.trans (b _ _ ne e)
theorem r_par {i j : Nat} {ta : TA} {D : Ends} {σ : L2.St} {H : Hp} (q : ta σ H fun vs H1 => ∃ v w, vs = [v, w] ∧ D.nx ((σ.set i (some v)).set j (some w)) H1) : tPar i j ta D σ H := q
theorem small_int {i : Int} (h0 : -100000 ≤ i) (h1 : i ≤ 100000) : smS (.int i) = true := smS_int (Nat.lt_of_lt_of_le (show i.natAbs < 1000000 by omega) (by decide))
structure Exc (K : PySem.W.Frag) (C f : Addr) : Prop where
  ox : OexC K C
  i : PySem.W.findIn K (.ref C) "__init__" = some (some (.ref f))
  t : PySem.W.typeIn K (.ref f) = some (.type "function")
  nf : PySem.W.findIn K (.ref C) "found" = some none
  xf : XfC K C
def spGE (K : PySem.W.Frag) : Sp := fun vs H Q _ => ∃ (a C : Addr) (x : V), vs = [.ref a, x] ∧ OexC K C ∧ H a = some (exo a C none) ∧ Q .non H
def wholeV (x : V) (lo hi : Int) : Bool := match x with
  | .int i => decide (lo ≤ i) && decide (i ≤ hi)
  | _ => false
/-- a thing of which isinstance(.., int) is known -/
def WD (K : PySem.W.Frag) (H : Hp) (x : V) : Prop := (∃ i, x = .int i) ∨ (∃ b, x = .bl b) ∨ (IsA K H x "int" false ∧ ∀ l h, wholeV x l h = false)
def spWhole (K : PySem.W.Frag) : Sp := fun vs H Q _ => ∃ (x : V) (lo hi : Int), vs = [x, .int lo, .int hi] ∧ WD K H x ∧ Q (.bl (wholeV x lo hi)) H
def wd (x : V) : Bool := wholeV x 0 4095
def spIsWord (K : PySem.W.Frag) : Sp := fun vs H Q _ => ∃ x : V, vs = [x] ∧ WD K H x ∧ Q (.bl (wd x)) H
def spCheck (K : PySem.W.Frag) (CW : Addr) : Sp := fun vs H Q E => ∃ x : V, vs = [x] ∧ WD K H x ∧ ((wd x = true ∧ Q .non H) ∨ (wd x = false ∧ Refuse CW x H E))
theorem wd_int {i : Int} (h0 : 0 ≤ i) (h1 : i ≤ 4095) : wd (.int i) = true := by
  show (decide (0 ≤ i) && decide (i ≤ 4095)) = true
  rw [decide_eq_true h0, decide_eq_true h1]
  rfl
end Bk

namespace Bk
open PySem PySem.Spec PyProof.Rows L2
/-! ## 19. a text is no dict -/
theorem str_not_dict (x : Str) (t : Tok) (d : Addr) (o : Obj) (es : Array DictEntry) (ep : Nat) (hd : o.data = .dict es ep) (hc : o.cls = .type "dict") :
    Meets (Builtin.«str.__eq__» ⟨[.str x t, .ref d], []⟩) (fun _ R s => s.heap.get? d = some o ∧ R (.ok (.ret .notImplemented)) s) :=
  .of_wp fun prog w A R s h => by
    obtain ⟨hp, g, dr, tk, os⟩ := s
    obtain ⟨hl, h⟩ := h
    obtain ⟨c, dd, dt, sl⟩ := o
    subst hd hc
    wp_walk using wpAny_load hl
    exact ⟨_, rfl, h⟩
theorem dict_not_str (x : Str) (t : Tok) (d : Addr) (o : Obj) (es : Array DictEntry) (ep : Nat) (hd : o.data = .dict es ep) (hc : o.cls = .type "dict") :
    Meets (Builtin.«dict.__eq__» ⟨[.ref d, .str x t], []⟩) (fun _ R s => s.heap.get? d = some o ∧ R (.ok (.ret .notImplemented)) s) :=
  .of_wp fun prog w A R s h => by
    obtain ⟨hp, g, dr, tk, os⟩ := s
    obtain ⟨hl, h⟩ := h
    obtain ⟨c, dd, dt, sl⟩ := o
    subst hd hc
    have f1 := F.sub_str_dict
    wp_walk using wpAny_load hl
    exact ⟨_, rfl, h⟩
def rEqSD : R2 := fun x y H Q => ∃ (z : Str) (a : Addr) (kvs : List (Key × V)), x = .str z ∧ y = .ref a ∧ H a = some (.dK kvs) ∧ Q (.bl false) H
section
variable {X : Cx}
theorem op_eqSD (hu : X.A.units < cLine) : OpR X (compareOp .Eq) rEqSD := by
  intro pins s σ H x y v u Q I rx ry h
  obtain ⟨z, a, kvs, rfl, rfl, e, q⟩ := h
  obtain ⟨t, rfl⟩ := rx
  obtain rfl : u = Value.ref a := ry
  obtain ⟨_, _, vs, _, o, es, ep, ho, hx, hd, _⟩ := I.hok a _ e
  have hc : o.cls = .type "dict" := hx.1
  exact SeqAt.rc_eq_decline_or (k := false) (typeIs_str s z t) ⟨_, ho, hc⟩ (by decide) F.sub_dict_str F.slot_str_eq F.slot_dict_eq_refl
    (fun _ hq => call_meets F.slot_str_eq (typeIs_str s z t) F.entry_str_eq (F.args_str_eq_2 _ _) (str_not_dict z t a o es ep hd hc) ⟨ho, hq⟩)
    (fun _ hq => call_meets F.slot_dict_eq_refl ⟨_, ho, hc⟩ F.entry_dict_eq (F.args_dict_eq_2 _ _) (dict_not_str z t a o es ep hd hc) ⟨ho, hq⟩)
    (fun _ hq => wpAny_of_eq (rfl : isSame (.str z t) (.ref a) = pure false) hq) (.inr hu) ⟨.bl false, H, I, rfl, q⟩
/-- a text beside any thing -/
def rEqS (K : PySem.W.Frag) : R2 := fun x y H Q => (rEq x y H Q ∨ rEqD K x y H Q) ∨ rEqSD x y H Q
theorem op_eqS (hu : X.A.units + 64 < cLine) : OpR X (compareOp .Eq) (rEqS X.K) := OpR.or (OpR.or op_eq (op_eqD hu)) (op_eqSD (by omega))
end
/-! ## 20. refusing defs called with keywords beside values, or with defaults -/
structure CalMX (P : Program) (w : World) (K : PySem.W.Frag) (mg : Str → Option Value) (base : Heap) (k n : Nat) (ks : List Str) (x : Str) (sp : Sp) (gV : List V → List V → List V) : Prop where
  ex : ∃ (f : Addr) (fd : FuncData) (ps : List Str) (g : List Value → List Value → List Value), mg x = some (.ref f) ∧ PySem.W.keepIn K (.ref f) = true ∧ FnOk P w K mg base (L2.CX P w) k f fd ps sp ∧ KBn K fd ps n ks g gV
theorem CalMX.mk' {P : Program} {w : World} {K : PySem.W.Frag} {mg : Str → Option Value} {base : Heap} {k n : Nat} {ks : List Str} {x : Str} {sp : Sp} {gV : List V → List V → List V} {f : Addr} {fd : FuncData} {ps : List Str} {g : List Value → List Value → List Value} (a : mg x = some (.ref f)) (kp : PySem.W.keepIn K (.ref f) = true)
    (F : FnOk P w K mg base (L2.CX P w) k f fd ps sp) (b : KBn K fd ps n ks g gV) : CalMX P w K mg base k n ks x sp gV := ⟨f, fd, ps, g, a, kp, F, b⟩
structure CalXD (P : Program) (w : World) (K : PySem.W.Frag) (mg : Str → Option Value) (base : Heap) (k : Nat) (x : Str) (sp : Sp) (dvs : List V) : Prop where
  ex : ∃ (f : Addr) (fd : FuncData) (ps : List Str) (ds : List Value), mg x = some (.ref f) ∧ PySem.W.keepIn K (.ref f) = true ∧ FnOk P w K mg base (L2.CX P w) k f fd ps sp ∧ Binds K fd ps ds ∧ Vals dvs ds
def tCallNS (n m : Nat) (sp : Sp) (gV : List V → List V → List V) (E : L2.St → XK) (t tk : TA) : TE := fun σ H Q => t σ H fun vs H1 => tk σ H1 fun zs H2 => vs.length = n ∧ zs.length = m ∧ sp (gV vs zs) H2 Q (E σ)
section
variable {X : Cx} {k j n : Nat} {ks : List Str} {sp : Sp} {x : Str} {p pos : Pos} {e : Expr} {es : List Expr} {kws : List Keyword} {t tk : TA} {W : WX} {gV : List V → List V → List V} {dvs : List V}
theorem r_callNS {n m : Nat} {E : L2.St → XK} {σ : L2.St} {H : Hp} {Q : VK} (q : t σ H fun vs H1 => tk σ H1 fun zs H2 => vs.length = n ∧ zs.length = m ∧ sp (gV vs zs) H2 Q (E σ)) : tCallNS n m sp gV E t tk σ H Q := q
theorem pe_calMY (c : CalMX X.prog X.w X.K X.mg X.base k n ks x sp gV) (hr : Room j X.A) (hk : k ≤ j) (hg : Gl X x) (ha : PA X (e :: es) t) (hkw : PK X kws tk)
    (hall : (backToKw pos (keywordEach kws X.env)).all (·.1.isSome) = true := by rfl) (hks : (backToKw pos (keywordEach kws X.env)).filterMap (·.1) = ks := by rfl)
    (hdb : (x == ("__debug__" : Str)) = false := by decide) (he : starEach (e :: es) X.env = (false, eval e X.env) :: starEach es X.env := by rfl)
    (hpl : ((backTo pos (starEach (e :: es) X.env)).any (·.1) || (backToKw pos (keywordEach kws X.env)).any (·.1.isNone)) = false := by rfl) :
    PE X (.Call (.Name x p) (e :: es) kws pos) (tCallN n ks.length sp gV noE t tk) := by
  obtain ⟨f, fd, ps, g, h1, h2, h3, h4⟩ := c.ex
  exact pe_callN h3 (hr.mono hk) hg h1 h2 h4 pass_no ha hkw hall hks hdb he hpl
theorem pe_calYD (c : CalXD X.prog X.w X.K X.mg X.base k x sp dvs) (hr : Room j X.A) (hk : k ≤ j) (hg : Gl X x) (ha : PA X (e :: es) t)
    (hdb : (x == ("__debug__" : Str)) = false := by decide) (he : starEach (e :: es) X.env = (false, eval e X.env) :: starEach es X.env := by rfl) (hpl : (backTo pos (starEach es X.env)).any (·.1) = false := by rfl) :
    PE X (.Call (.Name x p) (e :: es) [] pos) (tCall sp dvs noE t) := by
  obtain ⟨f, fd, ps, ds, h1, h2, h3, h4, h5⟩ := c.ex
  exact pe_call h3 (hr.mono hk) hg h1 h2 h4 h5 pass_no ha hdb he hpl
/-- in a try -/
theorem pe_calMT (c : CalMX X.prog X.w X.K X.mg X.base k n ks x sp gV) (hr : Room j X.A) (hk : k ≤ j) (hg : Gl X x) (tkW : Takes X W) (ha : PA X (e :: es) t) (hkw : PK X kws tk)
    (hall : (backToKw pos (keywordEach kws X.env)).all (·.1.isSome) = true := by rfl) (hks : (backToKw pos (keywordEach kws X.env)).filterMap (·.1) = ks := by rfl)
    (hdb : (x == ("__debug__" : Str)) = false := by decide) (he : starEach (e :: es) X.env = (false, eval e X.env) :: starEach es X.env := by rfl)
    (hpl : ((backTo pos (starEach (e :: es) X.env)).any (·.1) || (backToKw pos (keywordEach kws X.env)).any (·.1.isNone)) = false := by rfl) :
    PE X (.Call (.Name x p) (e :: es) kws pos) (tCallNS n ks.length sp gV (WE W) t tk) := by
  obtain ⟨f, fd, ps, g, h1, h2, h3, h4⟩ := c.ex
  refine ⟨fun pins s σ H Q I h => ?_⟩
  refine wpAny_Call_Name_kw (ld_glob I hg h1 (PySem.W.callWith_KW (h₀ := X.base) I.ok.mod.kin h2 hall (thn (ha.run pos pins s σ H _ I h) fun us s1 ⟨vs, H1, I1, r, q⟩ => ?_) hpl he) hdb)
  refine thn (hkw.run pos pins s1 σ H1 _ I1 q) fun ws s2 ⟨zs, H2, I2, rz, l1, l2, q2⟩ => ⟨I2.kIn, ?_⟩
  rw [hks]
  refine wpAny_call (codeAny_mono (h3.run X.A X.stack s2 H2 ⟨us, ks.zip ws⟩ (g us ws) (gV vs zs) Q (WE W σ) (hr.mono hk) I2.env0 (h4.to s2 us ws I2.kIn (r.length.symm.trans l1) (rz.length.symm.trans l2)) (h4.rel r rz) q2) fun rr s3 z => ?_)
  match rr, z with
  | .error u, z => exact passAt tkW σ pins H2 s2 u s3 I2 z
  | .ok (.ret _), z => exact I2.after z
end
theorem ix_listK {X : Cx} {K : PySem.W.Frag} (h : X.K = K) : IxR X (rIxL K) := by
  subst h
  exact ix_list
theorem ix_tupK {X : Cx} {K : PySem.W.Frag} (h : X.K = K) : IxR X (rIxT K) := by
  subst h
  exact ix_tup
end Bk

open PySem PySem.Spec PyProof.Rows L2 Bk
local macro_rules | `(tactic| walk_at "go1") => `(tactic| with_reducible first
  | refine r_seq ?_ | refine r_asg ?_ | refine r_name ?_ | refine r_if ?_ | refine r_ret ?_ | refine r_next ?_ | refine r_drop ?_
  | refine r_op ?_ | refine r_un ?_ | refine r_c ?_ | refine r_I0 ?_ | refine r_U ?_ | refine r_nil ?_ | refine r_cons ?_ | refine r_call ?_ | refine r_callN ?_ | refine r_for ?_ | refine r_iList ?_ | refine r_iTup ?_ | refine r_iRng1 ?_ | refine r_iRng2 ?_ | refine r_mkV ?_ | refine r_dnewK ?_ | refine r_cb ?_
  | refine r_test ?_ | refine r_tB ?_ | refine r_isb ?_ | refine r_isv ?_ | refine r_not ?_ | refine r_and ?_ | refine r_or ?_ | refine r_andV ?_ | refine r_orV ?_ | refine r_notV ?_ | refine r_chain ?_ | refine r_ifE ?_
  | refine r_lst ?_ | refine r_tup ?_ | refine r_gSub ?_ | refine r_bm ?_
  | (apply r_var; focus (with_unfolding_all rfl))
  | refine iteT ?_ | refine iteF ?_ | refine iteNF ?_ | refine iteNT ?_ | refine r_m1 ?_ | refine r_sl ?_ | refine r_noPart ?_ | refine r_part ?_ | refine r_isi ?_
  | (refine r_eq ?_ ?_; focus (with_unfolding_all (first | rfl | decide))) | (refine r_ne ?_ ?_; focus (with_unfolding_all (first | rfl | decide))))
local macro_rules | `(tactic| walk_at "go") => `(tactic| repeat (walk_at "go1"))
namespace K02
open PySem PySem.Spec PyProof.Rows L2 Bk


def topS (i : Nat) : Stmt := PySem.Challenge.pw_guestsalone_k02_codes_and_entries.main.body.getD i (.Pass ⟨0, 0, 0, 0⟩)
abbrev s_GuestError_init : Stmt := inClass (topS 1) 0
abbrev s_Missing_init : Stmt := inClass (topS 2) 0
abbrev s_Barred_init : Stmt := inClass (topS 3) 0
abbrev s_NoNumber_init : Stmt := inClass (topS 4) 0
abbrev s_NoWord_init : Stmt := inClass (topS 5) 0
abbrev s_NoOp_init : Stmt := inClass (topS 6) 0
abbrev s_NoTruth_init : Stmt := inClass (topS 7) 0
abbrev s_is_whole : Stmt := topS 10
abbrev s_is_word : Stmt := topS 11
abbrev s_check_number : Stmt := topS 13
abbrev s_check_word : Stmt := topS 14
abbrev s_parts_of : Stmt := topS 17
abbrev s_code : Stmt := topS 18
abbrev s_op_of : Stmt := topS 19
abbrev s_entry : Stmt := topS 20
abbrev s_entry_parts : Stmt := topS 21
abbrev s_cell_L : Stmt := topS 23
abbrev s_box_L : Stmt := topS 24
abbrev s_take_L : Stmt := topS 25
abbrev s_names_L : Stmt := topS 26
abbrev s_caught_L : Stmt := topS 27
abbrev s_same_L : Stmt := topS 28
abbrev s_word_right_L : Stmt := topS 29
abbrev s_entry_right_L : Stmt := topS 30
abbrev s_bad_L : Stmt := topS 31
abbrev s_refused_right_L : Stmt := topS 32
abbrev s_op_refused_L : Stmt := topS 33
abbrev s_law : Stmt := topS 34
theorem sc_GuestError_init : FnScope ["self", "text"] ["self", "text"] (defScope s_GuestError_init) := ⟨rfl, rfl, rfl, by decide +kernel, rfl, by decide +kernel, by decide +kernel⟩
theorem sc_Missing_init : FnScope ["self", "text"] ["self", "text"] (defScope s_Missing_init) := ⟨rfl, rfl, rfl, by decide +kernel, rfl, by decide +kernel, by decide +kernel⟩
theorem sc_Barred_init : FnScope ["self", "text"] ["self", "text"] (defScope s_Barred_init) := ⟨rfl, rfl, rfl, by decide +kernel, rfl, by decide +kernel, by decide +kernel⟩
theorem sc_NoNumber_init : FnScope ["self", "found"] ["self", "found"] (defScope s_NoNumber_init) := ⟨rfl, rfl, rfl, by decide +kernel, rfl, by decide +kernel, by decide +kernel⟩
theorem sc_NoWord_init : FnScope ["self", "found"] ["self", "found"] (defScope s_NoWord_init) := ⟨rfl, rfl, rfl, by decide +kernel, rfl, by decide +kernel, by decide +kernel⟩
theorem sc_NoOp_init : FnScope ["self", "found"] ["self", "found"] (defScope s_NoOp_init) := ⟨rfl, rfl, rfl, by decide +kernel, rfl, by decide +kernel, by decide +kernel⟩
theorem sc_NoTruth_init : FnScope ["self", "found"] ["self", "found"] (defScope s_NoTruth_init) := ⟨rfl, rfl, rfl, by decide +kernel, rfl, by decide +kernel, by decide +kernel⟩
theorem sc_is_whole : FnScope ["thing", "low", "high"] ["thing", "low", "high"] (defScope s_is_whole) := ⟨rfl, rfl, rfl, by decide +kernel, rfl, by decide +kernel, by decide +kernel⟩
theorem sc_is_word : FnScope ["thing"] ["thing"] (defScope s_is_word) := ⟨rfl, rfl, rfl, by decide +kernel, rfl, by decide +kernel, by decide +kernel⟩
theorem sc_check_number : FnScope ["thing", "low", "high"] ["thing", "low", "high"] (defScope s_check_number) := ⟨rfl, rfl, rfl, by decide +kernel, rfl, by decide +kernel, by decide +kernel⟩
theorem sc_check_word : FnScope ["thing"] ["thing"] (defScope s_check_word) := ⟨rfl, rfl, rfl, by decide +kernel, rfl, by decide +kernel, by decide +kernel⟩
theorem sc_parts_of : FnScope ["word"] ["word"] (defScope s_parts_of) := ⟨rfl, rfl, rfl, by decide +kernel, rfl, by decide +kernel, by decide +kernel⟩
theorem sc_code : FnScope ["op", "which", "rest"] ["op", "which", "rest"] (defScope s_code) := ⟨rfl, rfl, rfl, by decide +kernel, rfl, by decide +kernel, by decide +kernel⟩
theorem sc_op_of : FnScope ["name", "number", "op"] ["name"] (defScope s_op_of) := ⟨rfl, rfl, rfl, by decide +kernel, rfl, by decide +kernel, by decide +kernel⟩
theorem sc_entry : FnScope ["room", "write"] ["room", "write"] (defScope s_entry) := ⟨rfl, rfl, rfl, by decide +kernel, rfl, by decide +kernel, by decide +kernel⟩
theorem sc_entry_parts : FnScope ["word"] ["word"] (defScope s_entry_parts) := ⟨rfl, rfl, rfl, by decide +kernel, rfl, by decide +kernel, by decide +kernel⟩
theorem sc_cell_L : FnScope ["_law_script", "_law_k"] ["_law_script", "_law_k"] (defScope s_cell_L) := ⟨rfl, rfl, rfl, by decide +kernel, rfl, by decide +kernel, by decide +kernel⟩
theorem sc_box_L : FnScope ["_law_cell_here"] ["_law_cell_here"] (defScope s_box_L) := ⟨rfl, rfl, rfl, by decide +kernel, rfl, by decide +kernel, by decide +kernel⟩
theorem sc_take_L : FnScope ["_law_box_here", "_law_size", "_law_digit", "_law_one", "_law_two"] ["_law_box_here", "_law_size"] (defScope s_take_L) := ⟨rfl, rfl, rfl, by decide +kernel, rfl, by decide +kernel, by decide +kernel⟩
theorem sc_names_L : FnScope ["_law_words"] [] (defScope s_names_L) := ⟨rfl, rfl, rfl, by decide +kernel, rfl, by decide +kernel, by decide +kernel⟩
theorem sc_caught_L : FnScope ["_law_way", "_law_things", "e"] ["_law_way", "_law_things"] (defScope s_caught_L) := ⟨rfl, rfl, rfl, by decide +kernel, rfl, by decide +kernel, by decide +kernel⟩
theorem sc_same_L : FnScope ["_law_caught_here", "_law_value", "_law_thing"] ["_law_caught_here", "_law_value", "_law_thing"] (defScope s_same_L) := ⟨rfl, rfl, rfl, by decide +kernel, rfl, by decide +kernel, by decide +kernel⟩
theorem sc_word_right_L : FnScope ["_law_value", "_law_due", "_law_told", "_law_due_goal", "_law_number"] ["_law_value"] (defScope s_word_right_L) := ⟨rfl, rfl, rfl, by decide +kernel, rfl, by decide +kernel, by decide +kernel⟩
theorem sc_entry_right_L : FnScope ["_law_goal", "_law_told", "_law_value"] ["_law_goal"] (defScope s_entry_right_L) := ⟨rfl, rfl, rfl, by decide +kernel, rfl, by decide +kernel, by decide +kernel⟩
theorem sc_bad_L : FnScope ["_law_box_here", "_law_high", "_law_some"] ["_law_box_here", "_law_high"] (defScope s_bad_L) := ⟨rfl, rfl, rfl, by decide +kernel, rfl, by decide +kernel, by decide +kernel⟩
theorem sc_refused_right_L : FnScope ["_law_box_here", "_law_bad_here", "_law_sizes", "_law_parts", "_law_first", "_law_place", "_law_size"] ["_law_box_here"] (defScope s_refused_right_L) := ⟨rfl, rfl, rfl, by decide +kernel, rfl, by decide +kernel, by decide +kernel⟩
theorem sc_op_refused_L : FnScope ["_law_box_here", "_law_label", "_law_place", "_law_letter", "_law_some", "_law_bad_here"] ["_law_box_here"] (defScope s_op_refused_L) := ⟨rfl, rfl, rfl, by decide +kernel, rfl, by decide +kernel, by decide +kernel⟩
theorem sc_law : FnScope ["_law_script", "_law_k", "_law_box_here", "_law_turn", "_law_value"] ["_law_script"] (defScope s_law) := ⟨rfl, rfl, rfl, by decide +kernel, rfl, by decide +kernel, by decide +kernel⟩
/-- the addresses of the classes and of their defs -/
structure Ad where
  CG : Addr
  fG : Addr
  aOPS : Addr
  CM : Addr
  fM : Addr
  CW : Addr
  fW : Addr
  CO : Addr
  fO : Addr
  CT : Addr
  fT : Addr
def opsL : List Str := ["halt", "set", "load", "save", "from", "into", "add", "sub", "part", "jump", "base", "trap", "time", "out", "in", "wait"]
structure Txt (K : PySem.W.Frag) (mg : Str → Option Value) (A : Ad) : Prop where
  m_isinstance : mg "isinstance" = none
  m_int : mg "int" = none
  m_bool : mg "bool" = none
  m_str : mg "str" = none
  m_list : mg "list" = none
  m_tuple : mg "tuple" = none
  m_len : mg "len" = none
  m_max : mg "max" = none
  m_min : mg "min" = none
  m_range : mg "range" = none
  m_enumerate : mg "enumerate" = none
  m_repr : mg "repr" = none
  m_ValueError : mg "ValueError" = none
  c_MOST : ∃ u, mg "MOST" = some u ∧ RelV (.int 4095) u
  c_OPS : ∃ u, mg "OPS" = some u ∧ RelV (.ref A.aOPS) u
  ops : ∀ H : Hp, SqT K H A.aOPS (opsL.map V.str)
  opsI : ∀ H : Hp, IsA K H (.ref A.aOPS) "tuple" true
  g_GuestError : mg "GuestError" = some (.ref A.CG)
  rd_GuestError : PySem.W.readsIn K A.CG (.type "type") = true
  ga_GuestError : PySem.W.specialIn K (.ref A.CG) "__getattribute__" = some (some (.builtin "type.__getattribute__"))
  at_GuestError : PySem.W.findCls K (.ref A.CG) (.type "type") "__init__" = some (.val (.ref A.fG))
  vV : PySem.W.findCls K (.type "ValueError") (.type "type") "__init__" = some (.val (.builtin "ValueError.__init__"))
  g_NoNumber : mg "NoNumber" = some (.ref A.CM)
  xM : Exc K A.CM A.fM
  g_NoWord : mg "NoWord" = some (.ref A.CW)
  xW : Exc K A.CW A.fW
  g_NoOp : mg "NoOp" = some (.ref A.CO)
  xO : Exc K A.CO A.fO
  g_NoTruth : mg "NoTruth" = some (.ref A.CT)
  xT : Exc K A.CT A.fT
  eWW : PySem.W.exmOne K (.ref A.CW) (.ref A.CW) = some true
  eMW : PySem.W.exmOne K (.ref A.CM) (.ref A.CW) = some false
  eMM : PySem.W.exmOne K (.ref A.CM) (.ref A.CM) = some true
  eOW : PySem.W.exmOne K (.ref A.CO) (.ref A.CW) = some false
  eOM : PySem.W.exmOne K (.ref A.CO) (.ref A.CM) = some false
  eOO : PySem.W.exmOne K (.ref A.CO) (.ref A.CO) = some true
  eTW : PySem.W.exmOne K (.ref A.CT) (.ref A.CW) = some false
  eTM : PySem.W.exmOne K (.ref A.CT) (.ref A.CM) = some false
  eTO : PySem.W.exmOne K (.ref A.CT) (.ref A.CO) = some false
  eTT : PySem.W.exmOne K (.ref A.CT) (.ref A.CT) = some true
section
variable {K : PySem.W.Frag} {mg : Str → Option Value} {A : Ad}
theorem Txt.ox_NoNumber (T : Txt K mg A) : OexC K A.CM := T.xM.ox
theorem Txt.i_NoNumber (T : Txt K mg A) : PySem.W.findIn K (.ref A.CM) "__init__" = some (some (.ref A.fM)) := T.xM.i
theorem Txt.t_NoNumber (T : Txt K mg A) : PySem.W.typeIn K (.ref A.fM) = some (.type "function") := T.xM.t
theorem Txt.nf_NoNumber (T : Txt K mg A) : PySem.W.findIn K (.ref A.CM) "found" = some none := T.xM.nf
theorem Txt.xf_NoNumber (T : Txt K mg A) : XfC K A.CM := T.xM.xf
theorem Txt.ox_NoWord (T : Txt K mg A) : OexC K A.CW := T.xW.ox
theorem Txt.i_NoWord (T : Txt K mg A) : PySem.W.findIn K (.ref A.CW) "__init__" = some (some (.ref A.fW)) := T.xW.i
theorem Txt.t_NoWord (T : Txt K mg A) : PySem.W.typeIn K (.ref A.fW) = some (.type "function") := T.xW.t
theorem Txt.nf_NoWord (T : Txt K mg A) : PySem.W.findIn K (.ref A.CW) "found" = some none := T.xW.nf
theorem Txt.xf_NoWord (T : Txt K mg A) : XfC K A.CW := T.xW.xf
theorem Txt.ox_NoOp (T : Txt K mg A) : OexC K A.CO := T.xO.ox
theorem Txt.i_NoOp (T : Txt K mg A) : PySem.W.findIn K (.ref A.CO) "__init__" = some (some (.ref A.fO)) := T.xO.i
theorem Txt.t_NoOp (T : Txt K mg A) : PySem.W.typeIn K (.ref A.fO) = some (.type "function") := T.xO.t
theorem Txt.nf_NoOp (T : Txt K mg A) : PySem.W.findIn K (.ref A.CO) "found" = some none := T.xO.nf
theorem Txt.xf_NoOp (T : Txt K mg A) : XfC K A.CO := T.xO.xf
theorem Txt.ox_NoTruth (T : Txt K mg A) : OexC K A.CT := T.xT.ox
theorem Txt.i_NoTruth (T : Txt K mg A) : PySem.W.findIn K (.ref A.CT) "__init__" = some (some (.ref A.fT)) := T.xT.i
theorem Txt.t_NoTruth (T : Txt K mg A) : PySem.W.typeIn K (.ref A.fT) = some (.type "function") := T.xT.t
theorem Txt.nf_NoTruth (T : Txt K mg A) : PySem.W.findIn K (.ref A.CT) "found" = some none := T.xT.nf
theorem Txt.xf_NoTruth (T : Txt K mg A) : XfC K A.CT := T.xT.xf
end
/-! ### what each def keeps -/
def spCkN (K : PySem.W.Frag) (C : Addr) : Sp := fun vs H Q E => ∃ (x : V) (lo hi : Int), vs = [x, .int lo, .int hi] ∧ WD K H x ∧ ((wholeV x lo hi = true ∧ Q .non H) ∨ (wholeV x lo hi = false ∧ Refuse C x H E))
theorem whole_int {i lo hi : Int} (h0 : lo ≤ i) (h1 : i ≤ hi) : wholeV (.int i) lo hi = true := by
  show (decide (lo ≤ i) && decide (i ≤ hi)) = true
  rw [decide_eq_true h0, decide_eq_true h1]
  rfl
def spParts (K : PySem.W.Frag) (CW : Addr) : Sp := fun vs H Q E => ∃ x : V, vs = [x] ∧ WD K H x ∧ ((wd x = false ∧ Refuse CW x H E) ∨ ∃ i, x = .int i ∧ 0 ≤ i ∧ i ≤ 4095 ∧ ∀ p H', H p = none → Same H H' → H' p = some (.tup [.int (i / 256), .int (i / 64 % 4), .int (i % 64)]) → Q (.ref p) H')
def spCode (K : PySem.W.Frag) (CM : Addr) : Sp := fun vs H Q E => ∃ x y z : V, vs = [x, y, z] ∧ WD K H x ∧ ((wholeV x 0 15 = false ∧ Refuse CM x H E) ∨ ∃ i, x = .int i ∧ 0 ≤ i ∧ i ≤ 15 ∧ WD K H y ∧ ((wholeV y 0 3 = false ∧ Refuse CM y H E) ∨ ∃ j, y = .int j ∧ 0 ≤ j ∧ j ≤ 3 ∧ WD K H z ∧
  ((wholeV z 0 63 = false ∧ Refuse CM z H E) ∨ ∃ k, z = .int k ∧ 0 ≤ k ∧ k ≤ 63 ∧ Q (.int (i * 256 + j * 64 + k)) H)))
section
variable {P : Program} {w : World} {K : PySem.W.Frag} {mg : Str → Option Value} {base : Heap} {A : Ad}
theorem ok_GE {f : Addr} {fd : FuncData} (F : Fun K "__init__" "GuestError.__init__" s_GuestError_init f fd) (T : Txt K mg A) : FnOk P w K mg base CX0 1 f fd ["self", "text"] (spGE K) := by
  refine F.ok sc_GuestError_init (fun vs H Q E h => ?_) (fun cdv A' outer s H vs Q E hr h => ⟨_, (pss_one (ps_expr (pe_veinit (by rfl) T.m_ValueError T.vV (pa_cons (pv 0) (pa_cons (pv 1) pa_nil))))), ?_⟩)
  · obtain ⟨a, C, x, rfl, _⟩ := h
    rfl
  · obtain ⟨a, C, x, rfl, hC, e, q⟩ := h
    exact ⟨_, rfl, _, rfl, a, C, [x], rfl, Nat.le_of_ble_eq_true rfl, hC, e, q⟩
theorem ok_iM {f : Addr} {fd fdG : FuncData} (F : Fun K "__init__" "NoNumber.__init__" s_NoNumber_init f fd) (T : Txt K mg A) (c_GuestError_init : Own P w K mg base CX0 1 A.fG fdG ["self", "text"] (spGE K)) : FnOk P w K mg base CX0 2 f fd ["self", "found"] (spInit A.CM) := by
  refine F.ok sc_NoNumber_init (fun vs H Q E h => ?_) (fun cdv A' outer s H vs Q E hr h => ⟨_, (pss_cons (ps_expr (pe_cdef c_GuestError_init.ok hr (by rfl) T.g_GuestError T.rd_GuestError T.ga_GuestError T.at_GuestError c_GuestError_init.kp c_GuestError_init.bd .nil pass0 (pa_cons (pv 0) (pa_cons pe_str pa_nil))))
    (pss_one (ps_ost (pv 0) (pv 1)))), ?_⟩)
  · obtain ⟨a, x, rfl, _⟩ := h
    rfl
  · obtain ⟨a, x, rfl, e, q⟩ := h
    walk_at "go"
    refine ⟨a, A.CM, _, rfl, T.ox_NoNumber, e, ?_⟩
    exact ⟨x, rfl, .ref a, rfl, a, A.CM, rfl, T.ox_NoNumber, T.nf_NoNumber, .inl ⟨e, q⟩⟩
theorem ok_iW {f : Addr} {fd fdG : FuncData} (F : Fun K "__init__" "NoWord.__init__" s_NoWord_init f fd) (T : Txt K mg A) (c_GuestError_init : Own P w K mg base CX0 1 A.fG fdG ["self", "text"] (spGE K)) : FnOk P w K mg base CX0 2 f fd ["self", "found"] (spInit A.CW) := by
  refine F.ok sc_NoWord_init (fun vs H Q E h => ?_) (fun cdv A' outer s H vs Q E hr h => ⟨_, (pss_cons (ps_expr (pe_cdef c_GuestError_init.ok hr (by rfl) T.g_GuestError T.rd_GuestError T.ga_GuestError T.at_GuestError c_GuestError_init.kp c_GuestError_init.bd .nil pass0 (pa_cons (pv 0) (pa_cons pe_str pa_nil))))
    (pss_one (ps_ost (pv 0) (pv 1)))), ?_⟩)
  · obtain ⟨a, x, rfl, _⟩ := h
    rfl
  · obtain ⟨a, x, rfl, e, q⟩ := h
    walk_at "go"
    refine ⟨a, A.CW, _, rfl, T.ox_NoWord, e, ?_⟩
    exact ⟨x, rfl, .ref a, rfl, a, A.CW, rfl, T.ox_NoWord, T.nf_NoWord, .inl ⟨e, q⟩⟩
theorem ok_iO {f : Addr} {fd fdG : FuncData} (F : Fun K "__init__" "NoOp.__init__" s_NoOp_init f fd) (T : Txt K mg A) (c_GuestError_init : Own P w K mg base CX0 1 A.fG fdG ["self", "text"] (spGE K)) : FnOk P w K mg base CX0 2 f fd ["self", "found"] (spInit A.CO) := by
  refine F.ok sc_NoOp_init (fun vs H Q E h => ?_) (fun cdv A' outer s H vs Q E hr h => ⟨_, (pss_cons (ps_expr (pe_cdef c_GuestError_init.ok hr (by rfl) T.g_GuestError T.rd_GuestError T.ga_GuestError T.at_GuestError c_GuestError_init.kp c_GuestError_init.bd .nil pass0 (pa_cons (pv 0) (pa_cons pe_str pa_nil))))
    (pss_one (ps_ost (pv 0) (pv 1)))), ?_⟩)
  · obtain ⟨a, x, rfl, _⟩ := h
    rfl
  · obtain ⟨a, x, rfl, e, q⟩ := h
    walk_at "go"
    refine ⟨a, A.CO, _, rfl, T.ox_NoOp, e, ?_⟩
    exact ⟨x, rfl, .ref a, rfl, a, A.CO, rfl, T.ox_NoOp, T.nf_NoOp, .inl ⟨e, q⟩⟩
theorem ok_iT {f : Addr} {fd fdG : FuncData} (F : Fun K "__init__" "NoTruth.__init__" s_NoTruth_init f fd) (T : Txt K mg A) (c_GuestError_init : Own P w K mg base CX0 1 A.fG fdG ["self", "text"] (spGE K)) : FnOk P w K mg base CX0 2 f fd ["self", "found"] (spInit A.CT) := by
  refine F.ok sc_NoTruth_init (fun vs H Q E h => ?_) (fun cdv A' outer s H vs Q E hr h => ⟨_, (pss_cons (ps_expr (pe_cdef c_GuestError_init.ok hr (by rfl) T.g_GuestError T.rd_GuestError T.ga_GuestError T.at_GuestError c_GuestError_init.kp c_GuestError_init.bd .nil pass0 (pa_cons (pv 0) (pa_cons pe_str pa_nil))))
    (pss_one (ps_ost (pv 0) (pv 1)))), ?_⟩)
  · obtain ⟨a, x, rfl, _⟩ := h
    rfl
  · obtain ⟨a, x, rfl, e, q⟩ := h
    walk_at "go"
    refine ⟨a, A.CT, _, rfl, T.ox_NoTruth, e, ?_⟩
    exact ⟨x, rfl, .ref a, rfl, a, A.CT, rfl, T.ox_NoTruth, T.nf_NoTruth, .inl ⟨e, q⟩⟩
theorem ok_whole {f : Addr} {fd : FuncData} (F : Fun K "is_whole" "is_whole" s_is_whole f fd) (T : Txt K mg A) : FnOk P w K mg base CX0 1 f fd ["thing", "low", "high"] (spWhole K) := by
  refine F.ok sc_is_whole (fun vs H Q E h => ?_) (fun cdv A' outer s H vs Q E hr h => ⟨_, (pss_one (ps_ret (pe_and (pe_callB call_is (by rfl) T.m_isinstance (by decide +kernel) (pa_cons (pv 0) (pa_cons (pe_bltn (v := .ty "int") (by rfl) T.m_int (by decide +kernel) rfl) pa_nil))) (pe_and (pe_not (pe_callB call_is (by rfl) T.m_isinstance (by decide +kernel) (pa_cons (pv 0) (pa_cons (pe_bltn (v := .ty "bool") (by rfl) T.m_bool (by decide +kernel) rfl) pa_nil)))) (pe_one (pe_chain op_le op_le (pv 1) (pv 0) (pv 2))))))), ?_⟩)
  · obtain ⟨x, lo, hi, rfl, _⟩ := h
    rfl
  · obtain ⟨x, lo, hi, rfl, hx, q⟩ := h
    walk_at "go"
    rcases hx with ⟨i, rfl⟩ | ⟨b, rfl⟩ | ⟨hx, hn⟩
    · refine r_is (isa_int (b := true)) ?_
      walk_at "go"
      refine r_is (isa_int (b := false)) ?_
      have q : Q (.bl (decide (lo ≤ i) && decide (i ≤ hi))) H := q
      walk_at "go"
      refine ite2 (fun e => ?_) (fun e => ?_)
      · walk_at "go"
        rw [e, Bool.true_and] at q
        exact q
      · rw [Bool.eq_false_iff.mpr e, Bool.false_and] at q
        exact q
    · refine r_is (isa_bl (b := true)) ?_
      walk_at "go"
      refine r_is (isa_bl (b := true)) ?_
      walk_at "go"
      exact q
    · refine r_is hx ?_
      walk_at "go"
      rw [hn] at q
      exact q
theorem ok_isword {f : Addr} {fd : FuncData} (F : Fun K "is_word" "is_word" s_is_word f fd) (T : Txt K mg A) (c_is_whole : CalD P w K mg base CX0 1 "is_whole" (spWhole K) []) : FnOk P w K mg base CX0 2 f fd ["thing"] (spIsWord K) := by
  refine F.ok sc_is_word (fun vs H Q E h => ?_) (fun cdv A' outer s H vs Q E hr h => ⟨_, (pss_one (ps_ret (pe_cal c_is_whole hr (by decide) (by rfl) (pa_cons (pv 0) (pa_cons pe_int (pa_cons (C8.pe_gc (by rfl) T.c_MOST) pa_nil)))))), ?_⟩)
  · obtain ⟨x, rfl, _⟩ := h
    rfl
  · obtain ⟨x, rfl, hx, q⟩ := h
    walk_at "go"
    exact ⟨x, 0, 4095, rfl, hx, q⟩
theorem ok_check {f : Addr} {fd fdW : FuncData} (F : Fun K "check_word" "check_word" s_check_word f fd) (T : Txt K mg A) (c_is_word : CalD P w K mg base CX0 2 "is_word" (spIsWord K) [])
    (c_NoWord_init : Own P w K mg base CX0 2 A.fW fdW ["self", "found"] (spInit A.CW)) : FnOk P w K mg base (L2.CX P w) 4 f fd ["thing"] (spCheck K A.CW) := by
  refine F.okX sc_check_word (fun vs H Q E h => ?_) (fun cdv A' outer s H vs Q E hr h => ⟨_, (pss_one (ps_if (pt_not (pt_val (pe_cal c_is_word hr (by decide) (by rfl) (pa_cons (pv 0) pa_nil)))) (pss_one (ps_raise rfl (takes_of rfl rfl rfl rfl) (pmk_oex T.ox_NoWord T.i_NoWord T.t_NoWord c_NoWord_init.ok (hr.mono (by decide)) c_NoWord_init.bd .nil pass0 (by rfl) T.g_NoWord (pa_cons (pv 0) pa_nil)))) pss_nil)), ?_⟩)
  · obtain ⟨x, rfl, _⟩ := h
    rfl
  · obtain ⟨x, rfl, hx, q⟩ := h
    walk_at "go"
    refine ⟨x, rfl, hx, ?_⟩
    walk_at "go"
    rcases q with ⟨e, q⟩ | ⟨e, q⟩
    · rw [e]
      walk_at "go"
      exact q
    · rw [e]
      walk_at "go"
      exact ⟨x, rfl, r_mkO q⟩
theorem ok_ckn {f : Addr} {fd fdM : FuncData} (F : Fun K "check_number" "check_number" s_check_number f fd) (T : Txt K mg A) (c_is_whole : CalD P w K mg base CX0 1 "is_whole" (spWhole K) [])
    (c_NoNumber_init : Own P w K mg base CX0 2 A.fM fdM ["self", "found"] (spInit A.CM)) : FnOk P w K mg base (L2.CX P w) 4 f fd ["thing", "low", "high"] (spCkN K A.CM) := by
  refine F.okX sc_check_number (fun vs H Q E h => ?_) (fun cdv A' outer s H vs Q E hr h => ⟨_, (pss_one (ps_if (pt_not (pt_val (pe_cal c_is_whole hr (by decide) (by rfl) (pa_cons (pv 0) (pa_cons (pv 1) (pa_cons (pv 2) pa_nil)))))) (pss_one (ps_raise rfl (takes_of rfl rfl rfl rfl) (pmk_oex T.ox_NoNumber T.i_NoNumber T.t_NoNumber c_NoNumber_init.ok (hr.mono (by decide)) c_NoNumber_init.bd .nil pass0 (by rfl) T.g_NoNumber (pa_cons (pv 0) pa_nil)))) pss_nil)), ?_⟩)
  · obtain ⟨x, lo, hi, rfl, _⟩ := h
    rfl
  · obtain ⟨x, lo, hi, rfl, hx, q⟩ := h
    walk_at "go"
    refine ⟨x, lo, hi, rfl, hx, ?_⟩
    walk_at "go"
    rcases q with ⟨e, q⟩ | ⟨e, q⟩
    · rw [e]
      walk_at "go"
      exact q
    · rw [e]
      walk_at "go"
      exact ⟨x, rfl, r_mkO q⟩
theorem ok_parts {f : Addr} {fd : FuncData} (F : Fun K "parts_of" "parts_of" s_parts_of f fd) (T : Txt K mg A) (c_check_word : CalX P w K mg base 4 "check_word" (spCheck K A.CW)) : FnOk P w K mg base (L2.CX P w) 5 f fd ["word"] (spParts K A.CW) := by
  refine F.okX sc_parts_of (fun vs H Q E h => ?_) (fun cdv A' outer s H vs Q E hr h => ⟨_, (pss_cons (ps_expr (pe_calX c_check_word hr (by decide) (by rfl) (takes_of rfl rfl rfl rfl) (pa_cons (pv 0) pa_nil)))
    (pss_one (ps_ret (pe_tup (pa_cons (pe_op op_fdivW (pv 0) pe_int) (pa_cons (pe_op op_mod (pe_op op_fdivW (pv 0) pe_int) pe_int) (pa_cons (pe_op op_mod (pv 0) pe_int) pa_nil))))))), ?_⟩)
  · obtain ⟨x, rfl, _⟩ := h
    rfl
  · obtain ⟨x, rfl, hx, q⟩ := h
    walk_at "go"
    refine ⟨x, rfl, hx, ?_⟩
    rcases q with q | ⟨i, rfl, i0, i1, q⟩
    · exact .inr q
    · refine .inl ⟨wd_int i0 i1, ?_⟩
      walk_at "go"
      refine r_I (cdiv (by decide) (by decide)) ?_
      walk_at "go"
      refine r_I (cdiv (by decide) (by decide)) ?_
      walk_at "go"
      refine r_I (by decide) ?_
      walk_at "go"
      refine r_I (by decide) ?_
      walk_at "go"
      exact newT fun p H' np sm e => q p H' np sm e
theorem ok_code {f : Addr} {fd : FuncData} (F : Fun K "code" "code" s_code f fd) (T : Txt K mg A) (c_check_number : CalX P w K mg base 4 "check_number" (spCkN K A.CM)) : FnOk P w K mg base (L2.CX P w) 5 f fd ["op", "which", "rest"] (spCode K A.CM) := by
  refine F.okX sc_code (fun vs H Q E h => ?_) (fun cdv A' outer s H vs Q E hr h => ⟨_, (pss_cons (ps_expr (pe_calX c_check_number hr (by decide) (by rfl) (takes_of rfl rfl rfl rfl) (pa_cons (pv 0) (pa_cons pe_int (pa_cons pe_int pa_nil)))))
    (pss_cons (ps_expr (pe_calX c_check_number hr (by decide) (by rfl) (takes_of rfl rfl rfl rfl) (pa_cons (pv 1) (pa_cons pe_int (pa_cons pe_int pa_nil)))))
    (pss_cons (ps_expr (pe_calX c_check_number hr (by decide) (by rfl) (takes_of rfl rfl rfl rfl) (pa_cons (pv 2) (pa_cons pe_int (pa_cons pe_int pa_nil)))))
    (pss_one (ps_ret (pe_op op_add (pe_op op_add (pe_op op_mulW (pv 0) pe_int) (pe_op op_mulW (pv 1) pe_int)) (pv 2))))))), ?_⟩)
  · obtain ⟨x, y, z, rfl, _⟩ := h
    rfl
  · obtain ⟨x, y, z, rfl, hx, q⟩ := h
    walk_at "go"
    refine ⟨x, 0, 15, rfl, hx, ?_⟩
    rcases q with q | ⟨i, rfl, i0, i1, hy, q⟩
    · exact .inr q
    · refine .inl ⟨whole_int i0 i1, ?_⟩
      walk_at "go"
      refine ⟨y, 0, 3, rfl, hy, ?_⟩
      rcases q with q | ⟨j, rfl, j0, j1, hz, q⟩
      · exact .inr q
      · refine .inl ⟨whole_int j0 j1, ?_⟩
        walk_at "go"
        refine ⟨z, 0, 63, rfl, hz, ?_⟩
        rcases q with q | ⟨k, rfl, k0, k1, q⟩
        · exact .inr q
        · refine .inl ⟨whole_int k0 k1, ?_⟩
          walk_at "go"
          refine r_I (cmul (by omega) (by omega) (by decide) (by decide)) ?_
          walk_at "go"
          refine r_I (cmul (by omega) (by omega) (by decide) (by decide)) ?_
          walk_at "go"
          exact q
end
end K02

namespace K02
open PySem PySem.Spec PyProof.Rows L2 Bk


/-- what == says of each text beside x -/
def EqS (K : PySem.W.Frag) (H : Hp) (x : V) (f : Str → Bool) : Prop := ∀ H', Same H H' → ∀ z, z ∈ opsL → ∀ Q : VK, Q (.bl (f z)) H' → rEqS K (.str z) x H' Q
def spOp (K : PySem.W.Frag) (CO : Addr) : Sp := fun vs H Q E => ∃ (x : V) (f : Str → Bool), vs = [x] ∧ EqS K H x f ∧ (((∀ z, z ∈ opsL → f z = false) ∧ Refuse CO x H E) ∨
  ∃ (j : Nat) (z : Str), opsL[j]? = some z ∧ f z = true ∧ (∀ (k : Nat) (z' : Str), k < j → opsL[k]? = some z' → f z' = false) ∧ ∀ H', Same H H' → Q (.int (j : Int)) H')
def spEntry (K : PySem.W.Frag) (CM CT : Addr) : Sp := fun vs H Q E => ∃ x y : V, vs = [x, y] ∧ WD K H x ∧ ((wholeV x 0 7 = false ∧ Refuse CM x H E) ∨ ∃ i, x = .int i ∧ 0 ≤ i ∧ i ≤ 7 ∧
  ((IsA K H y "bool" false ∧ Refuse CT y H E) ∨ ∃ c : Bool, y = .bl c ∧ Q (.int (i * 4 + (if c then 3 else 1))) H))
def spEntryP (K : PySem.W.Frag) (CW : Addr) : Sp := fun vs H Q E => ∃ x : V, vs = [x] ∧ WD K H x ∧ ((wd x = false ∧ Refuse CW x H E) ∨ ∃ i, x = .int i ∧ 0 ≤ i ∧ i ≤ 4095 ∧
  ((i % 2 = 0 ∧ Q .non H) ∨ (i % 2 = 1 ∧ ∀ p H', H p = none → Same H H' → H' p = some (.tup [.int (i / 4 % 8), .bl (decide (i / 2 % 2 = 1))]) → Q (.ref p) H')))
def spNames : Sp := fun vs H Q _ => vs = [] ∧ ∀ p H', H p = none → Same H H' → H' p = some (.lst (opsL.map V.str)) → Q (.ref p) H'
section
variable {P : Program} {w : World} {K : PySem.W.Frag} {mg : Str → Option Value} {base : Heap} {A : Ad}
theorem ok_cell {f : Addr} {fd : FuncData} (F : Fun K "_law_cell" "_law_cell" s_cell_L f fd) (T : Txt K mg A) : FnOk P w K mg base CX0 1 f fd ["_law_script", "_law_k"] (spCell K) := by
  refine F.ok sc_cell_L (fun vs H Q E h => ?_) (fun cdv A' outer s H vs Q E hr h => ⟨_, (pss_cons (ps_if (pt_cmpR op_lt (pv 1) (pe_callB call_len_seq (by rfl) T.m_len (by decide +kernel) (pa_cons (pv 0) pa_nil)) (nomark _)) (pss_one (ps_ret (pe_ix ix_list (pv 0) (pv 1) (fun _ _ => rfl)))) pss_nil)
    (pss_one (ps_ret (pe_op op_add (pe_op op_mulW pe_int (pv 1)) pe_int)))), ?_⟩)
  · obtain ⟨a, ns, k, rfl, _⟩ := h
    rfl
  · obtain ⟨a, ns, k, rfl, hS, hk, q⟩ := h
    walk_at "go"
    refine ⟨a, _, rfl, .inl hS, ?_⟩
    walk_at "go"
    refine ite2 (fun e => ?_) (fun e => ?_)
    · walk_at "go"
      have hl : k < ns.length := by
        have z := of_decide_eq_true e
        rw [List.length_map] at z
        omega
      exact r_ixL hS (at_map hl) (q _)
    · walk_at "go"
      refine r_I (cmul (by decide) (by decide) (by omega) (by omega)) ?_
      walk_at "go"
      exact q _
theorem ok_box {f : Addr} {fd : FuncData} (F : Fun K "_law_box" "_law_box" s_box_L f fd) (T : Txt K mg A) : FnOk P w K mg base CX0 1 f fd ["_law_cell_here"] spBox := by
  refine F.ok sc_box_L (fun vs H Q E h => ?_) (fun cdv A' outer s H vs Q E hr h => ⟨_, (pss_one (ps_ret (pe_lst (pa_cons (pe_callB (call_max2 rfl) (by rfl) T.m_max (by decide +kernel) (pa_cons pe_int (pa_cons (pe_op op_sub (pv 0) (pe_op op_pow pe_int pe_int)) pa_nil))) (pa_cons (pe_op op_mod (pv 0) pe_int) (pa_cons pe_int pa_nil)))))), ?_⟩)
  · obtain ⟨c, rfl, _⟩ := h
    rfl
  · obtain ⟨c, rfl, q⟩ := h
    walk_at "go"
    refine r_I ⟨by decide, by decide, by decide⟩ ?_
    walk_at "go"
    refine ⟨_, _, rfl, ?_⟩
    walk_at "go"
    refine r_I (by decide) ?_
    walk_at "go"
    refine newL fun p H' np sm e => q p H' np sm ⟨_, _, _, e, ?_, ?_, ?_, ?_, ?_⟩ <;> first | omega | (split <;> omega)
theorem ok_take {f : Addr} {fd : FuncData} (F : Fun K "_law_take" "_law_take" s_take_L f fd) (T : Txt K mg A) : FnOk P w K mg base CX0 1 f fd ["_law_box_here", "_law_size"] spTake := by
  refine F.ok sc_take_L (fun vs H Q E h => ?_) (fun cdv A' outer s H vs Q E hr h => ⟨_, (pss_cons (ps_if (pt_cmpR op_gt (pe_ix ix_list (pv 0) pe_int (fun _ _ => rfl)) pe_int (nomark _)) (pss_cons (ps_set (i := 2) sc_take_L.nd rfl (.inl rfl) (pe_op op_mod (pe_ix ix_list (pv 0) pe_int (fun _ _ => rfl)) (pv 1)))
    (pss_cons (ps_asg (pe_op op_fdivW (pe_ix ix_list (pv 0) pe_int (fun _ _ => rfl)) (pv 1)) (pg_sub (pv 0) pe_int set_list))
    (pss_one (ps_ret (pv 2))))) pss_nil)
    (pss_cons (ps_asg (pe_op op_add (pe_ix ix_list (pv 0) pe_int (fun _ _ => rfl)) pe_int) (pg_sub (pv 0) pe_int set_list))
    (pss_cons (ps_set (i := 3) sc_take_L.nd rfl (.inl rfl) (pe_op op_mod (pe_op op_pow (pe_op op_add (pe_op op_add (pe_ix ix_list (pv 0) pe_int (fun _ _ => rfl)) (pe_op op_mulW pe_int (pe_ix ix_list (pv 0) pe_int (fun _ _ => rfl)))) pe_int) pe_int) pe_int))
    (pss_cons (ps_set (i := 4) sc_take_L.nd rfl (.inl rfl) (pe_op op_mod (pe_op op_pow (pe_op op_add (pe_op op_add (pe_op op_fdivW (pv 3) pe_int) (pe_op op_mulW pe_int (pe_ix ix_list (pv 0) pe_int (fun _ _ => rfl)))) pe_int) pe_int) pe_int))
    (pss_one (ps_ret (pe_op op_mod (pe_op op_add (pe_op op_fdivW (pv 3) pe_int) (pe_op op_mulW pe_int (pe_op op_fdivW (pv 4) pe_int))) (pv 1)))))))), ?_⟩)
  · obtain ⟨a, n, size, rfl, _⟩ := h
    rfl
  · obtain ⟨a, n, size, rfl, ⟨x, y, z, e, hx, hy, hy2, hz, hz2⟩, hn, h0, h1, q⟩ := h
    have i0 : SqL K H a [.int x, .int y, .int z] := sqL e
    walk_at "go"
    refine r_ixL i0 (v := .int x) rfl ?_
    walk_at "go"
    refine ite2 (fun hp => ?_) (fun hp => ?_)
    · walk_at "go"
      refine r_ixL i0 (v := .int x) rfl ?_
      walk_at "go"
      refine r_I h0 ?_
      walk_at "go"
      refine r_ixL i0 (v := .int x) rfl ?_
      walk_at "go"
      refine r_I (cdiv h0 h1) ?_
      walk_at "go"
      refine ⟨a, _, 0, 0, rfl, rfl, e, rfl, ?_⟩
      walk_at "go"
      exact q _ _ (Int.emod_nonneg _ (by omega)) (Int.emod_lt_of_pos _ h0) ⟨x / size, y, z, upd_same, Int.ediv_nonneg hx (by omega), hy, hy2, hz, by omega⟩ But.upd
    · walk_at "go"
      refine r_ixL i0 (v := .int z) rfl ?_
      walk_at "go"
      refine ⟨a, _, 2, 2, rfl, rfl, e, rfl, ?_⟩
      have i1 : SqL K (upd H a (.lst [.int x, .int y, .int (z + 1)])) a [.int x, .int y, .int (z + 1)] := sqL upd_same
      walk_at "go"
      refine r_ixL i1 (v := .int y) rfl ?_
      walk_at "go"
      refine r_ixL i1 (v := .int (z + 1)) rfl ?_
      refine r_I (cmul (by decide) (by decide) (by omega) (by omega)) ?_
      walk_at "go"
      have g1 : (y + 7919 * (z + 1) + 29).natAbs < 2 ^ 64 := by omega
      refine r_I ⟨by decide, by decide, g1⟩ ?_
      walk_at "go"
      refine r_I (by decide) ?_
      walk_at "go"
      generalize hone : (y + 7919 * (z + 1) + 29) ^ (Int.toNat 5) % 2147483647 = one
      have o1 : 0 ≤ one := by rw [← hone]; exact Int.emod_nonneg _ (by decide)
      have o2 : one < 2147483647 := by rw [← hone]; exact Int.emod_lt_of_pos _ (by decide)
      refine r_I (cdiv (by decide) (by decide)) ?_
      walk_at "go"
      refine r_ixL i1 (v := .int (z + 1)) rfl ?_
      refine r_I (cmul (by decide) (by decide) (by omega) (by omega)) ?_
      walk_at "go"
      have g2 : (one / 8 + 104729 * (z + 1) + 11).natAbs < 2 ^ 64 := by omega
      refine r_I ⟨by decide, by decide, g2⟩ ?_
      walk_at "go"
      refine r_I (by decide) ?_
      walk_at "go"
      generalize htwo : (one / 8 + 104729 * (z + 1) + 11) ^ (Int.toNat 3) % 2147483629 = two
      have t1 : 0 ≤ two := by rw [← htwo]; exact Int.emod_nonneg _ (by decide)
      have t2 : two < 2147483629 := by rw [← htwo]; exact Int.emod_lt_of_pos _ (by decide)
      refine r_I (cdiv (by decide) (by decide)) ?_
      walk_at "go"
      refine r_I (cdiv (by decide) (by decide)) ?_
      refine r_I (cmul (by decide) (by decide) (by omega) (by omega)) ?_
      walk_at "go"
      refine r_I h0 ?_
      exact q _ _ (Int.emod_nonneg _ (by omega)) (Int.emod_lt_of_pos _ h0) ⟨x, y, z + 1, upd_same, hx, hy, hy2, by omega, by omega⟩ But.upd
theorem ok_opof {f : Addr} {fd fdO : FuncData} (F : Fun K "op_of" "op_of" s_op_of f fd) (T : Txt K mg A) (c_NoOp_init : Own P w K mg base CX0 2 A.fO fdO ["self", "found"] (spInit A.CO)) : FnOk P w K mg base (L2.CX P w) 4 f fd ["name"] (spOp K A.CO) := by
  refine F.okX sc_op_of (fun vs H Q E h => ?_) (fun cdv A' outer s H vs Q E hr h => have hu64 := hr.units; ⟨_, (pss_cons (ps_for (passes_of rfl) rfl (pi_enumA (by rfl) T.m_enumerate (pa_cons (C8.pe_gc (by rfl) T.c_OPS) pa_nil)) (pg_tup rfl (pgs_cons (pg_name (i := 1) sc_op_of.nd rfl (.inl rfl)) (pgs_cons (pg_name (i := 2) sc_op_of.nd rfl (.inl rfl)) pgs_nil)))
      (pss_one (ps_if (pt_cmpR (op_eqS hu64) (pv 2) (pv 0) (nomark _)) (pss_one (ps_ret (pv 1))) pss_nil)))
    (pss_one (ps_raise rfl (takes_of rfl rfl rfl rfl) (pmk_oex T.ox_NoOp T.i_NoOp T.t_NoOp c_NoOp_init.ok (hr.mono (by decide)) c_NoOp_init.bd .nil pass0 (by rfl) T.g_NoOp (pa_cons (pv 0) pa_nil))))), ?_⟩)
  · obtain ⟨x, f, rfl, _⟩ := h
    rfl
  · obtain ⟨x, f, rfl, he, q⟩ := h
    walk_at "go"
    refine ⟨A.aOPS, _, rfl, .inr ⟨T.ops H, ?_⟩⟩
    refine for_it walk_enumT (fun i σ H' => (∃ x1 x2, σ = [some x, x1, x2]) ∧ Same H H' ∧ ∀ (j : Nat) (z : Str), opsL[j]? = some z → f z = true → (∀ (k : Nat) (z' : Str), k < j → opsL[k]? = some z' → f z' = false) → i ≤ j) ⟨⟨none, none, rfl⟩, Same.refl _, fun _ _ _ _ _ => Nat.zero_le _⟩ (fun i σ H' _ h => T.ops H') ?_ ?_
    · rintro i y σ H1 H2 hi ⟨⟨x1, x2, rfl⟩, sm, lo⟩ ⟨Tn, u, v, rfl, nT, rfl, hu, hv⟩
      injection hu with hu
      subst hu
      have sT := same_upd (o := .tup [.int i, v]) nT
      obtain ⟨z, hz, rfl⟩ : ∃ z, opsL[i]? = some z ∧ v = .str z := by
        have hv : (opsL.map V.str)[i]? = some v := hv
        rw [List.getElem?_map] at hv
        cases hq : opsL[i]? with
        | none => rw [hq] at hv; exact nomatch hv
        | some z => rw [hq] at hv; exact ⟨z, rfl, (Option.some.inj hv).symm⟩
      refine ⟨Tn, _, rfl, sqT upd_same, rfl, .int i, _, rfl, .str z, _, rfl, rfl, ?_⟩
      walk_at "go"
      refine he _ (sm.trans sT) z (List.mem_of_getElem? hz) _ ?_
      walk_at "go"
      cases hf : f z with
      | true =>
        walk_at "go"
        rcases q with ⟨no, _⟩ | ⟨j, z2, h1, h2, h3, q⟩
        · exact absurd (no z (List.mem_of_getElem? hz)) (by rw [hf]; simp)
        · have le := lo j z2 h1 h2 h3
          have ij : i = j := by
            rcases Nat.lt_or_eq_of_le le with l | e
            · have := h3 i z l hz
              rw [hf] at this
              exact absurd this (by simp)
            · exact e
          subst ij
          exact q _ (sm.trans sT)
      | false =>
        walk_at "go"
        refine ⟨⟨_, _, rfl⟩, sm.trans sT, fun j z2 h1 h2 h3 => ?_⟩
        rcases Nat.lt_or_eq_of_le (lo j z2 h1 h2 h3) with l | e
        · exact l
        · subst e
          rw [hz] at h1
          injection h1 with h1
          subst h1
          rw [hf] at h2
          exact absurd h2 (by simp)
    · rintro σ H1 ⟨⟨x1, x2, rfl⟩, sm, lo⟩
      rcases q with ⟨no, q⟩ | ⟨j, z2, h1, h2, h3, q⟩
      · exact ⟨x, rfl, r_mkO (q.on sm)⟩
      · have le := lo j z2 h1 h2 h3
        have lt := (List.getElem?_eq_some_iff.mp h1).1
        rw [List.length_map] at le
        omega
theorem ok_entry {f : Addr} {fd fdT : FuncData} {kws : List (Str × V)} (F : FunD K "entry" "entry" (defArgs s_entry) (defBody s_entry) (defScope s_entry) [] kws f fd) (T : Txt K mg A) (c_check_number : CalX P w K mg base 4 "check_number" (spCkN K A.CM))
    (c_NoTruth_init : Own P w K mg base CX0 2 A.fT fdT ["self", "found"] (spInit A.CT)) : FnOk P w K mg base (L2.CX P w) 5 f fd ["room", "write"] (spEntry K A.CM A.CT) := by
  refine F.ok sc_entry (fun vs H Q E h => ?_) (fun cdv A' outer s H vs Q E hr h => ⟨_, (pss_cons (ps_expr (pe_calX c_check_number hr (by decide) (by rfl) (takes_of rfl rfl rfl rfl) (pa_cons (pv 0) (pa_cons pe_int (pa_cons pe_int pa_nil)))))
    (pss_cons (ps_if (pt_not (pt_val (pe_callB call_is (by rfl) T.m_isinstance (by decide +kernel) (pa_cons (pv 1) (pa_cons (pe_bltn (v := .ty "bool") (by rfl) T.m_bool (by decide +kernel) rfl) pa_nil))))) (pss_one (ps_raise rfl (takes_of rfl rfl rfl rfl) (pmk_oex T.ox_NoTruth T.i_NoTruth T.t_NoTruth c_NoTruth_init.ok (hr.mono (by decide)) c_NoTruth_init.bd .nil pass0 (by rfl) T.g_NoTruth (pa_cons (pv 1) pa_nil)))) pss_nil)
    (pss_one (ps_ret (pe_op op_add (pe_op op_mulW (pv 0) pe_int) (pe_ifExp (pt_val (pv 1)) pe_int pe_int)))))), ?_⟩)
  · obtain ⟨x, y, rfl, _⟩ := h
    rfl
  · obtain ⟨x, y, rfl, hx, q⟩ := h
    walk_at "go"
    refine ⟨x, 0, 7, rfl, hx, ?_⟩
    rcases q with q | ⟨i, rfl, i0, i1, q⟩
    · exact .inr q
    · refine .inl ⟨whole_int i0 i1, ?_⟩
      walk_at "go"
      rcases q with ⟨hy, q⟩ | ⟨c, rfl, q⟩
      · refine r_is hy ?_
        walk_at "go"
        exact ⟨y, rfl, r_mkO q⟩
      · refine r_is (isa_bl (b := true)) ?_
        walk_at "go"
        refine r_I (cmul (by omega) (by omega) (by decide) (by decide)) ?_
        walk_at "go"
        cases c <;> (walk_at "go"; exact q)
theorem ok_entryP {f : Addr} {fd : FuncData} (F : Fun K "entry_parts" "entry_parts" s_entry_parts f fd) (T : Txt K mg A) (c_check_word : CalX P w K mg base 4 "check_word" (spCheck K A.CW)) : FnOk P w K mg base (L2.CX P w) 5 f fd ["word"] (spEntryP K A.CW) := by
  refine F.okX sc_entry_parts (fun vs H Q E h => ?_) (fun cdv A' outer s H vs Q E hr h => ⟨_, (pss_cons (ps_expr (pe_calX c_check_word hr (by decide) (by rfl) (takes_of rfl rfl rfl rfl) (pa_cons (pv 0) pa_nil)))
    (pss_cons (ps_if (pt_cmpR op_eq (pe_op op_mod (pv 0) pe_int) pe_int (nomark _)) (pss_one (ps_ret pe_non)) pss_nil)
    (pss_one (ps_ret (pe_tup (pa_cons (pe_op op_mod (pe_op op_fdivW (pv 0) pe_int) pe_int) (pa_cons (pe_cmpR op_eq (pe_op op_mod (pe_op op_fdivW (pv 0) pe_int) pe_int) pe_int (nomark _)) pa_nil))))))), ?_⟩)
  · obtain ⟨x, rfl, _⟩ := h
    rfl
  · obtain ⟨x, rfl, hx, q⟩ := h
    walk_at "go"
    refine ⟨x, rfl, hx, ?_⟩
    rcases q with q | ⟨i, rfl, i0, i1, q⟩
    · exact .inr q
    · refine .inl ⟨wd_int i0 i1, ?_⟩
      walk_at "go"
      refine r_I (by decide) ?_
      walk_at "go"
      rcases q with ⟨h0, q⟩ | ⟨h1, q⟩
      · refine iteD (by rw [h0]) ?_
        walk_at "go"
        exact q
      · refine iteDn (by rw [h1]; decide) ?_
        walk_at "go"
        refine r_I (cdiv (by decide) (by decide)) ?_
        walk_at "go"
        refine r_I (by decide) ?_
        walk_at "go"
        refine r_I (cdiv (by decide) (by decide)) ?_
        walk_at "go"
        refine r_I (by decide) ?_
        walk_at "go"
        simp only [V.int.injEq]
        exact newT fun p H' np sm e => q p H' np sm e
theorem ok_names {f : Addr} {fd : FuncData} (F : Fun K "_law_names" "_law_names" s_names_L f fd) (T : Txt K mg A) : FnOk P w K mg base CX0 1 f fd [] spNames := by
  refine F.ok sc_names_L (fun vs H Q E h => ?_) (fun cdv A' outer s H vs Q E hr h => ⟨_, (pss_cons (ps_set (i := 0) sc_names_L.nd rfl (.inl rfl) pe_str)
    (pss_one (ps_ret (pe_split (pv 0) pe_str)))), ?_⟩)
  · obtain ⟨rfl, _⟩ := h
    rfl
  · obtain ⟨rfl, q⟩ := h
    walk_at "go"
    refine ⟨⟨_, rfl⟩, ?_⟩
    walk_at "go"
    refine ⟨_, _, rfl, rfl, by decide +kernel, by decide +kernel, fun p np => q p _ np (same_upd np) ?_⟩
    rw [upd_same]
    refine congrArg some (congrArg HO.lst (congrArg (List.map V.str) ?_))
    decide +kernel
end
end K02

namespace K02
open PySem PySem.Spec PyProof.Rows L2 Bk


def Caught (K : PySem.W.Frag) (way : Int) (xs : List V) (H : Hp) (tag : Str) (v : V) : Prop :=
  ((way = 0 ∨ way = 4) ∧ tag = "word" ∧ xs = [v] ∧ WD K H v ∧ wd v = false) ∨
  (way = 1 ∧ tag = "number" ∧ ∃ x y z, xs = [x, y, z] ∧ ((v = x ∧ WD K H x ∧ wholeV x 0 15 = false) ∨ (∃ i, x = .int i ∧ 0 ≤ i ∧ i ≤ 15 ∧ ((v = y ∧ WD K H y ∧ wholeV y 0 3 = false) ∨ ∃ j, y = .int j ∧ 0 ≤ j ∧ j ≤ 3 ∧ v = z ∧ WD K H z ∧ wholeV z 0 63 = false)))) ∨
  (way = 2 ∧ tag = "op" ∧ xs = [v] ∧ ∃ f, EqS K H v f ∧ ∀ z, z ∈ opsL → f z = false) ∨
  (way = 3 ∧ ∃ x y, xs = [x, y] ∧ ((tag = "number" ∧ v = x ∧ WD K H x ∧ wholeV x 0 7 = false) ∨ (tag = "truth" ∧ v = y ∧ (∃ i, x = .int i ∧ 0 ≤ i ∧ i ≤ 7) ∧ IsA K H y "bool" false)))
def spCaught (K : PySem.W.Frag) : Sp := fun vs H Q _ => ∃ (way : Int) (pt : Addr) (xs : List V) (tag : Str) (v : V), vs = [.int way, .ref pt] ∧ H pt = some (.lst xs) ∧ Caught K way xs H tag v ∧ ∀ p H', H p = none → Same H H' → H' p = some (.tup [.str tag, v]) → Q (.ref p) H'
def spSame (K : PySem.W.Frag) : Sp := fun vs H Q _ => ∃ (p : Addr) (tag : Str) (u v : V), vs = [.ref p, .str tag, v] ∧ H p = some (.tup [.str tag, u]) ∧
  ((IsA K H v "list" false ∧ (∃ z, Shw K H u z ∧ Shw K H v z) ∧ Q (.bl true) H) ∨
    ∃ a xs, v = .ref a ∧ H a = some (.lst xs) ∧ xs.length ≤ 1000 ∧ (∃ z, Shw K (upd H a (.lst (xs ++ [.str "more"]))) u z ∧ Shw K (upd H a (.lst (xs ++ [.str "more"]))) v z) ∧ Q (.bl true) (upd H a (.lst (xs ++ [.str "more"]))))
section
variable {P : Program} {w : World} {K : PySem.W.Frag} {mg : Str → Option Value} {base : Heap} {A : Ad}
theorem ok_caught {f : Addr} {fd : FuncData} (F : Fun K "_law_caught" "_law_caught" s_caught_L f fd) (T : Txt K mg A) (c_parts_of : CalX P w K mg base 5 "parts_of" (spParts K A.CW)) (c_code : CalX P w K mg base 5 "code" (spCode K A.CM))
    (c_op_of : CalX P w K mg base 4 "op_of" (spOp K A.CO)) (k_entry_1_write : CalMX P w K mg base 5 1 ["write"] "entry" (spEntry K A.CM A.CT) (fun vs zs => vs ++ zs)) (c_entry_parts : CalX P w K mg base 5 "entry_parts" (spEntryP K A.CW)) :
    FnOk P w K mg base CX0 6 f fd ["_law_way", "_law_things"] (spCaught K) := by
  refine F.ok sc_caught_L (fun vs H Q E h => ?_) (fun cdv A' outer s H vs Q E hr h => ⟨_, (pss_cons (ps_try_asM rfl rfl sc_caught_L.nd (fun W pn xe tk po => (pss_one (ps_if (pt_cmpR op_eq (pv 0) pe_int (nomark _)) (pss_one (ps_expr (pe_calT c_parts_of hr (by decide) (by rfl) tk (pa_cons (pe_ix (ix_listK (K := K) rfl) (pv 1) pe_int (fun _ _ => rfl)) pa_nil)))) (pss_one (ps_if (pt_cmpR op_eq (pv 0) pe_int (nomark _)) (pss_one (ps_expr (pe_calT c_code hr (by decide) (by rfl) tk (pa_cons (pe_ix (ix_listK (K := K) rfl) (pv 1) pe_int (fun _ _ => rfl)) (pa_cons (pe_ix (ix_listK (K := K) rfl) (pv 1) pe_int (fun _ _ => rfl)) (pa_cons (pe_ix (ix_listK (K := K) rfl) (pv 1) pe_int (fun _ _ => rfl)) pa_nil)))))) (pss_one (ps_if (pt_cmpR op_eq (pv 0) pe_int (nomark _)) (pss_one (ps_expr (pe_calT c_op_of hr (by decide) (by rfl) tk (pa_cons (pe_ix (ix_listK (K := K) rfl) (pv 1) pe_int (fun _ _ => rfl)) pa_nil)))) (pss_one (ps_if (pt_cmpR op_eq (pv 0) pe_int (nomark _)) (pss_one (ps_expr (pe_calMT k_entry_1_write hr (by decide) (by rfl) tk (pa_cons (pe_ix (ix_listK (K := K) rfl) (pv 1) pe_int (fun _ _ => rfl)) pa_nil) (pk_cons (pe_ix (ix_listK (K := K) rfl) (pv 1) pe_int (fun _ _ => rfl)) pk_nil)))) (pss_one (ps_expr (pe_calT c_entry_parts hr (by decide) (by rfl) tk (pa_cons (pe_ix (ix_listK (K := K) rfl) (pv 1) pe_int (fun _ _ => rfl)) pa_nil)))))))))))))
      (.more ⟨by rfl, by decide, .inl T.g_NoWord⟩ (i := 2) rfl rfl (fun a oe cls d pn hz hf => (pss_one (ps_ret (pe_tup (pa_cons pe_str (pa_cons (pe_xf T.xf_NoWord T.nf_NoWord hz hf (pv 2)) pa_nil))))))
      (.more ⟨by rfl, by decide, .inl T.g_NoNumber⟩ (i := 2) rfl rfl (fun a oe cls d pn hz hf => (pss_one (ps_ret (pe_tup (pa_cons pe_str (pa_cons (pe_xf T.xf_NoNumber T.nf_NoNumber hz hf (pv 2)) pa_nil))))))
      (.more ⟨by rfl, by decide, .inl T.g_NoOp⟩ (i := 2) rfl rfl (fun a oe cls d pn hz hf => (pss_one (ps_ret (pe_tup (pa_cons pe_str (pa_cons (pe_xf T.xf_NoOp T.nf_NoOp hz hf (pv 2)) pa_nil))))))
      (.more ⟨by rfl, by decide, .inl T.g_NoTruth⟩ (i := 2) rfl rfl (fun a oe cls d pn hz hf => (pss_one (ps_ret (pe_tup (pa_cons pe_str (pa_cons (pe_xf T.xf_NoTruth T.nf_NoTruth hz hf (pv 2)) pa_nil))))))
      .stop)))))
    (pss_one (ps_ret (pe_tup (pa_cons pe_str (pa_cons pe_non pa_nil)))))), ?_⟩)
  · obtain ⟨way, pt, xs, tag, v, rfl, _⟩ := h
    rfl
  · obtain ⟨way, pt, xs, tag, v, rfl, ep, hc, q⟩ := h
    walk_at "go"
    have fin : ∀ {H' H2 : Hp} {p : Addr} {u : V} {g : Str}, (∀ p H', H p = none → Same H H' → H' p = some (.tup [.str g, u]) → Q (.ref p) H') → Same H H' → H' p = none → Same H' H2 → H2 p = some (.tup [.str g, u]) → Q (.ref p) H2 := fun {H' H2 p u g} q sm np s2 e2 => q p H2 (sm.free np) (sm.trans s2) e2
    rcases hc with ⟨rfl | rfl, rfl, rfl, hx, bx⟩ | ⟨rfl, rfl, x, y, z, rfl, hc⟩ | ⟨rfl, rfl, rfl, f0, he, hf⟩ | ⟨rfl, x, y, rfl, hc⟩
    · refine iteD rfl ?_
      walk_at "go"
      refine r_callS ?_
      walk_at "go"
      refine r_ixL (sqL ep) (v := v) rfl ?_
      exact ⟨v, rfl, hx, .inl ⟨bx, fun d H' hd sm e => caught_at T.eWW (Nat.le_of_ble_eq_true rfl) e fun p H2 np s2 e2 => fin q sm np s2 e2⟩⟩
    · refine iteDn (by decide) ?_
      walk_at "go"
      refine iteDn (by decide) ?_
      walk_at "go"
      refine iteDn (by decide) ?_
      walk_at "go"
      refine iteDn (by decide) ?_
      walk_at "go"
      refine r_callS ?_
      walk_at "go"
      refine r_ixL (sqL ep) (v := v) rfl ?_
      exact ⟨v, rfl, hx, .inl ⟨bx, fun d H' hd sm e => caught_at T.eWW (Nat.le_of_ble_eq_true rfl) e fun p H2 np s2 e2 => fin q sm np s2 e2⟩⟩
    · refine iteDn (by decide) ?_
      walk_at "go"
      refine iteD rfl ?_
      walk_at "go"
      refine r_callS ?_
      walk_at "go"
      refine r_ixL (sqL ep) (v := x) rfl ?_
      walk_at "go"
      refine r_ixL (sqL ep) (v := y) rfl ?_
      walk_at "go"
      refine r_ixL (sqL ep) (v := z) rfl ?_
      walk_at "go"
      have out : ∀ {u : V}, (∀ p H', H p = none → Same H H' → H' p = some (.tup [.str "number", u]) → Q (.ref p) H') → True := fun _ => trivial
      refine ⟨x, y, z, rfl, ?_⟩
      rcases hc with ⟨rfl, hx, bx⟩ | ⟨i, rfl, i0, i1, hc⟩
      · exact ⟨hx, .inl ⟨bx, fun d H' hd sm e => w_miss T.eMW (caught_at T.eMM (Nat.le_of_ble_eq_true rfl) e fun p H2 np s2 e2 => fin q sm np s2 e2)⟩⟩
      · rcases hc with ⟨rfl, hy, by_⟩ | ⟨j, rfl, j0, j1, rfl, hz, bz⟩
        · exact ⟨.inl ⟨i, rfl⟩, .inr ⟨i, rfl, i0, i1, hy, .inl ⟨by_, fun d H' hd sm e => w_miss T.eMW (caught_at T.eMM (Nat.le_of_ble_eq_true rfl) e fun p H2 np s2 e2 => fin q sm np s2 e2)⟩⟩⟩
        · exact ⟨.inl ⟨i, rfl⟩, .inr ⟨i, rfl, i0, i1, .inl ⟨j, rfl⟩, .inr ⟨j, rfl, j0, j1, hz, .inl ⟨bz, fun d H' hd sm e => w_miss T.eMW (caught_at T.eMM (Nat.le_of_ble_eq_true rfl) e fun p H2 np s2 e2 => fin q sm np s2 e2)⟩⟩⟩⟩
    · refine iteDn (by decide) ?_
      walk_at "go"
      refine iteDn (by decide) ?_
      walk_at "go"
      refine iteD rfl ?_
      walk_at "go"
      refine r_callS ?_
      walk_at "go"
      refine r_ixL (sqL ep) (v := v) rfl ?_
      exact ⟨v, f0, rfl, he, .inl ⟨hf, fun d H' hd sm e => w_miss T.eOW (w_miss T.eOM (caught_at T.eOO (Nat.le_of_ble_eq_true rfl) e fun p H2 np s2 e2 => fin q sm np s2 e2))⟩⟩
    · refine iteDn (by decide) ?_
      walk_at "go"
      refine iteDn (by decide) ?_
      walk_at "go"
      refine iteDn (by decide) ?_
      walk_at "go"
      refine iteD rfl ?_
      walk_at "go"
      refine r_callNS ?_
      walk_at "go"
      refine r_ixL (sqL ep) (v := x) rfl ?_
      walk_at "go"
      refine r_ixL (sqL ep) (v := y) rfl ?_
      walk_at "go"
      refine ⟨rfl, rfl, x, y, rfl, ?_⟩
      rcases hc with ⟨rfl, rfl, hx, bx⟩ | ⟨rfl, rfl, ⟨i, rfl, i0, i1⟩, hy⟩
      · exact ⟨hx, .inl ⟨bx, fun d H' hd sm e => w_miss T.eMW (caught_at T.eMM (Nat.le_of_ble_eq_true rfl) e fun p H2 np s2 e2 => fin q sm np s2 e2)⟩⟩
      · exact ⟨.inl ⟨i, rfl⟩, .inr ⟨i, rfl, i0, i1, .inl ⟨hy, fun d H' hd sm e => w_miss T.eTW (w_miss T.eTM (w_miss T.eTO (caught_at T.eTT (Nat.le_of_ble_eq_true rfl) e fun p H2 np s2 e2 => fin q sm np s2 e2)))⟩⟩⟩
theorem ok_same {f : Addr} {fd : FuncData} (F : Fun K "_law_same" "_law_same" s_same_L f fd) (T : Txt K mg A) : FnG P w K mg base CX0 1 f fd ["_law_caught_here", "_law_value", "_law_thing"] (spSame K) := by
  refine fun_okG F sc_same_L (fun vs H Q E h => ?_) (fun cdv A' outer s H vs Q E ga hr h => ⟨_, (pss_cons (ps_if (pt_val (pe_callB call_is (by rfl) T.m_isinstance (by decide +kernel) (pa_cons (pv 2) (pa_cons (pe_bltn (v := .ty "list") (by rfl) T.m_list (by decide +kernel) rfl) pa_nil)))) (pss_one (ps_expr (pe_bm PySem.F.plainAttrs_list PySem.F.slot_list_append PySem.F.type_list_append mt_append (pv 2) (pa_cons pe_str pa_nil)))) pss_nil)
    (pss_one (ps_ret (pe_and (pe_cmpR op_eq (pe_ix ix_tup (pv 0) pe_int (fun _ _ => rfl)) (pv 1) (nomark _)) (pe_one (pe_cmpR op_eq (pe_callB (call_repr_shw ga hr) (by rfl) T.m_repr (by decide +kernel) (pa_cons (pe_ix ix_tup (pv 0) pe_int (fun _ _ => rfl)) pa_nil)) (pe_callB (call_repr_shw ga hr) (by rfl) T.m_repr (by decide +kernel) (pa_cons (pv 2) pa_nil)) (nomark _))))))), ?_⟩)
  · obtain ⟨p, tag, u, v, rfl, _⟩ := h
    rfl
  · obtain ⟨p, tag, u, v, rfl, ep, hv⟩ := h
    walk_at "go"
    rcases hv with ⟨hl, ⟨z, hu, hz⟩, q⟩ | ⟨a, xs, rfl, ea, hn, ⟨z, hu, hz⟩, q⟩
    · refine r_is hl ?_
      walk_at "go"
      refine r_ixT (sqT ep) (v := .str tag) rfl ?_
      walk_at "go"
      refine iteD rfl ?_
      walk_at "go"
      refine r_ixT (sqT ep) (v := u) rfl ?_
      walk_at "go"
      refine ⟨u, z, rfl, hu, ?_⟩
      walk_at "go"
      refine ⟨v, z, rfl, hz, ?_⟩
      refine r_eq rfl ?_
      rw [decide_eq_true rfl]
      exact q
    · refine r_is (isa_lst ea (b := true)) ?_
      walk_at "go"
      have ne : p ≠ a := ne_of ep ea (by intro z; cases z)
      refine ⟨.inl ⟨rfl, xs, sqL ea⟩, a, xs, _, rfl, rfl, ea, Nat.lt_of_le_of_lt hn (by decide), ?_⟩
      have ep' : upd H a (.lst (xs ++ [.str "more"])) p = some (.tup [.str tag, u]) := by rw [upd_ne ne]; exact ep
      walk_at "go"
      refine r_ixT (sqT ep') (v := .str tag) rfl ?_
      walk_at "go"
      refine iteD rfl ?_
      walk_at "go"
      refine r_ixT (sqT ep') (v := u) rfl ?_
      walk_at "go"
      refine ⟨_, z, rfl, hu, ?_⟩
      walk_at "go"
      refine ⟨_, z, rfl, hz, ?_⟩
      refine r_eq rfl ?_
      rw [decide_eq_true rfl]
      exact q
end
end K02

namespace K02
open PySem PySem.Spec PyProof.Rows L2 Bk


def spOneW : Sp := fun vs H Q _ => ∃ i : Int, vs = [.int i] ∧ 0 ≤ i ∧ i ≤ 4095 ∧ ∀ H', Same H H' → Q (.bl true) H'
theorem ops_apart : ∀ j, j < 16 → ∀ k, k < j → opsL[k]? ≠ opsL[j]? := by decide +kernel
theorem op_ok {K : PySem.W.Frag} {CO : Addr} {H : Hp} {Q : VK} {E : XK} {j : Nat} {z : Str} (hz : opsL[j]? = some z) (q : ∀ H', Same H H' → Q (.int (j : Int)) H') : spOp K CO [.str z] H Q E := by
  have lj : j < 16 := (List.getElem?_eq_some_iff.mp hz).1
  refine ⟨.str z, fun y => decide (V.str y = V.str z), rfl, fun H' s y _ Q' k => .inl (.inl ⟨rfl, k⟩), .inr ⟨j, z, hz, decide_eq_true rfl, fun k z' hk hz' => decide_eq_false fun e => ?_, q⟩⟩
  injection e with e
  subst e
  exact ops_apart j lj k hk (hz'.trans hz.symm)
theorem names_at {d : Int} (h0 : 0 ≤ d) (h1 : d ≤ 15) : ∃ z, opsL[d.toNat]? = some z ∧ atI (opsL.map V.str) d = some (.str z) := by
  obtain ⟨n, rfl⟩ := Int.eq_ofNat_of_zero_le h0
  have l : n < opsL.length := by
    have e : opsL.length = 16 := rfl
    omega
  exact ⟨opsL[n], List.getElem?_eq_getElem l, atI_nat (by rw [List.getElem?_map, List.getElem?_eq_getElem l]; rfl)⟩
theorem parts_ok {K : PySem.W.Frag} {CW : Addr} {H : Hp} {Q : VK} {E : XK} {i : Int} (i0 : 0 ≤ i) (i1 : i ≤ 4095) (q : ∀ p H', H p = none → Same H H' → H' p = some (.tup [.int (i / 256), .int (i / 64 % 4), .int (i % 64)]) → Q (.ref p) H') : spParts K CW [.int i] H Q E :=
  ⟨.int i, rfl, .inl ⟨i, rfl⟩, .inr ⟨i, rfl, i0, i1, q⟩⟩
theorem code_ok {K : PySem.W.Frag} {CM : Addr} {H : Hp} {Q : VK} {E : XK} {i j k r : Int} (i0 : 0 ≤ i) (i1 : i ≤ 15) (j0 : 0 ≤ j) (j1 : j ≤ 3) (k0 : 0 ≤ k) (k1 : k ≤ 63) (e : i * 256 + j * 64 + k = r) (q : Q (.int r) H) : spCode K CM [.int i, .int j, .int k] H Q E :=
  ⟨_, _, _, rfl, .inl ⟨i, rfl⟩, .inr ⟨i, rfl, i0, i1, .inl ⟨j, rfl⟩, .inr ⟨j, rfl, j0, j1, .inl ⟨k, rfl⟩, .inr ⟨k, rfl, k0, k1, by rw [e]; exact q⟩⟩⟩⟩
theorem entryP_odd {K : PySem.W.Frag} {CW : Addr} {H : Hp} {Q : VK} {E : XK} {i : Int} (i0 : 0 ≤ i) (i1 : i ≤ 4095) (h : i % 2 = 1) (q : ∀ p H', H p = none → Same H H' → H' p = some (.tup [.int (i / 4 % 8), .bl (decide (i / 2 % 2 = 1))]) → Q (.ref p) H') : spEntryP K CW [.int i] H Q E :=
  ⟨.int i, rfl, .inl ⟨i, rfl⟩, .inr ⟨i, rfl, i0, i1, .inr ⟨h, q⟩⟩⟩
theorem entryP_even {K : PySem.W.Frag} {CW : Addr} {H : Hp} {Q : VK} {E : XK} {i : Int} (i0 : 0 ≤ i) (i1 : i ≤ 4095) (h : i % 2 = 0) (q : Q .non H) : spEntryP K CW [.int i] H Q E :=
  ⟨.int i, rfl, .inl ⟨i, rfl⟩, .inr ⟨i, rfl, i0, i1, .inl ⟨h, q⟩⟩⟩
section
variable {P : Program} {w : World} {K : PySem.W.Frag} {mg : Str → Option Value} {base : Heap} {A : Ad}
theorem ok_wordR {f : Addr} {fd : FuncData} (F : Fun K "_law_word_right" "_law_word_right" s_word_right_L f fd) (T : Txt K mg A) (c_names_L : CalD P w K mg base CX0 1 "_law_names" spNames []) (c_parts_of : CalX P w K mg base 5 "parts_of" (spParts K A.CW))
    (k_parts_of_word : CalNX P w K mg base 5 ["word"] "parts_of" (spParts K A.CW) (fun _ zs => zs)) (c_code : CalX P w K mg base 5 "code" (spCode K A.CM)) (k_code_rest_op_which : CalNX P w K mg base 5 ["rest", "op", "which"] "code" (spCode K A.CM) (fun _ zs => zs.drop 1 ++ zs.take 1))
    (c_op_of : CalX P w K mg base 4 "op_of" (spOp K A.CO)) (k_op_of_name : CalNX P w K mg base 4 ["name"] "op_of" (spOp K A.CO) (fun _ zs => zs)) (c_entry_parts : CalX P w K mg base 5 "entry_parts" (spEntryP K A.CW))
    (k_entry_parts_word : CalNX P w K mg base 5 ["word"] "entry_parts" (spEntryP K A.CW) (fun _ zs => zs)) : FnG P w K mg base CX0 6 f fd ["_law_value"] spOneW := by
  refine fun_okG F sc_word_right_L (fun vs H Q E h => ?_) (fun cdv A' outer s H vs Q E ga hr h => have hu64 := hr.units; ⟨_, (pss_cons (ps_set (i := 1) sc_word_right_L.nd rfl (.inl rfl) (pe_tup (pa_cons (pe_op op_fdivW (pv 0) pe_int) (pa_cons (pe_op op_mod (pe_op op_fdivW (pv 0) pe_int) pe_int) (pa_cons (pe_op op_mod (pv 0) pe_int) pa_nil)))))
    (pss_cons (ps_set (i := 2) sc_word_right_L.nd rfl (.inl rfl) (pe_calY c_parts_of hr (by decide) (by rfl) (pa_cons (pv 0) pa_nil)))
    (pss_cons (ps_if (PW.pt (pw_or (pt_cmpR op_ne (pe_callB (call_repr_shw ga hr) (by rfl) T.m_repr (by decide +kernel) (pa_cons (pv 2) pa_nil)) (pe_callB (call_repr_shw ga hr) (by rfl) T.m_repr (by decide +kernel) (pa_cons (pv 1) pa_nil)) (nomark _)) (pw_or1 (pt_cmpR op_ne (pe_callB (call_repr_shw ga hr) (by rfl) T.m_repr (by decide +kernel) (pa_cons (pe_calY c_code hr (by decide) (by rfl) (pa_cons (pe_ix ix_tup (pv 1) pe_int (fun _ _ => rfl)) (pa_cons (pe_ix ix_tup (pv 1) pe_int (fun _ _ => rfl)) (pa_cons (pe_ix ix_tup (pv 1) pe_int (fun _ _ => rfl)) pa_nil)))) pa_nil)) (pe_callB (call_repr_shw ga hr) (by rfl) T.m_repr (by decide +kernel) (pa_cons (pv 0) pa_nil)) (nomark _))))) (pss_one (ps_ret pe_bl)) pss_nil)
    (pss_cons (ps_if (PW.pt (pw_or (pt_cmpR (op_neD hu64) (pe_calNY k_parts_of_word hr (by decide) (by rfl) (pk_cons (pv 0) pk_nil)) (pv 1) (nomark _)) (pw_or1 (pt_cmpR op_ne (pe_calNY k_code_rest_op_which hr (by decide) (by rfl) (pk_cons (pe_ix ix_tup (pv 1) pe_int (fun _ _ => rfl)) (pk_cons (pe_ix ix_tup (pv 1) pe_int (fun _ _ => rfl)) (pk_cons (pe_ix ix_tup (pv 1) pe_int (fun _ _ => rfl)) pk_nil)))) (pv 0) (nomark _))))) (pss_one (ps_ret pe_bl)) pss_nil)
    (pss_cons (ps_set (i := 3) sc_word_right_L.nd rfl (.inl rfl) (pe_ifExp (pt_cmpR op_eq (pe_op op_mod (pv 0) pe_int) pe_int (nomark _)) (pe_tup (pa_cons (pe_op op_mod (pe_op op_fdivW (pv 0) pe_int) pe_int) (pa_cons (pe_cmpR op_eq (pe_op op_mod (pe_op op_fdivW (pv 0) pe_int) pe_int) pe_int (nomark _)) pa_nil))) pe_non))
    (pss_cons (ps_if (PW.pt (pw_or (pt_cmpR op_ne (pe_callB (call_repr_shw ga hr) (by rfl) T.m_repr (by decide +kernel) (pa_cons (pe_calY c_entry_parts hr (by decide) (by rfl) (pa_cons (pv 0) pa_nil)) pa_nil)) (pe_callB (call_repr_shw ga hr) (by rfl) T.m_repr (by decide +kernel) (pa_cons (pv 3) pa_nil)) (nomark _)) (pw_or1 (pt_cmpR (op_neD hu64) (pe_calNY k_entry_parts_word hr (by decide) (by rfl) (pk_cons (pv 0) pk_nil)) (pv 3) (nomark _))))) (pss_one (ps_ret pe_bl)) pss_nil)
    (pss_cons (ps_set (i := 4) sc_word_right_L.nd rfl (.inl rfl) (pe_calY c_op_of hr (by decide) (by rfl) (pa_cons (pe_ix ix_list (pe_cal0 c_names_L hr (by decide) (by rfl)) (pe_ix ix_tup (pv 1) pe_int (fun _ _ => rfl)) (fun _ _ => rfl)) pa_nil)))
    (pss_cons (ps_if (pt_cmpR op_ne (pe_calNY k_op_of_name hr (by decide) (by rfl) (pk_cons (pe_ix ix_list (pe_cal0 c_names_L hr (by decide) (by rfl)) (pe_ix ix_tup (pv 1) pe_int (fun _ _ => rfl)) (fun _ _ => rfl)) pk_nil)) (pv 4) (nomark _)) (pss_one (ps_ret pe_bl)) pss_nil)
    (pss_one (ps_ret (pe_and (pe_cmpR op_eq (pe_callB (call_repr_shw ga hr) (by rfl) T.m_repr (by decide +kernel) (pa_cons (pv 4) pa_nil)) (pe_callB (call_repr_shw ga hr) (by rfl) T.m_repr (by decide +kernel) (pa_cons (pe_ix ix_tup (pv 1) pe_int (fun _ _ => rfl)) pa_nil)) (nomark _)) (pe_one (pe_cmpR op_eq (pe_ix ix_tup (C8.pe_gc (by rfl) T.c_OPS) (pe_ix ix_tup (pv 1) pe_int (fun _ _ => rfl)) (fun _ _ => rfl)) (pe_ix ix_list (pe_cal0 c_names_L hr (by decide) (by rfl)) (pe_ix ix_tup (pv 1) pe_int (fun _ _ => rfl)) (fun _ _ => rfl)) (nomark _)))))))))))))), ?_⟩)
  · obtain ⟨i, rfl, _⟩ := h
    rfl
  · obtain ⟨i, rfl, i0, i1, q⟩ := h
    have a0 : 0 ≤ i / 256 := by omega
    have a1 : i / 256 ≤ 15 := by omega
    have b0 : 0 ≤ i / 64 % 4 := by omega
    have b1 : i / 64 % 4 ≤ 3 := by omega
    have c0 : 0 ≤ i % 64 := by omega
    have c1 : i % 64 ≤ 63 := by omega
    have ce : i / 256 * 256 + i / 64 % 4 * 64 + i % 64 = i := by omega
    have sm : [V.int (i / 256), .int (i / 64 % 4), .int (i % 64)].all smS = true := by
      simp only [List.all_cons, List.all_nil, Bool.and_true, Bool.and_eq_true]
      exact ⟨small_int (by omega) (by omega), small_int (by omega) (by omega), small_int (by omega) (by omega)⟩
    have si : smS (.int i) = true := small_int (by omega) (by omega)
    walk_at "go"
    refine r_I (cdiv (by decide) (by decide)) ?_
    walk_at "go"
    refine r_I (cdiv (by decide) (by decide)) ?_
    walk_at "go"
    refine r_I (by decide) ?_
    walk_at "go"
    refine r_I (by decide) ?_
    walk_at "go"
    refine newT fun p1 H1 n1 s1 e1 => ?_
    walk_at "go"
    refine parts_ok i0 i1 fun p2 H2 n2 s2 e2 => ?_
    walk_at "go"
    have e1' := s2 _ _ e1
    refine ⟨_, _, rfl, shw_tsc (sqT e2) sm (Nat.le_of_ble_eq_true rfl), ?_⟩
    walk_at "go"
    refine ⟨_, _, rfl, shw_tsc (sqT e1') sm (Nat.le_of_ble_eq_true rfl), ?_⟩
    refine r_ne rfl ?_
    rw [decide_eq_true rfl]
    walk_at "go"
    refine r_ixT (sqT e1') (v := .int (i / 256)) rfl ?_
    walk_at "go"
    refine r_ixT (sqT e1') (v := .int (i / 64 % 4)) rfl ?_
    walk_at "go"
    refine r_ixT (sqT e1') (v := .int (i % 64)) rfl ?_
    walk_at "go"
    refine code_ok a0 a1 b0 b1 c0 c1 ce ?_
    walk_at "go"
    refine ⟨_, _, rfl, shw_sc si, ?_⟩
    walk_at "go"
    refine ⟨_, _, rfl, shw_sc si, ?_⟩
    refine r_ne rfl ?_
    rw [decide_eq_true rfl]
    walk_at "go"
    refine ⟨rfl, rfl, parts_ok i0 i1 fun p3 H3 n3 s3 e3 => ?_⟩
    walk_at "go"
    have e13 := s3 _ _ e1'
    refine r_neSame (d := .tuple [.int (i / 256), .int (i / 64 % 4), .int (i % 64)]) (.tup (sqT e3) (.cons (.int _) (.cons (.int _) (.cons (.int _) .nil)))) (.tup (sqT e13) (.cons (.int _) (.cons (.int _) (.cons (.int _) .nil)))) rfl ?_
    walk_at "go"
    refine r_ixT (sqT e13) (v := .int (i % 64)) rfl ?_
    walk_at "go"
    refine r_ixT (sqT e13) (v := .int (i / 256)) rfl ?_
    walk_at "go"
    refine r_ixT (sqT e13) (v := .int (i / 64 % 4)) rfl ?_
    walk_at "go"
    refine ⟨rfl, rfl, code_ok a0 a1 b0 b1 c0 c1 ce ?_⟩
    walk_at "go"
    obtain ⟨z, hz, az⟩ := names_at a0 a1
    have ic : (((i / 256).toNat : Nat) : Int) = i / 256 := by omega
    have s03 := (s1.trans s2).trans s3
    rw [decide_eq_true rfl]
    walk_at "go"
    refine r_I (by decide) ?_
    walk_at "go"
    refine iteC (fun hp => ?_) (fun hp => ?_)
    · have hp : i % 2 = 1 := by injection hp
      walk_at "go"
      refine r_I (cdiv (by decide) (by decide)) ?_
      walk_at "go"
      refine r_I (by decide) ?_
      walk_at "go"
      refine r_I (cdiv (by decide) (by decide)) ?_
      walk_at "go"
      refine r_I (by decide) ?_
      walk_at "go"
      simp only [V.int.injEq]
      refine newT fun p4 H4 n4 s4 e4 => ?_
      walk_at "go"
      have sg : [V.int (i / 4 % 8), .bl (decide (i / 2 % 2 = 1))].all smS = true := by
        simp only [List.all_cons, List.all_nil, Bool.and_true, Bool.and_eq_true]
        exact ⟨small_int (by omega) (by omega), rfl⟩
      refine entryP_odd i0 i1 hp fun p5 H5 n5 s5 e5 => ?_
      walk_at "go"
      refine ⟨_, _, rfl, shw_tsc (sqT e5) sg (Nat.le_of_ble_eq_true rfl), ?_⟩
      walk_at "go"
      refine ⟨_, _, rfl, shw_tsc (sqT (s5 _ _ e4)) sg (Nat.le_of_ble_eq_true rfl), ?_⟩
      refine r_ne rfl ?_
      rw [decide_eq_true rfl]
      walk_at "go"
      refine ⟨rfl, rfl, entryP_odd i0 i1 hp fun p6 H6 n6 s6 e6 => ?_⟩
      walk_at "go"
      refine r_neSame (d := .tuple [.int (i / 4 % 8), .bool (decide (i / 2 % 2 = 1))]) (.tup (sqT e6) (.cons (.int _) (.cons (.bl _) .nil))) (.tup (sqT (s6 _ _ (s5 _ _ e4))) (.cons (.int _) (.cons (.bl _) .nil))) rfl ?_
      walk_at "go"
      have s36 := (s4.trans s5).trans s6
      have e16 := s36 _ _ e13
      refine ⟨rfl, fun p7 H7 n7 s7 e7 => ?_⟩
      walk_at "go"
      refine r_ixT (sqT (s7 _ _ e16)) (v := .int (i / 256)) rfl ?_
      refine r_ixL (sqL e7) az ?_
      walk_at "go"
      refine op_ok hz fun H8 s8 => ?_
      rw [ic]
      walk_at "go"
      refine ⟨rfl, fun p9 H9 n9 s9 e9 => ?_⟩
      walk_at "go"
      have e19 := s9 _ _ (s8 _ _ (s7 _ _ e16))
      refine r_ixT (sqT e19) (v := .int (i / 256)) rfl ?_
      refine r_ixL (sqL e9) az ?_
      walk_at "go"
      refine ⟨rfl, rfl, op_ok hz fun H10 s10 => ?_⟩
      rw [ic]
      walk_at "go"
      rw [decide_eq_true rfl]
      walk_at "go"
      refine ⟨_, _, rfl, shw_sc (small_int (by omega) (by omega)), ?_⟩
      walk_at "go"
      refine r_ixT (sqT (s10 _ _ e19)) (v := .int (i / 256)) rfl ?_
      walk_at "go"
      refine ⟨_, _, rfl, shw_sc (small_int (by omega) (by omega)), ?_⟩
      refine r_eq rfl ?_
      rw [decide_eq_true rfl]
      walk_at "go"
      refine r_ixT (sqT (s10 _ _ e19)) (v := .int (i / 256)) rfl ?_
      refine r_ixT (T.ops H10) az ?_
      walk_at "go"
      refine ⟨rfl, fun p11 H11 n11 s11 e11 => ?_⟩
      walk_at "go"
      refine r_ixT (sqT (s11 _ _ (s10 _ _ e19))) (v := .int (i / 256)) rfl ?_
      refine r_ixL (sqL e11) az ?_
      refine r_eq rfl ?_
      rw [decide_eq_true rfl]
      exact q _ ((s03.trans s36).trans ((((s7.trans s8).trans s9).trans s10).trans s11))
    · have hp : i % 2 = 0 := by
        rcases (by omega : i % 2 = 0 ∨ i % 2 = 1) with z | z
        · exact z
        · exact absurd (by rw [z]) hp
      walk_at "go"
      refine entryP_even i0 i1 hp ?_
      walk_at "go"
      refine ⟨_, _, rfl, shw_sc (v := .non) rfl, ?_⟩
      walk_at "go"
      refine ⟨_, _, rfl, shw_sc (v := .non) rfl, ?_⟩
      refine r_ne rfl ?_
      rw [decide_eq_true rfl]
      walk_at "go"
      refine ⟨rfl, rfl, entryP_even i0 i1 hp ?_⟩
      walk_at "go"
      refine r_neSame (d := .none) .non .non rfl ?_
      walk_at "go"
      have s36 : Same H3 H3 := Same.refl _
      have e16 := s36 _ _ e13
      refine ⟨rfl, fun p7 H7 n7 s7 e7 => ?_⟩
      walk_at "go"
      refine r_ixT (sqT (s7 _ _ e16)) (v := .int (i / 256)) rfl ?_
      refine r_ixL (sqL e7) az ?_
      walk_at "go"
      refine op_ok hz fun H8 s8 => ?_
      rw [ic]
      walk_at "go"
      refine ⟨rfl, fun p9 H9 n9 s9 e9 => ?_⟩
      walk_at "go"
      have e19 := s9 _ _ (s8 _ _ (s7 _ _ e16))
      refine r_ixT (sqT e19) (v := .int (i / 256)) rfl ?_
      refine r_ixL (sqL e9) az ?_
      walk_at "go"
      refine ⟨rfl, rfl, op_ok hz fun H10 s10 => ?_⟩
      rw [ic]
      walk_at "go"
      rw [decide_eq_true rfl]
      walk_at "go"
      refine ⟨_, _, rfl, shw_sc (small_int (by omega) (by omega)), ?_⟩
      walk_at "go"
      refine r_ixT (sqT (s10 _ _ e19)) (v := .int (i / 256)) rfl ?_
      walk_at "go"
      refine ⟨_, _, rfl, shw_sc (small_int (by omega) (by omega)), ?_⟩
      refine r_eq rfl ?_
      rw [decide_eq_true rfl]
      walk_at "go"
      refine r_ixT (sqT (s10 _ _ e19)) (v := .int (i / 256)) rfl ?_
      refine r_ixT (T.ops H10) az ?_
      walk_at "go"
      refine ⟨rfl, fun p11 H11 n11 s11 e11 => ?_⟩
      walk_at "go"
      refine r_ixT (sqT (s11 _ _ (s10 _ _ e19))) (v := .int (i / 256)) rfl ?_
      refine r_ixL (sqL e11) az ?_
      refine r_eq rfl ?_
      rw [decide_eq_true rfl]
      exact q _ ((s03.trans s36).trans ((((s7.trans s8).trans s9).trans s10).trans s11))
end
end K02

namespace Bk
open PySem PySem.Spec PyProof.Rows L2
/-- each turn lays a new thing -/
theorem lcObj {K : PySem.W.Frag} {σ : L2.St} {H : Hp} {Q : VK} {i0 j : Nat} {vs : List Nat} {a : Addr} {xs : List V} {te : TE} (c : Nat → HO) (hc : ∀ k ys, c k ≠ .lst ys) (hv : σ[i0]? = some (some (.ref a))) (hs : SqL K H a xs) (hl : xs.length ≤ 10000) (hw : ∀ x, wipe ((wipe σ vs).set j (some x)) vs = wipe σ vs)
    (ht : ∀ (i : Nat) (y : V) (H' : Hp) (Q' : VK), xs[i]? = some y → Same H H' → (∀ t H2, Same H' H2 → H2 t = some (c i) → Q' (.ref t) H2) → te ((wipe σ vs).set j (some y)) H' Q')
    (q : ∀ D H' (ts : List Addr), H D = none → Same H H' → H' D = some (.lst (ts.map V.ref)) → ts.length = xs.length → (∀ k t, ts[k]? = some t → H' t = some (c k)) → Q (.ref D) H') : tLc (iList K (tVar i0)) (gName j) tYes te vs σ H Q := by
  refine ⟨_, hv, a, rfl, ⟨xs, hs⟩, fun D hD => ?_⟩
  refine lc_it (g := gName j) (tt := tYes) (te := te) (vs := vs) (σ := σ) walk_list (fun i G => Same H G ∧ ∃ ts : List Addr, G D = some (.lst (ts.map V.ref)) ∧ ts.length = i ∧ ∀ k t, ts[k]? = some t → G t = some (c k))
    ⟨same_upd hD, [], upd_same, rfl, fun k t z => nomatch z⟩ (fun i G _ h => h.1.seq hs) (fun i x H1 H2 hi ⟨sm, ts, e, l, all⟩ y => ?_) fun G ⟨sm, ts, e, l, all⟩ => q D G ts hD sm e l all
  obtain ⟨rfl, hx⟩ := y
  refine ⟨hw _, ?_⟩
  show te ((wipe σ vs).set j (some x)) _ _
  refine ht i x H2 _ hx sm fun t H3 s3 et => ⟨_, s3 _ _ e, by rw [List.length_map, l]; exact Nat.lt_of_lt_of_le hi (Nat.le_trans hl (by decide)), sameBut (sm.trans s3) hD, ts ++ [t], ?_, by rw [List.length_append, l]; rfl, fun k u hk => ?_⟩
  · rw [upd_same, List.map_append]
    rfl
  · have ne : ∀ {u : Addr} {k : Nat}, H3 u = some (c k) → u ≠ D := fun {u k} e2 z => by
      rw [z, s3 _ _ e] at e2
      exact hc k _ (Option.some.inj e2).symm
    by_cases hk2 : k < ts.length
    · rw [List.getElem?_append_left hk2] at hk
      have z := s3 _ _ (all k u hk)
      rw [upd_ne (ne z)]
      exact z
    · have e3 : k = i := by
        have := (List.getElem?_eq_some_iff.mp hk).1
        rw [List.length_append] at this
        have h1 : [t].length = 1 := rfl
        omega
      subst e3
      rw [List.getElem?_append_right (by omega), l, Nat.sub_self] at hk
      obtain rfl := Option.some.inj hk
      rw [upd_ne (ne et)]
      exact et
theorem r_eqSame {K : PySem.W.Frag} {H : Hp} {x y : V} {Q : VK} {d : PyData} (h1 : Dp K H x d) (h2 : Dp K H y d) (s : SeqAt.shaped d = true) (q : Q (.bl true) H) : rEqD K x y H Q :=
  ⟨d, d, h1, h2, s, s, by rw [SeqAt.eqv_refl d (SeqAt.canLay_of_shaped s)]; exact q⟩
end Bk
namespace K02
open PySem PySem.Spec PyProof.Rows L2 Bk


inductive Odd (bx : Addr) (H0 : Hp) (hi : Int) (H : Hp) : V → Prop
  | int (i : Int) (h : i < 0 ∨ hi ≤ i) (b : i.natAbs ≤ 10 ^ 30) : Odd bx H0 hi H (.int i)
  | non : Odd bx H0 hi H .non
  | bl (b : Bool) : Odd bx H0 hi H (.bl b)
  | str : Odd bx H0 hi H (.str "0")
  | lst (a : Addr) (xs : List V) (e : H a = some (.lst xs)) (ne : a ≠ bx) (fr : H0 a = none) (hx : xs = [.int 0] ∨ xs = [.str "0"]) : Odd bx H0 hi H (.ref a)
  | tup (a : Addr) (e : H a = some (.tup [.int 0])) : Odd bx H0 hi H (.ref a)
  | dK (a : Addr) (e : H a = some (.dK [])) : Odd bx H0 hi H (.ref a)
theorem Odd.but {bx : Addr} {n : Nat} {H0 H H' : Hp} {hi : Int} {v : V} (o : Odd bx H0 hi H v) (hB : Box bx n H) (s : But bx H H') : Odd bx H0 hi H' v := by
  cases o with
  | int i h b => exact .int i h b
  | non => exact .non
  | bl b => exact .bl b
  | str => exact .str
  | lst a xs e ne fr hx => exact .lst a xs (s _ _ ne e) ne fr hx
  | tup a e => exact .tup a (s _ _ (hB.ne_tup e) e)
  | dK a e =>
    obtain ⟨x, y, z, eB, _⟩ := hB
    exact .dK a (s _ _ (fun q => by rw [q, eB] at e; exact nomatch e) e)
theorem Odd.wh {bx : Addr} {H0 H : Hp} {hi : Int} {v : V} (o : Odd bx H0 hi H v) {t : Int} (ht : t + 1 = hi) : wholeV v 0 t = false := by
  cases o with
  | int i h b =>
    show (decide (0 ≤ i) && decide (i ≤ t)) = false
    rw [Bool.and_eq_false_iff]
    rcases h with h | h
    · exact .inl (decide_eq_false (by omega))
    · exact .inr (decide_eq_false (by omega))
  | _ => rfl
theorem Odd.WD {K : PySem.W.Frag} {bx : Addr} {H0 H : Hp} {hi : Int} {v : V} (o : Odd bx H0 hi H v) : WD K H v := by
  cases o with
  | int i h b => exact .inl ⟨i, rfl⟩
  | non => exact .inr (.inr ⟨isa_non, fun _ _ => rfl⟩)
  | bl b => exact .inr (.inl ⟨b, rfl⟩)
  | str => exact .inr (.inr ⟨isa_str, fun _ _ => rfl⟩)
  | lst a xs e ne fr hx => exact .inr (.inr ⟨isa_lst e, fun _ _ => rfl⟩)
  | tup a e => exact .inr (.inr ⟨isa_tup e, fun _ _ => rfl⟩)
  | dK a e => exact .inr (.inr ⟨isa_dK e, fun _ _ => rfl⟩)
theorem odd_same {K : PySem.W.Frag} {bx p : Addr} {n : Nat} {H0 H : Hp} {hi : Int} {tag : Str} {v : V} {Q : VK} {E : XK} (o : Odd bx H0 hi H v) (hB : Box bx n H) (b : But bx H0 H) (ep : H p = some (.tup [.str tag, v])) (q : ∀ H', Box bx n H' → But bx H0 H' → Q (.bl true) H') :
    spSame K [.ref p, .str tag, v] H Q E := by
  refine ⟨p, tag, v, v, rfl, ep, ?_⟩
  cases o with
  | int i h hb =>
    have sm : smS (.int i) = true := smS_int (Nat.lt_of_le_of_lt hb (by decide))
    exact .inl ⟨isa_int, ⟨_, shw_sc sm, shw_sc sm⟩, q _ hB b⟩
  | non => exact .inl ⟨isa_non, ⟨_, shw_sc rfl, shw_sc rfl⟩, q _ hB b⟩
  | bl c => exact .inl ⟨isa_bl, ⟨_, shw_sc rfl, shw_sc rfl⟩, q _ hB b⟩
  | str => exact .inl ⟨isa_str, ⟨_, shw_sc (by decide +kernel), shw_sc (by decide +kernel)⟩, q _ hB b⟩
  | lst a xs e ne fr hx =>
    have sm : (xs ++ [V.str "more"]).all smS = true := by
      rcases hx with rfl | rfl <;> decide +kernel
    have hl : xs.length ≤ 1 := by rcases hx with rfl | rfl <;> decide
    have sh : Shw K (upd H a (.lst (xs ++ [.str "more"]))) (.ref a) _ := shw_lsc (sqL upd_same) sm (by rw [List.length_append]; exact Nat.le_trans (Nat.add_le_add_right hl 1) (by decide))
    exact .inr ⟨a, xs, rfl, e, Nat.le_trans hl (by decide), ⟨_, sh, sh⟩, q _ (box_upd hB ne) (but_upd b fr)⟩
  | tup a e =>
    have sh : Shw K H (.ref a) _ := shw_tsc (sqT e) (by decide +kernel) (by decide)
    exact .inl ⟨isa_tup e, ⟨_, sh, sh⟩, q _ hB b⟩
  | dK a e => exact .inl ⟨isa_dK e, ⟨_, shw_dK e, shw_dK e⟩, q _ hB b⟩
def spBad : Sp := fun vs H Q _ => ∃ (a : Addr) (n : Nat) (hi : Int), vs = [.ref a, .int hi] ∧ Box a n H ∧ n < 999000 ∧ 0 < hi ∧ hi ≤ 5000 ∧ ∀ v H', Odd a H hi H' v → Box a (n + 3) H' → But a H H' → Q v H'
def spEntR : Sp := fun vs H Q _ => ∃ g : Int, vs = [.int g] ∧ 0 ≤ g ∧ g ≤ 7 ∧ ∀ H', Same H H' → Q (.bl true) H'
theorem entry_ok {K : PySem.W.Frag} {CM CT : Addr} {H : Hp} {Q : VK} {E : XK} {g r : Int} (c : Bool) (g0 : 0 ≤ g) (g1 : g ≤ 7) (e : g * 4 + (if c then 3 else 1) = r) (q : Q (.int r) H) : spEntry K CM CT [.int g, .bl c] H Q E :=
  ⟨_, _, rfl, .inl ⟨g, rfl⟩, .inr ⟨g, rfl, g0, g1, .inr ⟨c, rfl, by rw [e]; exact q⟩⟩⟩
section
variable {P : Program} {w : World} {K : PySem.W.Frag} {mg : Str → Option Value} {base : Heap} {A : Ad}
theorem ok_bad {f : Addr} {fd : FuncData} (F : Fun K "_law_bad" "_law_bad" s_bad_L f fd) (T : Txt K mg A) (c_take_L : CalD P w K mg base CX0 1 "_law_take" spTake []) : FnOk P w K mg base CX0 2 f fd ["_law_box_here", "_law_high"] spBad := by
  refine F.ok sc_bad_L (fun vs H Q E h => ?_) (fun cdv A' outer s H vs Q E hr h => ⟨_, (pss_cons (ps_set (i := 2) sc_bad_L.nd rfl (.inl rfl) (pe_lst (pa_cons (pe_un un_neg pe_int) (pa_cons (pv 1) (pa_cons (pe_op op_add (pe_op op_add (pv 1) pe_int) (pe_cal c_take_L hr (by decide) (by rfl) (pa_cons (pv 0) (pa_cons (pe_op op_pow pe_int pe_int) pa_nil)))) (pa_cons (pe_op op_sub (pe_un un_neg pe_int) (pe_cal c_take_L hr (by decide) (by rfl) (pa_cons (pv 0) (pa_cons (pe_op op_pow pe_int pe_int) pa_nil)))) (pa_cons pe_non (pa_cons pe_bl pa_nil))))))))
    (pss_one (ps_ret (pe_ix ix_list (pe_op op_cat (pv 2) (pe_lst (pa_cons pe_bl (pa_cons pe_str (pa_cons (pe_lst (pa_cons pe_int pa_nil)) (pa_cons (pe_tup (pa_cons pe_int pa_nil)) (pa_cons pe_dnewK (pa_cons (pe_lst (pa_cons pe_str pa_nil)) pa_nil)))))))) (pe_cal c_take_L hr (by decide) (by rfl) (pa_cons (pv 0) (pa_cons pe_int pa_nil))) (fun _ _ => rfl))))), ?_⟩)
  · obtain ⟨a, n, hi, rfl, _⟩ := h
    rfl
  · obtain ⟨a, n, hi, rfl, hB, hn, h0, h1, q⟩ := h
    walk_at "go"
    refine r_I ⟨by decide, by decide, by decide⟩ ?_
    walk_at "go"
    refine r_take hB (fun d1 H1 d10 d11 hB1 b1 => ?_) (by omega) (by decide +kernel) (by decide +kernel)
    have d11 : d1 < 100000000000000000000000000000 := d11
    walk_at "go"
    refine r_I ⟨by decide, by decide, by decide⟩ ?_
    walk_at "go"
    refine r_take hB1 (fun d2 H2 d20 d21 hB2 b2 => ?_) (by omega) (by decide +kernel) (by decide +kernel)
    have d21 : d2 < 100000000000000000000000000000 := d21
    walk_at "go"
    refine newL fun p3 H3 n3 s3 e3 => ?_
    walk_at "go"
    refine newL fun p4 H4 n4 s4 e4 => ?_
    walk_at "go"
    refine newT fun p5 H5 n5 s5 e5 => ?_
    walk_at "go"
    refine newDK fun p6 H6 n6 s6 e6 => ?_
    walk_at "go"
    refine newL fun p7 H7 n7 s7 e7 => ?_
    walk_at "go"
    refine newL fun p8 H8 n8 s8 e8 => ?_
    have e38 := s8 _ _ (s7 _ _ (s6 _ _ (s5 _ _ (s4 _ _ e3))))
    refine r_cat e38 e8 (fun p9 H9 n9 s9 e9 => ?_) (Nat.le_of_ble_eq_true rfl)
    walk_at "go"
    have hB3 := hB2.same s3
    have hB4 := hB3.same s4
    have hB5 := hB4.same s5
    have hB6 := hB5.same s6
    have hB9 := ((hB6.same s7).same s8).same s9
    refine r_take hB9 fun d10 H10 d100 d101 hB10 b10 => ?_
    have ne4 : p4 ≠ a := hB3.ne n4
    have ne5 : p5 ≠ a := hB4.ne n5
    have ne6 : p6 ≠ a := hB5.ne n6
    have ne7 : p7 ≠ a := hB6.ne n7
    have ne9 : p9 ≠ a := ((hB6.same s7).same s8).ne n9
    refine r_ixLo (sqL (b10 _ _ ne9 e9)) d100 d101 fun v hv _ => ?_
    have b3 : But a H H3 := (b1.trans b2).same s3
    have b6 : But a H H6 := ((b3.same s4).same s5).same s6
    have b : But a H H10 := (((b6.same s7).same s8).same s9).trans b10
    have f4 := b10 _ _ ne4 (s9 _ _ (s8 _ _ (s7 _ _ (s6 _ _ (s5 _ _ e4)))))
    have f5 := b10 _ _ ne5 (s9 _ _ (s8 _ _ (s7 _ _ (s6 _ _ e5))))
    have f6 := b10 _ _ ne6 (s9 _ _ (s8 _ _ (s7 _ _ e6)))
    have f7 := b10 _ _ ne7 (s9 _ _ (s8 _ _ e7))
    have r4 : H p4 = none := but_none b3 ne4 n4
    have r7 : H p7 = none := but_none b6 ne7 n7
    refine q v H10 ?_ hB10 b
    simp only [List.cons_append, List.nil_append, List.mem_cons, List.not_mem_nil, or_false] at hv
    rcases hv with e | e | e | e | e | e | e | e | e | e | e | e <;> subst e
    · exact .int _ (.inl (by decide)) (by decide)
    · exact .int _ (.inr (by omega)) (by omega)
    · exact .int _ (.inr (by omega)) (by omega)
    · exact .int _ (.inl (by omega)) (by omega)
    · exact .non
    · exact .bl _
    · exact .bl _
    · exact .str
    · exact .lst _ _ f4 ne4 r4 (.inl rfl)
    · exact .tup _ f5
    · exact .dK _ f6
    · exact .lst _ _ f7 ne7 r7 (.inr rfl)
theorem ok_entR {f : Addr} {fd : FuncData} (F : Fun K "_law_entry_right" "_law_entry_right" s_entry_right_L f fd) (T : Txt K mg A) (c_entry : CalXD P w K mg base 5 "entry" (spEntry K A.CM A.CT) [.bl false]) (k_entry_1_write : CalMX P w K mg base 5 1 ["write"] "entry" (spEntry K A.CM A.CT) (fun vs zs => vs ++ zs))
    (k_entry_write_room : CalNX P w K mg base 5 ["write", "room"] "entry" (spEntry K A.CM A.CT) (fun _ zs => zs.reverse)) (c_entry_parts : CalX P w K mg base 5 "entry_parts" (spEntryP K A.CW)) : FnG P w K mg base CX0 6 f fd ["_law_goal"] spEntR := by
  refine fun_okG F sc_entry_right_L (fun vs H Q E h => ?_) (fun cdv A' outer s H vs Q E ga hr h => have hu64 := hr.units; ⟨_, (pss_cons (ps_set (i := 1) sc_entry_right_L.nd rfl (.inl rfl) (pe_lst (pa_cons (pe_calYD c_entry hr (by decide) (by rfl) (pa_cons (pv 0) pa_nil)) (pa_cons (pe_calMY k_entry_1_write hr (by decide) (by rfl) (pa_cons (pv 0) pa_nil) (pk_cons pe_bl pk_nil)) (pa_cons (pe_calNY k_entry_write_room hr (by decide) (by rfl) (pk_cons pe_bl (pk_cons (pv 0) pk_nil))) pa_nil)))))
    (pss_cons (ps_if (pt_cmpR op_ne (pe_callB (call_repr_shw ga hr) (by rfl) T.m_repr (by decide +kernel) (pa_cons (pv 1) pa_nil)) (pe_callB (call_repr_shw ga hr) (by rfl) T.m_repr (by decide +kernel) (pa_cons (pe_lst (pa_cons (pe_op op_add (pe_op op_mulW pe_int (pv 0)) pe_int) (pa_cons (pe_op op_add (pe_op op_mulW pe_int (pv 0)) pe_int) (pa_cons (pe_op op_add (pe_op op_mulW pe_int (pv 0)) pe_int) pa_nil)))) pa_nil)) (nomark _)) (pss_one (ps_ret pe_bl)) pss_nil)
    (pss_one (ps_ret (pe_cmpR (op_eqD hu64) (pe_lc (own := [("_law_value", 2)]) rfl sc_entry_right_L.nd (pi_list (pv 1)) (blkOk_by (N := ["_law_goal", "_law_told", "_law_value"]) (sc := defScope s_entry_right_L) (by decide +kernel)) (fun _ _ _ _ _ => (pg_name (i := 2) sc_entry_right_L.nd rfl (.inl rfl))) (fun _ _ _ _ _ => pts_nil) (fun _ _ _ _ _ => (pe_calY c_entry_parts hr (by decide) (by rfl) (pa_cons (pv 2) pa_nil)))) (pe_lst (pa_cons (pe_tup (pa_cons (pv 0) (pa_cons pe_bl pa_nil))) (pa_cons (pe_tup (pa_cons (pv 0) (pa_cons pe_bl pa_nil))) (pa_cons (pe_tup (pa_cons (pv 0) (pa_cons pe_bl pa_nil))) pa_nil)))) (nomark _)))))), ?_⟩)
  · obtain ⟨g, rfl, _⟩ := h
    rfl
  · obtain ⟨g, rfl, g0, g1, q⟩ := h
    walk_at "go"
    refine entry_ok (r := 4 * g + 1) false g0 g1 (by simp; omega) ?_
    walk_at "go"
    refine ⟨rfl, rfl, entry_ok (r := 4 * g + 1) false g0 g1 (by simp; omega) ?_⟩
    walk_at "go"
    refine ⟨rfl, rfl, entry_ok (r := 4 * g + 3) true g0 g1 (by simp; omega) ?_⟩
    walk_at "go"
    refine newL fun p1 H1 n1 s1 e1 => ?_
    walk_at "go"
    have sm : [V.int (4 * g + 1), .int (4 * g + 1), .int (4 * g + 3)].all smS = true := by
      simp only [List.all_cons, List.all_nil, Bool.and_true, Bool.and_eq_true]
      exact ⟨small_int (by omega) (by omega), small_int (by omega) (by omega), small_int (by omega) (by omega)⟩
    refine ⟨_, _, rfl, shw_lsc (sqL e1) sm (Nat.le_of_ble_eq_true rfl), ?_⟩
    walk_at "go"
    refine r_I (cmul (by decide) (by decide) (by omega) (by omega)) ?_
    walk_at "go"
    refine r_I (cmul (by decide) (by decide) (by omega) (by omega)) ?_
    walk_at "go"
    refine r_I (cmul (by decide) (by decide) (by omega) (by omega)) ?_
    walk_at "go"
    refine newL fun p2 H2 n2 s2 e2 => ?_
    walk_at "go"
    refine ⟨_, _, rfl, shw_lsc (sqL e2) sm (Nat.le_of_ble_eq_true rfl), ?_⟩
    refine r_ne rfl ?_
    rw [decide_eq_true rfl]
    walk_at "go"
    refine lcObj (a := p1) (xs := [.int (4 * g + 1), .int (4 * g + 1), .int (4 * g + 3)]) (fun k => .tup [.int g, .bl (decide (k = 2))]) (fun _ _ z => nomatch z) rfl (sqL (s2 _ _ e1)) (Nat.le_of_ble_eq_true rfl) (fun _ => rfl) (fun k y G Q' hy s3 kk => ?_) fun D H3 ts nD s3 e3 l3 all => ?_
    · walk_at "go"
      rcases k with _ | _ | _ | k
      · obtain rfl := Option.some.inj hy
        refine entryP_odd (by omega) (by omega) (by omega) fun p G2 np s4 e4 => kk p G2 s4 ?_
        rw [e4, show (4 * g + 1) / 4 % 8 = g by omega, show (4 * g + 1) / 2 % 2 = 0 by omega]
        rfl
      · obtain rfl := Option.some.inj hy
        refine entryP_odd (by omega) (by omega) (by omega) fun p G2 np s4 e4 => kk p G2 s4 ?_
        rw [e4, show (4 * g + 1) / 4 % 8 = g by omega, show (4 * g + 1) / 2 % 2 = 0 by omega]
        rfl
      · obtain rfl := Option.some.inj hy
        refine entryP_odd (by omega) (by omega) (by omega) fun p G2 np s4 e4 => kk p G2 s4 ?_
        rw [e4, show (4 * g + 3) / 4 % 8 = g by omega, show (4 * g + 3) / 2 % 2 = 1 by omega]
        rfl
      · exact nomatch hy
    · obtain ⟨t0, t1, t2, rfl⟩ : ∃ t0 t1 t2, ts = [t0, t1, t2] := by
        match ts, l3 with
        | [x, y, z], _ => exact ⟨x, y, z, rfl⟩
      have a0 := all 0 t0 rfl
      have a1 := all 1 t1 rfl
      have a2 := all 2 t2 rfl
      walk_at "go"
      refine newT fun u0 G0 m0 c0 f0 => ?_
      walk_at "go"
      refine newT fun u1 G1 m1 c1 f1 => ?_
      walk_at "go"
      refine newT fun u2 G2 m2 c2 f2 => ?_
      walk_at "go"
      refine newL fun u3 G3 m3 c3 f3 => ?_
      have cc := ((c0.trans c1).trans c2).trans c3
      have pr : ∀ {t : Addr} {b : Bool}, G3 t = some (.tup [.int g, .bl b]) → Dp K G3 (.ref t) (.tuple [.int g, .bool b]) := fun e => .tup (sqT e) (.cons (.int _) (.cons (.bl _) .nil))
      refine r_eqSame (d := .list [.tuple [.int g, .bool false], .tuple [.int g, .bool false], .tuple [.int g, .bool true]]) (.lst (sqL (cc _ _ e3)) (.cons (pr (cc _ _ a0)) (.cons (pr (cc _ _ a1)) (.cons (pr (cc _ _ a2)) .nil)))) (.lst (sqL f3) (.cons (pr (c3 _ _ (c2 _ _ (c1 _ _ f0)))) (.cons (pr (c3 _ _ (c2 _ _ f1))) (.cons (pr (c3 _ _ f2)) .nil)))) rfl ?_
      exact q _ (((s1.trans s2).trans s3).trans cc)
end
end K02

namespace K02
open PySem PySem.Spec PyProof.Rows L2 Bk


def spBx : Sp := fun vs H Q _ => ∃ (a : Addr) (n : Nat), vs = [.ref a] ∧ Box a n H ∧ n < 900000 ∧ ∀ H', Box a (n + 60) H' → But a H H' → Q (.bl true) H'
def spLaw (K : PySem.W.Frag) : Sp := fun vs H Q _ => ∃ (a : Addr) (ns : List Int), vs = [.ref a] ∧ SqL K H a (ns.map V.int) ∧ ns.length ≤ 63 ∧ ∀ H', Q (.bl true) H'
theorem ops_all : (opsL.map V.str).all smS = true := by decide +kernel
theorem ops_shaped : SeqAt.shaped (.list ((opsL.map V.str).map datS)) = true := by decide +kernel
section
variable {P : Program} {w : World} {K : PySem.W.Frag} {mg : Str → Option Value} {base : Heap} {A : Ad}
theorem ok_law {f : Addr} {fd : FuncData} (F : Fun K "law" "law" s_law f fd) (T : Txt K mg A) (c_cell_L : CalD P w K mg base CX0 1 "_law_cell" (spCell K) []) (c_box_L : CalD P w K mg base CX0 1 "_law_box" spBox []) (c_take_L : CalD P w K mg base CX0 1 "_law_take" spTake []) (c_names_L : CalD P w K mg base CX0 1 "_law_names" spNames [])
    (c_word_right_L : CalG P w K mg base CX0 6 "_law_word_right" spOneW) (c_entry_right_L : CalG P w K mg base CX0 6 "_law_entry_right" spEntR) (c_refused_right_L : CalG P w K mg base CX0 8 "_law_refused_right" spBx) (c_op_refused_L : CalG P w K mg base CX0 8 "_law_op_refused" spBx) : FnG P w K mg base CX0 9 f fd ["_law_script"] (spLaw K) := by
  refine fun_okG F sc_law (fun vs H Q E h => ?_) (fun cdv A' outer s H vs Q E ga hr h => have hu64 := hr.units; ⟨_, (pss_cons (ps_for PassesOwn.never rfl (pi_range1 (by rfl) T.m_range (pa_cons (pe_callB (call_max2 rfl) (by rfl) T.m_max (by decide +kernel) (pa_cons pe_int (pa_cons (pe_callB (call_min2 rfl) (by rfl) T.m_min (by decide +kernel) (pa_cons pe_int (pa_cons (pe_callB call_len_seq (by rfl) T.m_len (by decide +kernel) (pa_cons (pv 0) pa_nil)) pa_nil))) pa_nil))) pa_nil)) (pg_name (i := 1) sc_law.nd rfl (.inl rfl))
      (pss_cons (ps_set (i := 2) sc_law.nd rfl (.inl rfl) (pe_cal c_box_L hr (by decide) (by rfl) (pa_cons (pe_cal c_cell_L hr (by decide) (by rfl) (pa_cons (pv 0) (pa_cons (pv 1) pa_nil))) pa_nil)))
    (pss_cons (ps_for PassesOwn.never rfl (pi_range1 (by rfl) T.m_range (pa_cons pe_int pa_nil)) (pg_name (i := 3) sc_law.nd rfl (.inl rfl))
      (pss_one (ps_if (pt_not (pt_val (pe_calG c_word_right_L ga hr (by decide) (by rfl) (pa_cons (pe_cal c_take_L hr (by decide) (by rfl) (pa_cons (pv 2) (pa_cons pe_int pa_nil))) pa_nil)))) (pss_one (ps_ret pe_bl)) pss_nil)))
    (pss_cons (ps_for PassesOwn.never rfl (pi_list (pe_lst (pa_cons pe_int (pa_cons pe_int (pa_cons pe_int (pa_cons pe_int (pa_cons pe_int (pa_cons pe_int (pa_cons pe_int (pa_cons pe_int pa_nil)))))))))) (pg_name (i := 4) sc_law.nd rfl (.inl rfl))
      (pss_one (ps_if (pt_not (pt_val (pe_calG c_word_right_L ga hr (by decide) (by rfl) (pa_cons (pv 4) pa_nil)))) (pss_one (ps_ret pe_bl)) pss_nil)))
    (pss_one (ps_if (PW.pt (pw_or (pt_not (pt_val (pe_calG c_entry_right_L ga hr (by decide) (by rfl) (pa_cons (pe_cal c_take_L hr (by decide) (by rfl) (pa_cons (pv 2) (pa_cons pe_int pa_nil))) pa_nil)))) (pw_or (pt_not (pt_val (pe_calG c_refused_right_L ga hr (by decide) (by rfl) (pa_cons (pv 2) pa_nil)))) (pw_or1 (pt_not (pt_val (pe_calG c_op_refused_L ga hr (by decide) (by rfl) (pa_cons (pv 2) pa_nil)))))))) (pss_one (ps_ret pe_bl)) pss_nil))))))
    (pss_one (ps_ret (pe_and (pe_cmpR (op_eqD hu64) (pe_callTy call_list_of (by rfl) T.m_list (by decide +kernel) (pa_cons (C8.pe_gc (by rfl) T.c_OPS) pa_nil)) (pe_cal0 c_names_L hr (by decide) (by rfl)) (nomark _)) (pe_one (pe_callB call_is (by rfl) T.m_isinstance (by decide +kernel) (pa_cons (C8.pe_gc (by rfl) T.c_OPS) (pa_cons (pe_bltn (v := .ty "tuple") (by rfl) T.m_tuple (by decide +kernel) rfl) pa_nil)))))))), ?_⟩)
  · obtain ⟨a, ns, rfl, _⟩ := h
    rfl
  · obtain ⟨a, ns, rfl, hS, hl, q⟩ := h
    walk_at "go"
    refine ⟨a, _, rfl, .inl hS, ?_⟩
    walk_at "go"
    refine ⟨_, _, rfl, ?_⟩
    walk_at "go"
    refine ⟨_, _, rfl, ?_⟩
    walk_at "go"
    have hlm : ((ns.map V.int).length : Int) = ns.length := by rw [List.length_map]
    rw [hlm]
    refine ⟨_, rfl, by split <;> split <;> omega, by split <;> split <;> omega, ?_⟩
    generalize hN : (if (if (ns.length : Int) < 40 then (ns.length : Int) else 40) > 2 then (if (ns.length : Int) < 40 then (ns.length : Int) else 40) else 2) = N
    have hN2 : N ≤ 40 := by rw [← hN]; split <;> split <;> omega
    refine for_range (fun i σ H' => Same H H' ∧ ∃ x1 x2 x3 x4, σ = [some (.ref a), x1, x2, x3, x4]) ⟨Same.refl _, none, none, none, none, rfl⟩ ?_ ?_
    · rintro i σ H0 hi ⟨sm0, x1, x2, x3, x4, rfl⟩
      rw [Int.zero_add]
      walk_at "go"
      refine ⟨a, ns, i, rfl, sm0.seq hS, by omega, fun c => ?_⟩
      walk_at "go"
      refine ⟨c, rfl, fun p H1 np s1 hB1 => ?_⟩
      walk_at "go"
      refine ⟨4, rfl, by decide, by decide, ?_⟩
      refine for_range (fun j σ H' => (∃ x3, σ = [some (.ref a), some (.int i), some (.ref p), x3, x4]) ∧ Box p (10 * j) H' ∧ But p H1 H') ⟨⟨x3, rfl⟩, hB1, But.refl⟩ ?_ ?_
      · rintro j σ H2 hj ⟨⟨x3, rfl⟩, hB2, b2⟩
        have hj4 : j < 4 := by omega
        walk_at "go"
        refine r_take hB2 fun d H3 d0 d1 hB3 b3 => ?_
        walk_at "go"
        refine ⟨d, rfl, d0, by omega, fun H4 s4 => ?_⟩
        walk_at "go"
        exact ⟨⟨_, rfl⟩, (hB3.same s4).mono (by omega), (b2.trans b3).same s4⟩
      · rintro σ H2 ⟨⟨x3, rfl⟩, hB2, b2⟩
        walk_at "go"
        refine newL fun pl H3 nl s3 e3 => ?_
        have hB3 := hB2.same s3
        refine ⟨pl, rfl, ⟨_, sqL e3⟩, ?_⟩
        refine for_list (xs := [V.int 0, .int 1, .int 3, .int 255, .int 256, .int 63, .int 64, .int 4095]) (fun k σ H' => Same H3 H' ∧ ∃ x4, σ = [some (.ref a), some (.int i), some (.ref p), x3, x4]) ⟨Same.refl _, x4, rfl⟩ (fun k σ H' _ h => sqL (h.1 _ _ e3)) ?_ ?_
        · rintro k x σ H4 hx ⟨s4, x4, rfl⟩
          have hv : ∃ v : Int, x = .int v ∧ 0 ≤ v ∧ v ≤ 4095 := by
            have m := List.mem_of_getElem? hx
            simp only [List.mem_cons, List.not_mem_nil, or_false] at m
            rcases m with e | e | e | e | e | e | e | e <;> exact ⟨_, e, by decide, by decide⟩
          obtain ⟨v, rfl, v0, v1⟩ := hv
          walk_at "go"
          refine ⟨v, rfl, v0, v1, fun H5 s5 => ?_⟩
          walk_at "go"
          exact ⟨s4.trans s5, _, rfl⟩
        · rintro σ H4 ⟨s4, x4, rfl⟩
          have hB4 := hB3.same s4
          walk_at "go"
          refine r_take hB4 fun d H5 d0 d1 hB5 b5 => ?_
          walk_at "go"
          refine ⟨d, rfl, d0, by omega, fun H6 s6 => ?_⟩
          walk_at "go"
          refine ⟨p, _, rfl, hB5.same s6, by omega, fun H7 hB7 b7 => ?_⟩
          walk_at "go"
          refine ⟨p, _, rfl, hB7, by omega, fun H8 hB8 b8 => ?_⟩
          walk_at "go"
          exact ⟨sm0.trans (butSame s1 np ((((((b2.same s3).same s4).trans b5).same s6).trans b7).trans b8)), _, _, _, _, rfl⟩
    · rintro σ H0 ⟨sm0, x1, x2, x3, x4, rfl⟩
      walk_at "go"
      refine ⟨A.aOPS, _, rfl, .inr (T.ops H0), fun l nl => ?_⟩
      have s1 := same_upd (o := .lst (opsL.map V.str)) nl
      have e1 : upd H0 l (.lst (opsL.map V.str)) l = some (.lst (opsL.map V.str)) := upd_same
      generalize upd H0 l (.lst (opsL.map V.str)) = H1 at s1 e1 ⊢
      walk_at "go"
      refine ⟨rfl, fun p H2 np s2 e2 => ?_⟩
      refine r_eqSame (.lst (sqL (s2 _ _ e1)) (datSs ops_all).1) (.lst (sqL e2) (datSs ops_all).1) ops_shaped ?_
      walk_at "go"
      refine r_is (T.opsI H2) ?_
      exact q H2
end
end K02

namespace Bk
open PySem PySem.Spec PyProof.Rows L2
/-- one draw for each thing of a list -/
theorem lcDrawL {K : PySem.W.Frag} {σ : L2.St} {H : Hp} {Q : VK} {i0 j m : Nat} {vs : List Nat} {a bx : Addr} {xs : List V} {te : TE} (p : Nat → V → Prop) (hb : Box bx m H) (hv : σ[i0]? = some (some (.ref a))) (e : H a = some (.lst xs)) (ne : a ≠ bx) (hl : xs.length ≤ 1000) (hw : ∀ x, wipe ((wipe σ vs).set j (some x)) vs = wipe σ vs)
    (ht : ∀ (i : Nat) (y : V) (H' : Hp) (Q' : VK), xs[i]? = some y → Box bx (m + i) H' → (∀ v H2, p i v → Box bx (m + i + 1) H2 → But bx H' H2 → Q' v H2) → te ((wipe σ vs).set j (some y)) H' Q')
    (q : ∀ D H' ys, H D = none → But bx H H' → Box bx (m + xs.length) H' → H' D = some (.lst ys) → ys.length = xs.length → (∀ k v, ys[k]? = some v → p k v) → Q (.ref D) H') : tLc (iList K (tVar i0)) (gName j) tYes te vs σ H Q := by
  refine ⟨_, hv, a, rfl, ⟨xs, sqL e⟩, fun D hD => ?_⟩
  have nD : D ≠ bx := hb.ne hD
  refine lc_it (g := gName j) (tt := tYes) (te := te) (vs := vs) (σ := σ) walk_list (fun i G => But bx H G ∧ Box bx (m + i) G ∧ ∃ ys, G D = some (.lst ys) ∧ ys.length = i ∧ ∀ k v, ys[k]? = some v → p k v)
    ⟨.of (same_upd hD), hb.same (same_upd hD), [], upd_same, rfl, fun _ _ z => nomatch z⟩ (fun i G _ h => sqL (h.1 _ _ ne e)) (fun i x H1 H2 hi ⟨bt, hB, ys, e1, l, hp⟩ y => ?_) fun G ⟨bt, hB, ys, e1, l, hp⟩ => q D G ys hD bt hB e1 l hp
  obtain ⟨rfl, hx⟩ := y
  refine ⟨hw _, ?_⟩
  show te ((wipe σ vs).set j (some x)) _ _
  refine ht i x H2 _ hx hB fun v H3 pv hB3 b3 => ⟨ys, b3 _ _ nD e1, by rw [l]; exact Nat.lt_of_lt_of_le hi (Nat.le_trans hl (by decide)), but_upd (bt.trans b3) hD, box_upd hB3 nD, ys ++ [v], upd_same, by rw [List.length_append, l]; rfl, fun k u hk => ?_⟩
  by_cases hk2 : k < ys.length
  · rw [List.getElem?_append_left hk2] at hk
    exact hp k u hk
  · have h1 := (List.getElem?_eq_some_iff.mp hk).1
    rw [List.length_append] at h1
    have h2 : [v].length = 1 := rfl
    obtain rfl : k = i := by omega
    rw [List.getElem?_append_right (by omega), l, Nat.sub_self] at hk
    obtain rfl := Option.some.inj hk
    exact pv
end Bk
namespace K02
open PySem PySem.Spec PyProof.Rows L2 Bk


theorem Odd.base {bx : Addr} {H0 H1 H : Hp} {hi : Int} {v : V} (o : Odd bx H1 hi H v) (b : But bx H0 H1) : Odd bx H0 hi H v := by
  cases o with
  | int i h b => exact .int i h b
  | non => exact .non
  | bl b => exact .bl b
  | str => exact .str
  | lst a xs e ne fr hx => exact .lst a xs e ne (but_none b ne fr) hx
  | tup a e => exact .tup a e
  | dK a e => exact .dK a e
theorem Odd.upd {bx D : Addr} {H0 H : Hp} {hi : Int} {v : V} {ys : List V} {u : HO} (o : Odd bx H0 hi H v) (eD : H D = some (.lst ys)) (l : ys.length = 3) : Odd bx H0 hi (upd H D u) v := by
  cases o with
  | int i h b => exact .int i h b
  | non => exact .non
  | bl b => exact .bl b
  | str => exact .str
  | lst a xs e ne fr hx =>
    have n : a ≠ D := fun z => by
      rw [z, eD] at e
      injection e with e
      injection e with e
      rw [e] at l
      rcases hx with hx | hx <;> (rw [hx] at l; exact nomatch l)
    exact .lst a xs (by rw [upd_ne n]; exact e) ne fr hx
  | tup a e => exact .tup a (by rw [upd_ne (ne_of e eD (by intro z; cases z))]; exact e)
  | dK a e => exact .dK a (by rw [upd_ne (ne_of e eD (by intro z; cases z))]; exact e)
section
variable {P : Program} {w : World} {K : PySem.W.Frag} {mg : Str → Option Value} {base : Heap} {A : Ad}
theorem ok_refused {f : Addr} {fd : FuncData} (F : Fun K "_law_refused_right" "_law_refused_right" s_refused_right_L f fd) (T : Txt K mg A) (c_take_L : CalD P w K mg base CX0 1 "_law_take" spTake []) (c_bad_L : CalD P w K mg base CX0 2 "_law_bad" spBad [])
    (c_caught_L : CalD P w K mg base CX0 6 "_law_caught" (spCaught K) []) (c_same_L : CalG P w K mg base CX0 1 "_law_same" (spSame K)) : FnG P w K mg base CX0 8 f fd ["_law_box_here"] spBx := by
  refine fun_okG F sc_refused_right_L (fun vs H Q E h => ?_) (fun cdv A' outer s H vs Q E ga hr h => ⟨_, (pss_cons (ps_set (i := 1) sc_refused_right_L.nd rfl (.inl rfl) (pe_cal c_bad_L hr (by decide) (by rfl) (pa_cons (pv 0) (pa_cons pe_int pa_nil))))
    (pss_cons (ps_if (pt_not (pt_val (pe_calG c_same_L ga hr (by decide) (by rfl) (pa_cons (pe_cal c_caught_L hr (by decide) (by rfl) (pa_cons pe_int (pa_cons (pe_lst (pa_cons (pv 1) pa_nil)) pa_nil))) (pa_cons pe_str (pa_cons (pv 1) pa_nil)))))) (pss_one (ps_ret pe_bl)) pss_nil)
    (pss_cons (ps_set (i := 1) sc_refused_right_L.nd rfl (.inl rfl) (pe_cal c_bad_L hr (by decide) (by rfl) (pa_cons (pv 0) (pa_cons pe_int pa_nil))))
    (pss_cons (ps_if (pt_not (pt_val (pe_calG c_same_L ga hr (by decide) (by rfl) (pa_cons (pe_cal c_caught_L hr (by decide) (by rfl) (pa_cons pe_int (pa_cons (pe_lst (pa_cons (pv 1) pa_nil)) pa_nil))) (pa_cons pe_str (pa_cons (pv 1) pa_nil)))))) (pss_one (ps_ret pe_bl)) pss_nil)
    (pss_cons (ps_set (i := 2) sc_refused_right_L.nd rfl (.inl rfl) (pe_lst (pa_cons pe_int (pa_cons pe_int (pa_cons pe_int pa_nil)))))
    (pss_cons (ps_setLc (i := 3) (own := [("_law_size", 6)]) rfl sc_refused_right_L.nd rfl rfl (sw_true rfl rfl rfl (by decide +kernel)) (pi_list (pv 2)) (blkOk_by (N := ["_law_box_here", "_law_bad_here", "_law_sizes", "_law_parts", "_law_first", "_law_place", "_law_size"]) (sc := defScope s_refused_right_L) (by decide +kernel)) (fun _ _ _ _ _ => (pg_name (i := 6) sc_refused_right_L.nd rfl (.inl rfl))) (fun _ _ _ _ _ => pts_nil) (fun _ _ _ _ _ => (pe_cal c_take_L hr (by decide) (by rfl) (pa_cons (pv 0) (pa_cons (pv 6) pa_nil)))))
    (pss_cons (ps_set (i := 4) sc_refused_right_L.nd rfl (.inl rfl) (pe_cal c_take_L hr (by decide) (by rfl) (pa_cons (pv 0) (pa_cons pe_int pa_nil))))
    (pss_cons (ps_for PassesOwn.never rfl (pi_range2 (by rfl) T.m_range (pa_cons (pv 4) (pa_cons pe_int pa_nil))) (pg_name (i := 5) sc_refused_right_L.nd rfl (.inl rfl))
      (pss_one (ps_if (PW.pt (pw_or (pt_cmpR op_eq (pv 5) (pv 4) (nomark _)) (pw_or1 (pt_cmpR op_eq (pe_cal c_take_L hr (by decide) (by rfl) (pa_cons (pv 0) (pa_cons pe_int pa_nil))) pe_int (nomark _))))) (pss_one (ps_asg (pe_cal c_bad_L hr (by decide) (by rfl) (pa_cons (pv 0) (pa_cons (pe_ix ix_list (pv 2) (pv 5) (fun _ _ => rfl)) pa_nil))) (pg_sub (pv 3) (pv 5) set_list))) pss_nil)))
    (pss_cons (ps_if (pt_not (pt_val (pe_calG c_same_L ga hr (by decide) (by rfl) (pa_cons (pe_cal c_caught_L hr (by decide) (by rfl) (pa_cons pe_int (pa_cons (pv 3) pa_nil))) (pa_cons pe_str (pa_cons (pe_ix ix_list (pv 3) (pv 4) (fun _ _ => rfl)) pa_nil)))))) (pss_one (ps_ret pe_bl)) pss_nil)
    (pss_cons (ps_set (i := 1) sc_refused_right_L.nd rfl (.inl rfl) (pe_cal c_bad_L hr (by decide) (by rfl) (pa_cons (pv 0) (pa_cons pe_int pa_nil))))
    (pss_cons (ps_if (pt_not (pt_val (pe_calG c_same_L ga hr (by decide) (by rfl) (pa_cons (pe_cal c_caught_L hr (by decide) (by rfl) (pa_cons pe_int (pa_cons (pe_lst (pa_cons (pv 1) (pa_cons (pe_ix ix_list (pe_lst (pa_cons pe_bl (pa_cons pe_non pa_nil))) (pe_cal c_take_L hr (by decide) (by rfl) (pa_cons (pv 0) (pa_cons pe_int pa_nil))) (fun _ _ => rfl)) pa_nil))) pa_nil))) (pa_cons pe_str (pa_cons (pv 1) pa_nil)))))) (pss_one (ps_ret pe_bl)) pss_nil)
    (pss_cons (ps_set (i := 1) sc_refused_right_L.nd rfl (.inl rfl) (pe_ix ix_list (pe_lst (pa_cons pe_non (pa_cons pe_int (pa_cons pe_int (pa_cons pe_str (pa_cons pe_str (pa_cons (pe_lst (pa_cons pe_bl pa_nil)) (pa_cons (pe_tup pa_nil) (pa_cons pe_dnewK (pa_cons (pe_un un_neg pe_int) pa_nil)))))))))) (pe_cal c_take_L hr (by decide) (by rfl) (pa_cons (pv 0) (pa_cons pe_int pa_nil))) (fun _ _ => rfl)))
    (pss_one (ps_ret (pe_calG c_same_L ga hr (by decide) (by rfl) (pa_cons (pe_cal c_caught_L hr (by decide) (by rfl) (pa_cons pe_int (pa_cons (pe_lst (pa_cons (pe_cal c_take_L hr (by decide) (by rfl) (pa_cons (pv 0) (pa_cons pe_int pa_nil))) (pa_cons (pv 1) pa_nil))) pa_nil))) (pa_cons pe_str (pa_cons (pv 1) pa_nil)))))))))))))))))), ?_⟩)
  · obtain ⟨a, n, rfl, _⟩ := h
    rfl
  · obtain ⟨a, n, rfl, hB, hn, q⟩ := h
    walk_at "go"
    refine ⟨a, n, 4096, rfl, hB, by omega, by decide, by decide, fun v H1 o1 hB1 b1 => ?_⟩
    walk_at "go"
    refine newL fun p2 H2 n2 s2 e2 => ?_
    walk_at "go"
    have o2 := o1.but hB1 (.of s2)
    refine ⟨0, p2, _, "word", v, rfl, e2, .inl ⟨.inl rfl, rfl, rfl, o2.WD, o2.wh (t := 4095) rfl⟩, fun p3 H3 n3 s3 e3 => ?_⟩
    walk_at "go"
    refine odd_same (o2.but (hB1.same s2) (.of s3)) ((hB1.same s2).same s3) ((b1.same s2).same s3) e3 fun H4 hB4 b4 => ?_
    walk_at "go"
    refine ⟨a, _, 4096, rfl, hB4, by omega, by decide, by decide, fun v5 H5 o5 hB5 b5 => ?_⟩
    walk_at "go"
    refine newL fun p6 H6 n6 s6 e6 => ?_
    walk_at "go"
    have o6 := o5.but hB5 (.of s6)
    refine ⟨4, p6, _, "word", v5, rfl, e6, .inl ⟨.inr rfl, rfl, rfl, o6.WD, o6.wh (t := 4095) rfl⟩, fun p7 H7 n7 s7 e7 => ?_⟩
    walk_at "go"
    refine odd_same (o6.but (hB5.same s6) (.of s7)) ((hB5.same s6).same s7) ((b5.same s6).same s7) e7 fun H8 hB8 b8 => ?_
    have b08 : But a H H8 := b4.trans b8
    have hB8 : Box a (n + 6) H8 := hB8.mono (by omega)
    clear o1 o2 o5 o6 e2 e3 e6 e7 b1 b4 b5 b8 hB1 hB4 hB5 s2 s3 s6 s7 n2 n3 n6 n7
    walk_at "go"
    refine newL fun pS H9 n9 s9 e9 => ?_
    have hB9 := hB8.same s9
    have neS : pS ≠ a := hB8.ne n9
    walk_at "go"
    refine lcDrawL (a := pS) (bx := a) (xs := [.int 16, .int 4, .int 64]) (fun k y => ∃ d : Int, y = .int d ∧ 0 ≤ d ∧ ((k = 0 ∧ d < 16) ∨ (k = 1 ∧ d < 4) ∨ (k = 2 ∧ d < 64))) hB9 rfl e9 neS (Nat.le_of_ble_eq_true rfl) (fun _ => rfl) (fun k y G Q' hy hG kk => ?_) fun D H10 ys nD b10 hB10 e10 l10 p10 => ?_
    · walk_at "go"
      rcases k with _ | _ | _ | k
      · obtain rfl := Option.some.inj hy
        exact r_take hG (fun d G2 d0 d1 h2 bt => kk _ G2 ⟨d, rfl, d0, .inl ⟨rfl, d1⟩⟩ h2 bt)
      · obtain rfl := Option.some.inj hy
        exact r_take hG (fun d G2 d0 d1 h2 bt => kk _ G2 ⟨d, rfl, d0, .inr (.inl ⟨rfl, d1⟩)⟩ h2 bt)
      · obtain rfl := Option.some.inj hy
        exact r_take hG (fun d G2 d0 d1 h2 bt => kk _ G2 ⟨d, rfl, d0, .inr (.inr ⟨rfl, d1⟩)⟩ h2 bt)
      · exact nomatch hy
    have neD : D ≠ a := hB9.ne nD
    have nDS : D ≠ pS := (ne_of_none e9 nD).symm
    have b010 : But a H H10 := (b08.same s9).trans b10
    have fD : H D = none := but_none (b08.same s9) neD nD
    have eS : H10 pS = some (.lst [.int 16, .int 4, .int 64]) := b10 _ _ neS e9
    walk_at "go"
    refine r_take hB10 (fun f0 H11 f00 f01 hB11 b11 => ?_) (by show n + 6 + 3 < 1000000; omega)
    have hB11 : Box a (n + 10) H11 := hB11.mono (by show n + 6 + 3 + 1 ≤ n + 10; omega)
    walk_at "go"
    refine ⟨f0, 3, rfl, by omega, ?_⟩
    obtain ⟨j, rfl⟩ := Int.eq_ofNat_of_zero_le f00
    have hj : j < 3 := by omega
    have sz : ∀ k : Nat, k < 3 → ∃ hi : Int, atI [V.int 16, .int 4, .int 64] (k : Int) = some (.int hi) ∧ 0 < hi ∧ hi ≤ 5000 ∧ ((k = 0 ∧ hi = 16) ∨ (k = 1 ∧ hi = 4) ∨ (k = 2 ∧ hi = 64)) := fun k hk => by
      rcases k with _ | _ | _ | k
      · exact ⟨16, rfl, by decide, by decide, .inl ⟨rfl, rfl⟩⟩
      · exact ⟨4, rfl, by decide, by decide, .inr (.inl ⟨rfl, rfl⟩)⟩
      · exact ⟨64, rfl, by decide, by decide, .inr (.inr ⟨rfl, rfl⟩)⟩
      · omega
    obtain ⟨hi, ahi, hi0, hi1, hik⟩ := sz j hj
    refine for_range (fun k σ H' => (∃ x5 x6, σ = [some (.ref a), some v5, some (.ref pS), some (.ref D), some (.int (j : Int)), x5, x6]) ∧ Box a (n + 10 + 4 * k) H' ∧ But a H H' ∧ H' pS = some (.lst [.int 16, .int 4, .int 64]) ∧ ∃ zs, H' D = some (.lst zs) ∧ zs.length = 3 ∧
        (∀ m, m < j → zs[m]? = ys[m]?) ∧ (0 < k → ∃ u, zs[j]? = some u ∧ Odd a H hi H' u)) ⟨⟨_, _, rfl⟩, hB11, b010.trans b11, b11 _ _ neS eS, ys, b11 _ _ neD e10, l10, fun _ _ => rfl, fun z => absurd z (Nat.lt_irrefl 0)⟩ ?_ ?_
    · rintro k σ G hk ⟨⟨x5, x6, rfl⟩, hG, bG, eG, zs, ez, lz, low, od⟩
      have hk3 : j + k < 3 := by omega
      have jk : ((j : Int) + (k : Int)) = ((j + k : Nat) : Int) := by omega
      rw [jk]
      obtain ⟨hk2, ahk, hk20, hk21, hkk⟩ := sz (j + k) hk3
      have hix : ixN zs.length ((j + k : Nat) : Int) = some (j + k) := by
        rw [lz]
        rcases (by omega : j + k = 0 ∨ j + k = 1 ∨ j + k = 2) with e | e | e <;> rw [e] <;> rfl
      walk_at "go"
      refine iteC (fun e => ?_) (fun e => ?_)
      · walk_at "go"
        refine r_ixL (sqL ((But.refl : But a G G) _ _ neS eG)) ahk ?_
        walk_at "go"
        refine ⟨a, _, hk2, rfl, hG, by omega, hk20, hk21, fun u G2 ou hG2 bG2 => ?_⟩
        walk_at "go"
        have eD2 : G2 D = some (.lst zs) := bG2 _ _ neD ((But.refl : But a G G) _ _ neD ez)
        refine ⟨D, zs, _, j + k, rfl, rfl, eD2, hix, ?_⟩
        walk_at "go"
        refine ⟨⟨_, _, rfl⟩, (box_upd hG2 neD).mono (by omega), but_upd (bG.trans bG2) fD, by rw [upd_ne nDS.symm]; exact bG2 _ _ neS ((But.refl : But a G G) _ _ neS eG), _, upd_same, by rw [List.length_set]; exact lz, fun m hm => ?_, fun _ => ?_⟩
        · rw [List.getElem?_set_ne (by omega)]
          exact low m hm
        · rcases Nat.eq_zero_or_pos k with z | z
          · subst z
            have eh : hk2 = hi := by
              rcases hkk with y | y | y <;> rcases hik with x | x | x <;> omega
            subst eh
            exact ⟨u, List.getElem?_set_self (by omega), (ou.base bG).upd eD2 lz⟩
          · obtain ⟨u0, h1, h2⟩ := od z
            exact ⟨u0, by rw [List.getElem?_set_ne (by omega)]; exact h1, (h2.but hG ((But.refl : But a G G).trans bG2)).upd eD2 lz⟩
      · have kp : 0 < k := by
          rcases Nat.eq_zero_or_pos k with z | z
          · exact absurd (by rw [z]; rfl) e
          · exact z
        walk_at "go"
        refine r_take hG fun d G1 d0 d1 hG1 bG1 => ?_
        walk_at "go"
        refine iteC (fun e2 => ?_) (fun e2 => ?_)
        · walk_at "go"
          refine r_ixL (sqL (bG1 _ _ neS eG)) ahk ?_
          walk_at "go"
          refine ⟨a, _, hk2, rfl, hG1, by omega, hk20, hk21, fun u G2 ou hG2 bG2 => ?_⟩
          walk_at "go"
          have eD2 : G2 D = some (.lst zs) := bG2 _ _ neD (bG1 _ _ neD ez)
          refine ⟨D, zs, _, j + k, rfl, rfl, eD2, hix, ?_⟩
          walk_at "go"
          refine ⟨⟨_, _, rfl⟩, (box_upd hG2 neD).mono (by omega), but_upd ((bG.trans bG1).trans bG2) fD, by rw [upd_ne nDS.symm]; exact bG2 _ _ neS (bG1 _ _ neS eG), _, upd_same, by rw [List.length_set]; exact lz, fun m hm => ?_, fun _ => ?_⟩
          · rw [List.getElem?_set_ne (by omega)]
            exact low m hm
          · rcases Nat.eq_zero_or_pos k with z | z
            · subst z
              have eh : hk2 = hi := by
                rcases hkk with y | y | y <;> rcases hik with x | x | x <;> omega
              subst eh
              exact ⟨u, List.getElem?_set_self (by omega), (ou.base (bG.trans bG1)).upd eD2 lz⟩
            · obtain ⟨u0, h1, h2⟩ := od z
              exact ⟨u0, by rw [List.getElem?_set_ne (by omega)]; exact h1, (h2.but hG (bG1.trans bG2)).upd eD2 lz⟩
        · walk_at "go"
          obtain ⟨u0, h1, h2⟩ := od kp
          exact ⟨⟨_, _, rfl⟩, hG1.mono (by omega), bG.trans bG1, bG1 _ _ neS eG, zs, bG1 _ _ neD ez, lz, low, fun _ => ⟨u0, h1, h2.but hG bG1⟩⟩
    · rintro σ G ⟨⟨x5, x6, rfl⟩, hG, bG, eG, zs, ez, lz, low, od⟩
      obtain ⟨u, hu, ou⟩ := od (by omega)
      have hG : Box a (n + 22) G := hG.mono (by omega)
      have cond : Caught K 1 zs G "number" u := by
        obtain ⟨z0, z1, z2, rfl⟩ : ∃ z0 z1 z2, zs = [z0, z1, z2] := by
          match zs, lz with
          | [x, y, z], _ => exact ⟨x, y, z, rfl⟩
        refine .inr (.inl ⟨rfl, rfl, z0, z1, z2, rfl, ?_⟩)
        rcases j with _ | _ | _ | j
        · obtain rfl := Option.some.inj hu
          have hh : hi = 16 := by rcases hik with y | y | y <;> omega
          exact .inl ⟨rfl, ou.WD, ou.wh (t := 15) (by omega)⟩
        · obtain rfl := Option.some.inj hu
          have hh : hi = 4 := by rcases hik with y | y | y <;> omega
          obtain ⟨d, rfl, d0, dd⟩ := p10 0 z0 (low 0 (by decide)).symm
          have dd : d < 16 := by rcases dd with y | y | y <;> omega
          exact .inr ⟨d, rfl, d0, by omega, .inl ⟨rfl, ou.WD, ou.wh (t := 3) (by omega)⟩⟩
        · obtain rfl := Option.some.inj hu
          have hh : hi = 64 := by rcases hik with y | y | y <;> omega
          obtain ⟨d, rfl, d0, dd⟩ := p10 0 z0 (low 0 (by decide)).symm
          have dd : d < 16 := by rcases dd with y | y | y <;> omega
          obtain ⟨d', rfl, d0', dd'⟩ := p10 1 z1 (low 1 (by decide)).symm
          have dd' : d' < 4 := by rcases dd' with y | y | y <;> omega
          exact .inr ⟨d, rfl, d0, by omega, .inr ⟨d', rfl, d0', by omega, rfl, ou.WD, ou.wh (t := 63) (by omega)⟩⟩
        · omega
      walk_at "go"
      refine ⟨1, D, zs, "number", u, rfl, ez, cond, fun p1 G1 n1 s1 e1 => ?_⟩
      walk_at "go"
      refine r_ixL (sqL (s1 _ _ ez)) (atI_nat hu) ?_
      walk_at "go"
      refine odd_same (ou.but hG (.of s1)) (hG.same s1) (bG.same s1) e1 fun G2 hG2 bG2 => ?_
      clear cond od low ou hu ez eG bG hG e10 p10 eS e9
      walk_at "go"
      refine ⟨a, _, 8, rfl, hG2, by omega, by decide, by decide, fun v3 G3 o3 hG3 bG3 => ?_⟩
      walk_at "go"
      refine newL fun p4 G4 n4 s4 e4 => ?_
      walk_at "go"
      have hG4 := hG3.same s4
      refine r_take hG4 fun d5 G5 d50 d51 hG5 bG5 => ?_
      refine r_ixLo (sqL (bG5 _ _ (hG3.ne n4) e4)) d50 d51 fun y _ _ => ?_
      walk_at "go"
      refine newL fun p6 G6 n6 s6 e6 => ?_
      walk_at "go"
      have o6 := ((o3.but hG3 (.of s4)).but hG4 bG5).but hG5 (.of s6)
      have hG6 := hG5.same s6
      have b36 := ((bG3.same s4).trans bG5).same s6
      refine ⟨3, p6, _, "number", v3, rfl, e6, .inr (.inr (.inr ⟨rfl, v3, y, rfl, .inl ⟨rfl, rfl, o6.WD, o6.wh (t := 7) rfl⟩⟩)), fun p7 G7 n7 s7 e7 => ?_⟩
      walk_at "go"
      refine odd_same (o6.but hG6 (.of s7)) (hG6.same s7) (b36.same s7) e7 fun G8 hG8 bG8 => ?_
      have b08 : But a H G8 := bG2.trans bG8
      have hG8 : Box a (n + 26) G8 := hG8.mono (by omega)
      clear o3 o6 hG3 hG4 hG5 hG6 b36 bG3 bG5 e4 e6 e7 s4 s6 s7 n4 n6 n7 bG2 hG2
      walk_at "go"
      refine newL fun ql G9 nl sl el => ?_
      walk_at "go"
      refine newT fun qt G10 nt st et => ?_
      walk_at "go"
      refine newDK fun qd G11 nd sd ed => ?_
      walk_at "go"
      refine newL fun qb G12 nb sb eb => ?_
      walk_at "go"
      have sA := ((sl.trans st).trans sd).trans sb
      have hG12 := hG8.same sA
      refine r_take hG12 fun d13 G13 d130 d131 hG13 b13 => ?_
      have nql : ql ≠ a := hG8.ne nl
      have nqt : qt ≠ a := (hG8.same sl).ne nt
      have nqd : qd ≠ a := ((hG8.same sl).same st).ne nd
      have nqb : qb ≠ a := (((hG8.same sl).same st).same sd).ne nb
      have frl : H ql = none := but_none b08 nql nl
      refine r_ixLo (sqL (b13 _ _ nqb eb)) d130 d131 fun w2 hw2 _ => ?_
      walk_at "go"
      refine r_take hG13 fun d14 G14 d140 d141 hG14 b14 => ?_
      walk_at "go"
      refine newL fun p15 G15 n15 s15 e15 => ?_
      walk_at "go"
      have fl : G15 ql = some (.lst [.bl true]) := s15 _ _ (b14 _ _ nql (b13 _ _ nql (sb _ _ (sd _ _ (st _ _ el)))))
      have ft : G15 qt = some (.tup []) := s15 _ _ (b14 _ _ nqt (b13 _ _ nqt (sb _ _ (sd _ _ et))))
      have fd : G15 qd = some (.dK []) := s15 _ _ (b14 _ _ nqd (b13 _ _ nqd (sb _ _ ed)))
      have b15 : But a H G15 := (((b08.same sA).trans b13).trans b14).same s15
      have hG15 := hG14.same s15
      have isb : IsA K G15 w2 "bool" false := by
        simp only [List.mem_cons, List.not_mem_nil, or_false] at hw2
        rcases hw2 with e | e | e | e | e | e | e | e | e <;> subst e
        · exact isa_non
        · exact isa_int
        · exact isa_int
        · exact isa_str
        · exact isa_str
        · exact isa_lst fl
        · exact isa_tup ft
        · exact isa_dK fd
        · exact isa_int
      refine ⟨3, p15, _, "truth", w2, rfl, e15, .inr (.inr (.inr ⟨rfl, .int d14, w2, rfl, .inr ⟨rfl, rfl, ⟨d14, rfl, d140, by omega⟩, isb⟩⟩)), fun p16 G16 n16 s16 e16 => ?_⟩
      walk_at "go"
      have fin : Q (.bl true) G16 := q _ ((hG15.same s16).mono (by omega)) (b15.same s16)
      have scal : ∀ {u : V}, smS u = true → IsA K G16 u "list" false → G16 p16 = some (.tup [.str "truth", u]) → spSame K [.ref p16, .str "truth", u] G16 Q E0 := fun {u} h1 h2 h3 => ⟨p16, "truth", u, u, rfl, h3, .inl ⟨h2, ⟨_, shw_sc h1, shw_sc h1⟩, fin⟩⟩
      simp only [List.mem_cons, List.not_mem_nil, or_false] at hw2
      rcases hw2 with e | e | e | e | e | e | e | e | e <;> subst e
      · exact scal rfl isa_non e16
      · exact scal rfl isa_int e16
      · exact scal rfl isa_int e16
      · exact scal (by decide +kernel) isa_str e16
      · exact scal (by decide +kernel) isa_str e16
      · exact ⟨p16, "truth", .ref ql, .ref ql, rfl, e16, .inr ⟨ql, _, rfl, s16 _ _ fl, by decide, ⟨_, shw_lsc (sqL upd_same) (by decide +kernel) (by decide), shw_lsc (sqL upd_same) (by decide +kernel) (by decide)⟩, q _ ((box_upd (hG15.same s16) nql).mono (by omega)) (but_upd (b15.same s16) frl)⟩⟩
      · exact ⟨p16, "truth", .ref qt, .ref qt, rfl, e16, .inl ⟨isa_tup (s16 _ _ ft), ⟨_, shw_tsc (sqT (s16 _ _ ft)) rfl (by decide), shw_tsc (sqT (s16 _ _ ft)) rfl (by decide)⟩, fin⟩⟩
      · exact ⟨p16, "truth", .ref qd, .ref qd, rfl, e16, .inl ⟨isa_dK (s16 _ _ fd), ⟨_, shw_dK (s16 _ _ fd), shw_dK (s16 _ _ fd)⟩, fin⟩⟩
      · exact scal rfl isa_int e16
end
end K02

namespace K02
open PySem PySem.Spec PyProof.Rows L2 Bk


/-- a text whose signs are small, and not many -/
def Tx (n : Nat) (z : Str) : Prop := z.length ≤ n ∧ ∀ c ∈ z.cps.toList, c < 4294967296
theorem Tx.sm {n : Nat} {z : Str} (h : Tx n z) (hn : n ≤ 90) : smS (.str z) = true := by
  show (decide (z.length ≤ 90) && z.cps.toList.all fun c => decide (c < 16 ^ 8)) = true
  rw [decide_eq_true (Nat.le_trans h.1 hn), Bool.true_and]
  exact List.all_eq_true.mpr fun c hc => decide_eq_true (Nat.lt_of_lt_of_le (h.2 c hc) (by decide))
theorem Tx.add {n m : Nat} {y z : Str} (h : Tx n y) (g : Tx m z) : Tx (n + m) (y ++ z) := by
  refine ⟨by rw [str_len_add]; exact Nat.add_le_add h.1 g.1, fun c hc => ?_⟩
  have e : (y ++ z).cps.toList = y.cps.toList ++ z.cps.toList := by rw [Str.cps_append, Array.toList_append]
  rw [e] at hc
  rcases List.mem_append.mp hc with hc | hc
  · exact h.2 c hc
  · exact g.2 c hc
theorem Tx.cut {n : Nat} {z : Str} (h : Tx n z) (lo hi : Option Int) : Tx n (cutS z lo hi) :=
  ⟨Nat.le_trans (cutS_length z lo hi) h.1, fun c hc => h.2 c (List.mem_of_mem_drop (List.mem_of_mem_take (show c ∈ (z.cps.toList.drop _).take _ from hc)))⟩
theorem ops_tx : ∀ z ∈ opsL, Tx 4 z := by
  have h : ∀ z ∈ opsL, z.length ≤ 4 ∧ ∀ c ∈ z.cps.toList, c < 4294967296 := by decide +kernel
  exact h
theorem ops_up : ∀ z ∈ opsL, Tx 4 (Txt.upper z) := by
  have h : ∀ z ∈ opsL, (Txt.upper z).length ≤ 4 ∧ ∀ c ∈ (Txt.upper z).cps.toList, c < 4294967296 := by decide +kernel
  exact h
theorem ops_lay : ∀ z ∈ opsL, SeqAt.shaped (.str z) = true ∧ SeqAt.shaped (.list [.str z]) = true ∧ SeqAt.shaped (.tuple [.str z]) = true := by decide +kernel
theorem letters_small : ∀ c ∈ ("abcdefghijklmnopqrstuvwxyz " : Str).cps.toList, c < 4294967296 := by decide +kernel
theorem in_ops {s : Str} : inV (.str s) (opsL.map V.str) = true ↔ s ∈ opsL := by
  unfold inV
  rw [List.any_map, List.any_eq_true]
  constructor
  · rintro ⟨y, hy, e⟩
    rw [← (eq_of_beq (show (y == s) = true from e))]
    exact hy
  · exact fun h => ⟨s, h, by show (s == s) = true; exact beq_self_eq_true s⟩
theorem flats : (opsL.map V.str).all flatV = true := by decide +kernel
theorem eqs_str {K : PySem.W.Frag} {H : Hp} (s : Str) : EqS K H (.str s) (fun y => decide (V.str y = V.str s)) := fun H' _ y _ Q' k => .inl (.inl ⟨rfl, k⟩)
theorem op_no {K : PySem.W.Frag} {H : Hp} {v : V} (f : Str → Bool) (h : EqS K H v f) (n : ∀ z, z ∈ opsL → f z = false) : Caught K 2 [v] H "op" v := .inr (.inr (.inl ⟨rfl, rfl, rfl, f, h, n⟩))
section
variable {P : Program} {w : World} {K : PySem.W.Frag} {mg : Str → Option Value} {base : Heap} {A : Ad}
theorem ok_opref {f : Addr} {fd : FuncData} (F : Fun K "_law_op_refused" "_law_op_refused" s_op_refused_L f fd) (T : Txt K mg A) (c_take_L : CalD P w K mg base CX0 1 "_law_take" spTake []) (c_names_L : CalD P w K mg base CX0 1 "_law_names" spNames []) (c_op_of : CalX P w K mg base 4 "op_of" (spOp K A.CO))
    (c_caught_L : CalD P w K mg base CX0 6 "_law_caught" (spCaught K) []) (c_same_L : CalG P w K mg base CX0 1 "_law_same" (spSame K)) : FnG P w K mg base CX0 8 f fd ["_law_box_here"] spBx := by
  refine fun_okG F sc_op_refused_L (fun vs H Q E h => ?_) (fun cdv A' outer s H vs Q E ga hr h => ⟨_, (pss_cons (ps_set (i := 1) sc_op_refused_L.nd rfl (.inl rfl) (pe_ix ix_list (pe_cal0 c_names_L hr (by decide) (by rfl)) (pe_cal c_take_L hr (by decide) (by rfl) (pa_cons (pv 0) (pa_cons pe_int pa_nil))) (fun _ _ => rfl)))
    (pss_cons (ps_set (i := 2) sc_op_refused_L.nd rfl (.inl rfl) (pe_cal c_take_L hr (by decide) (by rfl) (pa_cons (pv 0) (pa_cons (pe_op op_add (pe_callB call_len_str (by rfl) T.m_len (by decide +kernel) (pa_cons (pv 1) pa_nil)) pe_int) pa_nil))))
    (pss_cons (ps_set (i := 3) sc_op_refused_L.nd rfl (.inl rfl) (pe_ix ix_str pe_str (pe_cal c_take_L hr (by decide) (by rfl) (pa_cons (pv 0) (pa_cons pe_int pa_nil))) (fun _ _ => rfl)))
    (pss_cons (ps_set (i := 4) sc_op_refused_L.nd rfl (.inl rfl) (pe_lst (pa_cons (pe_op op_add_str (pe_op op_add_str (pe_slice sl_str (pv 1) po_none (po_some (pv 2))) (pv 3)) (pe_slice sl_str (pv 1) (po_some (pv 2)) po_none)) (pa_cons (pe_op op_add_str (pe_slice sl_str (pv 1) po_none (po_some (pv 2))) (pe_slice sl_str (pv 1) (po_some (pe_op op_add (pv 2) pe_int)) po_none)) (pa_cons (pe_upper (pv 1)) (pa_cons (pe_op op_add_str (pv 1) pe_str) (pa_cons pe_str pa_nil)))))))
    (pss_cons (ps_set (i := 4) sc_op_refused_L.nd rfl (.inl rfl) (pe_op op_cat (pv 4) (pe_lst (pa_cons pe_non (pa_cons pe_int (pa_cons pe_bl (pa_cons (pe_lst (pa_cons (pv 1) pa_nil)) (pa_cons (pe_tup (pa_cons (pv 1) pa_nil)) (pa_cons pe_dnewK (pa_cons pe_str pa_nil))))))))))
    (pss_cons (ps_set (i := 5) sc_op_refused_L.nd rfl (.inl rfl) (pe_ix ix_list (pv 4) (pe_cal c_take_L hr (by decide) (by rfl) (pa_cons (pv 0) (pa_cons pe_int pa_nil))) (fun _ _ => rfl)))
    (pss_cons (ps_if (PW.pt (pw_and (pt_val (pe_callB call_is (by rfl) T.m_isinstance (by decide +kernel) (pa_cons (pv 5) (pa_cons (pe_bltn (v := .ty "str") (by rfl) T.m_str (by decide +kernel) rfl) pa_nil)))) (pw_and1 (pt_cmpR op_in_seq (pv 5) (pe_cal0 c_names_L hr (by decide) (by rfl)) (by rfl))))) (pss_one (ps_ret (pe_cmpR op_eq (pe_callB (call_repr_shw ga hr) (by rfl) T.m_repr (by decide +kernel) (pa_cons (pe_calY c_op_of hr (by decide) (by rfl) (pa_cons (pv 5) pa_nil)) pa_nil)) (pe_callB (call_repr_shw ga hr) (by rfl) T.m_repr (by decide +kernel) (pa_cons (pe_bm PySem.F.plainAttrs_list PySem.F.slot_list_index PySem.F.type_list_index mt_index (pe_cal0 c_names_L hr (by decide) (by rfl)) (pa_cons (pv 5) pa_nil)) pa_nil)) (nomark _)))) pss_nil)
    (pss_one (ps_ret (pe_calG c_same_L ga hr (by decide) (by rfl) (pa_cons (pe_cal c_caught_L hr (by decide) (by rfl) (pa_cons pe_int (pa_cons (pe_lst (pa_cons (pv 5) pa_nil)) pa_nil))) (pa_cons pe_str (pa_cons (pv 5) pa_nil))))))))))))), ?_⟩)
  · obtain ⟨a, n, rfl, _⟩ := h
    rfl
  · obtain ⟨a, n, rfl, hB, hn, q⟩ := h
    walk_at "go"
    refine ⟨rfl, fun p1 H1 n1 s1 e1 => ?_⟩
    walk_at "go"
    have hB1 := hB.same s1
    refine r_take hB1 fun d2 H2 d20 d21 hB2 b2 => ?_
    refine r_ixLo (sqL (b2 _ _ (hB.ne n1) e1)) d20 d21 fun v hv _ => ?_
    obtain ⟨z, hz, rfl⟩ := List.mem_map.mp hv
    have tz := ops_tx z hz
    have zl := tz.1
    walk_at "go"
    refine ⟨z, rfl, Nat.le_trans zl (by decide), ?_⟩
    walk_at "go"
    refine r_take hB2 (fun d3 H3 d30 d31 hB3 b3 => ?_) (by omega) (by omega) (by omega)
    walk_at "go"
    refine r_take hB3 fun d4 H4 d40 d41 hB4 b4 => ?_
    refine r_ixS d40 (Int.lt_of_lt_of_le d41 (by decide +kernel)) (by decide +kernel) fun c hc => ?_
    have tc : Tx 1 (⟨#[c]⟩ : Str) := ⟨Nat.le_refl _, fun u hu => by rw [List.mem_singleton.mp (show u ∈ [c] from hu)]; exact letters_small c (List.mem_of_getElem? hc)⟩
    have b04 : But a H H4 := (((But.of s1).trans b2).trans b3).trans b4
    clear b2 b3 b4 e1 hB1 hB2 hB3
    walk_at "go"
    refine ⟨z, rfl, Nat.le_trans zl (by decide), ?_⟩
    walk_at "go"
    have tA := (tz.cut none (some d3)).add tc
    refine ⟨_, _, rfl, rfl, (by rw [← str_len_add]; exact Nat.le_trans tA.1 (by decide)), ?_⟩
    walk_at "go"
    refine ⟨z, rfl, Nat.le_trans zl (by decide), ?_⟩
    have tB := tA.add (tz.cut (some d3) none)
    refine ⟨_, _, rfl, rfl, (by rw [← str_len_add]; exact Nat.le_trans tB.1 (by decide)), ?_⟩
    walk_at "go"
    refine ⟨z, rfl, Nat.le_trans zl (by decide), ?_⟩
    walk_at "go"
    refine ⟨z, rfl, Nat.le_trans zl (by decide), ?_⟩
    have tC := (tz.cut none (some d3)).add (tz.cut (some (d3 + 1)) none)
    refine ⟨_, _, rfl, rfl, (by rw [← str_len_add]; exact Nat.le_trans tC.1 (by decide)), ?_⟩
    walk_at "go"
    refine ⟨.str z, rfl, ⟨z, rfl⟩, z, rfl, rfl, Nat.le_trans zl (by decide), ?_⟩
    have tU := ops_up z hz
    walk_at "go"
    have tN : Tx 1 ("\n" : Str) := by
      have h : ("\n" : Str).length ≤ 1 ∧ ∀ c ∈ ("\n" : Str).cps.toList, c < 4294967296 := by decide +kernel
      exact h
    have tD := tz.add tN
    refine ⟨_, _, rfl, rfl, (by rw [← str_len_add]; exact Nat.le_trans tD.1 (by decide)), ?_⟩
    walk_at "go"
    refine newL fun p5 H5 n5 s5 e5 => ?_
    walk_at "go"
    refine newL fun pl H6 n6 s6 e6 => ?_
    walk_at "go"
    refine newT fun pt H7 n7 s7 e7 => ?_
    walk_at "go"
    refine newDK fun pd H8 n8 s8 e8 => ?_
    walk_at "go"
    refine newL fun p9 H9 n9 s9 e9 => ?_
    refine r_cat (s9 _ _ (s8 _ _ (s7 _ _ (s6 _ _ e5)))) e9 (fun p10 H10 n10 s10 e10 => ?_) (Nat.le_of_ble_eq_true rfl)
    walk_at "go"
    have hB5 := hB4.same s5
    have hB6 := hB5.same s6
    have hB7 := hB6.same s7
    have hB9 := (hB7.same s8).same s9
    have hB10 := hB9.same s10
    refine r_take hB10 fun d11 H11 d110 d111 hB11 b11 => ?_
    have nel : pl ≠ a := hB5.ne n6
    have net : pt ≠ a := hB6.ne n7
    have ned : pd ≠ a := hB7.ne n8
    have ne10 : p10 ≠ a := hB9.ne n10
    refine r_ixLo (sqL (b11 _ _ ne10 e10)) d110 d111 fun w2 hw2 _ => ?_
    have fl : H11 pl = some (.lst [.str z]) := b11 _ _ nel (s10 _ _ (s9 _ _ (s8 _ _ (s7 _ _ e6))))
    have ft : H11 pt = some (.tup [.str z]) := b11 _ _ net (s10 _ _ (s9 _ _ (s8 _ _ e7)))
    have fd : H11 pd = some (.dK []) := b11 _ _ ned (s10 _ _ (s9 _ _ e8))
    have frl : H pl = none := but_none (b04.same s5) nel n6
    have b011 : But a H H11 := ((((((b04.same s5).same s6).same s7).same s8).same s9).same s10).trans b11
    have hB11 : Box a (n + 10) H11 := hB11.mono (by omega)
    obtain ⟨l1, l2, l3⟩ := ops_lay z hz
    walk_at "go"
    have kind : (∃ s, w2 = .str s ∧ Tx 20 s) ∨ (w2 = .non ∨ w2 = .int 0 ∨ w2 = .bl true ∨ w2 = .ref pl ∨ w2 = .ref pt ∨ w2 = .ref pd) := by
      have up : ∀ {k : Nat} {s : Str}, Tx k s → k ≤ 20 → Tx 20 s := fun h le => ⟨Nat.le_trans h.1 le, h.2⟩
      have cst : ∀ s : Str, (s.length ≤ 20 ∧ ∀ c ∈ s.cps.toList, c < 4294967296) → Tx 20 s := fun s h => h
      simp only [List.cons_append, List.nil_append, List.mem_cons, List.not_mem_nil, or_false] at hw2
      rcases hw2 with e | e | e | e | e | e | e | e | e | e | e | e
      · exact .inl ⟨_, e, up tB (by decide)⟩
      · exact .inl ⟨_, e, up tC (by decide)⟩
      · exact .inl ⟨_, e, up tU (by decide)⟩
      · exact .inl ⟨_, e, up tD (by decide)⟩
      · exact .inl ⟨_, e, cst _ (by decide +kernel)⟩
      · exact .inr (.inl e)
      · exact .inr (.inr (.inl e))
      · exact .inr (.inr (.inr (.inl e)))
      · exact .inr (.inr (.inr (.inr (.inl e))))
      · exact .inr (.inr (.inr (.inr (.inr (.inl e)))))
      · exact .inr (.inr (.inr (.inr (.inr (.inr e)))))
      · exact .inl ⟨_, e, cst _ (by decide +kernel)⟩
    rcases kind with ⟨s, rfl, ts⟩ | kind
    · refine r_is (isa_str (b := true)) ?_
      walk_at "go"
      refine ⟨rfl, fun p12 H12 n12 s12 e12 => ?_⟩
      refine ⟨p12, _, rfl, .inl (sqL e12), rfl, flats, ?_⟩
      by_cases m : s ∈ opsL
      · rw [in_ops.mpr m]
        walk_at "go"
        refine iteT ?_
        walk_at "go"
        obtain ⟨j, hj⟩ := List.getElem?_of_mem m
        have lj : j < 16 := (List.getElem?_eq_some_iff.mp hj).1
        refine op_ok hj fun H13 s13 => ?_
        walk_at "go"
        refine ⟨_, _, rfl, shw_sc (small_int (by omega) (by omega)), ?_⟩
        walk_at "go"
        refine ⟨rfl, fun p14 H14 n14 s14 e14 => ?_⟩
        walk_at "go"
        refine ⟨.inl ⟨rfl, _, sqL e14⟩, ?_⟩
        walk_at "go"
        refine ⟨p14, _, .str s, j, .str s, rfl, rfl, sqL e14, rfl, flats, by rw [List.getElem?_map, hj]; rfl, by show (s == s) = true; exact beq_self_eq_true s, fun k z' hk hz' => ?_, ?_⟩
        · rw [List.getElem?_map] at hz'
          cases hq : opsL[k]? with
          | none => rw [hq] at hz'; exact nomatch hz'
          | some y =>
            rw [hq] at hz'
            obtain rfl := Option.some.inj hz'
            refine Bool.eq_false_iff.mpr fun e => ops_apart j lj k hk ?_
            rw [hq, hj, eq_of_beq (show (y == s) = true from e)]
        · walk_at "go"
          refine ⟨_, _, rfl, shw_sc (small_int (by omega) (by omega)), ?_⟩
          refine r_eq rfl ?_
          rw [decide_eq_true rfl]
          exact q _ ((((hB11.same s12).same s13).same s14).mono (by omega)) (((b011.same s12).same s13).same s14)
      · have mi : inV (.str s) (opsL.map V.str) = false := Bool.eq_false_iff.mpr fun e => m (in_ops.mp e)
        rw [mi]
        walk_at "go"
        refine iteF ?_
        walk_at "go"
        refine newL fun p13 H13 n13 s13 e13 => ?_
        walk_at "go"
        refine ⟨2, p13, _, "op", .str s, rfl, e13, op_no _ (eqs_str s) (fun y hy => decide_eq_false fun e => by
          injection e with e
          exact m (e ▸ hy)), fun p14 H14 n14 s14 e14 => ?_⟩
        walk_at "go"
        exact ⟨p14, "op", .str s, .str s, rfl, e14, .inl ⟨isa_str, ⟨_, shw_sc (ts.sm (by decide)), shw_sc (ts.sm (by decide))⟩, q _ ((((hB11.same s12).same s13).same s14).mono (by omega)) (((b011.same s12).same s13).same s14)⟩⟩
    · have isb : IsA K H11 w2 "str" false := by
        rcases kind with e | e | e | e | e | e <;> subst e
        · exact isa_non
        · exact isa_int
        · exact isa_bl
        · exact isa_lst fl
        · exact isa_tup ft
        · exact isa_dK fd
      refine r_is isb ?_
      walk_at "go"
      refine newL fun p12 H12 n12 s12 e12 => ?_
      walk_at "go"
      have fl2 := s12 _ _ fl
      have ft2 := s12 _ _ ft
      have fd2 := s12 _ _ fd
      have eqs : EqS K H12 w2 fun _ => false := by
        intro H' sm y hy Q' k
        obtain ⟨y1, _, _⟩ := ops_lay y hy
        rcases kind with e | e | e | e | e | e <;> subst e
        · exact .inl (.inl ⟨rfl, k⟩)
        · exact .inl (.inl ⟨rfl, k⟩)
        · exact .inl (.inl ⟨rfl, k⟩)
        · exact .inl (.inr ⟨PyData.str y, PyData.list [PyData.str z], Dp.str y, Dp.lst (sqL (sm _ _ fl2)) (.cons (Dp.str z) .nil), y1, l2, k⟩)
        · exact .inl (.inr ⟨PyData.str y, PyData.tuple [PyData.str z], Dp.str y, Dp.tup (sqT (sm _ _ ft2)) (.cons (Dp.str z) .nil), y1, l3, k⟩)
        · exact .inr ⟨y, pd, _, rfl, rfl, sm _ _ fd2, k⟩
      refine ⟨2, p12, _, "op", w2, rfl, e12, op_no _ eqs (fun _ _ => rfl), fun p13 H13 n13 s13 e13 => ?_⟩
      walk_at "go"
      have hB13 := (hB11.same s12).same s13
      have b013 := (b011.same s12).same s13
      have fin : Q (.bl true) H13 := q _ (hB13.mono (by omega)) b013
      have zsm : smS (.str z) = true := tz.sm (by decide)
      rcases kind with e | e | e | e | e | e <;> subst e
      · exact ⟨p13, "op", _, _, rfl, e13, .inl ⟨isa_non, ⟨_, shw_sc rfl, shw_sc rfl⟩, fin⟩⟩
      · exact ⟨p13, "op", _, _, rfl, e13, .inl ⟨isa_int, ⟨_, shw_sc rfl, shw_sc rfl⟩, fin⟩⟩
      · exact ⟨p13, "op", _, _, rfl, e13, .inl ⟨isa_bl, ⟨_, shw_sc rfl, shw_sc rfl⟩, fin⟩⟩
      · have sm : ([V.str z] ++ [V.str "more"]).all smS = true := by
          simp only [List.cons_append, List.nil_append, List.all_cons, List.all_nil, Bool.and_true, Bool.and_eq_true]
          exact ⟨zsm, by decide +kernel⟩
        exact ⟨p13, "op", _, _, rfl, e13, .inr ⟨pl, _, rfl, s13 _ _ fl2, Nat.le_of_ble_eq_true rfl, ⟨_, shw_lsc (sqL upd_same) sm (Nat.le_of_ble_eq_true rfl), shw_lsc (sqL upd_same) sm (Nat.le_of_ble_eq_true rfl)⟩, q _ ((box_upd hB13 nel).mono (by omega)) (but_upd b013 frl)⟩⟩
      · have sm : [V.str z].all smS = true := by
          simp only [List.all_cons, List.all_nil, Bool.and_true]
          exact zsm
        exact ⟨p13, "op", _, _, rfl, e13, .inl ⟨isa_tup (s13 _ _ ft2), ⟨_, shw_tsc (sqT (s13 _ _ ft2)) sm (Nat.le_of_ble_eq_true rfl), shw_tsc (sqT (s13 _ _ ft2)) sm (Nat.le_of_ble_eq_true rfl)⟩, fin⟩⟩
      · exact ⟨p13, "op", _, _, rfl, e13, .inl ⟨isa_dK (s13 _ _ fd2), ⟨_, shw_dK (s13 _ _ fd2), shw_dK (s13 _ _ fd2)⟩, fin⟩⟩
end
end K02

namespace K02
open PySem PySem.Spec PyProof.Rows L2 Bk
theorem entry_chain {D : Addr} {doc pm : Value} {an : Option Addr} {cdv ct : Value} {us mv ws : List Value} :
    (us.length = 1 → mv.length = 1 → KwChain D ((["write"] : List Str).zip mv) (bindArgs (PySem.W.fnOf "entry" "entry" (defArgs s_entry) (defBody s_entry) (defScope s_entry) .none (.ref D) doc pm an cdv ct) ⟨us, []⟩) ((["room", "write"] : List Str).zip (us ++ mv))) ∧
    (us.length = 1 → mv.length = 0 → ws.length = 1 → KwChain D (([] : List Str).zip mv) (bindArgs (PySem.W.fnOf "entry" "entry" (defArgs s_entry) (defBody s_entry) (defScope s_entry) .none (.ref D) doc pm an cdv ct) ⟨us, (["write"] : List Str).zip ws⟩) ((["room", "write"] : List Str).zip (us ++ ws))) ∧
    (us.length = 0 → mv.length = 0 → ws.length = 2 → KwChain D (([] : List Str).zip mv) (bindArgs (PySem.W.fnOf "entry" "entry" (defArgs s_entry) (defBody s_entry) (defScope s_entry) .none (.ref D) doc pm an cdv ct) ⟨us, (["write", "room"] : List Str).zip ws⟩) ((["room", "write"] : List Str).zip ws.reverse)) := by
  refine ⟨fun h1 h2 => ?_, fun h1 h2 h3 => ?_, fun h1 h2 h3 => ?_⟩
  · match us, mv, h1, h2 with
    | [u], [m], _, _ => exact ⟨_, _, _, _, _, _, rfl, rfl, rfl⟩
  · match us, mv, ws, h1, h2, h3 with
    | [u], [], [a], _, _, _ => exact rfl
  · match us, mv, ws, h1, h2, h3 with
    | [], [], [a, b], _, _, _ => exact rfl
theorem all_mk {l : PySem.W.OpenLaw} {w : World} {K : PySem.W.Frag} {h : Heap} {mg : Str → Option Value} {fa C_GuestError C_Missing C_Barred C_NoNumber C_NoWord C_NoOp C_NoTruth f_GuestError_init f_Missing_init f_Barred_init f_NoNumber_init f_NoWord_init f_NoOp_init f_NoTruth_init f_is_whole f_is_word f_check_number f_check_word f_parts_of f_code f_op_of f_entry f_entry_parts f_cell_L f_box_L f_take_L f_names_L f_caught_L f_same_L f_word_right_L f_entry_right_L f_bad_L f_refused_right_L f_op_refused_L f_law : Addr} (X : K.In h) (G : h.Ns mainGlobals mg) (hfa : mg "law" = some (.ref fa))
    {od_GuestError_init an_GuestError_init : Option Addr} {sl_GuestError_init : Array (Option Value)} {oc_GuestError_init kV_GuestError_init dc_GuestError_init pm_GuestError_init cd_GuestError_init ct_GuestError_init : Value}
    {od_Missing_init an_Missing_init : Option Addr} {sl_Missing_init : Array (Option Value)} {oc_Missing_init kV_Missing_init dc_Missing_init pm_Missing_init cd_Missing_init ct_Missing_init : Value}
    {od_Barred_init an_Barred_init : Option Addr} {sl_Barred_init : Array (Option Value)} {oc_Barred_init kV_Barred_init dc_Barred_init pm_Barred_init cd_Barred_init ct_Barred_init : Value}
    {od_NoNumber_init an_NoNumber_init : Option Addr} {sl_NoNumber_init : Array (Option Value)} {oc_NoNumber_init kV_NoNumber_init dc_NoNumber_init pm_NoNumber_init cd_NoNumber_init ct_NoNumber_init : Value}
    {od_NoWord_init an_NoWord_init : Option Addr} {sl_NoWord_init : Array (Option Value)} {oc_NoWord_init kV_NoWord_init dc_NoWord_init pm_NoWord_init cd_NoWord_init ct_NoWord_init : Value}
    {od_NoOp_init an_NoOp_init : Option Addr} {sl_NoOp_init : Array (Option Value)} {oc_NoOp_init kV_NoOp_init dc_NoOp_init pm_NoOp_init cd_NoOp_init ct_NoOp_init : Value}
    {od_NoTruth_init an_NoTruth_init : Option Addr} {sl_NoTruth_init : Array (Option Value)} {oc_NoTruth_init kV_NoTruth_init dc_NoTruth_init pm_NoTruth_init cd_NoTruth_init ct_NoTruth_init : Value}
    {od_is_whole an_is_whole : Option Addr} {sl_is_whole : Array (Option Value)} {oc_is_whole kV_is_whole dc_is_whole pm_is_whole cd_is_whole ct_is_whole : Value}
    {od_is_word an_is_word : Option Addr} {sl_is_word : Array (Option Value)} {oc_is_word kV_is_word dc_is_word pm_is_word cd_is_word ct_is_word : Value}
    {od_check_number an_check_number : Option Addr} {sl_check_number : Array (Option Value)} {oc_check_number kV_check_number dc_check_number pm_check_number cd_check_number ct_check_number : Value}
    {od_check_word an_check_word : Option Addr} {sl_check_word : Array (Option Value)} {oc_check_word kV_check_word dc_check_word pm_check_word cd_check_word ct_check_word : Value}
    {od_parts_of an_parts_of : Option Addr} {sl_parts_of : Array (Option Value)} {oc_parts_of kV_parts_of dc_parts_of pm_parts_of cd_parts_of ct_parts_of : Value}
    {od_code an_code : Option Addr} {sl_code : Array (Option Value)} {oc_code kV_code dc_code pm_code cd_code ct_code : Value}
    {od_op_of an_op_of : Option Addr} {sl_op_of : Array (Option Value)} {oc_op_of kV_op_of dc_op_of pm_op_of cd_op_of ct_op_of : Value}
    {od_entry an_entry : Option Addr} {sl_entry : Array (Option Value)} {oc_entry  dc_entry pm_entry cd_entry ct_entry : Value} {D_entry : Addr}
    {u_entry_write : Value}
    {od_entry_parts an_entry_parts : Option Addr} {sl_entry_parts : Array (Option Value)} {oc_entry_parts kV_entry_parts dc_entry_parts pm_entry_parts cd_entry_parts ct_entry_parts : Value}
    {od_cell_L an_cell_L : Option Addr} {sl_cell_L : Array (Option Value)} {oc_cell_L kV_cell_L dc_cell_L pm_cell_L cd_cell_L ct_cell_L : Value}
    {od_box_L an_box_L : Option Addr} {sl_box_L : Array (Option Value)} {oc_box_L kV_box_L dc_box_L pm_box_L cd_box_L ct_box_L : Value}
    {od_take_L an_take_L : Option Addr} {sl_take_L : Array (Option Value)} {oc_take_L kV_take_L dc_take_L pm_take_L cd_take_L ct_take_L : Value}
    {od_names_L an_names_L : Option Addr} {sl_names_L : Array (Option Value)} {oc_names_L kV_names_L dc_names_L pm_names_L cd_names_L ct_names_L : Value}
    {od_caught_L an_caught_L : Option Addr} {sl_caught_L : Array (Option Value)} {oc_caught_L kV_caught_L dc_caught_L pm_caught_L cd_caught_L ct_caught_L : Value}
    {od_same_L an_same_L : Option Addr} {sl_same_L : Array (Option Value)} {oc_same_L kV_same_L dc_same_L pm_same_L cd_same_L ct_same_L : Value}
    {od_word_right_L an_word_right_L : Option Addr} {sl_word_right_L : Array (Option Value)} {oc_word_right_L kV_word_right_L dc_word_right_L pm_word_right_L cd_word_right_L ct_word_right_L : Value}
    {od_entry_right_L an_entry_right_L : Option Addr} {sl_entry_right_L : Array (Option Value)} {oc_entry_right_L kV_entry_right_L dc_entry_right_L pm_entry_right_L cd_entry_right_L ct_entry_right_L : Value}
    {od_bad_L an_bad_L : Option Addr} {sl_bad_L : Array (Option Value)} {oc_bad_L kV_bad_L dc_bad_L pm_bad_L cd_bad_L ct_bad_L : Value}
    {od_refused_right_L an_refused_right_L : Option Addr} {sl_refused_right_L : Array (Option Value)} {oc_refused_right_L kV_refused_right_L dc_refused_right_L pm_refused_right_L cd_refused_right_L ct_refused_right_L : Value}
    {od_op_refused_L an_op_refused_L : Option Addr} {sl_op_refused_L : Array (Option Value)} {oc_op_refused_L kV_op_refused_L dc_op_refused_L pm_op_refused_L cd_op_refused_L ct_op_refused_L : Value}
    {od_law an_law : Option Addr} {sl_law : Array (Option Value)} {oc_law kV_law dc_law pm_law cd_law ct_law : Value}
    {t_most tO0 tO1 tO2 tO3 tO4 tO5 tO6 tO7 tO8 tO9 tO10 tO11 tO12 tO13 tO14 tO15 : Tok} {aOPS : Addr} {nO : Nat} {slO : Array (Option Value)}
    {nmW qW : Str} {NW : Addr} {bsW : List Value} {snW : List Str} {subW : List Value} {abW : Bool} {colW : Option Bool} {ddW : Option Addr} {wW0 wW1 wW2 wW3 wW5 : Option Value}
    {nmM qM : Str} {NM : Addr} {bsM : List Value} {snM : List Str} {subM : List Value} {abM : Bool} {colM : Option Bool} {ddM : Option Addr} {wM0 wM1 wM2 wM3 wM5 : Option Value}
    {nmO qO : Str} {NO : Addr} {bsO : List Value} {snO : List Str} {subO : List Value} {abO : Bool} {colO : Option Bool} {ddO : Option Addr} {wO0 wO1 wO2 wO3 wO5 : Option Value}
    {nmT qT : Str} {NT : Addr} {bsT : List Value} {snT : List Str} {subT : List Value} {abT : Bool} {colT : Option Bool} {ddT : Option Addr} {wT0 wT1 wT2 wT3 wT5 : Option Value}
    (aC_GuestError : PySem.W.nsIn K mainGlobals "GuestError" = some (some (.ref C_GuestError)))
    (aC_Missing : PySem.W.nsIn K mainGlobals "Missing" = some (some (.ref C_Missing)))
    (aC_Barred : PySem.W.nsIn K mainGlobals "Barred" = some (some (.ref C_Barred)))
    (aC_NoNumber : PySem.W.nsIn K mainGlobals "NoNumber" = some (some (.ref C_NoNumber)))
    (aC_NoWord : PySem.W.nsIn K mainGlobals "NoWord" = some (some (.ref C_NoWord)))
    (aC_NoOp : PySem.W.nsIn K mainGlobals "NoOp" = some (some (.ref C_NoOp)))
    (aC_NoTruth : PySem.W.nsIn K mainGlobals "NoTruth" = some (some (.ref C_NoTruth)))
    (a_GuestError_init : PySem.W.findIn K (.ref C_GuestError) "__init__" = some (some (.ref f_GuestError_init)))
    (l_GuestError_init : K.lookup f_GuestError_init = some ⟨oc_GuestError_init, od_GuestError_init, .func (PySem.W.fnOf "__init__" "GuestError.__init__" (defArgs s_GuestError_init) (defBody s_GuestError_init) (defScope s_GuestError_init) .none kV_GuestError_init dc_GuestError_init pm_GuestError_init an_GuestError_init cd_GuestError_init ct_GuestError_init), sl_GuestError_init⟩)
    (c_GuestError_init : PySem.W.codeIn K cd_GuestError_init "GuestError.__init__" = true)
    (k_GuestError_init : PySem.W.keepIn K (.ref f_GuestError_init) = true)
    (a_Missing_init : PySem.W.findIn K (.ref C_Missing) "__init__" = some (some (.ref f_Missing_init)))
    (l_Missing_init : K.lookup f_Missing_init = some ⟨oc_Missing_init, od_Missing_init, .func (PySem.W.fnOf "__init__" "Missing.__init__" (defArgs s_Missing_init) (defBody s_Missing_init) (defScope s_Missing_init) .none kV_Missing_init dc_Missing_init pm_Missing_init an_Missing_init cd_Missing_init ct_Missing_init), sl_Missing_init⟩)
    (c_Missing_init : PySem.W.codeIn K cd_Missing_init "Missing.__init__" = true)
    (k_Missing_init : PySem.W.keepIn K (.ref f_Missing_init) = true)
    (a_Barred_init : PySem.W.findIn K (.ref C_Barred) "__init__" = some (some (.ref f_Barred_init)))
    (l_Barred_init : K.lookup f_Barred_init = some ⟨oc_Barred_init, od_Barred_init, .func (PySem.W.fnOf "__init__" "Barred.__init__" (defArgs s_Barred_init) (defBody s_Barred_init) (defScope s_Barred_init) .none kV_Barred_init dc_Barred_init pm_Barred_init an_Barred_init cd_Barred_init ct_Barred_init), sl_Barred_init⟩)
    (c_Barred_init : PySem.W.codeIn K cd_Barred_init "Barred.__init__" = true)
    (k_Barred_init : PySem.W.keepIn K (.ref f_Barred_init) = true)
    (a_NoNumber_init : PySem.W.findIn K (.ref C_NoNumber) "__init__" = some (some (.ref f_NoNumber_init)))
    (l_NoNumber_init : K.lookup f_NoNumber_init = some ⟨oc_NoNumber_init, od_NoNumber_init, .func (PySem.W.fnOf "__init__" "NoNumber.__init__" (defArgs s_NoNumber_init) (defBody s_NoNumber_init) (defScope s_NoNumber_init) .none kV_NoNumber_init dc_NoNumber_init pm_NoNumber_init an_NoNumber_init cd_NoNumber_init ct_NoNumber_init), sl_NoNumber_init⟩)
    (c_NoNumber_init : PySem.W.codeIn K cd_NoNumber_init "NoNumber.__init__" = true)
    (k_NoNumber_init : PySem.W.keepIn K (.ref f_NoNumber_init) = true)
    (a_NoWord_init : PySem.W.findIn K (.ref C_NoWord) "__init__" = some (some (.ref f_NoWord_init)))
    (l_NoWord_init : K.lookup f_NoWord_init = some ⟨oc_NoWord_init, od_NoWord_init, .func (PySem.W.fnOf "__init__" "NoWord.__init__" (defArgs s_NoWord_init) (defBody s_NoWord_init) (defScope s_NoWord_init) .none kV_NoWord_init dc_NoWord_init pm_NoWord_init an_NoWord_init cd_NoWord_init ct_NoWord_init), sl_NoWord_init⟩)
    (c_NoWord_init : PySem.W.codeIn K cd_NoWord_init "NoWord.__init__" = true)
    (k_NoWord_init : PySem.W.keepIn K (.ref f_NoWord_init) = true)
    (a_NoOp_init : PySem.W.findIn K (.ref C_NoOp) "__init__" = some (some (.ref f_NoOp_init)))
    (l_NoOp_init : K.lookup f_NoOp_init = some ⟨oc_NoOp_init, od_NoOp_init, .func (PySem.W.fnOf "__init__" "NoOp.__init__" (defArgs s_NoOp_init) (defBody s_NoOp_init) (defScope s_NoOp_init) .none kV_NoOp_init dc_NoOp_init pm_NoOp_init an_NoOp_init cd_NoOp_init ct_NoOp_init), sl_NoOp_init⟩)
    (c_NoOp_init : PySem.W.codeIn K cd_NoOp_init "NoOp.__init__" = true)
    (k_NoOp_init : PySem.W.keepIn K (.ref f_NoOp_init) = true)
    (a_NoTruth_init : PySem.W.findIn K (.ref C_NoTruth) "__init__" = some (some (.ref f_NoTruth_init)))
    (l_NoTruth_init : K.lookup f_NoTruth_init = some ⟨oc_NoTruth_init, od_NoTruth_init, .func (PySem.W.fnOf "__init__" "NoTruth.__init__" (defArgs s_NoTruth_init) (defBody s_NoTruth_init) (defScope s_NoTruth_init) .none kV_NoTruth_init dc_NoTruth_init pm_NoTruth_init an_NoTruth_init cd_NoTruth_init ct_NoTruth_init), sl_NoTruth_init⟩)
    (c_NoTruth_init : PySem.W.codeIn K cd_NoTruth_init "NoTruth.__init__" = true)
    (k_NoTruth_init : PySem.W.keepIn K (.ref f_NoTruth_init) = true)
    (a_is_whole : PySem.W.nsIn K mainGlobals "is_whole" = some (some (.ref f_is_whole)))
    (l_is_whole : K.lookup f_is_whole = some ⟨oc_is_whole, od_is_whole, .func (PySem.W.fnOf "is_whole" "is_whole" (defArgs s_is_whole) (defBody s_is_whole) (defScope s_is_whole) .none kV_is_whole dc_is_whole pm_is_whole an_is_whole cd_is_whole ct_is_whole), sl_is_whole⟩)
    (c_is_whole : PySem.W.codeIn K cd_is_whole "is_whole" = true)
    (k_is_whole : PySem.W.keepIn K (.ref f_is_whole) = true)
    (a_is_word : PySem.W.nsIn K mainGlobals "is_word" = some (some (.ref f_is_word)))
    (l_is_word : K.lookup f_is_word = some ⟨oc_is_word, od_is_word, .func (PySem.W.fnOf "is_word" "is_word" (defArgs s_is_word) (defBody s_is_word) (defScope s_is_word) .none kV_is_word dc_is_word pm_is_word an_is_word cd_is_word ct_is_word), sl_is_word⟩)
    (c_is_word : PySem.W.codeIn K cd_is_word "is_word" = true)
    (k_is_word : PySem.W.keepIn K (.ref f_is_word) = true)
    (a_check_number : PySem.W.nsIn K mainGlobals "check_number" = some (some (.ref f_check_number)))
    (l_check_number : K.lookup f_check_number = some ⟨oc_check_number, od_check_number, .func (PySem.W.fnOf "check_number" "check_number" (defArgs s_check_number) (defBody s_check_number) (defScope s_check_number) .none kV_check_number dc_check_number pm_check_number an_check_number cd_check_number ct_check_number), sl_check_number⟩)
    (c_check_number : PySem.W.codeIn K cd_check_number "check_number" = true)
    (k_check_number : PySem.W.keepIn K (.ref f_check_number) = true)
    (a_check_word : PySem.W.nsIn K mainGlobals "check_word" = some (some (.ref f_check_word)))
    (l_check_word : K.lookup f_check_word = some ⟨oc_check_word, od_check_word, .func (PySem.W.fnOf "check_word" "check_word" (defArgs s_check_word) (defBody s_check_word) (defScope s_check_word) .none kV_check_word dc_check_word pm_check_word an_check_word cd_check_word ct_check_word), sl_check_word⟩)
    (c_check_word : PySem.W.codeIn K cd_check_word "check_word" = true)
    (k_check_word : PySem.W.keepIn K (.ref f_check_word) = true)
    (a_parts_of : PySem.W.nsIn K mainGlobals "parts_of" = some (some (.ref f_parts_of)))
    (l_parts_of : K.lookup f_parts_of = some ⟨oc_parts_of, od_parts_of, .func (PySem.W.fnOf "parts_of" "parts_of" (defArgs s_parts_of) (defBody s_parts_of) (defScope s_parts_of) .none kV_parts_of dc_parts_of pm_parts_of an_parts_of cd_parts_of ct_parts_of), sl_parts_of⟩)
    (c_parts_of : PySem.W.codeIn K cd_parts_of "parts_of" = true)
    (k_parts_of : PySem.W.keepIn K (.ref f_parts_of) = true)
    (a_code : PySem.W.nsIn K mainGlobals "code" = some (some (.ref f_code)))
    (l_code : K.lookup f_code = some ⟨oc_code, od_code, .func (PySem.W.fnOf "code" "code" (defArgs s_code) (defBody s_code) (defScope s_code) .none kV_code dc_code pm_code an_code cd_code ct_code), sl_code⟩)
    (c_code : PySem.W.codeIn K cd_code "code" = true)
    (k_code : PySem.W.keepIn K (.ref f_code) = true)
    (a_op_of : PySem.W.nsIn K mainGlobals "op_of" = some (some (.ref f_op_of)))
    (l_op_of : K.lookup f_op_of = some ⟨oc_op_of, od_op_of, .func (PySem.W.fnOf "op_of" "op_of" (defArgs s_op_of) (defBody s_op_of) (defScope s_op_of) .none kV_op_of dc_op_of pm_op_of an_op_of cd_op_of ct_op_of), sl_op_of⟩)
    (c_op_of : PySem.W.codeIn K cd_op_of "op_of" = true)
    (k_op_of : PySem.W.keepIn K (.ref f_op_of) = true)
    (a_entry : PySem.W.nsIn K mainGlobals "entry" = some (some (.ref f_entry)))
    (l_entry : K.lookup f_entry = some ⟨oc_entry, od_entry, .func (PySem.W.fnOf "entry" "entry" (defArgs s_entry) (defBody s_entry) (defScope s_entry) .none (.ref D_entry) dc_entry pm_entry an_entry cd_entry ct_entry), sl_entry⟩)
    (c_entry : PySem.W.codeIn K cd_entry "entry" = true)
    (k_entry : PySem.W.keepIn K (.ref f_entry) = true)
    (kd_entry_write : PySem.W.nsIn K D_entry "write" = some (some u_entry_write))
    (a_entry_parts : PySem.W.nsIn K mainGlobals "entry_parts" = some (some (.ref f_entry_parts)))
    (l_entry_parts : K.lookup f_entry_parts = some ⟨oc_entry_parts, od_entry_parts, .func (PySem.W.fnOf "entry_parts" "entry_parts" (defArgs s_entry_parts) (defBody s_entry_parts) (defScope s_entry_parts) .none kV_entry_parts dc_entry_parts pm_entry_parts an_entry_parts cd_entry_parts ct_entry_parts), sl_entry_parts⟩)
    (c_entry_parts : PySem.W.codeIn K cd_entry_parts "entry_parts" = true)
    (k_entry_parts : PySem.W.keepIn K (.ref f_entry_parts) = true)
    (a_cell_L : PySem.W.nsIn K mainGlobals "_law_cell" = some (some (.ref f_cell_L)))
    (l_cell_L : K.lookup f_cell_L = some ⟨oc_cell_L, od_cell_L, .func (PySem.W.fnOf "_law_cell" "_law_cell" (defArgs s_cell_L) (defBody s_cell_L) (defScope s_cell_L) .none kV_cell_L dc_cell_L pm_cell_L an_cell_L cd_cell_L ct_cell_L), sl_cell_L⟩)
    (c_cell_L : PySem.W.codeIn K cd_cell_L "_law_cell" = true)
    (k_cell_L : PySem.W.keepIn K (.ref f_cell_L) = true)
    (a_box_L : PySem.W.nsIn K mainGlobals "_law_box" = some (some (.ref f_box_L)))
    (l_box_L : K.lookup f_box_L = some ⟨oc_box_L, od_box_L, .func (PySem.W.fnOf "_law_box" "_law_box" (defArgs s_box_L) (defBody s_box_L) (defScope s_box_L) .none kV_box_L dc_box_L pm_box_L an_box_L cd_box_L ct_box_L), sl_box_L⟩)
    (c_box_L : PySem.W.codeIn K cd_box_L "_law_box" = true)
    (k_box_L : PySem.W.keepIn K (.ref f_box_L) = true)
    (a_take_L : PySem.W.nsIn K mainGlobals "_law_take" = some (some (.ref f_take_L)))
    (l_take_L : K.lookup f_take_L = some ⟨oc_take_L, od_take_L, .func (PySem.W.fnOf "_law_take" "_law_take" (defArgs s_take_L) (defBody s_take_L) (defScope s_take_L) .none kV_take_L dc_take_L pm_take_L an_take_L cd_take_L ct_take_L), sl_take_L⟩)
    (c_take_L : PySem.W.codeIn K cd_take_L "_law_take" = true)
    (k_take_L : PySem.W.keepIn K (.ref f_take_L) = true)
    (a_names_L : PySem.W.nsIn K mainGlobals "_law_names" = some (some (.ref f_names_L)))
    (l_names_L : K.lookup f_names_L = some ⟨oc_names_L, od_names_L, .func (PySem.W.fnOf "_law_names" "_law_names" (defArgs s_names_L) (defBody s_names_L) (defScope s_names_L) .none kV_names_L dc_names_L pm_names_L an_names_L cd_names_L ct_names_L), sl_names_L⟩)
    (c_names_L : PySem.W.codeIn K cd_names_L "_law_names" = true)
    (k_names_L : PySem.W.keepIn K (.ref f_names_L) = true)
    (a_caught_L : PySem.W.nsIn K mainGlobals "_law_caught" = some (some (.ref f_caught_L)))
    (l_caught_L : K.lookup f_caught_L = some ⟨oc_caught_L, od_caught_L, .func (PySem.W.fnOf "_law_caught" "_law_caught" (defArgs s_caught_L) (defBody s_caught_L) (defScope s_caught_L) .none kV_caught_L dc_caught_L pm_caught_L an_caught_L cd_caught_L ct_caught_L), sl_caught_L⟩)
    (c_caught_L : PySem.W.codeIn K cd_caught_L "_law_caught" = true)
    (k_caught_L : PySem.W.keepIn K (.ref f_caught_L) = true)
    (a_same_L : PySem.W.nsIn K mainGlobals "_law_same" = some (some (.ref f_same_L)))
    (l_same_L : K.lookup f_same_L = some ⟨oc_same_L, od_same_L, .func (PySem.W.fnOf "_law_same" "_law_same" (defArgs s_same_L) (defBody s_same_L) (defScope s_same_L) .none kV_same_L dc_same_L pm_same_L an_same_L cd_same_L ct_same_L), sl_same_L⟩)
    (c_same_L : PySem.W.codeIn K cd_same_L "_law_same" = true)
    (k_same_L : PySem.W.keepIn K (.ref f_same_L) = true)
    (a_word_right_L : PySem.W.nsIn K mainGlobals "_law_word_right" = some (some (.ref f_word_right_L)))
    (l_word_right_L : K.lookup f_word_right_L = some ⟨oc_word_right_L, od_word_right_L, .func (PySem.W.fnOf "_law_word_right" "_law_word_right" (defArgs s_word_right_L) (defBody s_word_right_L) (defScope s_word_right_L) .none kV_word_right_L dc_word_right_L pm_word_right_L an_word_right_L cd_word_right_L ct_word_right_L), sl_word_right_L⟩)
    (c_word_right_L : PySem.W.codeIn K cd_word_right_L "_law_word_right" = true)
    (k_word_right_L : PySem.W.keepIn K (.ref f_word_right_L) = true)
    (a_entry_right_L : PySem.W.nsIn K mainGlobals "_law_entry_right" = some (some (.ref f_entry_right_L)))
    (l_entry_right_L : K.lookup f_entry_right_L = some ⟨oc_entry_right_L, od_entry_right_L, .func (PySem.W.fnOf "_law_entry_right" "_law_entry_right" (defArgs s_entry_right_L) (defBody s_entry_right_L) (defScope s_entry_right_L) .none kV_entry_right_L dc_entry_right_L pm_entry_right_L an_entry_right_L cd_entry_right_L ct_entry_right_L), sl_entry_right_L⟩)
    (c_entry_right_L : PySem.W.codeIn K cd_entry_right_L "_law_entry_right" = true)
    (k_entry_right_L : PySem.W.keepIn K (.ref f_entry_right_L) = true)
    (a_bad_L : PySem.W.nsIn K mainGlobals "_law_bad" = some (some (.ref f_bad_L)))
    (l_bad_L : K.lookup f_bad_L = some ⟨oc_bad_L, od_bad_L, .func (PySem.W.fnOf "_law_bad" "_law_bad" (defArgs s_bad_L) (defBody s_bad_L) (defScope s_bad_L) .none kV_bad_L dc_bad_L pm_bad_L an_bad_L cd_bad_L ct_bad_L), sl_bad_L⟩)
    (c_bad_L : PySem.W.codeIn K cd_bad_L "_law_bad" = true)
    (k_bad_L : PySem.W.keepIn K (.ref f_bad_L) = true)
    (a_refused_right_L : PySem.W.nsIn K mainGlobals "_law_refused_right" = some (some (.ref f_refused_right_L)))
    (l_refused_right_L : K.lookup f_refused_right_L = some ⟨oc_refused_right_L, od_refused_right_L, .func (PySem.W.fnOf "_law_refused_right" "_law_refused_right" (defArgs s_refused_right_L) (defBody s_refused_right_L) (defScope s_refused_right_L) .none kV_refused_right_L dc_refused_right_L pm_refused_right_L an_refused_right_L cd_refused_right_L ct_refused_right_L), sl_refused_right_L⟩)
    (c_refused_right_L : PySem.W.codeIn K cd_refused_right_L "_law_refused_right" = true)
    (k_refused_right_L : PySem.W.keepIn K (.ref f_refused_right_L) = true)
    (a_op_refused_L : PySem.W.nsIn K mainGlobals "_law_op_refused" = some (some (.ref f_op_refused_L)))
    (l_op_refused_L : K.lookup f_op_refused_L = some ⟨oc_op_refused_L, od_op_refused_L, .func (PySem.W.fnOf "_law_op_refused" "_law_op_refused" (defArgs s_op_refused_L) (defBody s_op_refused_L) (defScope s_op_refused_L) .none kV_op_refused_L dc_op_refused_L pm_op_refused_L an_op_refused_L cd_op_refused_L ct_op_refused_L), sl_op_refused_L⟩)
    (c_op_refused_L : PySem.W.codeIn K cd_op_refused_L "_law_op_refused" = true)
    (k_op_refused_L : PySem.W.keepIn K (.ref f_op_refused_L) = true)
    (a_law : PySem.W.nsIn K mainGlobals "law" = some (some (.ref f_law)))
    (l_law : K.lookup f_law = some ⟨oc_law, od_law, .func (PySem.W.fnOf "law" "law" (defArgs s_law) (defBody s_law) (defScope s_law) .none kV_law dc_law pm_law an_law cd_law ct_law), sl_law⟩)
    (c_law : PySem.W.codeIn K cd_law "law" = true)
    (k_law : PySem.W.keepIn K (.ref f_law) = true)
    (cMOST : PySem.W.nsIn K mainGlobals "MOST" = some (some (.int 4095 t_most)))
    (cOPS : PySem.W.nsIn K mainGlobals "OPS" = some (some (.ref aOPS)))
    (lOPS : K.lookup aOPS = some ⟨.type "tuple", none, .seq #[.str "halt" tO0, .str "set" tO1, .str "load" tO2, .str "save" tO3, .str "from" tO4, .str "into" tO5, .str "add" tO6, .str "sub" tO7, .str "part" tO8, .str "jump" tO9, .str "base" tO10, .str "trap" tO11, .str "time" tO12, .str "out" tO13, .str "in" tO14, .str "wait" tO15] nO, slO⟩)
    (rd_G : PySem.W.readsIn K C_GuestError (.type "type") = true)
    (ga_G : PySem.W.specialIn K (.ref C_GuestError) "__getattribute__" = some (some (.builtin "type.__getattribute__")))
    (at_G : PySem.W.findCls K (.ref C_GuestError) (.type "type") "__init__" = some (.val (.ref f_GuestError_init)))
    (vV : PySem.W.findCls K (.type "ValueError") (.type "type") "__init__" = some (.val (.builtin "ValueError.__init__")))
    (xL_W : K.lookup C_NoWord = some (excClassObj nmW qW C_NoWord NW bsW [.ref C_GuestError, .type "ValueError", .type "Exception", .type "BaseException", .type "object"] true snW subW abW colW ddW wW0 wW1 wW2 wW3 wW5 "ValueError.__new__"))
    (sa_W : PySem.W.findIn K (.ref C_NoWord) "__setattr__" = some (some (.builtin "object.__setattr__")))
    (ex_W : PySem.W.subIn K (.ref C_NoWord) (.type "BaseException") = some true)
    (ty_W : PySem.W.typeIn K (.ref C_NoWord) = some (.type "type"))
    (kp_W : PySem.W.keepIn K (.ref C_NoWord) = true)
    (tf_W : PySem.W.typeIn K (.ref f_NoWord_init) = some (.type "function"))
    (nf_W : PySem.W.findIn K (.ref C_NoWord) "found" = some none)
    (hg_W : PySem.W.findIn K (.ref C_NoWord) "__getattribute__" = some (some (.builtin "BaseException.__getattribute__")))
    (hk_W : PySem.W.findIn K (.ref C_NoWord) "__getattr__" = some none)
    (hd_W : PySem.W.hasDictIn K C_NoWord = true)
    (xL_M : K.lookup C_NoNumber = some (excClassObj nmM qM C_NoNumber NM bsM [.ref C_GuestError, .type "ValueError", .type "Exception", .type "BaseException", .type "object"] true snM subM abM colM ddM wM0 wM1 wM2 wM3 wM5 "ValueError.__new__"))
    (sa_M : PySem.W.findIn K (.ref C_NoNumber) "__setattr__" = some (some (.builtin "object.__setattr__")))
    (ex_M : PySem.W.subIn K (.ref C_NoNumber) (.type "BaseException") = some true)
    (ty_M : PySem.W.typeIn K (.ref C_NoNumber) = some (.type "type"))
    (kp_M : PySem.W.keepIn K (.ref C_NoNumber) = true)
    (tf_M : PySem.W.typeIn K (.ref f_NoNumber_init) = some (.type "function"))
    (nf_M : PySem.W.findIn K (.ref C_NoNumber) "found" = some none)
    (hg_M : PySem.W.findIn K (.ref C_NoNumber) "__getattribute__" = some (some (.builtin "BaseException.__getattribute__")))
    (hk_M : PySem.W.findIn K (.ref C_NoNumber) "__getattr__" = some none)
    (hd_M : PySem.W.hasDictIn K C_NoNumber = true)
    (xL_O : K.lookup C_NoOp = some (excClassObj nmO qO C_NoOp NO bsO [.ref C_GuestError, .type "ValueError", .type "Exception", .type "BaseException", .type "object"] true snO subO abO colO ddO wO0 wO1 wO2 wO3 wO5 "ValueError.__new__"))
    (sa_O : PySem.W.findIn K (.ref C_NoOp) "__setattr__" = some (some (.builtin "object.__setattr__")))
    (ex_O : PySem.W.subIn K (.ref C_NoOp) (.type "BaseException") = some true)
    (ty_O : PySem.W.typeIn K (.ref C_NoOp) = some (.type "type"))
    (kp_O : PySem.W.keepIn K (.ref C_NoOp) = true)
    (tf_O : PySem.W.typeIn K (.ref f_NoOp_init) = some (.type "function"))
    (nf_O : PySem.W.findIn K (.ref C_NoOp) "found" = some none)
    (hg_O : PySem.W.findIn K (.ref C_NoOp) "__getattribute__" = some (some (.builtin "BaseException.__getattribute__")))
    (hk_O : PySem.W.findIn K (.ref C_NoOp) "__getattr__" = some none)
    (hd_O : PySem.W.hasDictIn K C_NoOp = true)
    (xL_T : K.lookup C_NoTruth = some (excClassObj nmT qT C_NoTruth NT bsT [.ref C_GuestError, .type "ValueError", .type "Exception", .type "BaseException", .type "object"] true snT subT abT colT ddT wT0 wT1 wT2 wT3 wT5 "ValueError.__new__"))
    (sa_T : PySem.W.findIn K (.ref C_NoTruth) "__setattr__" = some (some (.builtin "object.__setattr__")))
    (ex_T : PySem.W.subIn K (.ref C_NoTruth) (.type "BaseException") = some true)
    (ty_T : PySem.W.typeIn K (.ref C_NoTruth) = some (.type "type"))
    (kp_T : PySem.W.keepIn K (.ref C_NoTruth) = true)
    (tf_T : PySem.W.typeIn K (.ref f_NoTruth_init) = some (.type "function"))
    (nf_T : PySem.W.findIn K (.ref C_NoTruth) "found" = some none)
    (hg_T : PySem.W.findIn K (.ref C_NoTruth) "__getattribute__" = some (some (.builtin "BaseException.__getattribute__")))
    (hk_T : PySem.W.findIn K (.ref C_NoTruth) "__getattr__" = some none)
    (hd_T : PySem.W.hasDictIn K C_NoTruth = true)
    (s_W_W : PySem.W.subIn K (.ref C_NoWord) (.ref C_NoWord) = some true)
    (s_M_W : PySem.W.subIn K (.ref C_NoNumber) (.ref C_NoWord) = some false)
    (s_M_M : PySem.W.subIn K (.ref C_NoNumber) (.ref C_NoNumber) = some true)
    (s_O_W : PySem.W.subIn K (.ref C_NoOp) (.ref C_NoWord) = some false)
    (s_O_M : PySem.W.subIn K (.ref C_NoOp) (.ref C_NoNumber) = some false)
    (s_O_O : PySem.W.subIn K (.ref C_NoOp) (.ref C_NoOp) = some true)
    (s_T_W : PySem.W.subIn K (.ref C_NoTruth) (.ref C_NoWord) = some false)
    (s_T_M : PySem.W.subIn K (.ref C_NoTruth) (.ref C_NoNumber) = some false)
    (s_T_O : PySem.W.subIn K (.ref C_NoTruth) (.ref C_NoOp) = some false)
    (s_T_T : PySem.W.subIn K (.ref C_NoTruth) (.ref C_NoTruth) = some true)
    (uw : RelV (.bl false) u_entry_write)
    (z_isinstance : PySem.W.nsIn K mainGlobals "isinstance" = some none)
    (z_int : PySem.W.nsIn K mainGlobals "int" = some none)
    (z_bool : PySem.W.nsIn K mainGlobals "bool" = some none)
    (z_str : PySem.W.nsIn K mainGlobals "str" = some none)
    (z_list : PySem.W.nsIn K mainGlobals "list" = some none)
    (z_tuple : PySem.W.nsIn K mainGlobals "tuple" = some none)
    (z_len : PySem.W.nsIn K mainGlobals "len" = some none)
    (z_max : PySem.W.nsIn K mainGlobals "max" = some none)
    (z_min : PySem.W.nsIn K mainGlobals "min" = some none)
    (z_range : PySem.W.nsIn K mainGlobals "range" = some none)
    (z_enumerate : PySem.W.nsIn K mainGlobals "enumerate" = some none)
    (z_repr : PySem.W.nsIn K mainGlobals "repr" = some none)
    (z_ValueError : PySem.W.nsIn K mainGlobals "ValueError" = some none) :
    ∃ fd : FuncData, (∀ (s : Shared) (v : Value), BindsTo s fd ⟨[v], []⟩ [("_law_script", v)]) ∧ ∀ base : Heap, K.In base → base.Ns mainGlobals mg → FnG l.prog w K mg base CX0 9 fa fd ["_law_script"] (spLaw K) := by
  have e := hfa.symm.trans (PySem.W.mg_of X G a_law)
  cases e
  have mo : ∀ {x : Str} {u : Value}, PySem.W.nsIn K mainGlobals x = some (some u) → mg x = some u := fun q => PySem.W.mg_of X G q
  have mz : ∀ {x : Str}, PySem.W.nsIn K mainGlobals x = some none → mg x = none := fun q => PySem.W.mg_none_of X G q
  have F_GuestError_init := fun_mk (st := s_GuestError_init) l_GuestError_init c_GuestError_init k_GuestError_init
  have b_GuestError_init := F_GuestError_init.binds (ps := ["self", "text"]) fun _ _ _ _ _ _ us hl => match us, hl with | [_, _], _ => rfl
  have F_Missing_init := fun_mk (st := s_Missing_init) l_Missing_init c_Missing_init k_Missing_init
  have b_Missing_init := F_Missing_init.binds (ps := ["self", "text"]) fun _ _ _ _ _ _ us hl => match us, hl with | [_, _], _ => rfl
  have F_Barred_init := fun_mk (st := s_Barred_init) l_Barred_init c_Barred_init k_Barred_init
  have b_Barred_init := F_Barred_init.binds (ps := ["self", "text"]) fun _ _ _ _ _ _ us hl => match us, hl with | [_, _], _ => rfl
  have F_NoNumber_init := fun_mk (st := s_NoNumber_init) l_NoNumber_init c_NoNumber_init k_NoNumber_init
  have b_NoNumber_init := F_NoNumber_init.binds (ps := ["self", "found"]) fun _ _ _ _ _ _ us hl => match us, hl with | [_, _], _ => rfl
  have F_NoWord_init := fun_mk (st := s_NoWord_init) l_NoWord_init c_NoWord_init k_NoWord_init
  have b_NoWord_init := F_NoWord_init.binds (ps := ["self", "found"]) fun _ _ _ _ _ _ us hl => match us, hl with | [_, _], _ => rfl
  have F_NoOp_init := fun_mk (st := s_NoOp_init) l_NoOp_init c_NoOp_init k_NoOp_init
  have b_NoOp_init := F_NoOp_init.binds (ps := ["self", "found"]) fun _ _ _ _ _ _ us hl => match us, hl with | [_, _], _ => rfl
  have F_NoTruth_init := fun_mk (st := s_NoTruth_init) l_NoTruth_init c_NoTruth_init k_NoTruth_init
  have b_NoTruth_init := F_NoTruth_init.binds (ps := ["self", "found"]) fun _ _ _ _ _ _ us hl => match us, hl with | [_, _], _ => rfl
  have F_is_whole := fun_mk (st := s_is_whole) l_is_whole c_is_whole k_is_whole
  have b_is_whole := F_is_whole.binds (ps := ["thing", "low", "high"]) fun _ _ _ _ _ _ us hl => match us, hl with | [_, _, _], _ => rfl
  have F_is_word := fun_mk (st := s_is_word) l_is_word c_is_word k_is_word
  have b_is_word := F_is_word.binds (ps := ["thing"]) fun _ _ _ _ _ _ us hl => match us, hl with | [_], _ => rfl
  have F_check_number := fun_mk (st := s_check_number) l_check_number c_check_number k_check_number
  have b_check_number := F_check_number.binds (ps := ["thing", "low", "high"]) fun _ _ _ _ _ _ us hl => match us, hl with | [_, _, _], _ => rfl
  have F_check_word := fun_mk (st := s_check_word) l_check_word c_check_word k_check_word
  have b_check_word := F_check_word.binds (ps := ["thing"]) fun _ _ _ _ _ _ us hl => match us, hl with | [_], _ => rfl
  have F_parts_of := fun_mk (st := s_parts_of) l_parts_of c_parts_of k_parts_of
  have b_parts_of := F_parts_of.binds (ps := ["word"]) fun _ _ _ _ _ _ us hl => match us, hl with | [_], _ => rfl
  have F_code := fun_mk (st := s_code) l_code c_code k_code
  have b_code := F_code.binds (ps := ["op", "which", "rest"]) fun _ _ _ _ _ _ us hl => match us, hl with | [_, _, _], _ => rfl
  have F_op_of := fun_mk (st := s_op_of) l_op_of c_op_of k_op_of
  have b_op_of := F_op_of.binds (ps := ["name"]) fun _ _ _ _ _ _ us hl => match us, hl with | [_], _ => rfl
  have F_entry_parts := fun_mk (st := s_entry_parts) l_entry_parts c_entry_parts k_entry_parts
  have b_entry_parts := F_entry_parts.binds (ps := ["word"]) fun _ _ _ _ _ _ us hl => match us, hl with | [_], _ => rfl
  have F_cell_L := fun_mk (st := s_cell_L) l_cell_L c_cell_L k_cell_L
  have b_cell_L := F_cell_L.binds (ps := ["_law_script", "_law_k"]) fun _ _ _ _ _ _ us hl => match us, hl with | [_, _], _ => rfl
  have F_box_L := fun_mk (st := s_box_L) l_box_L c_box_L k_box_L
  have b_box_L := F_box_L.binds (ps := ["_law_cell_here"]) fun _ _ _ _ _ _ us hl => match us, hl with | [_], _ => rfl
  have F_take_L := fun_mk (st := s_take_L) l_take_L c_take_L k_take_L
  have b_take_L := F_take_L.binds (ps := ["_law_box_here", "_law_size"]) fun _ _ _ _ _ _ us hl => match us, hl with | [_, _], _ => rfl
  have F_names_L := fun_mk (st := s_names_L) l_names_L c_names_L k_names_L
  have b_names_L := F_names_L.binds (ps := []) fun _ _ _ _ _ _ us hl => match us, hl with | [], _ => rfl
  have F_caught_L := fun_mk (st := s_caught_L) l_caught_L c_caught_L k_caught_L
  have b_caught_L := F_caught_L.binds (ps := ["_law_way", "_law_things"]) fun _ _ _ _ _ _ us hl => match us, hl with | [_, _], _ => rfl
  have F_same_L := fun_mk (st := s_same_L) l_same_L c_same_L k_same_L
  have b_same_L := F_same_L.binds (ps := ["_law_caught_here", "_law_value", "_law_thing"]) fun _ _ _ _ _ _ us hl => match us, hl with | [_, _, _], _ => rfl
  have F_word_right_L := fun_mk (st := s_word_right_L) l_word_right_L c_word_right_L k_word_right_L
  have b_word_right_L := F_word_right_L.binds (ps := ["_law_value"]) fun _ _ _ _ _ _ us hl => match us, hl with | [_], _ => rfl
  have F_entry_right_L := fun_mk (st := s_entry_right_L) l_entry_right_L c_entry_right_L k_entry_right_L
  have b_entry_right_L := F_entry_right_L.binds (ps := ["_law_goal"]) fun _ _ _ _ _ _ us hl => match us, hl with | [_], _ => rfl
  have F_bad_L := fun_mk (st := s_bad_L) l_bad_L c_bad_L k_bad_L
  have b_bad_L := F_bad_L.binds (ps := ["_law_box_here", "_law_high"]) fun _ _ _ _ _ _ us hl => match us, hl with | [_, _], _ => rfl
  have F_refused_right_L := fun_mk (st := s_refused_right_L) l_refused_right_L c_refused_right_L k_refused_right_L
  have b_refused_right_L := F_refused_right_L.binds (ps := ["_law_box_here"]) fun _ _ _ _ _ _ us hl => match us, hl with | [_], _ => rfl
  have F_op_refused_L := fun_mk (st := s_op_refused_L) l_op_refused_L c_op_refused_L k_op_refused_L
  have b_op_refused_L := F_op_refused_L.binds (ps := ["_law_box_here"]) fun _ _ _ _ _ _ us hl => match us, hl with | [_], _ => rfl
  have F_law := fun_mk (st := s_law) l_law c_law k_law
  have oex : ∀ {C : Addr} {nm q : Str} {N : Addr} {bs : List Value} {sn : List Str} {sub : List Value} {ab : Bool} {col : Option Bool} {dd : Option Addr} {k0 k1 k2 k3 k5 : Option Value}, K.lookup C = some (excClassObj nm q C N bs [.ref C_GuestError, .type "ValueError", .type "Exception", .type "BaseException", .type "object"] true sn sub ab col dd k0 k1 k2 k3 k5 "ValueError.__new__") →
      PySem.W.findIn K (.ref C) "__setattr__" = some (some (.builtin "object.__setattr__")) → PySem.W.subIn K (.ref C) (.type "BaseException") = some true → PySem.W.typeIn K (.ref C) = some (.type "type") → PySem.W.keepIn K (.ref C) = true → OexC K C :=
    fun l a b c d => ⟨⟨_, _, _, _, _, _, _, _, _, _, _, _, _, _, _, l, (by show PySem.HandSPX.refsVE [.type "ValueError", .type "Exception", .type "BaseException", .type "object"] = true; decide +kernel)⟩, a, b, c, d⟩
  have T : Txt K mg { CG := C_GuestError, fG := f_GuestError_init, aOPS := aOPS, CM := C_NoNumber, fM := f_NoNumber_init, CW := C_NoWord, fW := f_NoWord_init, CO := C_NoOp, fO := f_NoOp_init, CT := C_NoTruth, fT := f_NoTruth_init } :=
    { m_isinstance := mz z_isinstance, m_int := mz z_int, m_bool := mz z_bool, m_str := mz z_str, m_list := mz z_list, m_tuple := mz z_tuple, m_len := mz z_len, m_max := mz z_max, m_min := mz z_min, m_range := mz z_range, m_enumerate := mz z_enumerate, m_repr := mz z_repr, m_ValueError := mz z_ValueError,
      c_MOST := ⟨_, mo cMOST, ⟨_, rfl⟩⟩, c_OPS := ⟨_, mo cOPS, rfl⟩, ops := fun H => .inr ⟨_, _, _, lOPS, rfl, rfl, (by show (16 : Nat) ≤ sizeLine; decide), .cons ⟨_, rfl⟩ (.cons ⟨_, rfl⟩ (.cons ⟨_, rfl⟩ (.cons ⟨_, rfl⟩ (.cons ⟨_, rfl⟩ (.cons ⟨_, rfl⟩ (.cons ⟨_, rfl⟩ (.cons ⟨_, rfl⟩ (.cons ⟨_, rfl⟩ (.cons ⟨_, rfl⟩ (.cons ⟨_, rfl⟩ (.cons ⟨_, rfl⟩ (.cons ⟨_, rfl⟩ (.cons ⟨_, rfl⟩ (.cons ⟨_, rfl⟩ (.cons ⟨_, rfl⟩ (.nil))))))))))))))))⟩, opsI := fun H => .inl ⟨.type "tuple", .kTuple lOPS rfl, kit_ty (by decide +kernel)⟩,
      g_GuestError := mo aC_GuestError, rd_GuestError := rd_G, ga_GuestError := ga_G, at_GuestError := at_G, vV := vV,
      g_NoNumber := mo aC_NoNumber, g_NoWord := mo aC_NoWord, g_NoOp := mo aC_NoOp, g_NoTruth := mo aC_NoTruth,
      xM := ⟨oex xL_M sa_M ex_M ty_M kp_M, a_NoNumber_init, tf_M, nf_M, ⟨hg_M, hk_M, ex_M, hd_M⟩⟩,
      xW := ⟨oex xL_W sa_W ex_W ty_W kp_W, a_NoWord_init, tf_W, nf_W, ⟨hg_W, hk_W, ex_W, hd_W⟩⟩,
      xO := ⟨oex xL_O sa_O ex_O ty_O kp_O, a_NoOp_init, tf_O, nf_O, ⟨hg_O, hk_O, ex_O, hd_O⟩⟩,
      xT := ⟨oex xL_T sa_T ex_T ty_T kp_T, a_NoTruth_init, tf_T, nf_T, ⟨hg_T, hk_T, ex_T, hd_T⟩⟩,
      eWW := PySem.W.exm_ref ex_W hd_W ty_W s_W_W, eMW := PySem.W.exm_ref ex_W hd_W ty_W s_M_W, eMM := PySem.W.exm_ref ex_M hd_M ty_M s_M_M, eOW := PySem.W.exm_ref ex_W hd_W ty_W s_O_W, eOM := PySem.W.exm_ref ex_M hd_M ty_M s_O_M, eOO := PySem.W.exm_ref ex_O hd_O ty_O s_O_O, eTW := PySem.W.exm_ref ex_W hd_W ty_W s_T_W, eTM := PySem.W.exm_ref ex_M hd_M ty_M s_T_M, eTO := PySem.W.exm_ref ex_O hd_O ty_O s_T_O, eTT := PySem.W.exm_ref ex_T hd_T ty_T s_T_T }
  have D_n : FunD K "entry" "entry" (defArgs s_entry) (defBody s_entry) (defScope s_entry) [] [("write", .bl false)] f_entry _ := ⟨⟨_, _, _, _, _, _, _, _, _, _, rfl, l_entry, c_entry, .inl ⟨rfl, rfl⟩, .inr ⟨D_entry, rfl, fun q hq => by
    rcases List.mem_cons.mp hq with e | hq
    · subst e; exact ⟨_, kd_entry_write, uw⟩
    · cases hq⟩⟩, k_entry⟩
  refine ⟨PySem.W.fnOf "law" "law" (defArgs s_law) (defBody s_law) (defScope s_law) .none kV_law dc_law pm_law an_law cd_law ct_law, fun s v => .of_eq rfl, fun base _ _ => ?_⟩
  have c_cell := CalD.mk' (P := l.prog) (w := w) (base := base) (mo a_cell_L) k_cell_L (ok_cell F_cell_L T) b_cell_L
  have c_box := CalD.mk' (P := l.prog) (w := w) (base := base) (mo a_box_L) k_box_L (ok_box F_box_L T) b_box_L
  have c_take := CalD.mk' (P := l.prog) (w := w) (base := base) (mo a_take_L) k_take_L (ok_take F_take_L T) b_take_L
  have o_GE : Own l.prog w K mg base CX0 1 f_GuestError_init _ ["self", "text"] (spGE K) := ⟨ok_GE F_GuestError_init T, b_GuestError_init, k_GuestError_init⟩
  have o_M : Own l.prog w K mg base CX0 2 f_NoNumber_init _ ["self", "found"] (spInit C_NoNumber) := ⟨ok_iM F_NoNumber_init T o_GE, b_NoNumber_init, k_NoNumber_init⟩
  have o_W : Own l.prog w K mg base CX0 2 f_NoWord_init _ ["self", "found"] (spInit C_NoWord) := ⟨ok_iW F_NoWord_init T o_GE, b_NoWord_init, k_NoWord_init⟩
  have o_O : Own l.prog w K mg base CX0 2 f_NoOp_init _ ["self", "found"] (spInit C_NoOp) := ⟨ok_iO F_NoOp_init T o_GE, b_NoOp_init, k_NoOp_init⟩
  have o_T : Own l.prog w K mg base CX0 2 f_NoTruth_init _ ["self", "found"] (spInit C_NoTruth) := ⟨ok_iT F_NoTruth_init T o_GE, b_NoTruth_init, k_NoTruth_init⟩
  have c_wh := CalD.mk' (P := l.prog) (w := w) (base := base) (mo a_is_whole) k_is_whole (ok_whole F_is_whole T) b_is_whole
  have c_iw := CalD.mk' (P := l.prog) (w := w) (base := base) (mo a_is_word) k_is_word (ok_isword F_is_word T c_wh) b_is_word
  have c_ck := CalX.mk' (P := l.prog) (w := w) (base := base) (mo a_check_word) k_check_word (ok_check F_check_word T c_iw o_W) b_check_word
  have c_cn := CalX.mk' (P := l.prog) (w := w) (base := base) (mo a_check_number) k_check_number (ok_ckn F_check_number T c_wh o_M) b_check_number
  have f_pa := ok_parts F_parts_of T c_ck
  have f_co := ok_code F_code T c_cn
  have f_op := ok_opof (P := l.prog) (w := w) (base := base) F_op_of T o_O
  have f_en := ok_entry D_n T c_cn o_T
  have f_ep := ok_entryP F_entry_parts T c_ck
  have c_pa := CalX.mk' (mo a_parts_of) k_parts_of f_pa b_parts_of
  have c_co := CalX.mk' (mo a_code) k_code f_co b_code
  have c_op := CalX.mk' (mo a_op_of) k_op_of f_op b_op_of
  have c_ep := CalX.mk' (mo a_entry_parts) k_entry_parts f_ep b_entry_parts
  have n_pa : CalNX l.prog w K mg base 5 ["word"] "parts_of" (spParts K C_NoWord) (fun _ zs => zs) := CalNX.mk' (mo a_parts_of) k_parts_of f_pa (kbPlain F_parts_of 0 ["word"] (fun _ zs => zs) (fun _ r => r) (fun _ _ _ _ _ _ us ws h1 h2 => match us, ws, h1, h2 with | [], [_], _, _ => rfl))
  have n_co : CalNX l.prog w K mg base 5 ["rest", "op", "which"] "code" (spCode K C_NoNumber) (fun _ zs => zs.drop 1 ++ zs.take 1) := CalNX.mk' (mo a_code) k_code f_co (kbPlain F_code 0 ["rest", "op", "which"] (fun _ zs => zs.drop 1 ++ zs.take 1) (fun _ r => (r.drop 1).append (r.take 1)) (fun _ _ _ _ _ _ us ws h1 h2 => match us, ws, h1, h2 with | [], [_, _, _], _, _ => rfl))
  have n_op : CalNX l.prog w K mg base 4 ["name"] "op_of" (spOp K C_NoOp) (fun _ zs => zs) := CalNX.mk' (mo a_op_of) k_op_of f_op (kbPlain F_op_of 0 ["name"] (fun _ zs => zs) (fun _ r => r) (fun _ _ _ _ _ _ us ws h1 h2 => match us, ws, h1, h2 with | [], [_], _, _ => rfl))
  have n_ep : CalNX l.prog w K mg base 5 ["word"] "entry_parts" (spEntryP K C_NoWord) (fun _ zs => zs) := CalNX.mk' (mo a_entry_parts) k_entry_parts f_ep (kbPlain F_entry_parts 0 ["word"] (fun _ zs => zs) (fun _ r => r) (fun _ _ _ _ _ _ us ws h1 h2 => match us, ws, h1, h2 with | [], [_], _, _ => rfl))
  have c_en : CalXD l.prog w K mg base 5 "entry" (spEntry K C_NoNumber C_NoTruth) [.bl false] := by
    obtain ⟨ds, v, b⟩ := D_n.binds0 (ps := ["room", "write"]) 1 (by simp) rfl fun _ _ _ _ _ _ us ks h1 h2 => (entry_chain (ws := [])).1 h1 h2
    exact ⟨_, _, _, ds, mo a_entry, k_entry, f_en, b, v⟩
  have m_en : CalMX l.prog w K mg base 5 1 ["write"] "entry" (spEntry K C_NoNumber C_NoTruth) (fun vs zs => vs ++ zs) := by
    obtain ⟨mv, b⟩ := kbinds0 (ps := ["room", "write"]) D_n 1 ["write"] [] (fun us _ ws => us ++ ws) (by simp) (by simp) (fun a b c => a.append c) fun _ _ _ _ _ _ us mv ws h1 h2 h3 => entry_chain.2.1 h1 h2 h3
    exact CalMX.mk' (mo a_entry) k_entry f_en b
  have n_en : CalNX l.prog w K mg base 5 ["write", "room"] "entry" (spEntry K C_NoNumber C_NoTruth) (fun _ zs => zs.reverse) := by
    obtain ⟨mv, b⟩ := kbinds0 (ps := ["room", "write"]) D_n 0 ["write", "room"] [] (fun _ _ ws => ws.reverse) (by simp) (by simp) (fun a b c => vals_rev c) fun _ _ _ _ _ _ us mv ws h1 h2 h3 => entry_chain.2.2 h1 h2 h3
    exact CalNX.mk' (mo a_entry) k_entry f_en b
  have c_nm := CalD.mk' (P := l.prog) (w := w) (base := base) (mo a_names_L) k_names_L (ok_names F_names_L T) b_names_L
  have c_ca := CalD.mk' (mo a_caught_L) k_caught_L (ok_caught F_caught_L T c_pa c_co c_op m_en c_ep) b_caught_L
  have c_sa := CalG.mk' (P := l.prog) (w := w) (base := base) (mo a_same_L) k_same_L (ok_same F_same_L T) b_same_L
  have c_bd := CalD.mk' (mo a_bad_L) k_bad_L (ok_bad F_bad_L T c_take) b_bad_L
  have c_wr := CalG.mk' (mo a_word_right_L) k_word_right_L (ok_wordR F_word_right_L T c_nm c_pa n_pa c_co n_co c_op n_op c_ep n_ep) b_word_right_L
  have c_er := CalG.mk' (mo a_entry_right_L) k_entry_right_L (ok_entR F_entry_right_L T c_en m_en n_en c_ep) b_entry_right_L
  have c_rr := CalG.mk' (mo a_refused_right_L) k_refused_right_L (ok_refused F_refused_right_L T c_take c_bd c_ca c_sa) b_refused_right_L
  have c_or := CalG.mk' (mo a_op_refused_L) k_op_refused_L (ok_opref F_op_refused_L T c_take c_nm c_op c_ca c_sa) b_op_refused_L
  exact ok_law F_law T c_cell c_box c_take c_nm c_wr c_er c_rr c_or
end K02
open PySem PySem.W PyProof.Rows
set_option maxHeartbeats 0 in
theorem PySem.Challenge.cw_guestsalone_k02_codes_and_entries_holds : PySem.Challenge.rw_guestsalone_k02_codes_and_entries.Holds := by
  w_on; o_law; k_head; (case hw => w_witness2)
  k_fill
  refine Bk.walk_ofG (l := PySem.Challenge.rw_guestsalone_k02_codes_and_entries) (n := 63) (k := 9) (x := "_law_script") (sp := fun w => K02.spLaw _) rfl (by decide) rfl ⟨rfl, by decide, by decide⟩ (fun w h Y => PySem.W.kIn_of Y) ?F (fun _ _ a ns hl _ hS => ⟨a, ns, rfl, hS, hl, fun _ => rfl⟩)
  case F =>
    intro w mg fa h KX G hmg
    refine' K02.all_mk KX G hmg ?aC_GuestError ?aC_Missing ?aC_Barred ?aC_NoNumber ?aC_NoWord ?aC_NoOp ?aC_NoTruth ?a_GuestError_init ?l_GuestError_init ?c_GuestError_init ?k_GuestError_init ?a_Missing_init ?l_Missing_init ?c_Missing_init ?k_Missing_init ?a_Barred_init ?l_Barred_init ?c_Barred_init ?k_Barred_init ?a_NoNumber_init ?l_NoNumber_init ?c_NoNumber_init ?k_NoNumber_init ?a_NoWord_init ?l_NoWord_init ?c_NoWord_init ?k_NoWord_init ?a_NoOp_init ?l_NoOp_init ?c_NoOp_init ?k_NoOp_init ?a_NoTruth_init ?l_NoTruth_init ?c_NoTruth_init ?k_NoTruth_init ?a_is_whole ?l_is_whole ?c_is_whole ?k_is_whole ?a_is_word ?l_is_word ?c_is_word ?k_is_word ?a_check_number ?l_check_number ?c_check_number ?k_check_number ?a_check_word ?l_check_word ?c_check_word ?k_check_word ?a_parts_of ?l_parts_of ?c_parts_of ?k_parts_of ?a_code ?l_code ?c_code ?k_code ?a_op_of ?l_op_of ?c_op_of ?k_op_of ?a_entry ?l_entry ?c_entry ?k_entry ?kd_entry_write ?a_entry_parts ?l_entry_parts ?c_entry_parts ?k_entry_parts ?a_cell_L ?l_cell_L ?c_cell_L ?k_cell_L ?a_box_L ?l_box_L ?c_box_L ?k_box_L ?a_take_L ?l_take_L ?c_take_L ?k_take_L ?a_names_L ?l_names_L ?c_names_L ?k_names_L ?a_caught_L ?l_caught_L ?c_caught_L ?k_caught_L ?a_same_L ?l_same_L ?c_same_L ?k_same_L ?a_word_right_L ?l_word_right_L ?c_word_right_L ?k_word_right_L ?a_entry_right_L ?l_entry_right_L ?c_entry_right_L ?k_entry_right_L ?a_bad_L ?l_bad_L ?c_bad_L ?k_bad_L ?a_refused_right_L ?l_refused_right_L ?c_refused_right_L ?k_refused_right_L ?a_op_refused_L ?l_op_refused_L ?c_op_refused_L ?k_op_refused_L ?a_law ?l_law ?c_law ?k_law ?cMOST ?cOPS ?lOPS ?rd_G ?ga_G ?at_G ?vV ?xL_W ?sa_W ?ex_W ?ty_W ?kp_W ?tf_W ?nf_W ?hg_W ?hk_W ?hd_W ?xL_M ?sa_M ?ex_M ?ty_M ?kp_M ?tf_M ?nf_M ?hg_M ?hk_M ?hd_M ?xL_O ?sa_O ?ex_O ?ty_O ?kp_O ?tf_O ?nf_O ?hg_O ?hk_O ?hd_O ?xL_T ?sa_T ?ex_T ?ty_T ?kp_T ?tf_T ?nf_T ?hg_T ?hk_T ?hd_T ?s_W_W ?s_M_W ?s_M_M ?s_O_W ?s_O_M ?s_O_O ?s_T_W ?s_T_M ?s_T_O ?s_T_T ?uw ?z_isinstance ?z_int ?z_bool ?z_str ?z_list ?z_tuple ?z_len ?z_max ?z_min ?z_range ?z_enumerate ?z_repr ?z_ValueError
    (case aC_GuestError => k_is)
    (case aC_Missing => k_is)
    (case aC_Barred => k_is)
    (case aC_NoNumber => k_is)
    (case aC_NoWord => k_is)
    (case aC_NoOp => k_is)
    (case aC_NoTruth => k_is)
    (case a_GuestError_init => k_is)
    (case l_GuestError_init => k_is)
    (case c_GuestError_init => k_is)
    (case k_GuestError_init => k_is)
    (case a_Missing_init => k_is)
    (case l_Missing_init => k_is)
    (case c_Missing_init => k_is)
    (case k_Missing_init => k_is)
    (case a_Barred_init => k_is)
    (case l_Barred_init => k_is)
    (case c_Barred_init => k_is)
    (case k_Barred_init => k_is)
    (case a_NoNumber_init => k_is)
    (case l_NoNumber_init => k_is)
    (case c_NoNumber_init => k_is)
    (case k_NoNumber_init => k_is)
    (case a_NoWord_init => k_is)
    (case l_NoWord_init => k_is)
    (case c_NoWord_init => k_is)
    (case k_NoWord_init => k_is)
    (case a_NoOp_init => k_is)
    (case l_NoOp_init => k_is)
    (case c_NoOp_init => k_is)
    (case k_NoOp_init => k_is)
    (case a_NoTruth_init => k_is)
    (case l_NoTruth_init => k_is)
    (case c_NoTruth_init => k_is)
    (case k_NoTruth_init => k_is)
    (case a_is_whole => k_is)
    (case l_is_whole => k_is)
    (case c_is_whole => k_is)
    (case k_is_whole => k_is)
    (case a_is_word => k_is)
    (case l_is_word => k_is)
    (case c_is_word => k_is)
    (case k_is_word => k_is)
    (case a_check_number => k_is)
    (case l_check_number => k_is)
    (case c_check_number => k_is)
    (case k_check_number => k_is)
    (case a_check_word => k_is)
    (case l_check_word => k_is)
    (case c_check_word => k_is)
    (case k_check_word => k_is)
    (case a_parts_of => k_is)
    (case l_parts_of => k_is)
    (case c_parts_of => k_is)
    (case k_parts_of => k_is)
    (case a_code => k_is)
    (case l_code => k_is)
    (case c_code => k_is)
    (case k_code => k_is)
    (case a_op_of => k_is)
    (case l_op_of => k_is)
    (case c_op_of => k_is)
    (case k_op_of => k_is)
    (case a_entry => k_is)
    (case l_entry => k_is)
    (case c_entry => k_is)
    (case k_entry => k_is)
    (case kd_entry_write => k_is)
    (case a_entry_parts => k_is)
    (case l_entry_parts => k_is)
    (case c_entry_parts => k_is)
    (case k_entry_parts => k_is)
    (case a_cell_L => k_is)
    (case l_cell_L => k_is)
    (case c_cell_L => k_is)
    (case k_cell_L => k_is)
    (case a_box_L => k_is)
    (case l_box_L => k_is)
    (case c_box_L => k_is)
    (case k_box_L => k_is)
    (case a_take_L => k_is)
    (case l_take_L => k_is)
    (case c_take_L => k_is)
    (case k_take_L => k_is)
    (case a_names_L => k_is)
    (case l_names_L => k_is)
    (case c_names_L => k_is)
    (case k_names_L => k_is)
    (case a_caught_L => k_is)
    (case l_caught_L => k_is)
    (case c_caught_L => k_is)
    (case k_caught_L => k_is)
    (case a_same_L => k_is)
    (case l_same_L => k_is)
    (case c_same_L => k_is)
    (case k_same_L => k_is)
    (case a_word_right_L => k_is)
    (case l_word_right_L => k_is)
    (case c_word_right_L => k_is)
    (case k_word_right_L => k_is)
    (case a_entry_right_L => k_is)
    (case l_entry_right_L => k_is)
    (case c_entry_right_L => k_is)
    (case k_entry_right_L => k_is)
    (case a_bad_L => k_is)
    (case l_bad_L => k_is)
    (case c_bad_L => k_is)
    (case k_bad_L => k_is)
    (case a_refused_right_L => k_is)
    (case l_refused_right_L => k_is)
    (case c_refused_right_L => k_is)
    (case k_refused_right_L => k_is)
    (case a_op_refused_L => k_is)
    (case l_op_refused_L => k_is)
    (case c_op_refused_L => k_is)
    (case k_op_refused_L => k_is)
    (case a_law => k_is)
    (case l_law => k_is)
    (case c_law => k_is)
    (case k_law => k_is)
    (case cMOST => k_is)
    (case cOPS => k_is)
    (case lOPS => k_is)
    (case rd_G => k_is)
    (case ga_G => k_is)
    (case at_G => k_is)
    (case vV => k_is)
    (case xL_W => k_is)
    (case sa_W => k_is)
    (case ex_W => k_is)
    (case ty_W => k_is)
    (case kp_W => k_is)
    (case tf_W => k_is)
    (case nf_W => k_is)
    (case hg_W => k_is)
    (case hk_W => k_is)
    (case hd_W => k_is)
    (case xL_M => k_is)
    (case sa_M => k_is)
    (case ex_M => k_is)
    (case ty_M => k_is)
    (case kp_M => k_is)
    (case tf_M => k_is)
    (case nf_M => k_is)
    (case hg_M => k_is)
    (case hk_M => k_is)
    (case hd_M => k_is)
    (case xL_O => k_is)
    (case sa_O => k_is)
    (case ex_O => k_is)
    (case ty_O => k_is)
    (case kp_O => k_is)
    (case tf_O => k_is)
    (case nf_O => k_is)
    (case hg_O => k_is)
    (case hk_O => k_is)
    (case hd_O => k_is)
    (case xL_T => k_is)
    (case sa_T => k_is)
    (case ex_T => k_is)
    (case ty_T => k_is)
    (case kp_T => k_is)
    (case tf_T => k_is)
    (case nf_T => k_is)
    (case hg_T => k_is)
    (case hk_T => k_is)
    (case hd_T => k_is)
    (case s_W_W => k_is)
    (case s_M_W => k_is)
    (case s_M_M => k_is)
    (case s_O_W => k_is)
    (case s_O_M => k_is)
    (case s_O_O => k_is)
    (case s_T_W => k_is)
    (case s_T_M => k_is)
    (case s_T_O => k_is)
    (case s_T_T => k_is)
    (case uw => exact rfl)
    (case z_isinstance => k_is)
    (case z_int => k_is)
    (case z_bool => k_is)
    (case z_str => k_is)
    (case z_list => k_is)
    (case z_tuple => k_is)
    (case z_len => k_is)
    (case z_max => k_is)
    (case z_min => k_is)
    (case z_range => k_is)
    (case z_enumerate => k_is)
    (case z_repr => k_is)
    (case z_ValueError => k_is)
