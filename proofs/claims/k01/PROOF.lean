import PyProof.Rows.All
import Wide.All
import OpenK.AllK
import Wide.FinOn
import HandS.Base
import HandS.Call
import HandS.List
import HandS.Comp
import HandS.Ends
import HandS.Dict
import HandS.Iter
import HandS.Text
import HandS.Words
import HandS.Wide
import HandS.Flow
import HandS.Style
import HandS.IsInst
import HandS.ExcInit
import HandS.ExcIs
import HandS.Defaults
import HandS.Walk
import HandS.Codes
import KE.IntTextLaws
import HandS.Zip
import PySem.Challenge.RW_guestsalone_k01_words_of_anything
set_option Elab.async false
set_option linter.all false
set_option maxRecDepth 100000
set_option maxHeartbeats 8000000
namespace Bk
open PySem PySem.Spec PyProof.Rows L2
/-! ## 1. rules of our own -/
section
variable {X : Cx} {CX : CXT} {k n : Nat} {f : Addr} {fd : FuncData} {ps ks : List Str} {sp : Sp} {E : XK} {x m : Str} {p p1 p2 pos : Pos} {e : Expr} {es : List Expr} {kws : List Keyword} {t tk ta : TA} {g : List Value → List Value → List Value} {gV : List V → List V → List V}
/-- f(k = v, ..): keywords alone -/
theorem pe_callN0 (F : FnOk X.prog X.w X.K X.mg X.base CX k f fd ps sp) (hr : Room k X.A) (hg : Gl X x) (hm : X.mg x = some (.ref f)) (hk : PySem.W.keepIn X.K (.ref f) = true) (hb : KBn X.K fd ps 0 ks g gV) (hx : Passes CX X E)
    (hkw : PK X kws tk) (hall : (backToKw pos (keywordEach kws X.env)).all (·.1.isSome) = true := by rfl) (hks : (backToKw pos (keywordEach kws X.env)).filterMap (·.1) = ks := by rfl)
    (hdb : (x == ("__debug__" : Str)) = false := by decide)
    (hpl : ((backTo pos (starEach [] X.env)).any (·.1) || (backToKw pos (keywordEach kws X.env)).any (·.1.isNone)) = false := by rfl) :
    PE X (.Call (.Name x p) [] kws pos) (tCallN 0 ks.length sp gV E tNil tk) := by
  refine ⟨fun pins s σ H Q I h => ?_⟩
  refine wpAny_Call_Name_kw (ld_glob I hg hm ?_ hdb)
  refine PySem.W.callWith_KW0 (h₀ := X.base) I.ok.mod.kin hk hall ?_ hpl
  refine thn (hkw.run pos pins s σ H _ I h) fun ws s2 ⟨zs, H2, I2, rz, l1, l2, q2⟩ => ⟨I2.kIn, ?_⟩
  rw [hks]
  exact run_fnN (us := []) (vs := []) F hr hb hx I2 .nil rz rfl l2 q2
/-- C.m(e, ..): m a plain def of the class at B (or above it), read off the class -/
theorem pe_cdef {B : Addr} {mc : Value} {ds : List Value} {dvs : List V} {pl : Sem Bool} (F : FnOk X.prog X.w X.K X.mg X.base CX k f fd ps sp) (hr : Room k X.A) (hg : Gl X x) (hm : X.mg x = some (.ref B))
    (rd : PySem.W.readsIn X.K B mc = true) (ga : PySem.W.specialIn X.K (.ref B) "__getattribute__" = some (some (.builtin "type.__getattribute__"))) (at_ : PySem.W.findCls X.K (.ref B) mc m = some (.val (.ref f)))
    (hk : PySem.W.keepIn X.K (.ref f) = true) (hb : Binds X.K fd ps ds) (hd : Vals dvs ds) (hx : Passes CX X E) (ha : PA X (e :: es) t)
    (ht : eval (.Call (.Attribute (.Name x p1) m p2) (e :: es) [] pos) X.env = (do
      let ov ← eval (.Name x p1) X.env
      standAt p2.atName
      let (f, first) ← holding [ov] (getMethod ov m pl)
      callWith pos f first (backTo pos (starEach (e :: es) X.env)) (backToKw pos (keywordEach [] X.env))) := by rfl)
    (hdb : (x == ("__debug__" : Str)) = false := by decide) (he : starEach (e :: es) X.env = (false, eval e X.env) :: starEach es X.env := by rfl) (hpl : (backTo pos (starEach es X.env)).any (·.1) = false := by rfl) :
    PE X (.Call (.Attribute (.Name x p1) m p2) (e :: es) [] pos) (tCall sp dvs E t) := by
  refine ⟨fun pins s σ H Q I h => ?_⟩
  refine PySem.W.methodCall_KW (pl := pl) (ld_glob I hg hm ?_ hdb) ht
  refine PySem.W.method_cls I.kIn ga (PySem.W.cls_value I.kIn rd at_ rfl ?_)
  have I1 := I.tok (s.toks + 1)
  refine PySem.W.callWith_K (h₀ := X.base) I.ok.mod.kin hk (thn (ha.run pos pins _ σ H _ I1 h) fun us s1 ⟨vs, H1, I2, r, q⟩ => ⟨I2.kIn, ?_⟩) he hpl
  exact run_fn F hr hb hd hx I2 r q
/-- C(e, ..) as a value, C an own exception class under ValueError whose own __init__ keeps sp -/
def tMkV (C : Addr) (sp : Sp) (dvs : List V) (ta : TA) : TE := fun σ H Q => ta σ H fun vs H1 => vs.length ≤ 1000 ∧ ∀ a, H1 a = none → sp (.ref a :: (vs ++ dvs)) (upd H1 a (exo a C none)) (fun v H2 => v = .non ∧ Q (.ref a) H2) (fun _ _ _ => False)
theorem pe_oex {C fI : Addr} {ds : List Value} {dvs : List V} (T : OexC X.K C) (iC : PySem.W.findIn X.K (.ref C) "__init__" = some (some (.ref fI))) (tI : PySem.W.typeIn X.K (.ref fI) = some (.type "function"))
    (F1 : FnOk X.prog X.w X.K X.mg X.base CX k fI fd ps sp) (hr : Room (k + 1) X.A) (hb : Binds X.K fd ps ds) (hd : Vals dvs ds) (hx : Passes CX X (fun _ _ _ => False)) (hg : Gl X x) (hm : X.mg x = some (.ref C)) (ha : PA X (e :: es) ta)
    (hdb : (x == ("__debug__" : Str)) = false := by decide) (he : starEach (e :: es) X.env = (false, eval e X.env) :: starEach es X.env := by rfl) (hpl : (backTo pos (starEach es X.env)).any (·.1) = false := by rfl) :
    PE X (.Call (.Name x p) (e :: es) [] pos) (tMkV C sp dvs ta) := by
  refine ⟨fun pins s σ H Q I h => ?_⟩
  obtain ⟨nm, q, N, bs, bm, sn, sub, ab, col, dd, k0, k1, k2, k3, k5, hC, hbm⟩ := T.cls
  refine wpAny_Call_Name_kw (ld_glob I hg hm ?_ hdb)
  refine PySem.W.callWith_K (h₀ := X.base) I.ok.mod.kin T.kC (thn (ha.run pos pins s σ H _ I h) fun us s1 ⟨vs, H1, I1, r1, hz, q1⟩ => ⟨I1.kIn, ?_⟩) he hpl
  show wpAny _ _ (call (.ref C) us) _ _ _
  obtain ⟨hp, g, dr, tk, os⟩ := s1
  have hsz : hp.objs.size ≤ hp.objs.size + 1 := Nat.le_succ _
  have hn : H1 (hp.objs.size + 1) = none := I1.hok.fresh hsz
  have hq := q1 (hp.objs.size + 1) hn
  have kk : ∀ b o, hp.get? b = some o → ((hp.push (PySem.W.kdv_tup us)).push (PySem.HandSPX.excO C hp.objs.size)).get? b = some o := fun b o e => Heap.get?_push_of_some _ (Heap.get?_push_of_some _ e)
  have hget : ((hp.push (PySem.W.kdv_tup us)).push (PySem.HandSPX.excO C hp.objs.size)).get? (hp.objs.size + 1) = some (PySem.HandSPX.excO C hp.objs.size) := by heap_get
  have I2 : Inv X pins σ (upd H1 (hp.objs.size + 1) (exo (hp.objs.size + 1) C none)) ⟨(hp.push (PySem.W.kdv_tup us)).push (PySem.HandSPX.excO C hp.objs.size), g, dr, tk, os⟩ :=
    I1.laid (t' := tk) (a := hp.objs.size + 1) (o := exo (hp.objs.size + 1) C none) (h' := (hp.push (PySem.W.kdv_tup us)).push (PySem.HandSPX.excO C hp.objs.size)) kk hsz (exo_ok hget)
  have r2 : Vals (V.ref (hp.objs.size + 1) :: (vs ++ dvs)) (Value.ref (hp.objs.size + 1) :: (us ++ ds)) := .cons rfl (r1.append hd)
  have hl : (Value.ref (hp.objs.size + 1) :: us ++ ds).length = ps.length := by
    have e := r2.length
    rw [F1.len _ _ _ _ hq] at e
    exact e.symm
  have hus : us.length ≤ sizeLine := by
    rw [← Paired.length r1, sizeLine_eq]
    omega
  refine wpAny_call (PySem.HandSPX.call_own F.excBase_ValueError (fun Y => PySem.HandSPX.refsVE_contains Y bm hbm) (I1.kIn _ _ hC) (PySem.W.looks_findIn I1.kIn iC) (fun self => PySem.W.bind_fn I1.kIn self tI) hus
    (codeAny_mono (F1.run _ X.stack _ _ ⟨Value.ref (hp.objs.size + 1) :: us, []⟩ (Value.ref (hp.objs.size + 1) :: (us ++ ds)) _ _ (fun _ _ _ => False) (hr.make C us []) (I2.env0.make C us []) (hb _ (Value.ref (hp.objs.size + 1) :: us) I2.kIn hl) r2 hq) fun r s' hq' => ?_))
  cases r with
  | error er => exact hx pins σ _ _ er s' I2 hq'
  | ok fl =>
    cases fl with
    | ret u =>
      obtain ⟨v, H2, I3, rv, ev, q2⟩ := I2.after hq'
      subst ev
      exact ⟨rv, .ref (hp.objs.size + 1), H2, I3, rfl, q2⟩
    | next => exact False.elim hq'
    | brk => exact False.elim hq'
    | cont => exact False.elim hq'
/-- repr of a truth -/
def reprB (b : Bool) : Str := if b then "True" else "False"
theorem reprB_inj {a b : Bool} : decide (V.str (reprB a) = V.str (reprB b)) = decide (a = b) := by
  cases a <;> cases b <;> decide +kernel
theorem call_repr_bl : CallR X (.builtin "repr") (fun xs H Q => ∃ b, xs = [.bl b] ∧ Q (.str (reprB b)) H) := by
  intro pins s σ H xs us Q I r h
  obtain ⟨b, rfl, q⟩ := h
  obtain ⟨u, rfl, rfl⟩ := vals1 r
  exact PySem.P.repr_of_bool ⟨.str _, H, I.tok _, ⟨_, rfl⟩, q⟩
end
/-! ### an exception as a value: isinstance, its field -/
end Bk
namespace PySem.W
open PySem PySem.Spec PySem.Calls PyProof.Rows
section
variable {prog : Program} {w : World} {A : Around} {E : Value → Shared → Prop} {s : Shared} {K : Frag} {x D : Addr} {ox : Obj} {od : Option Obj}
theorem bk_findObj {C : Addr} {name : Str} {a g : Value} (hc : (clsIn K C).isSome = true) (ha : findIn K (.ref C) name = some (some a)) (hg : specialIn K a "__get__" = some (some g)) (ht : takesIn K a = some true) : findObj K C od name = some (.bind g a) := by
  obtain ⟨cd, hc⟩ := Option.isSome_iff_exists.mp hc
  unfold findObj
  rw [hc, Option.bind_some, ha, Option.bind_some]
  simp [hg, ht]
theorem bk_class {Q : Option Value → Shared → Prop} (hga : findIn K (.ref D) "__getattribute__" = some (some (.builtin "BaseException.__getattribute__"))) (hgt : findIn K (.ref D) "__getattr__" = some none) (hsub : subIn K (.ref D) (.type "BaseException") = some true)
    (hdct : hasDictIn K D = true) (ha : findIn K (.ref D) "__class__" = some (some (.builtin "object.__class__")))
    (hn : specialIn K (.builtin "object.__class__") "__get__" = some (some (.builtin "getset_descriptor.__get__"))) (htk : takesIn K (.builtin "object.__class__") = some true) (hm : mroIn K D (.type "object") = some true)
    (X : K.In s.heap) (I : InstAt s.heap x ox D od) (h : Q (some (.ref D)) { s with toks := s.toks + 1 }) : wpAny (model prog w) A (getAttr? (.ref x) "__class__") Q E s := by
  have hf : findObj K D od "__class__" = some (.bind (.builtin "getset_descriptor.__get__") (.builtin "object.__class__")) := bk_findObj (by obtain ⟨cd, hc, _⟩ := any_some hdct; rw [hc]; rfl) ha hn htk
  obtain ⟨hp, g, d, t, os⟩ := s
  have L0 := I.type (M := model prog w)
  have L1 := looks_findIn (M := model prog w) X hga
  have L2 := looks_findIn (M := model prog w) X hgt
  have L3 := looks_find (M := model prog w) X I hf
  have sub : Looks (model prog w) hp (isInstance (.ref x) (.type "BaseException")) true := L0.andThen (looks_subIn X hsub)
  have hx0 : (false && onTheHeap (Value.builtin "BaseException.__getattribute__")) = false := rfl
  have hx2 : (Value.builtin "BaseException.__getattribute__" == Value.builtin "object.__getattribute__") = false := by decide +kernel
  have hx1 : (onTheHeap (Value.ref D) && Value.builtin "BaseException.__getattribute__" == Value.builtin "object.__getattribute__") = false := by rw [hx2]; rfl
  unfold getAttr? getAttrBy? getAttrBy
  refine wpAny_bind (wpAny_mkText (wpAny_bind (wpAny_attempt (wpAny_holding (wpAny_bind (L0.at (wpAny_bind (L1.at ?_))))))))
  show wpAny _ _ (if (onTheHeap (Value.ref D) && Value.builtin "BaseException.__getattribute__" == Value.builtin "object.__getattribute__") = true then _ else _) _ _ _
  rw [hx1, if_neg Bool.false_ne_true]
  unfold getAttrByItsOwn hookBefore
  refine wpAny_bind ?_
  rw [if_pos (show onTheHeap (Value.ref D) = true from rfl)]
  refine L2.at ?_
  refine wpAny_bind (wpAny_attempt (wpAny_holding ?_))
  unfold callGetattribute
  rw [hx0, if_neg Bool.false_ne_true]
  unfold boundAndCalled
  rw [PySem.F.excAttr_ValueError.ga.bind (.ref x)]
  refine wpAny_bind (wpAny_pure ?_)
  show wpAny _ _ (call (.builtin "BaseException.__getattribute__") [.ref x, .str "__class__" t]) _ _ _
  refine wpAny_call (codeAny_call_builtin PySem.F.excAttr_ValueError.ga.plain PySem.F.entry_bexc_ga ?_)
  refine @check_slot (model prog w) _ _ ⟨hp, g, d, t + 1, os⟩ "BaseException.__getattribute__" "BaseException" "__getattribute__" (.ref x) [.str "__class__" t] [] _ (by decide +kernel) (by decide +kernel) sub (PySem.F.args_bexc_ga (.ref x) (.str "__class__" t)) ?_
  unfold Builtin.«object.__getattribute__»
  refine wpAny_bind (wpAny_of_eq (a := ((Value.ref x : Value), [Value.str "__class__" t])) (by first | rfl | (simp only [slotArgs]; rfl)) ?_)
  refine wpAny_bind (wpAny_pure (wpAny_bind (L0.at (wpAny_bind (L3.at ?_)))))
  show wpAny _ _ (holding [Value.builtin "object.__class__"] (call (.builtin "getset_descriptor.__get__") [.builtin "object.__class__", .ref x, .ref D]) >>= ret) _ _ _
  refine wpAny_bind (wpAny_holding (wpAny_call (class_get (s := ⟨hp, g, d, t + 1, os⟩) (ox := ox) (od := od) X I hm ?_)))
  refine wpAny_pure ?_
  show wpAny _ _ (handedOut (.ref D)) _ _ _
  rw [handedOut_of (v := .ref D) rfl]
  first
    | exact wpAny_pure (wpAny_pure h)
    | exact wpAny_pure h
    | exact wpAny_pure (wpAny_bind (wpAny_pure (wpAny_pure h)))
theorem bk_kitx (hga : findIn K (.ref D) "__getattribute__" = some (some (.builtin "BaseException.__getattribute__"))) (hgt : findIn K (.ref D) "__getattr__" = some none) (hsub : subIn K (.ref D) (.type "BaseException") = some true) (hdct : hasDictIn K D = true) (ha : findIn K (.ref D) "__class__" = some (some (.builtin "object.__class__")))
    (hn : specialIn K (.builtin "object.__class__") "__get__" = some (some (.builtin "getset_descriptor.__get__"))) (htk : takesIn K (.builtin "object.__class__") = some true) (hm : mroIn K D (.type "object") = some true) :
    KitX K (.ref x) (.ref D) (fun h => InstAt h x ox D od) where
  ty := fun _ _ _ I => I.type
  it := fun _ _ X _ => by
    obtain ⟨cdD, hcD, _⟩ := any_some hdct
    unfold clsIn at hcD
    split at hcD
    · rename_i c' d' cd' sl' ho
      intro A' Q' E' s' k q
      unfold isType loadHead
      exact wpAny_bind (wpAny_loadPart (k _ _ (X _ _ ho)) (wpAny_pure q))
    · cases hcD
  ne := fun h tp dd its n sl X htp => by
    obtain ⟨cdD, hcD, _⟩ := any_some hdct
    refine Bool.eq_false_iff.mpr fun q => ?_
    have e : D = tp := Value.ref.inj (beq_iff_eq.mp q)
    subst e
    unfold clsIn at hcD
    split at hcD
    · rename_i c' d' cd' sl' ho
      have z := (X _ _ ho).symm.trans htp
      cases z
    · cases hcD
  ca := fun X I k => bk_class hga hgt hsub hdct ha hn htk hm X I k
end
end PySem.W
namespace Bk
open PySem PySem.Spec PyProof.Rows L2
/-- at a: an exception of the class at D, its own dict (at dx) holds fs -/
def XV (H : Hp) (a D dx : Addr) (fs : List (Str × V)) : Prop := H a = some (exo a D (some dx)) ∧ H dx = some (exd dx fs)
theorem xv_inst {X : Cx} {pins : List (Addr × Obj)} {σ : L2.St} {H : Hp} {s : Shared} {a D dx : Addr} {fs : List (Str × V)} (I : Inv X pins σ H s) (h : XV H a D dx fs) :
    ∃ (ox od : Obj) (mA : Str → Option Value), PySem.W.InstAt s.heap a ox D (some od) ∧ (∀ f, PySem.W.lookIn f od = some (mA f)) ∧ ∀ f, RelO (fs.lookup f) (mA f) := by
  obtain ⟨t1, ho⟩ := exo_at I.hok h.1
  obtain ⟨mA, hns, rel⟩ := exd_at I.hok h.2
  obtain ⟨od, hod, hl⟩ := lookIn_ns hns
  exact ⟨_, od, mA, ⟨ho, rfl, rfl, hod⟩, hl, rel⟩
/-- isinstance(e, c), e such an exception -/
def rIsX (K : PySem.W.Frag) : List V → Hp → VK → Prop := fun xs H Q => ∃ (a D dx : Addr) (fs : List (Str × V)) (c : V) (u : Value) (b : Bool), xs = [.ref a, c] ∧ XV H a D dx fs ∧ ExcC K D ∧ ClsV c u ∧ PySem.W.kitOne K (.ref D) u = some b ∧ Q (.bl b) H
theorem call_isX {X : Cx} : CallR X (.builtin "isinstance") (rIsX X.K) := by
  intro pins s σ H xs us Q I r h
  obtain ⟨a, D, dx, fs, c, u, b, rfl, xv, C, k, e, q⟩ := h
  obtain ⟨u1, u2, rfl, r1, r2⟩ := vals2 r
  have e2 := k.eq r2
  subst e2
  obtain rfl : u1 = Value.ref a := r1
  obtain ⟨ox, od, mA, J, _, _⟩ := xv_inst I xv
  exact PySem.W.kia_one (PySem.W.bk_kitx (ox := ox) (od := some od) C.hg C.hk C.hs C.hd C.ha C.hn C.ht C.hm) I.kIn J e (fun z => nomatch z) fun tk => ⟨.bl b, H, I.tok tk, rfl, q⟩
/-- isinstance of a value of any form met here -/
def rIs (K : PySem.W.Frag) : List V → Hp → VK → Prop := fun xs H Q => rIsi K xs H Q ∨ rIsX K xs H Q
theorem call_is {X : Cx} : CallR X (.builtin "isinstance") (rIs X.K) := CallR.or call_isi call_isX
end Bk

namespace Bk
open PySem PySem.Spec PyProof.Rows L2
/-! ## 2. a def that may be called by its name -/
structure Cal (P : Program) (w : World) (K : PySem.W.Frag) (mg : Str → Option Value) (base : Heap) (CX : CXT) (k : Nat) (x : Str) (sp : Sp) : Prop where
  ex : ∃ (f : Addr) (fd : FuncData) (ps : List Str) (ds : List Value) (dvs : List V), mg x = some (.ref f) ∧ PySem.W.keepIn K (.ref f) = true ∧ FnOk P w K mg base CX k f fd ps (fun vs H Q E => sp vs H Q E ∧ vs.length = ps.length) ∧ Binds K fd ps [] ∧ ds = [] ∧ dvs = []
/-- the same with keywords: n values by places, then those of the keywords ks; gV orders them -/
structure CalN (P : Program) (w : World) (K : PySem.W.Frag) (mg : Str → Option Value) (base : Heap) (CX : CXT) (k n : Nat) (ks : List Str) (x : Str) (sp : Sp) (gV : List V → List V → List V) : Prop where
  ex : ∃ (f : Addr) (fd : FuncData) (ps : List Str) (g : List Value → List Value → List Value), mg x = some (.ref f) ∧ PySem.W.keepIn K (.ref f) = true ∧ FnOk P w K mg base CX k f fd ps sp ∧ KBn K fd ps n ks g gV
/-- defaults fill up -/
structure CalD (P : Program) (w : World) (K : PySem.W.Frag) (mg : Str → Option Value) (base : Heap) (CX : CXT) (k : Nat) (x : Str) (sp : Sp) (dvs : List V) : Prop where
  ex : ∃ (f : Addr) (fd : FuncData) (ps : List Str) (ds : List Value), mg x = some (.ref f) ∧ PySem.W.keepIn K (.ref f) = true ∧ FnOk P w K mg base CX k f fd ps sp ∧ Binds K fd ps ds ∧ Vals dvs ds
/-- a method's def, by itself -/
structure Own (P : Program) (w : World) (K : PySem.W.Frag) (mg : Str → Option Value) (base : Heap) (CX : CXT) (k : Nat) (f : Addr) (fd : FuncData) (ps : List Str) (sp : Sp) : Prop where
  ok : FnOk P w K mg base CX k f fd ps sp
  bd : Binds K fd ps []
  kp : PySem.W.keepIn K (.ref f) = true
section
variable {X : Cx} {CX : CXT} {k j n : Nat} {ks : List Str} {sp : Sp} {E : XK} {x : Str} {p pos : Pos} {e : Expr} {es : List Expr} {kws : List Keyword} {t tk : TA} {gV : List V → List V → List V} {dvs : List V}
theorem pe_cal (c : CalD X.prog X.w X.K X.mg X.base CX0 k x sp []) (hr : Room j X.A) (hk : k ≤ j) (hg : Gl X x) (ha : PA X (e :: es) t)
    (hdb : (x == ("__debug__" : Str)) = false := by decide) (he : starEach (e :: es) X.env = (false, eval e X.env) :: starEach es X.env := by rfl) (hpl : (backTo pos (starEach es X.env)).any (·.1) = false := by rfl) :
    PE X (.Call (.Name x p) (e :: es) [] pos) (tCall sp [] E0 t) := by
  obtain ⟨f, fd, ps, ds, h1, h2, h3, h4, h5⟩ := c.ex
  exact pe_call h3 (hr.mono hk) hg h1 h2 h4 h5 pass0 ha hdb he hpl
theorem pe_calD (c : CalD X.prog X.w X.K X.mg X.base CX0 k x sp dvs) (hr : Room j X.A) (hk : k ≤ j) (hg : Gl X x) (ha : PA X (e :: es) t)
    (hdb : (x == ("__debug__" : Str)) = false := by decide) (he : starEach (e :: es) X.env = (false, eval e X.env) :: starEach es X.env := by rfl) (hpl : (backTo pos (starEach es X.env)).any (·.1) = false := by rfl) :
    PE X (.Call (.Name x p) (e :: es) [] pos) (tCall sp dvs E0 t) := by
  obtain ⟨f, fd, ps, ds, h1, h2, h3, h4, h5⟩ := c.ex
  exact pe_call h3 (hr.mono hk) hg h1 h2 h4 h5 pass0 ha hdb he hpl
theorem pe_cal0 (c : CalD X.prog X.w X.K X.mg X.base CX0 k x sp []) (hr : Room j X.A) (hk : k ≤ j) (hg : Gl X x) (hdb : (x == ("__debug__" : Str)) = false := by decide) :
    PE X (.Call (.Name x p) [] [] pos) (tCall sp [] E0 tNil) := by
  obtain ⟨f, fd, ps, ds, h1, h2, h3, h4, h5⟩ := c.ex
  exact pe_call0 h3 (hr.mono hk) hg h1 h2 h4 h5 pass0 hdb
theorem pe_calN (c : CalN X.prog X.w X.K X.mg X.base CX0 k n ks x sp gV) (hr : Room k X.A) (hg : Gl X x) (ha : PA X (e :: es) t) (hkw : PK X kws tk)
    (hall : (backToKw pos (keywordEach kws X.env)).all (·.1.isSome) = true := by rfl) (hks : (backToKw pos (keywordEach kws X.env)).filterMap (·.1) = ks := by rfl)
    (hdb : (x == ("__debug__" : Str)) = false := by decide) (he : starEach (e :: es) X.env = (false, eval e X.env) :: starEach es X.env := by rfl)
    (hpl : ((backTo pos (starEach (e :: es) X.env)).any (·.1) || (backToKw pos (keywordEach kws X.env)).any (·.1.isNone)) = false := by rfl) :
    PE X (.Call (.Name x p) (e :: es) kws pos) (tCallN n ks.length sp gV E0 t tk) := by
  obtain ⟨f, fd, ps, g, h1, h2, h3, h4⟩ := c.ex
  exact pe_callN h3 hr hg h1 h2 h4 pass0 ha hkw hall hks hdb he hpl
theorem pe_calN0 (c : CalN X.prog X.w X.K X.mg X.base CX0 k 0 ks x sp gV) (hr : Room k X.A) (hg : Gl X x) (hkw : PK X kws tk)
    (hall : (backToKw pos (keywordEach kws X.env)).all (·.1.isSome) = true := by rfl) (hks : (backToKw pos (keywordEach kws X.env)).filterMap (·.1) = ks := by rfl)
    (hdb : (x == ("__debug__" : Str)) = false := by decide)
    (hpl : ((backTo pos (starEach [] X.env)).any (·.1) || (backToKw pos (keywordEach kws X.env)).any (·.1.isNone)) = false := by rfl) :
    PE X (.Call (.Name x p) [] kws pos) (tCallN 0 ks.length sp gV E0 tNil tk) := by
  obtain ⟨f, fd, ps, g, h1, h2, h3, h4⟩ := c.ex
  exact pe_callN0 h3 hr hg h1 h2 h4 pass0 hkw hall hks hdb hpl
end
theorem CalD.mk' {P : Program} {w : World} {K : PySem.W.Frag} {mg : Str → Option Value} {base : Heap} {CX : CXT} {k : Nat} {x : Str} {sp : Sp} {f : Addr} {fd : FuncData} {ps : List Str} (g : mg x = some (.ref f)) (kp : PySem.W.keepIn K (.ref f) = true) (F : FnOk P w K mg base CX k f fd ps sp) (b : Binds K fd ps []) :
    CalD P w K mg base CX k x sp [] := ⟨f, fd, ps, [], g, kp, F, b, .nil⟩
/-! ## 3. going through a reading -/
section
variable {K : PySem.W.Frag} {σ : L2.St} {H : Hp} {ta tb tc te : TE} {t u : TT} {x y v : V} {Q : VK} {QB : Bool → Hp → Prop} {QL : List V → Hp → Prop} {r r' : R2} {D : Ends} {a b : TS} {tr : TA}
theorem r_var {i : Nat} (h : σ[i]? = some (some v)) (q : Q v H) : tVar i σ H Q := ⟨v, h, q⟩
theorem r_c (q : Q v H) : tC v σ H Q := q
theorem r_op (q : ta σ H fun x H1 => tb σ H1 fun y H2 => r x y H2 Q) : tOp r ta tb σ H Q := q
theorem r_un {r : V → Hp → VK → Prop} (q : ta σ H fun x H1 => r x H1 Q) : tUn r ta σ H Q := q
theorem r_I0 {g : Int → Int → V} {i j : Int} (q : Q (g i j) H) : rI0 g (.int i) (.int j) H Q := ⟨i, j, rfl, rfl, q⟩
theorem r_I {C : Int → Int → Prop} {g : Int → Int → V} {i j : Int} (c : C i j) (q : Q (g i j) H) : rI C g (.int i) (.int j) H Q := ⟨i, j, rfl, rfl, c, q⟩
theorem r_U {g : Int → V} {i : Int} (q : Q (g i) H) : rU g (.int i) H Q := ⟨i, rfl, q⟩
theorem r_eq (s : scal x y = true) (q : Q (.bl (decide (x = y))) H) : rEq x y H Q := ⟨s, q⟩
theorem r_ne (s : scal x y = true) (q : Q (.bl (!decide (x = y))) H) : rNe x y H Q := ⟨s, q⟩
theorem r_nil (q : QL [] H) : tNil σ H QL := q
theorem r_cons (q : ta σ H fun x H1 => tr σ H1 fun xs H2 => QL (x :: xs) H2) : tCons ta tr σ H QL := q
theorem r_call {sp : Sp} {dvs : List V} {E : XK} (q : tr σ H fun vs H1 => sp (vs ++ dvs) H1 Q E) : tCall sp dvs E tr σ H Q := q
theorem r_callN {n m : Nat} {sp : Sp} {gV : List V → List V → List V} {E : XK} {tk : TA} (q : tr σ H fun vs H1 => tk σ H1 fun zs H2 => vs.length = n ∧ zs.length = m ∧ sp (gV vs zs) H2 Q E) : tCallN n m sp gV E tr tk σ H Q := q
theorem r_cb {rc : List V → Hp → VK → Prop} (q : tr σ H fun vs H1 => rc vs H1 Q) : tCB rc tr σ H Q := q
theorem r_ret (q : te σ H D.rt) : tRet te D σ H := q
theorem r_seq (q : a { D with nx := b D } σ H) : tSeq a b D σ H := q
theorem r_asg {g : TG} (q : te σ H fun x H1 => g x σ H1 D.nx) : tAsg te g D σ H := q
theorem r_name {i : Nat} {Qs : L2.St → Hp → Prop} (q : Qs (σ.set i (some v)) H) : gName i v σ H Qs := q
theorem r_if (q : t σ H fun b' H1 => if b' = true then a D σ H1 else b D σ H1) : tIfS t a b D σ H := q
theorem r_next (q : D.nx σ H) : tNext D σ H := q
theorem r_drop (q : te σ H fun _ H1 => D.nx σ H1) : tDrop te D σ H := q
theorem r_test (q : te σ H fun x H' => ∃ k, x = .bl k ∧ QB k H') : tTest te σ H QB := q
theorem r_tB (q : te σ H fun x H' => ∃ k, x = .bl k ∧ QB k H') : tB te σ H QB := q
theorem r_isb {k : Bool} (q : QB k H) : ∃ k', V.bl k = .bl k' ∧ QB k' H := ⟨k, rfl, q⟩
theorem r_isv {k : Bool} {A : Bool → Prop} (q : A k) : ∃ k', V.bl k = .bl k' ∧ A k' := ⟨k, rfl, q⟩
theorem r_not (q : t σ H fun c H1 => QB (!c) H1) : tNot t σ H QB := q
theorem r_and (q : t σ H fun c H1 => if c = true then u σ H1 QB else QB false H1) : tAnd t u σ H QB := q
theorem r_or (q : t σ H fun c H1 => if c = true then QB true H1 else u σ H1 QB) : tOr t u σ H QB := q
theorem r_andV (q : ta σ H fun x H1 => ∃ c, x = .bl c ∧ if c = true then tb σ H1 Q else Q (.bl false) H1) : tAndV ta tb σ H Q := q
theorem r_orV (q : ta σ H fun x H1 => ∃ c, x = .bl c ∧ if c = true then Q (.bl true) H1 else tb σ H1 Q) : tOrV ta tb σ H Q := q
theorem r_notV (q : ta σ H fun x H1 => ∃ c, x = .bl c ∧ Q (.bl (!c)) H1) : tNotV ta σ H Q := q
theorem r_chain (q : ta σ H fun x H1 => tb σ H1 fun y H2 => r x y H2 fun z H3 => ∃ k, z = .bl k ∧ (if k = true then tc σ H3 fun w' H4 => r' y w' H4 Q else Q (.bl false) H3)) : tChain r r' ta tb tc σ H Q := q
theorem r_ifE (q : t σ H fun c H1 => if c = true then ta σ H1 Q else tb σ H1 Q) : tIf t ta tb σ H Q := q
theorem r_isN (q : Q (.bl (decide (x = .non))) H) : (fun x y H Q => y = V.non ∧ Q (.bl (decide (x = .non))) H : R2) x .non H Q := ⟨rfl, q⟩
def NewL (xs : List V) (H : Hp) (Q : VK) : Prop := xs.length ≤ sizeLine ∧ ∀ p, H p = none → Q (.ref p) (upd H p (.lst xs))
def NewT (xs : List V) (H : Hp) (Q : VK) : Prop := xs.length ≤ sizeLine ∧ ∀ p, H p = none → Q (.ref p) (upd H p (.tup xs))
theorem r_lst (q : tr σ H fun xs H1 => NewL xs H1 Q) : tLst tr σ H Q := q
theorem r_tup (q : tr σ H fun xs H1 => NewT xs H1 Q) : tTup tr σ H Q := q
theorem same_upd {p : Addr} {o : HO} (h : H p = none) : Same H (upd H p o) := fun b x e => by
  rw [upd_ne (ne_of_none e h)]
  exact e
/-- a new object: the heap behind it by what stands in it -/
theorem newL {xs : List V} (q : ∀ p H', H p = none → Same H H' → H' p = some (.lst xs) → Q (.ref p) H') (hl : xs.length ≤ 10000 := by exact Nat.le_of_ble_eq_true rfl) : NewL xs H Q :=
  ⟨Nat.le_trans hl (by decide), fun p hp => q p _ hp (same_upd hp) upd_same⟩
theorem newT {xs : List V} (q : ∀ p H', H p = none → Same H H' → H' p = some (.tup xs) → Q (.ref p) H') (hl : xs.length ≤ 10000 := by exact Nat.le_of_ble_eq_true rfl) : NewT xs H Q :=
  ⟨Nat.le_trans hl (by decide), fun p hp => q p _ hp (same_upd hp) upd_same⟩
def NewDK (kvs : List (Key × V)) (H : Hp) (Q : VK) : Prop := ∀ p, H p = none → Q (.ref p) (upd H p (.dK kvs))
theorem r_dnewK (q : NewDK [] H Q) : tDNewK σ H Q := q
theorem newDK {kvs : List (Key × V)} (q : ∀ p H', H p = none → Same H H' → H' p = some (.dK kvs) → Q (.ref p) H') : NewDK kvs H Q := fun p hp => q p _ hp (same_upd hp) upd_same
def MkV (C : Addr) (sp : Sp) (dvs vs : List V) (H : Hp) (Q : VK) : Prop := vs.length ≤ 1000 ∧ ∀ a, H a = none → sp (.ref a :: (vs ++ dvs)) (upd H a (exo a C none)) (fun v H2 => v = .non ∧ Q (.ref a) H2) (fun _ _ _ => False)
theorem r_mkV {C : Addr} {sp : Sp} {dvs : List V} (q : tr σ H fun vs H1 => MkV C sp dvs vs H1 Q) : tMkV C sp dvs tr σ H Q := q
def ForL (J : It) (g : TG) (tb : TS) (D : Ends) (σ : L2.St) (H : Hp) : Prop := ∃ W : Nat → Nat → L2.St → Hp → Prop, (∃ m, W 0 m σ H) ∧ ∀ i m σ H, W i m σ H →
  (J.stop i H ∧ D.nx σ H) ∨ (J.go i H ∧ ∃ N : L2.St → Hp → Prop, (∀ σ' H', N σ' H' → ∃ m', m' < m ∧ W (i + 1) m' σ' H') ∧ ∀ x H', J.yld i H x H' → g x σ H' fun σ2 H2 => tb { D with nx := N, ct := N, bk := D.nx } σ2 H2)
theorem r_for {wi : TI} {g : TG} (q : wi σ H fun J H1 => ForL J g a D σ H1) : tFor wi g a D σ H := q
theorem r_iList {tl : TE} {R : It → Hp → Prop} (q : tl σ H fun x H1 => ∃ p, x = .ref p ∧ (∃ xs, SqL K H1 p xs) ∧ R (Itl K p) H1) : iList K tl σ H R := q
theorem r_iTup {tl : TE} {R : It → Hp → Prop} (q : tl σ H fun x H1 => ∃ p, x = .ref p ∧ (∃ xs, SqT K H1 p xs) ∧ R (Itt K p) H1) : iTup K tl σ H R := q
theorem r_iRng1 {R : It → Hp → Prop} (q : tr σ H fun vs H1 => ∃ j : Int, vs = [.int j] ∧ -(2 ^ 62) ≤ j ∧ j < 2 ^ 62 ∧ R (Itr 0 j.toNat) H1) : iRng1 tr σ H R := q
theorem r_iRng2 {R : It → Hp → Prop} (q : tr σ H fun vs H1 => ∃ i j : Int, vs = [.int i, .int j] ∧ (-(2 ^ 62) ≤ i ∧ i < 2 ^ 62 ∧ -(2 ^ 62) ≤ j ∧ j < 2 ^ 62) ∧ R (Itr i (j - i).toNat) H1) : iRng2 tr σ H R := q
theorem r_ixL {p : Addr} {xs : List V} {i : Int} (h : SqL K H p xs) (ha : atI xs i = some v) (q : Q v H) : rIxL K (.ref p) (.int i) H Q := ⟨p, xs, i, v, rfl, rfl, h, ha, q⟩
theorem r_ixT {p : Addr} {xs : List V} {i : Int} (h : SqT K H p xs) (ha : atI xs i = some v) (q : Q v H) : rIxT K (.ref p) (.int i) H Q := ⟨p, xs, i, v, rfl, rfl, h, ha, q⟩
theorem r_gSub {to ti : TE} {ts : TSet} {Qs : L2.St → Hp → Prop} (q : to σ H fun o H1 => ti σ H1 fun i H2 => ts o i v H2 fun H3 => Qs σ H3) : gSub to ti ts v σ H Qs := q
theorem r_bm {T : String} {rm : V → List V → Hp → VK → Prop} {to : TE} (q : to σ H fun x H1 => tyV K T x H1 ∧ tr σ H1 fun xs H2 => rm x xs H2 Q) : tBM K T rm to tr σ H Q := q
theorem iteNF {A B : Prop} (h : B) : if (!true) = true then A else B := iteF h
theorem iteNT {A B : Prop} (h : A) : if (!false) = true then A else B := iteT h
theorem iteD {c A B : Prop} [Decidable c] (hc : c) (h : A) : if decide c = true then A else B := by rw [decide_eq_true hc]; exact iteT h
theorem iteDn {c A B : Prop} [Decidable c] (hc : ¬ c) (h : B) : if decide c = true then A else B := by rw [decide_eq_false hc]; exact iteF h
theorem iteND {c A B : Prop} [Decidable c] (hc : c) (h : B) : if (!decide c) = true then A else B := by rw [decide_eq_true hc]; exact iteF h
theorem iteNDn {c A B : Prop} [Decidable c] (hc : ¬ c) (h : A) : if (!decide c) = true then A else B := by rw [decide_eq_false hc]; exact iteT h
/-- a test that is open: both ways, by what it says -/
theorem iteC {c A B : Prop} [Decidable c] (h1 : c → A) (h2 : ¬ c → B) : if decide c = true then A else B := by
  by_cases h : c
  · exact iteD h (h1 h)
  · exact iteDn h (h2 h)
theorem iteNC {c A B : Prop} [Decidable c] (h1 : ¬ c → A) (h2 : c → B) : if (!decide c) = true then A else B := by
  by_cases h : c
  · exact iteND h (h2 h)
  · exact iteNDn h (h1 h)
theorem iteB {b : Bool} {A B : Prop} (h1 : b = true → A) (h2 : b = false → B) : if b = true then A else B := by
  cases b
  · exact iteF (h2 rfl)
  · exact iteT (h1 rfl)
theorem iteNB {b : Bool} {A B : Prop} (h1 : b = false → A) (h2 : b = true → B) : if (!b) = true then A else B := by
  cases b
  · exact iteT (h1 rfl)
  · exact iteF (h2 rfl)
theorem r_m1 {rm : V → List V → Hp → VK → Prop} {to te : TE} (q : to σ H fun x H1 => (∃ a, x = .str a) ∧ te σ H1 fun y H2 => rm x [y] H2 Q) : tM1 rm to te σ H Q := q
theorem r_len {z : Str} (h : z.length ≤ 100000) (q : Q (.int z.length) H) : ∃ z', [V.str z] = [V.str z'] ∧ z'.length ≤ sizeLine ∧ Q (.int z'.length) H := ⟨z, rfl, Nat.le_trans h (by decide), q⟩
theorem sqL {p : Addr} {xs : List V} (h : H p = some (.lst xs)) : SqL K H p xs := .inl (.inl h)
theorem sqT {p : Addr} {xs : List V} (h : H p = some (.tup xs)) : SqT K H p xs := .inl (.inl h)
end
end Bk

namespace Bk
open PySem PySem.Spec PyProof.Rows L2
/-! ## 4. what isinstance answers -/
def IsA (K : PySem.W.Frag) (H : Hp) (x : V) (T : String) (b : Bool) : Prop :=
  (∃ t, TyX K H x t ∧ PySem.W.kitOne K t (.type T) = some b) ∨ (∃ (a D dx : Addr) (fs : List (Str × V)), x = .ref a ∧ XV H a D dx fs ∧ ExcC K D ∧ PySem.W.kitOne K (.ref D) (.type T) = some b)
section
variable {K : PySem.W.Frag} {H H' : Hp} {x : V} {T : String} {b : Bool} {Q : VK}
theorem r_is (h : IsA K H x T b) (q : Q (.bl b) H) : rIs K [x, .ty T] H Q := by
  rcases h with ⟨t, h1, h2⟩ | ⟨a, D, dx, fs, rfl, h1, h2, h3⟩
  · exact .inl ⟨x, .ty T, t, .type T, b, rfl, .ty T, h1, h2, q⟩
  · exact .inr ⟨a, D, dx, fs, .ty T, .type T, b, rfl, h1, h2, .ty T, h3, q⟩
theorem isa_int {i : Int} (h : kitB "int" T = some b := by decide +kernel) : IsA K H (.int i) T b := .inl ⟨.type "int", .base (.int i), kit_ty h⟩
theorem isa_bl {c : Bool} (h : kitB "bool" T = some b := by decide +kernel) : IsA K H (.bl c) T b := .inl ⟨.type "bool", .base (.bl c), kit_ty h⟩
theorem isa_str {z : Str} (h : kitB "str" T = some b := by decide +kernel) : IsA K H (.str z) T b := .inl ⟨.type "str", .base (.str z), kit_ty h⟩
theorem isa_non (h : kitB "NoneType" T = some b := by decide +kernel) : IsA K H .non T b := .inl ⟨.type "NoneType", .base .non, kit_ty h⟩
theorem isa_lst {a : Addr} {xs : List V} (e : H a = some (.lst xs)) (h : kitB "list" T = some b := by decide +kernel) : IsA K H (.ref a) T b := .inl ⟨.type "list", .base (.lst e), kit_ty h⟩
theorem isa_tup {a : Addr} {xs : List V} (e : H a = some (.tup xs)) (h : kitB "tuple" T = some b := by decide +kernel) : IsA K H (.ref a) T b := .inl ⟨.type "tuple", .base (.tup e), kit_ty h⟩
theorem isa_dK {a : Addr} {kvs : List (Key × V)} (e : H a = some (.dK kvs)) (h : kitB "dict" T = some b := by decide +kernel) : IsA K H (.ref a) T b := .inl ⟨.type "dict", .base (.dK e), kit_ty h⟩
theorem isa_exc {a D dx : Addr} {fs : List (Str × V)} (e : XV H a D dx fs) (C : ExcC K D) (h : PySem.W.kitOne K (.ref D) (.type T) = some b) : IsA K H (.ref a) T b := .inr ⟨a, D, dx, fs, rfl, e, C, h⟩
end
/-! ## 5. the box of draws -/
def Box (a : Addr) (n : Nat) (H : Hp) : Prop := ∃ x y z : Int, H a = some (.lst [.int x, .int y, .int z]) ∧ 0 ≤ x ∧ 0 ≤ y ∧ y < 2147483629 ∧ 0 ≤ z ∧ z ≤ (n : Int)
/-- all but what stands at a is as it was -/
def But (a : Addr) (H H' : Hp) : Prop := ∀ b o, b ≠ a → H b = some o → H' b = some o
theorem But.refl {a : Addr} {H : Hp} : But a H H := fun _ _ _ h => h
theorem But.trans {a : Addr} {H H1 H2 : Hp} (x : But a H H1) (y : But a H1 H2) : But a H H2 := fun b o n e => y b o n (x b o n e)
theorem But.same {a : Addr} {H H1 H2 : Hp} (x : But a H H1) (y : Same H1 H2) : But a H H2 := fun b o n e => y b o (x b o n e)
theorem But.of {a : Addr} {H H1 : Hp} (y : Same H H1) : But a H H1 := fun b o _ e => y b o e
theorem But.upd {a : Addr} {H : Hp} {o : HO} : But a H (upd H a o) := fun b u n e => by rw [upd_ne n]; exact e
theorem Box.same {a : Addr} {n : Nat} {H H' : Hp} (h : Box a n H) (s : Same H H') : Box a n H' := by
  obtain ⟨x, y, z, e, r⟩ := h
  exact ⟨x, y, z, s _ _ e, r⟩
theorem Box.mono {a : Addr} {n m : Nat} {H : Hp} (h : Box a n H) (l : n ≤ m) : Box a m H := by
  obtain ⟨x, y, z, e, r1, r2, r3, r4, r5⟩ := h
  exact ⟨x, y, z, e, r1, r2, r3, r4, by omega⟩
theorem Box.ne {a p : Addr} {n : Nat} {H : Hp} (h : Box a n H) (hp : H p = none) : p ≠ a := by
  obtain ⟨x, y, z, e, _⟩ := h
  exact (ne_of_none e hp).symm
theorem Box.ne_tup {a p : Addr} {n : Nat} {H : Hp} {xs : List V} (h : Box a n H) (hp : H p = some (.tup xs)) : p ≠ a := by
  obtain ⟨x, y, z, e, _⟩ := h
  exact fun q => by rw [q, e] at hp; cases hp
def spCell (K : PySem.W.Frag) : Sp := fun vs H Q _ => ∃ (a : Addr) (ns : List Int) (k : Nat), vs = [.ref a, .int k] ∧ SqL K H a (ns.map V.int) ∧ k ≤ 100000 ∧ ∀ c, Q (.int c) H
def spBox : Sp := fun vs H Q _ => ∃ c : Int, vs = [.int c] ∧ ∀ p H', H p = none → Same H H' → Box p 0 H' → Q (.ref p) H'
def spTake : Sp := fun vs H Q _ => ∃ (a : Addr) (n : Nat) (size : Int), vs = [.ref a, .int size] ∧ Box a n H ∧ n < 1000000 ∧ 0 < size ∧ size < 2 ^ 128 ∧
  ∀ d H', 0 ≤ d → d < size → Box a (n + 1) H' → But a H H' → Q (.int d) H'
theorem cdiv {i j : Int} (h : 0 < j) (h2 : j < 2 ^ 128) : CDivW i j := wide_div (b := 128) h (by omega) (by decide) (by decide)
theorem cmul {i j : Int} (h1 : -(2 ^ 128) < i) (h2 : i < 2 ^ 128) (h3 : -(2 ^ 128) < j) (h4 : j < 2 ^ 128) : CMulW i j := wide_mul (a := 128) (b := 128) (by omega) (by omega) (by decide) (by decide) (by decide)
theorem at_map {ns : List Int} {k : Nat} (h : k < ns.length) : atI (ns.map V.int) ((k : Nat) : Int) = some (.int ns[k]) := atI_nat (by rw [List.getElem?_map, List.getElem?_eq_getElem h]; rfl)
end Bk

namespace Bk
open PySem PySem.Spec PyProof.Rows L2
theorem sameBut {H H' : Hp} {D : Addr} {o : HO} (h : Same H H') (n : H D = none) : Same H (upd H' D o) := fun b u e => by
  rw [upd_ne (ne_of_none e n)]
  exact h b u e
/-! ## 6. a comprehension over a text's signs, all of it -/
section
variable {K : PySem.W.Frag} {σ : L2.St} {H : Hp} {Q : VK} {te : TE}
/-- the list of p of each sign -/
theorem r_lcStr {i0 j : Nat} {vs : List Nat} {z : Str} (p : Nat → V) (hv : σ[i0]? = some (some (.str z))) (hz : z.length ≤ 100000)
    (hw : ∀ x, wipe ((wipe σ vs).set j (some x)) vs = wipe σ vs)
    (ht : ∀ (c : Nat) (H' : Hp) (Q' : VK), c ∈ z.cps.toList → Same H H' → (∀ H2, Same H' H2 → Q' (p c) H2) → te ((wipe σ vs).set j (some (.str ⟨#[c]⟩))) H' Q')
    (q : ∀ D H', H D = none → Same H H' → H' D = some (.lst (z.cps.toList.map p)) → Q (.ref D) H') :
    tLc (iStr (tVar i0)) (gName j) tYes te vs σ H Q := by
  refine ⟨_, hv, z, rfl, fun D hD => ?_⟩
  refine lc_it (n := z.cps.size) walk_str (fun i H' => Same H H' ∧ H' D = some (.lst ((z.cps.toList.take i).map p))) ⟨same_upd hD, by rw [upd_same]; rfl⟩ (fun _ _ _ _ => trivial) ?_ ?_
  · rintro i x H1 H2 hi ⟨sm, e⟩ ⟨rfl, c, hc, rfl⟩
    have hc' : z.cps.toList[i]? = some c := by rw [Array.getElem?_toList]; exact hc
    refine ⟨hw _, ?_⟩
    show te _ _ _
    refine ht c _ _ (List.mem_of_getElem? hc') sm fun H3 s3 => ⟨_, s3 _ _ e, ?_, sameBut (sm.trans s3) hD, ?_⟩
    · have l : ((z.cps.toList.take i).map p).length ≤ z.cps.size := by
        rw [List.length_map, List.length_take, Array.length_toList]
        omega
      have hz' : z.cps.size ≤ 100000 := hz
      exact Nat.lt_of_le_of_lt (Nat.le_trans l hz') (by decide)
    · rw [upd_same, List.take_add_one, hc', List.map_append]
      rfl
  · rintro H1 ⟨sm, e⟩
    refine q D H1 hD sm ?_
    rw [e]
    have l : z.cps.size = z.cps.toList.length := (Array.length_toList).symm
    rw [l, List.take_length]
/-- all([p(sign) for sign in text]) -/
theorem r_allStr {i0 j : Nat} {vs : List Nat} {z : Str} (p : Nat → Bool) (hv : σ[i0]? = some (some (.str z))) (hz : z.length ≤ 100000)
    (hw : ∀ x, wipe ((wipe σ vs).set j (some x)) vs = wipe σ vs)
    (ht : ∀ (c : Nat) (H' : Hp) (Q' : VK), c ∈ z.cps.toList → Same H H' → (∀ H2, Same H' H2 → Q' (.bl (p c)) H2) → te ((wipe σ vs).set j (some (.str ⟨#[c]⟩))) H' Q')
    (q : ∀ H', Same H H' → Q (.bl (z.cps.toList.all p)) H') :
    tCB (rAll K) (tCons (tLc (iStr (tVar i0)) (gName j) tYes te vs) tNil) σ H Q := by
  refine r_cb (r_cons ?_)
  refine r_lcStr (fun c => .bl (p c)) hv hz hw ht fun D H' nD sm e => ?_
  refine r_nil ⟨D, z.cps.toList.map p, rfl, sqL ?_, ?_⟩
  · rw [e, List.map_map]
    rfl
  · rw [List.all_map]
    exact q H' sm
end
/-! ## 7. draws, items, slices -/
section
variable {K : PySem.W.Frag} {σ : L2.St} {H : Hp} {Q : VK} {E : XK} {te : TE} {tl th : TO} {QO : Option Int → Hp → Prop}
theorem r_take {a : Addr} {n : Nat} {size : Int} (hB : Box a n H) (q : ∀ d H', 0 ≤ d → d < size → Box a (n + 1) H' → But a H H' → Q (.int d) H') (hn : n < 1000000 := by omega) (h0 : 0 < size := by decide) (h1 : size < 2 ^ 128 := by decide) : spTake [.ref a, .int size] H Q E :=
  ⟨a, n, size, rfl, hB, hn, h0, h1, q⟩
theorem r_ixS {z : Str} {d : Int} (h0 : 0 ≤ d) (h1 : d < (z.cps.toList.length : Int)) (hz : z.length ≤ 100000) (q : ∀ c, z.cps.toList[d.toNat]? = some c → Q (.str ⟨#[c]⟩) H) : rIxS (.str z) (.int d) H Q := by
  have l : d.toNat < z.cps.toList.length := by omega
  obtain ⟨c, hc⟩ : ∃ c, z.cps.toList[d.toNat]? = some c := ⟨_, List.getElem?_eq_getElem l⟩
  refine ⟨z, d, c, rfl, rfl, Nat.le_trans hz (by decide), ?_, q c hc⟩
  have e : d = ((d.toNat : Nat) : Int) := by omega
  rw [e]
  exact atI_nat hc
theorem r_ixLo {p : Addr} {xs : List V} {d : Int} (h : SqL K H p xs) (h0 : 0 ≤ d) (h1 : d < (xs.length : Int)) (q : ∀ v, v ∈ xs → xs[d.toNat]? = some v → Q v H) : rIxL K (.ref p) (.int d) H Q := by
  have l : d.toNat < xs.length := by omega
  obtain ⟨v, hv⟩ : ∃ v, xs[d.toNat]? = some v := ⟨_, List.getElem?_eq_getElem l⟩
  refine r_ixL h (v := v) ?_ (q v (List.mem_of_getElem? hv) hv)
  have e : d = ((d.toNat : Nat) : Int) := by omega
  rw [e]
  exact atI_nat hv
theorem r_sl {r : V → Option Int → Option Int → Hp → VK → Prop} (q : te σ H fun x H1 => tl σ H1 fun l H2 => th σ H2 fun u H3 => r x l u H3 Q) : tSl r te tl th σ H Q := q
theorem r_noPart (q : QO none H) : tNoPart σ H QO := q
theorem r_part (q : te σ H fun x H1 => ∃ i, x = .int i ∧ QO (some i) H1) : tPart te σ H QO := q
theorem r_isi {i : Int} {A : Int → Prop} (q : A i) : ∃ i', V.int i = .int i' ∧ A i' := ⟨i, rfl, q⟩
theorem r_slS {z : Str} {lo hi : Option Int} (hz : z.length ≤ 100000) (q : ∀ y : Str, y.length ≤ z.length → Q (.str y) H) : rSlS (.str z) lo hi H Q := ⟨z, rfl, Nat.le_trans hz (by decide), q _ (cutS_length z lo hi)⟩
end
theorem r_cut {a b : TS} {D : Ends} {σ : L2.St} {H : Hp} (Mid : L2.St → Hp → Prop) (h1 : a { D with nx := Mid } σ H) (h2 : ∀ σ' H', Mid σ' H' → b D σ' H') : C8.tCut a b D σ H := ⟨Mid, h1, h2⟩
theorem str_len_add (x y : Str) : (x ++ y).length = x.length + y.length := by
  have h : ∀ z : Str, z.length = z.cps.toList.length := fun z => (Array.length_toList).symm
  rw [h, h, h]; show (TL.tl (x ++ y)).length = _; rw [TL.tl_append]
  exact List.length_append
theorem lt1 {c d : Nat} : decide ([c] < [d]) = decide (c < d) := by
  by_cases h : c < d
  · rw [decide_eq_true h]
    exact decide_eq_true (List.Lex.rel h)
  · rw [decide_eq_false h]
    refine decide_eq_false fun z => ?_
    cases z with
    | rel q => exact h q
    | cons q => cases q
theorem sign_tl {c : Nat} : (⟨#[c]⟩ : Str).cps.toList = [c] := rfl
/-- a text begins with this sign -/
theorem starts1 (z : Str) (c : Nat) : Txt.startswith z ⟨#[c]⟩ = decide (z.cps.toList[0]? = some c) := by
  have h := PySem.StrLaws.subAt_one z c 0
  unfold Txt.startswith
  by_cases e : z.cps.toList[0]? = some c
  · obtain ⟨h1, h2⟩ := h.mpr e
    rw [decide_eq_true e, h2, decide_eq_true h1]
    rfl
  · rw [decide_eq_false e]
    by_cases h1 : 0 + (⟨#[c]⟩ : Str).length ≤ z.length
    · rw [decide_eq_true h1, Bool.true_and]
      exact Bool.eq_false_iff.mpr fun h2 => e (h.mp ⟨h1, h2⟩)
    · rw [decide_eq_false h1]
      rfl
end Bk

open PySem PySem.Spec PyProof.Rows L2 Bk
local macro_rules | `(tactic| walk_at "go1") => `(tactic| with_reducible first
  | refine r_seq ?_ | refine r_asg ?_ | refine r_name ?_ | refine r_if ?_ | refine r_ret ?_ | refine r_next ?_ | refine r_drop ?_
  | refine r_op ?_ | refine r_un ?_ | refine r_c ?_ | refine r_I0 ?_ | refine r_U ?_ | refine r_nil ?_ | refine r_cons ?_ | refine r_call ?_ | refine r_callN ?_ | refine r_for ?_ | refine r_iList ?_ | refine r_iTup ?_ | refine r_iRng1 ?_ | refine r_iRng2 ?_ | refine r_mkV ?_ | refine r_dnewK ?_ | refine r_cb ?_
  | refine r_test ?_ | refine r_tB ?_ | refine r_isb ?_ | refine r_isv ?_ | refine r_not ?_ | refine r_and ?_ | refine r_or ?_ | refine r_andV ?_ | refine r_orV ?_ | refine r_notV ?_ | refine r_chain ?_ | refine r_ifE ?_
  | refine r_lst ?_ | refine r_tup ?_ | refine r_gSub ?_ | refine r_bm ?_
  | (apply r_var; focus (with_unfolding_all rfl))
  | refine iteT ?_ | refine iteF ?_ | refine iteNF ?_ | refine iteNT ?_ | refine r_m1 ?_ | refine r_sl ?_ | refine r_noPart ?_ | refine r_part ?_ | refine r_isi ?_
  | (refine r_eq ?_ ?_; focus (with_unfolding_all (first | rfl | decide))) | (refine r_ne ?_ ?_; focus (with_unfolding_all (first | rfl | decide))))
local macro_rules | `(tactic| walk_at "go") => `(tactic| repeat (walk_at "go1"))
namespace K01
open PySem PySem.Spec PyProof.Rows L2 Bk


def topS (i : Nat) : Stmt := PySem.Challenge.pw_guestsalone_k01_words_of_anything.main.body.getD i (.Pass ⟨0, 0, 0, 0⟩)
abbrev s_is_whole : Stmt := topS 3
abbrev s_is_name : Stmt := topS 4
abbrev s_number_in : Stmt := topS 5
abbrev s_written : Stmt := topS 6
abbrev s_all_within : Stmt := topS 7
abbrev s_GuestError_init : Stmt := inClass (topS 9) 0
abbrev s_NoWord_init : Stmt := inClass (topS 10) 0
abbrev s_cell_L : Stmt := topS 12
abbrev s_box_L : Stmt := topS 13
abbrev s_take_L : Stmt := topS 14
abbrev s_sign_L : Stmt := topS 15
abbrev s_spoilt_L : Stmt := topS 16
abbrev s_is_name_L : Stmt := topS 17
abbrev s_value_L : Stmt := topS 18
abbrev s_number_right_L : Stmt := topS 19
abbrev s_whole_right_L : Stmt := topS 20
abbrev s_named_L : Stmt := topS 21
abbrev s_things_L : Stmt := topS 22
abbrev s_law : Stmt := topS 23
theorem sc_is_whole : FnScope ["thing", "low", "high"] ["thing", "low", "high"] (defScope s_is_whole) := ⟨rfl, rfl, rfl, by decide +kernel, rfl, by decide +kernel, by decide +kernel⟩
theorem sc_is_name : FnScope ["thing"] ["thing"] (defScope s_is_name) := ⟨rfl, rfl, rfl, by decide +kernel, rfl, by decide +kernel, by decide +kernel⟩
theorem sc_number_in : FnScope ["thing", "least", "most", "number"] ["thing", "least", "most"] (defScope s_number_in) := ⟨rfl, rfl, rfl, by decide +kernel, rfl, by decide +kernel, by decide +kernel⟩
theorem sc_written : FnScope ["thing", "figures"] ["thing", "figures"] (defScope s_written) := ⟨rfl, rfl, rfl, by decide +kernel, rfl, by decide +kernel, by decide +kernel⟩
theorem sc_all_within : FnScope ["text", "first", "last", "sign"] ["text", "first", "last"] (defScope s_all_within) := ⟨rfl, rfl, rfl, by decide +kernel, rfl, by decide +kernel, by decide +kernel⟩
theorem sc_GuestError_init : FnScope ["self", "text"] ["self", "text"] (defScope s_GuestError_init) := ⟨rfl, rfl, rfl, by decide +kernel, rfl, by decide +kernel, by decide +kernel⟩
theorem sc_NoWord_init : FnScope ["self", "found"] ["self", "found"] (defScope s_NoWord_init) := ⟨rfl, rfl, rfl, by decide +kernel, rfl, by decide +kernel, by decide +kernel⟩
theorem sc_cell_L : FnScope ["_law_script", "_law_k"] ["_law_script", "_law_k"] (defScope s_cell_L) := ⟨rfl, rfl, rfl, by decide +kernel, rfl, by decide +kernel, by decide +kernel⟩
theorem sc_box_L : FnScope ["_law_cell_here"] ["_law_cell_here"] (defScope s_box_L) := ⟨rfl, rfl, rfl, by decide +kernel, rfl, by decide +kernel, by decide +kernel⟩
theorem sc_take_L : FnScope ["_law_box_here", "_law_size", "_law_digit", "_law_one", "_law_two"] ["_law_box_here", "_law_size"] (defScope s_take_L) := ⟨rfl, rfl, rfl, by decide +kernel, rfl, by decide +kernel, by decide +kernel⟩
theorem sc_sign_L : FnScope ["_law_box_here", "_law_signs"] ["_law_box_here"] (defScope s_sign_L) := ⟨rfl, rfl, rfl, by decide +kernel, rfl, by decide +kernel, by decide +kernel⟩
theorem sc_spoilt_L : FnScope ["_law_text", "_law_way", "_law_place", "_law_sign_here", "_law_where"] ["_law_text", "_law_way", "_law_place", "_law_sign_here"] (defScope s_spoilt_L) := ⟨rfl, rfl, rfl, by decide +kernel, rfl, by decide +kernel, by decide +kernel⟩
theorem sc_is_name_L : FnScope ["_law_text", "_law_sign_here"] ["_law_text"] (defScope s_is_name_L) := ⟨rfl, rfl, rfl, by decide +kernel, rfl, by decide +kernel, by decide +kernel⟩
theorem sc_value_L : FnScope ["_law_text", "_law_sign_here"] ["_law_text"] (defScope s_value_L) := ⟨rfl, rfl, rfl, by decide +kernel, rfl, by decide +kernel, by decide +kernel⟩
theorem sc_number_right_L : FnScope ["_law_text", "_law_floor", "_law_top", "_law_value_here", "_law_told", "_law_bounds", "_law_answer", "_law_pair", "_law_due"] ["_law_text", "_law_floor", "_law_top"] (defScope s_number_right_L) := ⟨rfl, rfl, rfl, by decide +kernel, rfl, by decide +kernel, by decide +kernel⟩
theorem sc_whole_right_L : FnScope ["_law_box_here", "_law_number", "_law_floor", "_law_top", "_law_due"] ["_law_box_here"] (defScope s_whole_right_L) := ⟨rfl, rfl, rfl, by decide +kernel, rfl, by decide +kernel, by decide +kernel⟩
theorem sc_named_L : FnScope ["_law_text"] ["_law_text"] (defScope s_named_L) := ⟨rfl, rfl, rfl, by decide +kernel, rfl, by decide +kernel, by decide +kernel⟩
theorem sc_things_L : FnScope ["_law_item"] [] (defScope s_things_L) := ⟨rfl, rfl, rfl, by decide +kernel, rfl, by decide +kernel, by decide +kernel⟩
theorem sc_law : FnScope ["_law_script", "_law_k", "_law_box_here", "_law_ways", "_law_places", "_law_signs", "_law_name", "_law_turn", "_law_figures", "_law_floor", "_law_top", "_law_text", "_law_value_here", "_law_bounds"] ["_law_script"] (defScope s_law) := ⟨rfl, rfl, rfl, by decide +kernel, rfl, by decide +kernel, by decide +kernel⟩
structure Txt (K : PySem.W.Frag) (mg : Str → Option Value) (CG CW fG fW : Addr) : Prop where
  m_isinstance : mg "isinstance" = none
  m_int : mg "int" = none
  m_bool : mg "bool" = none
  m_str : mg "str" = none
  m_len : mg "len" = none
  m_all : mg "all" = none
  m_max : mg "max" = none
  m_min : mg "min" = none
  m_range : mg "range" = none
  m_zip : mg "zip" = none
  m_repr : mg "repr" = none
  m_ValueError : mg "ValueError" = none
  c_MOST : ∃ u, mg "MOST" = some u ∧ RelV (.int 4095) u
  c_SHORT : ∃ u, mg "SHORT" = some u ∧ RelV (.int 6) u
  g_GuestError : mg "GuestError" = some (.ref CG)
  rd_GuestError : PySem.W.readsIn K CG (.type "type") = true
  ga_GuestError : PySem.W.specialIn K (.ref CG) "__getattribute__" = some (some (.builtin "type.__getattribute__"))
  at_GuestError : PySem.W.findCls K (.ref CG) (.type "type") "__init__" = some (.val (.ref fG))
  vV : PySem.W.findCls K (.type "ValueError") (.type "type") "__init__" = some (.val (.builtin "ValueError.__init__"))
  g_NoWord : mg "NoWord" = some (.ref CW)
  ox_NoWord : OexC K CW
  i_NoWord : PySem.W.findIn K (.ref CW) "__init__" = some (some (.ref fW))
  t_NoWord : PySem.W.typeIn K (.ref fW) = some (.type "function")
  nf_NoWord : PySem.W.findIn K (.ref CW) "found" = some none
  xc_NoWord : ExcC K CW
  ki_NoWord : PySem.W.kitOne K (.ref CW) (.type "int") = some false
  ks_NoWord : PySem.W.kitOne K (.ref CW) (.type "str") = some false
section
variable {P : Program} {w : World} {K : PySem.W.Frag} {mg : Str → Option Value} {base : Heap} {CG CW fG fW : Addr}
theorem ok_cell {f : Addr} {fd : FuncData} (F : Fun K "_law_cell" "_law_cell" s_cell_L f fd) (T : Txt K mg CG CW fG fW) : FnOk P w K mg base CX0 1 f fd ["_law_script", "_law_k"] (spCell K) := by
  refine F.ok sc_cell_L (fun vs H Q E h => ?_) (fun cdv A outer s H vs Q E hr h => ⟨_, (pss_cons (ps_if (pt_cmpR op_lt (pv 1) (pe_callB call_len_seq (by rfl) T.m_len (by decide +kernel) (pa_cons (pv 0) pa_nil)) (nomark _)) (pss_one (ps_ret (pe_ix ix_list (pv 0) (pv 1) (fun _ _ => rfl)))) pss_nil)
    (pss_one (ps_ret (pe_op op_add (pe_op op_mulW pe_int (pv 1)) pe_int)))), ?_⟩)
  · obtain ⟨a, ns, k, rfl, _⟩ := h
    rfl
  · obtain ⟨a, ns, k, rfl, hS, hk, q⟩ := h
    walk_at "go"
    refine ⟨a, _, rfl, .inl hS, ?_⟩
    walk_at "go"
    refine ite2 (fun e => ?_) (fun e => ?_)
    · walk_at "go"
      have hl : k < ns.length := by
        have z := of_decide_eq_true e
        rw [List.length_map] at z
        omega
      exact r_ixL hS (at_map hl) (q _)
    · walk_at "go"
      refine r_I (cmul (by decide) (by decide) (by omega) (by omega)) ?_
      walk_at "go"
      exact q _
theorem ok_box {f : Addr} {fd : FuncData} (F : Fun K "_law_box" "_law_box" s_box_L f fd) (T : Txt K mg CG CW fG fW) : FnOk P w K mg base CX0 1 f fd ["_law_cell_here"] spBox := by
  refine F.ok sc_box_L (fun vs H Q E h => ?_) (fun cdv A outer s H vs Q E hr h => ⟨_, (pss_one (ps_ret (pe_lst (pa_cons (pe_callB (call_max2 rfl) (by rfl) T.m_max (by decide +kernel) (pa_cons pe_int (pa_cons (pe_op op_sub (pv 0) (pe_op op_pow pe_int pe_int)) pa_nil))) (pa_cons (pe_op op_mod (pv 0) pe_int) (pa_cons pe_int pa_nil)))))), ?_⟩)
  · obtain ⟨c, rfl, _⟩ := h
    rfl
  · obtain ⟨c, rfl, q⟩ := h
    walk_at "go"
    refine r_I ⟨by decide, by decide, by decide⟩ ?_
    walk_at "go"
    refine ⟨_, _, rfl, ?_⟩
    walk_at "go"
    refine r_I (by decide) ?_
    walk_at "go"
    refine newL fun p H' np sm e => q p H' np sm ⟨_, _, _, e, ?_, ?_, ?_, ?_, ?_⟩ <;> first | omega | (split <;> omega)
theorem ok_take {f : Addr} {fd : FuncData} (F : Fun K "_law_take" "_law_take" s_take_L f fd) (T : Txt K mg CG CW fG fW) : FnOk P w K mg base CX0 1 f fd ["_law_box_here", "_law_size"] spTake := by
  refine F.ok sc_take_L (fun vs H Q E h => ?_) (fun cdv A outer s H vs Q E hr h => ⟨_, (pss_cons (ps_if (pt_cmpR op_gt (pe_ix ix_list (pv 0) pe_int (fun _ _ => rfl)) pe_int (nomark _)) (pss_cons (ps_set (i := 2) sc_take_L.nd rfl (.inl rfl) (pe_op op_mod (pe_ix ix_list (pv 0) pe_int (fun _ _ => rfl)) (pv 1)))
    (pss_cons (ps_asg (pe_op op_fdivW (pe_ix ix_list (pv 0) pe_int (fun _ _ => rfl)) (pv 1)) (pg_sub (pv 0) pe_int set_list))
    (pss_one (ps_ret (pv 2))))) pss_nil)
    (pss_cons (ps_asg (pe_op op_add (pe_ix ix_list (pv 0) pe_int (fun _ _ => rfl)) pe_int) (pg_sub (pv 0) pe_int set_list))
    (pss_cons (ps_set (i := 3) sc_take_L.nd rfl (.inl rfl) (pe_op op_mod (pe_op op_pow (pe_op op_add (pe_op op_add (pe_ix ix_list (pv 0) pe_int (fun _ _ => rfl)) (pe_op op_mulW pe_int (pe_ix ix_list (pv 0) pe_int (fun _ _ => rfl)))) pe_int) pe_int) pe_int))
    (pss_cons (ps_set (i := 4) sc_take_L.nd rfl (.inl rfl) (pe_op op_mod (pe_op op_pow (pe_op op_add (pe_op op_add (pe_op op_fdivW (pv 3) pe_int) (pe_op op_mulW pe_int (pe_ix ix_list (pv 0) pe_int (fun _ _ => rfl)))) pe_int) pe_int) pe_int))
    (pss_one (ps_ret (pe_op op_mod (pe_op op_add (pe_op op_fdivW (pv 3) pe_int) (pe_op op_mulW pe_int (pe_op op_fdivW (pv 4) pe_int))) (pv 1)))))))), ?_⟩)
  · obtain ⟨a, n, size, rfl, _⟩ := h
    rfl
  · obtain ⟨a, n, size, rfl, ⟨x, y, z, e, hx, hy, hy2, hz, hz2⟩, hn, h0, h1, q⟩ := h
    have i0 : SqL K H a [.int x, .int y, .int z] := sqL e
    walk_at "go"
    refine r_ixL i0 (v := .int x) rfl ?_
    walk_at "go"
    refine ite2 (fun hp => ?_) (fun hp => ?_)
    · walk_at "go"
      refine r_ixL i0 (v := .int x) rfl ?_
      walk_at "go"
      refine r_I h0 ?_
      walk_at "go"
      refine r_ixL i0 (v := .int x) rfl ?_
      walk_at "go"
      refine r_I (cdiv h0 h1) ?_
      walk_at "go"
      refine ⟨a, _, 0, 0, rfl, rfl, e, rfl, ?_⟩
      walk_at "go"
      exact q _ _ (Int.emod_nonneg _ (by omega)) (Int.emod_lt_of_pos _ h0) ⟨x / size, y, z, upd_same, Int.ediv_nonneg hx (by omega), hy, hy2, hz, by omega⟩ But.upd
    · walk_at "go"
      refine r_ixL i0 (v := .int z) rfl ?_
      walk_at "go"
      refine ⟨a, _, 2, 2, rfl, rfl, e, rfl, ?_⟩
      have i1 : SqL K (upd H a (.lst [.int x, .int y, .int (z + 1)])) a [.int x, .int y, .int (z + 1)] := sqL upd_same
      walk_at "go"
      refine r_ixL i1 (v := .int y) rfl ?_
      walk_at "go"
      refine r_ixL i1 (v := .int (z + 1)) rfl ?_
      refine r_I (cmul (by decide) (by decide) (by omega) (by omega)) ?_
      walk_at "go"
      have g1 : (y + 7919 * (z + 1) + 29).natAbs < 2 ^ 64 := by omega
      refine r_I ⟨by decide, by decide, g1⟩ ?_
      walk_at "go"
      refine r_I (by decide) ?_
      walk_at "go"
      generalize hone : (y + 7919 * (z + 1) + 29) ^ (Int.toNat 5) % 2147483647 = one
      have o1 : 0 ≤ one := by rw [← hone]; exact Int.emod_nonneg _ (by decide)
      have o2 : one < 2147483647 := by rw [← hone]; exact Int.emod_lt_of_pos _ (by decide)
      refine r_I (cdiv (by decide) (by decide)) ?_
      walk_at "go"
      refine r_ixL i1 (v := .int (z + 1)) rfl ?_
      refine r_I (cmul (by decide) (by decide) (by omega) (by omega)) ?_
      walk_at "go"
      have g2 : (one / 8 + 104729 * (z + 1) + 11).natAbs < 2 ^ 64 := by omega
      refine r_I ⟨by decide, by decide, g2⟩ ?_
      walk_at "go"
      refine r_I (by decide) ?_
      walk_at "go"
      generalize htwo : (one / 8 + 104729 * (z + 1) + 11) ^ (Int.toNat 3) % 2147483629 = two
      have t1 : 0 ≤ two := by rw [← htwo]; exact Int.emod_nonneg _ (by decide)
      have t2 : two < 2147483629 := by rw [← htwo]; exact Int.emod_lt_of_pos _ (by decide)
      refine r_I (cdiv (by decide) (by decide)) ?_
      walk_at "go"
      refine r_I (cdiv (by decide) (by decide)) ?_
      refine r_I (cmul (by decide) (by decide) (by omega) (by omega)) ?_
      walk_at "go"
      refine r_I h0 ?_
      exact q _ _ (Int.emod_nonneg _ (by omega)) (Int.emod_lt_of_pos _ h0) ⟨x, y, z + 1, upd_same, hx, hy, hy2, by omega, by omega⟩ But.upd
end
end K01

namespace K01
open PySem PySem.Spec PyProof.Rows L2 Bk


/-! ### the exceptions' own texts -/
def spGE (K : PySem.W.Frag) : Sp := fun vs H Q _ => ∃ (a C : Addr) (x : V), vs = [.ref a, x] ∧ OexC K C ∧ H a = some (exo a C none) ∧ Q .non H
def spNW (CW : Addr) : Sp := fun vs H Q _ => ∃ (a : Addr) (x : V), vs = [.ref a, x] ∧ H a = some (exo a CW none) ∧ ∀ dx, H dx = none → dx ≠ a → Q .non (upd (upd H dx (exd dx [("found", x)])) a (exo a CW (some dx)))
/-- what is asked of a whole number between bounds -/
def wholeV (x : V) (lo hi : Int) : Bool := match x with
  | .int i => decide (lo ≤ i) && decide (i ≤ hi)
  | _ => false
def spWhole (K : PySem.W.Frag) : Sp := fun vs H Q _ => ∃ (x : V) (lo hi : Int), vs = [x, .int lo, .int hi] ∧ ((∃ i, x = .int i) ∨ (∃ b, x = .bl b) ∨ (IsA K H x "int" false ∧ ∀ l h, wholeV x l h = false)) ∧ Q (.bl (wholeV x lo hi)) H
/-- all signs lie within -/
def allW (f l : Nat) (z : Str) : Bool := z.cps.toList.all fun c => decide (f ≤ c) && decide (c ≤ l)
def spAllW : Sp := fun vs H Q _ => ∃ (z F L : Str) (f l : Nat), vs = [.str z, .str F, .str L] ∧ F.cps.toList = [f] ∧ L.cps.toList = [l] ∧ z.length ≤ 1000 ∧ ∀ H', Same H H' → Q (.bl (allW f l z)) H'
def nameOk (z : Str) : Bool := decide (1 ≤ z.length ∧ z.length ≤ 8) && allW 97 122 z
def spName (K : PySem.W.Frag) : Sp := fun vs H Q _ => ∃ x : V, vs = [x] ∧ ((∃ z : Str, x = .str z ∧ z.length ≤ 1000 ∧ ∀ H', Same H H' → Q (.bl (nameOk z)) H') ∨ (IsA K H x "str" false ∧ Q (.bl false) H))
/-- what figures write, -1 of what is none -/
def valOf (z : Str) : Int := if (1 ≤ z.length ∧ z.length ≤ 6) ∧ allW 48 57 z = true then (if z.cps.toList[0]? = some 48 ∧ 1 < z.length then -1 else ((NumText.digitsVal z.cps.toList : Nat) : Int)) else -1
def numV (z : Str) (lo hi : Int) : V := if 0 ≤ valOf z ∧ lo ≤ valOf z ∧ valOf z ≤ hi then .int (valOf z) else .non
def wrV (z : Str) : V := if valOf z = -1 then .non else .int (valOf z)
def spWr (K : PySem.W.Frag) : Sp := fun vs H Q _ => ∃ x : V, vs = [x, .int 6] ∧ ((∃ z : Str, x = .str z ∧ z.length ≤ 1000 ∧ ∀ H', Same H H' → Q (wrV z) H') ∨ (IsA K H x "str" false ∧ Q .non H))
def spNum (K : PySem.W.Frag) : Sp := fun vs H Q _ => ∃ (x : V) (lo hi : Int), vs = [x, .int lo, .int hi] ∧ ((∃ z : Str, x = .str z ∧ z.length ≤ 1000 ∧ ∀ H', Same H H' → Q (numV z lo hi) H') ∨ (IsA K H x "str" false ∧ Q .non H))
def spNameL : Sp := fun vs H Q _ => ∃ z : Str, vs = [.str z] ∧ z.length ≤ 1000 ∧ ∀ H', Same H H' → Q (.bl (nameOk z)) H'
def spVal : Sp := fun vs H Q _ => ∃ z : Str, vs = [.str z] ∧ z.length ≤ 1000 ∧ ∀ H', Same H H' → Q (.int (valOf z)) H'
theorem digits_of_allW {z : Str} (h : allW 48 57 z = true) : NumText.AllDigits z.cps.toList := fun c hc => by
  have q := List.all_eq_true.mp h c hc
  rw [Bool.and_eq_true] at q
  exact ⟨of_decide_eq_true q.1, of_decide_eq_true q.2⟩
theorem int_text {z : Str} (h : allW 48 57 z = true) (h1 : 1 ≤ z.length) (h2 : z.length ≤ 6) : PySem.intText? z = some ((NumText.digitsVal z.cps.toList : Nat) : Int) := by
  have l : z.cps.toList.length = z.length := Array.length_toList
  exact PySem.intText_digits (digits_of_allW h) (fun e => by rw [e] at l; rw [← l] at h1; exact absurd h1 (by decide)) (by omega)
section
variable {P : Program} {w : World} {K : PySem.W.Frag} {mg : Str → Option Value} {base : Heap} {CG CW fG fW : Addr}
theorem ok_GE {f : Addr} {fd : FuncData} (F : Fun K "__init__" "GuestError.__init__" s_GuestError_init f fd) (T : Txt K mg CG CW fG fW) : FnOk P w K mg base CX0 1 f fd ["self", "text"] (spGE K) := by
  refine F.ok sc_GuestError_init (fun vs H Q E h => ?_) (fun cdv A outer s H vs Q E hr h => ⟨_, (pss_one (ps_expr (pe_veinit (by rfl) T.m_ValueError T.vV (pa_cons (pv 0) (pa_cons (pv 1) pa_nil))))), ?_⟩)
  · obtain ⟨a, C, x, rfl, _⟩ := h
    rfl
  · obtain ⟨a, C, x, rfl, hC, e, q⟩ := h
    exact ⟨_, rfl, _, rfl, a, C, [x], rfl, Nat.le_of_ble_eq_true rfl, hC, e, q⟩
theorem ok_NW {f : Addr} {fd fdG : FuncData} (F : Fun K "__init__" "NoWord.__init__" s_NoWord_init f fd) (T : Txt K mg CG CW fG fW) (c_GuestError_init : Own P w K mg base CX0 1 fG fdG ["self", "text"] (spGE K)) : FnOk P w K mg base CX0 2 f fd ["self", "found"] (spNW CW) := by
  refine F.ok sc_NoWord_init (fun vs H Q E h => ?_) (fun cdv A outer s H vs Q E hr h => ⟨_, (pss_cons (ps_expr (pe_cdef c_GuestError_init.ok hr (by rfl) T.g_GuestError T.rd_GuestError T.ga_GuestError T.at_GuestError c_GuestError_init.kp c_GuestError_init.bd .nil pass0 (pa_cons (pv 0) (pa_cons pe_str pa_nil))))
    (pss_one (ps_ost (pv 0) (pv 1)))), ?_⟩)
  · obtain ⟨a, x, rfl, _⟩ := h
    rfl
  · obtain ⟨a, x, rfl, e, q⟩ := h
    walk_at "go"
    refine ⟨a, CW, _, rfl, T.ox_NoWord, e, ?_⟩
    exact ⟨x, rfl, .ref a, rfl, a, CW, rfl, T.ox_NoWord, T.nf_NoWord, .inl ⟨e, q⟩⟩
theorem ok_whole {f : Addr} {fd : FuncData} (F : Fun K "is_whole" "is_whole" s_is_whole f fd) (T : Txt K mg CG CW fG fW) : FnOk P w K mg base CX0 1 f fd ["thing", "low", "high"] (spWhole K) := by
  refine F.ok sc_is_whole (fun vs H Q E h => ?_) (fun cdv A outer s H vs Q E hr h => ⟨_, (pss_one (ps_ret (pe_and (pe_callB call_is (by rfl) T.m_isinstance (by decide +kernel) (pa_cons (pv 0) (pa_cons (pe_bltn (v := .ty "int") (by rfl) T.m_int (by decide +kernel) rfl) pa_nil))) (pe_and (pe_not (pe_callB call_is (by rfl) T.m_isinstance (by decide +kernel) (pa_cons (pv 0) (pa_cons (pe_bltn (v := .ty "bool") (by rfl) T.m_bool (by decide +kernel) rfl) pa_nil)))) (pe_one (pe_chain op_le op_le (pv 1) (pv 0) (pv 2))))))), ?_⟩)
  · obtain ⟨x, lo, hi, rfl, _⟩ := h
    rfl
  · obtain ⟨x, lo, hi, rfl, hx, q⟩ := h
    walk_at "go"
    rcases hx with ⟨i, rfl⟩ | ⟨b, rfl⟩ | ⟨hx, hn⟩
    · refine r_is (isa_int (b := true)) ?_
      walk_at "go"
      refine r_is (isa_int (b := false)) ?_
      have q : Q (.bl (decide (lo ≤ i) && decide (i ≤ hi))) H := q
      walk_at "go"
      refine ite2 (fun e => ?_) (fun e => ?_)
      · walk_at "go"
        rw [e, Bool.true_and] at q
        exact q
      · rw [Bool.eq_false_iff.mpr e, Bool.false_and] at q
        exact q
    · refine r_is (isa_bl (b := true)) ?_
      walk_at "go"
      refine r_is (isa_bl (b := true)) ?_
      walk_at "go"
      exact q
    · refine r_is hx ?_
      walk_at "go"
      rw [hn] at q
      exact q
theorem ok_allW {f : Addr} {fd : FuncData} (F : Fun K "_all_within" "_all_within" s_all_within f fd) (T : Txt K mg CG CW fG fW) : FnOk P w K mg base CX0 1 f fd ["text", "first", "last"] spAllW := by
  refine F.ok sc_all_within (fun vs H Q E h => ?_) (fun cdv A outer s H vs Q E hr h => ⟨_, (pss_one (ps_ret (pe_callB (cr_all rfl) (by rfl) T.m_all (by decide +kernel) (pa_cons (pe_lc (own := [("sign", 3)]) rfl sc_all_within.nd (pi_str (pv 0)) (blkOk_by (N := ["text", "first", "last", "sign"]) (sc := defScope s_all_within) (by decide +kernel)) (fun _ _ _ _ _ => (pg_name (i := 3) sc_all_within.nd rfl (.inl rfl))) (fun _ _ _ _ _ => pts_nil) (fun _ _ _ _ _ => (pe_chain op_le_str op_le_str (pv 1) (pv 3) (pv 2)))) pa_nil)))), ?_⟩)
  · obtain ⟨z, F, L, f, l, rfl, _⟩ := h
    rfl
  · obtain ⟨z, F, L, f, l, rfl, hf, hl, hz, q⟩ := h
    refine r_ret (r_allStr (fun c => decide (f ≤ c) && decide (c ≤ l)) rfl (by omega) (fun _ => rfl) (fun c H' Q' _ _ k => ?_) q)
    walk_at "go"
    refine ⟨_, _, rfl, rfl, ?_⟩
    walk_at "go"
    rw [hf, sign_tl, lt1]
    have k' := k H' (Same.refl _)
    by_cases h1 : c < f
    · rw [decide_eq_true h1]
      rw [decide_eq_false (by omega : ¬ f ≤ c)] at k'
      exact k'
    · rw [decide_eq_false h1]
      rw [decide_eq_true (by omega : f ≤ c), Bool.true_and] at k'
      walk_at "go"
      refine ⟨_, _, rfl, rfl, ?_⟩
      rw [hl, sign_tl, lt1, show (!decide (l < c)) = decide (c ≤ l) by by_cases h2 : l < c <;> simp [h2] <;> omega]
      exact k'
theorem ok_name {f : Addr} {fd : FuncData} (F : Fun K "is_name" "is_name" s_is_name f fd) (T : Txt K mg CG CW fG fW) (c_all_within : CalD P w K mg base CX0 1 "_all_within" spAllW []) : FnOk P w K mg base CX0 2 f fd ["thing"] (spName K) := by
  refine F.ok sc_is_name (fun vs H Q E h => ?_) (fun cdv A outer s H vs Q E hr h => ⟨_, (pss_one (ps_ret (pe_and (pe_callB call_is (by rfl) T.m_isinstance (by decide +kernel) (pa_cons (pv 0) (pa_cons (pe_bltn (v := .ty "str") (by rfl) T.m_str (by decide +kernel) rfl) pa_nil))) (pe_and (pe_chain op_le op_le pe_int (pe_callB call_len_str (by rfl) T.m_len (by decide +kernel) (pa_cons (pv 0) pa_nil)) pe_int) (pe_one (pe_cal c_all_within hr (by decide) (by rfl) (pa_cons (pv 0) (pa_cons pe_str (pa_cons pe_str pa_nil))))))))), ?_⟩)
  · obtain ⟨x, rfl, _⟩ := h
    rfl
  · obtain ⟨x, rfl, hx⟩ := h
    walk_at "go"
    rcases hx with ⟨z, rfl, hz, q⟩ | ⟨hx, q⟩
    · refine r_is (isa_str (b := true)) ?_
      walk_at "go"
      refine ⟨z, rfl, Nat.le_trans hz (by decide), ?_⟩
      walk_at "go"
      unfold nameOk at q
      refine ite2 (fun e => ?_) (fun e => ?_)
      · walk_at "go"
        refine ite2 (fun e2 => ?_) (fun e2 => ?_)
        · walk_at "go"
          have e1 := of_decide_eq_true e
          have e3 := of_decide_eq_true e2
          rw [decide_eq_true (by omega : 1 ≤ z.length ∧ z.length ≤ 8), Bool.true_and] at q
          exact ⟨z, _, _, 97, 122, rfl, rfl, rfl, hz, q⟩
        · have e3 := of_decide_eq_false (Bool.eq_false_iff.mpr e2)
          rw [decide_eq_false (by omega : ¬ (1 ≤ z.length ∧ z.length ≤ 8)), Bool.false_and] at q
          walk_at "go"
          exact q _ (Same.refl _)
      · have e3 := of_decide_eq_false (Bool.eq_false_iff.mpr e)
        rw [decide_eq_false (by omega : ¬ (1 ≤ z.length ∧ z.length ≤ 8)), Bool.false_and] at q
        walk_at "go"
        exact q _ (Same.refl _)
    · refine r_is hx ?_
      walk_at "go"
      exact q
end
end K01

namespace K01
open PySem PySem.Spec PyProof.Rows L2 Bk


theorem numV_no {z : Str} {lo hi : Int} (h : valOf z = -1) : numV z lo hi = .non := by
  unfold numV
  rw [h, if_neg (by omega)]
theorem valOf_ge {z : Str} (h : valOf z ≠ -1) : 0 ≤ valOf z := by
  unfold valOf at *
  split at h
  · split at h
    · exact absurd rfl h
    · rename_i h1 h2
      rw [if_pos h1, if_neg h2]
      omega
  · exact absurd rfl h
theorem in_fig {c : Nat} : decide (c ∈ ("0123456789" : Str).cps.toList) = (decide (48 ≤ c) && decide (c ≤ 57)) := by
  rw [show ("0123456789" : Str).cps.toList = [48, 49, 50, 51, 52, 53, 54, 55, 56, 57] by decide +kernel]
  by_cases h : 48 ≤ c ∧ c ≤ 57
  · rw [decide_eq_true h.1, decide_eq_true h.2]
    refine decide_eq_true ?_
    obtain ⟨h1, h2⟩ := h
    have : c = 48 ∨ c = 49 ∨ c = 50 ∨ c = 51 ∨ c = 52 ∨ c = 53 ∨ c = 54 ∨ c = 55 ∨ c = 56 ∨ c = 57 := by omega
    rcases this with e | e | e | e | e | e | e | e | e | e <;> subst e <;> decide
  · have e : (decide (48 ≤ c) && decide (c ≤ 57)) = false := by
      rw [Bool.and_eq_false_iff]
      by_cases h1 : 48 ≤ c
      · exact .inr (decide_eq_false (fun h2 => h ⟨h1, h2⟩))
      · exact .inl (decide_eq_false h1)
    rw [e]
    refine decide_eq_false fun m => h ?_
    simp only [List.mem_cons, List.not_mem_nil, or_false] at m
    omega
theorem in_low {c : Nat} : decide (c ∈ ("abcdefghijklmnopqrstuvwxyz" : Str).cps.toList) = (decide (97 ≤ c) && decide (c ≤ 122)) := by
  rw [show ("abcdefghijklmnopqrstuvwxyz" : Str).cps.toList = [97, 98, 99, 100, 101, 102, 103, 104, 105, 106, 107, 108, 109, 110, 111, 112, 113, 114, 115, 116, 117, 118, 119, 120, 121, 122] by decide +kernel]
  by_cases h : 97 ≤ c ∧ c ≤ 122
  · rw [decide_eq_true h.1, decide_eq_true h.2]
    refine decide_eq_true ?_
    obtain ⟨h1, h2⟩ := h
    simp only [List.mem_cons, List.not_mem_nil, or_false]
    omega
  · have e : (decide (97 ≤ c) && decide (c ≤ 122)) = false := by
      rw [Bool.and_eq_false_iff]
      by_cases h1 : 97 ≤ c
      · exact .inr (decide_eq_false (fun h2 => h ⟨h1, h2⟩))
      · exact .inl (decide_eq_false h1)
    rw [e]
    refine decide_eq_false fun m => h ?_
    simp only [List.mem_cons, List.not_mem_nil, or_false] at m
    omega
section
variable {P : Program} {w : World} {K : PySem.W.Frag} {mg : Str → Option Value} {base : Heap} {CG CW fG fW : Addr}
theorem ok_wr {f : Addr} {fd : FuncData} (F : Fun K "_written" "_written" s_written f fd) (T : Txt K mg CG CW fG fW) (c_all_within : CalD P w K mg base CX0 1 "_all_within" spAllW []) : FnOk P w K mg base CX0 2 f fd ["thing", "figures"] (spWr K) := by
  refine F.ok sc_written (fun vs H Q E h => ?_) (fun cdv A outer s H vs Q E hr h => ⟨_, (pss_cons (ps_if (PW.pt (pw_or (pt_not (pt_val (pe_callB call_is (by rfl) T.m_isinstance (by decide +kernel) (pa_cons (pv 0) (pa_cons (pe_bltn (v := .ty "str") (by rfl) T.m_str (by decide +kernel) rfl) pa_nil))))) (pw_or (pt_not (pt_chain op_le op_le pe_int (pe_callB call_len_str (by rfl) T.m_len (by decide +kernel) (pa_cons (pv 0) pa_nil)) (pv 1))) (pw_or1 (pt_not (pt_val (pe_cal c_all_within hr (by decide) (by rfl) (pa_cons (pv 0) (pa_cons pe_str (pa_cons pe_str pa_nil)))))))))) (pss_one (ps_ret pe_non)) pss_nil)
    (pss_one (ps_ret (pe_ifExp (PW.pt (pw_or (pt_cmpR op_eq (pe_callB call_len_str (by rfl) T.m_len (by decide +kernel) (pa_cons (pv 0) pa_nil)) pe_int (nomark _)) (pw_or1 (pt_not (pt_val (pe_m1 PySem.F.slot_str_startswith PySem.F.type_str_startswith mt_startswith (pv 0) pe_str)))))) (pe_callTy call_int_str (by rfl) T.m_int (by decide +kernel) (pa_cons (pv 0) pa_nil)) pe_non)))), ?_⟩)
  · obtain ⟨x, rfl, _⟩ := h
    rfl
  · obtain ⟨x, rfl, hx⟩ := h
    walk_at "go"
    rcases hx with ⟨z, rfl, hz, q⟩ | ⟨hx, q⟩
    · refine r_is (isa_str (b := true)) ?_
      walk_at "go"
      refine ⟨z, rfl, Nat.le_trans hz (by decide), ?_⟩
      walk_at "go"
      have bad : valOf z = -1 → ∀ H', Same H H' → Q .non H' := fun e H' s' => by
        have q' := q H' s'
        unfold wrV at q'
        rw [if_pos e] at q'
        exact q'
      refine iteC (fun h1 => ?_) (fun h1 => ?_)
      · walk_at "go"
        refine iteNC (fun h2 => ?_) (fun h2 => ?_)
        · walk_at "go"
          exact bad (if_neg (by omega)) _ (Same.refl _)
        · walk_at "go"
          refine ⟨z, _, _, 48, 57, rfl, rfl, rfl, hz, fun H1 s1 => ?_⟩
          walk_at "go"
          refine iteNB (fun h3 => ?_) (fun h3 => ?_)
          · walk_at "go"
            have e : valOf z = -1 := if_neg (fun c => by rw [h3] at c; exact Bool.false_ne_true c.2)
            exact bad e _ s1
          · walk_at "go"
            have hv : valOf z = if z.cps.toList[0]? = some 48 ∧ 1 < z.length then -1 else ((NumText.digitsVal z.cps.toList : Nat) : Int) := if_pos ⟨⟨by omega, by omega⟩, h3⟩
            have good : ¬ (z.cps.toList[0]? = some 48 ∧ 1 < z.length) → Q (.int ((NumText.digitsVal z.cps.toList : Nat) : Int)) H1 := fun hn => by
              rw [if_neg hn] at hv
              have q' := q H1 s1
              unfold wrV at q'
              rw [hv, if_neg (by omega)] at q'
              exact q'
            refine ⟨z, rfl, Nat.le_trans hz (by decide), ?_⟩
            walk_at "go"
            refine iteC (fun h4 => ?_) (fun h4 => ?_)
            · walk_at "go"
              refine ⟨z, _, rfl, int_text h3 (by omega) (by omega), by omega, ?_⟩
              injection h4 with h4
              exact good fun c => by omega
            · have h4' : z.length ≠ 1 := fun e => h4 (by rw [e]; rfl)
              walk_at "go"
              refine ⟨⟨z, rfl⟩, ?_⟩
              walk_at "go"
              refine ⟨z, _, rfl, rfl, ?_⟩
              rw [show (Str.ofString "0" : Str) = ⟨#[48]⟩ by decide +kernel, starts1]
              walk_at "go"
              refine iteNB (fun h5 => ?_) (fun h5 => ?_)
              · walk_at "go"
                refine ⟨z, _, rfl, int_text h3 (by omega) (by omega), by omega, ?_⟩
                exact good fun c => (of_decide_eq_false h5) c.1
              · walk_at "go"
                rw [if_pos ⟨of_decide_eq_true h5, by omega⟩] at hv
                exact bad hv _ s1
      · walk_at "go"
        exact bad (if_neg (by omega)) _ (Same.refl _)
    · refine r_is hx ?_
      walk_at "go"
      exact q
theorem ok_num {f : Addr} {fd : FuncData} {D : Addr} {kws : List (Str × V)} (F : FunD K "number_in" "number_in" (defArgs s_number_in) (defBody s_number_in) (defScope s_number_in) [] kws f fd) (T : Txt K mg CG CW fG fW) (c_written : CalD P w K mg base CX0 2 "_written" (spWr K) []) :
    FnOk P w K mg base CX0 3 f fd ["thing", "least", "most"] (spNum K) := by
  refine F.ok sc_number_in (fun vs H Q E h => ?_) (fun cdv A outer s H vs Q E hr h => ?_)
  · obtain ⟨x, lo, hi, rfl, _⟩ := h
    rfl
  · suffices hs : ∃ t, PSs (cxOf CX0 P w K mg base _ "number_in" (defScope s_number_in) f cdv A outer s H E).nox (defBody s_number_in) t ∧ t { nx := fun _ H' => Q .non H', rt := Q } (start ["thing", "least", "most", "number"] vs) H from
      let ⟨t, h1, h2⟩ := hs
      ⟨t, h1.nox, h2⟩
    refine ⟨_, (pss_cons (ps_set (i := 3) sc_number_in.nd rfl (.inl rfl) (pe_cal c_written hr (by decide) (by rfl) (pa_cons (pv 0) (pa_cons (C8.pe_gc (by rfl) T.c_SHORT) pa_nil))))
    (pss_one (ps_ret (pe_ifExp (PW.pt (pw_and (pt_cmpR op_notN (pv 3) pe_non (nomark _)) (pw_and1 (pt_chain op_le op_le (pv 1) (pv 3) (pv 2))))) (pv 3) pe_non)))), ?_⟩
    obtain ⟨x, lo, hi, rfl, hx⟩ := h
    walk_at "go"
    rcases hx with ⟨z, rfl, hz, q⟩ | ⟨hx, q⟩
    · refine ⟨.str z, rfl, .inl ⟨z, rfl, hz, fun H1 s1 => ?_⟩⟩
      have q' := q H1 s1
      unfold wrV
      by_cases e : valOf z = -1
      · rw [if_pos e]
        rw [numV_no e] at q'
        walk_at "go"
        refine ⟨rfl, _, rfl, iteND rfl (iteF ?_)⟩
        walk_at "go"
        exact q'
      · rw [if_neg e]
        unfold numV at q'
        have hv : 0 ≤ valOf z := valOf_ge e
        walk_at "go"
        refine ⟨rfl, _, rfl, iteNDn (fun z => nomatch z) ?_⟩
        walk_at "go"
        refine iteC (fun h4 => ?_) (fun h4 => ?_)
        · walk_at "go"
          refine iteC (fun h5 => ?_) (fun h5 => ?_)
          · walk_at "go"
            rw [if_pos ⟨hv, h4, h5⟩] at q'
            exact q'
          · walk_at "go"
            rw [if_neg (fun c => h5 c.2.2)] at q'
            exact q'
        · walk_at "go"
          rw [if_neg (fun c => h4 c.2.1)] at q'
          exact q'
    · refine ⟨x, rfl, .inr ⟨hx, ?_⟩⟩
      walk_at "go"
      refine ⟨rfl, _, rfl, iteND rfl (iteF ?_)⟩
      walk_at "go"
      exact q
theorem ok_nameL {f : Addr} {fd : FuncData} (F : Fun K "_law_is_name" "_law_is_name" s_is_name_L f fd) (T : Txt K mg CG CW fG fW) : FnOk P w K mg base CX0 1 f fd ["_law_text"] spNameL := by
  refine F.ok sc_is_name_L (fun vs H Q E h => ?_) (fun cdv A outer s H vs Q E hr h => ⟨_, (pss_one (ps_ret (pe_and (pe_chain op_le op_le pe_int (pe_callB call_len_str (by rfl) T.m_len (by decide +kernel) (pa_cons (pv 0) pa_nil)) pe_int) (pe_one (pe_callB (cr_all rfl) (by rfl) T.m_all (by decide +kernel) (pa_cons (pe_lc (own := [("_law_sign_here", 1)]) rfl sc_is_name_L.nd (pi_str (pv 0)) (blkOk_by (N := ["_law_text", "_law_sign_here"]) (sc := defScope s_is_name_L) (by decide +kernel)) (fun _ _ _ _ _ => (pg_name (i := 1) sc_is_name_L.nd rfl (.inl rfl))) (fun _ _ _ _ _ => pts_nil) (fun _ _ _ _ _ => (pe_cmpR op_in_sign (pv 1) pe_str (by rfl)))) pa_nil)))))), ?_⟩)
  · obtain ⟨z, rfl, _⟩ := h
    rfl
  · obtain ⟨z, rfl, hz, q⟩ := h
    walk_at "go"
    refine ⟨z, rfl, Nat.le_trans hz (by decide), ?_⟩
    walk_at "go"
    unfold nameOk at q
    refine iteC (fun h1 => ?_) (fun h1 => ?_)
    · walk_at "go"
      refine iteC (fun h2 => ?_) (fun h2 => ?_)
      · rw [decide_eq_true (by omega : 1 ≤ z.length ∧ z.length ≤ 8), Bool.true_and] at q
        refine r_allStr (fun c => decide (97 ≤ c) && decide (c ≤ 122)) rfl (by omega) (fun _ => rfl) (fun c H' Q' _ _ k => ?_) q
        walk_at "go"
        refine ⟨c, _, rfl, rfl, ?_⟩
        rw [in_low]
        exact k H' (Same.refl _)
      · rw [decide_eq_false (by omega : ¬ (1 ≤ z.length ∧ z.length ≤ 8)), Bool.false_and] at q
        walk_at "go"
        exact q _ (Same.refl _)
    · rw [decide_eq_false (by omega : ¬ (1 ≤ z.length ∧ z.length ≤ 8)), Bool.false_and] at q
      walk_at "go"
      exact q _ (Same.refl _)
theorem ok_value {f : Addr} {fd : FuncData} (F : Fun K "_law_value" "_law_value" s_value_L f fd) (T : Txt K mg CG CW fG fW) : FnOk P w K mg base CX0 1 f fd ["_law_text"] spVal := by
  refine F.ok sc_value_L (fun vs H Q E h => ?_) (fun cdv A outer s H vs Q E hr h => ⟨_, (pss_cons (ps_if (PW.pt (pw_or (pt_not (pt_chain op_le op_le pe_int (pe_callB call_len_str (by rfl) T.m_len (by decide +kernel) (pa_cons (pv 0) pa_nil)) pe_int)) (pw_or1 (pt_not (pt_val (pe_callB (cr_all rfl) (by rfl) T.m_all (by decide +kernel) (pa_cons (pe_lc (own := [("_law_sign_here", 1)]) rfl sc_value_L.nd (pi_str (pv 0)) (blkOk_by (N := ["_law_text", "_law_sign_here"]) (sc := defScope s_value_L) (by decide +kernel)) (fun _ _ _ _ _ => (pg_name (i := 1) sc_value_L.nd rfl (.inl rfl))) (fun _ _ _ _ _ => pts_nil) (fun _ _ _ _ _ => (pe_cmpR op_in_sign (pv 1) pe_str (by rfl)))) pa_nil))))))) (pss_one (ps_ret (pe_un un_neg pe_int))) pss_nil)
    (pss_one (ps_ret (pe_ifExp (PW.pt (pw_and (pt_cmpR op_eq (pe_ix ix_str (pv 0) pe_int (fun _ _ => rfl)) pe_str (nomark _)) (pw_and1 (pt_cmpR op_gt (pe_callB call_len_str (by rfl) T.m_len (by decide +kernel) (pa_cons (pv 0) pa_nil)) pe_int (nomark _))))) (pe_un un_neg pe_int) (pe_callTy call_int_str (by rfl) T.m_int (by decide +kernel) (pa_cons (pv 0) pa_nil)))))), ?_⟩)
  · obtain ⟨z, rfl, _⟩ := h
    rfl
  · obtain ⟨z, rfl, hz, q⟩ := h
    walk_at "go"
    refine ⟨z, rfl, Nat.le_trans hz (by decide), ?_⟩
    walk_at "go"
    have bad : ∀ H', Same H H' → valOf z = -1 → Q (.int (-1)) H' := fun H' s1 e => by
      have q' := q H' s1
      rw [e] at q'
      exact q'
    refine iteC (fun h1 => ?_) (fun h1 => ?_)
    · walk_at "go"
      refine iteNC (fun h2 => ?_) (fun h2 => ?_)
      · walk_at "go"
        exact bad _ (Same.refl _) (if_neg (by omega))
      · walk_at "go"
        refine r_allStr (fun c => decide (48 ≤ c) && decide (c ≤ 57)) rfl (by omega) (fun _ => rfl) (fun c H' Q' _ _ k => ?_) fun H1 s1 => ?_
        · walk_at "go"
          refine ⟨c, _, rfl, rfl, ?_⟩
          rw [in_fig]
          exact k H' (Same.refl _)
        · walk_at "go"
          refine iteNB (fun h3 => ?_) (fun h3 => ?_)
          · walk_at "go"
            exact bad _ s1 (if_neg (fun c => by rw [show allW 48 57 z = false from h3] at c; exact Bool.false_ne_true c.2))
          · walk_at "go"
            have hv : valOf z = if z.cps.toList[0]? = some 48 ∧ 1 < z.length then -1 else ((NumText.digitsVal z.cps.toList : Nat) : Int) := if_pos ⟨⟨by omega, by omega⟩, h3⟩
            have l : z.cps.toList.length = z.length := Array.length_toList
            obtain ⟨c0, hc0⟩ : ∃ c0, z.cps.toList[0]? = some c0 := ⟨z.cps.toList[0]'(by omega), List.getElem?_eq_getElem (by omega)⟩
            have num : ¬ (z.cps.toList[0]? = some 48 ∧ 1 < z.length) → ∃ a n, [V.str z] = [.str a] ∧ PySem.intText? a = some n ∧ a.length ≤ 640 ∧ Q (.int n) H1 := fun hn => by
              rw [if_neg hn] at hv
              have q' := q H1 s1
              rw [hv] at q'
              exact ⟨z, _, rfl, int_text h3 (by omega) (by omega), by omega, q'⟩
            refine ⟨z, 0, c0, rfl, rfl, Nat.le_trans hz (by decide), atI_nat (j := 0) hc0, ?_⟩
            walk_at "go"
            refine iteC (fun h4 => ?_) (fun h4 => ?_)
            · have e : c0 = 48 := by
                have z1 := V.str.inj h4
                have z2 : [c0] = [48] := congrArg (fun x : Str => x.cps.toList) z1
                exact List.head_eq_of_cons_eq z2
              subst e
              walk_at "go"
              refine ⟨z, rfl, Nat.le_trans hz (by decide), ?_⟩
              walk_at "go"
              refine iteC (fun h5 => ?_) (fun h5 => ?_)
              · walk_at "go"
                rw [if_pos ⟨hc0, by omega⟩] at hv
                exact bad _ s1 hv
              · walk_at "go"
                exact num fun c => h5 (by omega)
            · walk_at "go"
              refine num fun c => h4 (?_)
              have z1 : c0 = 48 := Option.some.inj (hc0.symm.trans c.1)
              rw [z1]
              rfl
    · walk_at "go"
      exact bad _ (Same.refl _) (if_neg (by omega))
end
end K01

namespace K01
open PySem PySem.Spec PyProof.Rows L2 Bk


def spSign : Sp := fun vs H Q _ => ∃ (a : Addr) (n : Nat), vs = [.ref a] ∧ Box a n H ∧ n < 999000 ∧ ∀ c H', Box a (n + 1) H' → But a H H' → Q (.str ⟨#[c]⟩) H'
def spSpoilt : Sp := fun vs H Q _ => ∃ (t s : Str) (way place : Int), vs = [.str t, .int way, .int place, .str s] ∧ t.length ≤ 100 ∧ s.length ≤ 1 ∧ 0 ≤ way ∧ 0 ≤ place ∧ ∀ (z : Str) H', z.length ≤ 1000 → Same H H' → Q (.str z) H'
def spNumR : Sp := fun vs H Q _ => ∃ (z : Str) (lo hi : Int), vs = [.str z, .int lo, .int hi] ∧ z.length ≤ 1000 ∧ ∀ H', Same H H' → Q (.bl true) H'
def spWholeR : Sp := fun vs H Q _ => ∃ (a : Addr) (n : Nat), vs = [.ref a] ∧ Box a n H ∧ n < 999000 ∧ ∀ H', Box a (n + 5) H' → But a H H' → Q (.bl true) H'
def spNamed : Sp := fun vs H Q _ => ∃ z : Str, vs = [.str z] ∧ z.length ≤ 1000 ∧ ∀ H', Same H H' → Q (.bl true) H'
def spThings : Sp := fun vs H Q _ => vs = [] ∧ ∀ H', Same H H' → Q (.bl true) H'
theorem num_cases (z : Str) (lo hi : Int) : (∃ v, numV z lo hi = .int v) ∨ numV z lo hi = .non := by
  unfold numV
  split
  · exact .inl ⟨_, rfl⟩
  · exact .inr rfl
theorem scal_num (z : Str) (lo hi : Int) : scal (numV z lo hi) (numV z lo hi) = true := by
  rcases num_cases z lo hi with ⟨v, e⟩ | e <;> rw [e] <;> rfl
section
variable {P : Program} {w : World} {K : PySem.W.Frag} {mg : Str → Option Value} {base : Heap} {CG CW fG fW : Addr}
theorem ok_sign {f : Addr} {fd : FuncData} (F : Fun K "_law_sign" "_law_sign" s_sign_L f fd) (T : Txt K mg CG CW fG fW) (c_take_L : CalD P w K mg base CX0 1 "_law_take" spTake []) : FnOk P w K mg base CX0 2 f fd ["_law_box_here"] spSign := by
  refine F.ok sc_sign_L (fun vs H Q E h => ?_) (fun cdv A outer s H vs Q E hr h => ⟨_, (pss_cons (ps_set (i := 1) sc_sign_L.nd rfl (.inl rfl) pe_str)
    (pss_one (ps_ret (pe_ix ix_str (pv 1) (pe_cal c_take_L hr (by decide) (by rfl) (pa_cons (pv 0) (pa_cons pe_int pa_nil))) (fun _ _ => rfl))))), ?_⟩)
  · obtain ⟨a, n, rfl, _⟩ := h
    rfl
  · obtain ⟨a, n, rfl, hB, hn, q⟩ := h
    walk_at "go"
    refine r_take hB fun d H' d0 d1 hB' bt => ?_
    refine r_ixS d0 (Int.lt_of_lt_of_le d1 (by decide +kernel)) (by decide +kernel) fun c _ => ?_
    exact q c H' hB' bt
theorem ok_spoilt {f : Addr} {fd : FuncData} (F : Fun K "_law_spoilt" "_law_spoilt" s_spoilt_L f fd) (T : Txt K mg CG CW fG fW) : FnOk P w K mg base CX0 1 f fd ["_law_text", "_law_way", "_law_place", "_law_sign_here"] spSpoilt := by
  refine F.ok sc_spoilt_L (fun vs H Q E h => ?_) (fun cdv A outer s H vs Q E hr h => ⟨_, (pss_cons (ps_if (pt_cmpR op_eq (pv 1) pe_int (nomark _)) (pss_one (ps_ret (pv 0))) pss_nil)
    (pss_cons (ps_set (i := 4) sc_spoilt_L.nd rfl (.inl rfl) (pe_op op_mod (pv 2) (pe_op op_add (pe_callB call_len_str (by rfl) T.m_len (by decide +kernel) (pa_cons (pv 0) pa_nil)) pe_int)))
    (pss_cons (ps_if (pt_cmpR op_eq (pv 1) pe_int (nomark _)) (pss_one (ps_ret (pe_op op_add_str (pe_op op_add_str (pe_slice sl_str (pv 0) po_none (po_some (pv 4))) (pv 3)) (pe_slice sl_str (pv 0) (po_some (pv 4)) po_none)))) pss_nil)
    (pss_one (ps_ret (pe_op op_add_str (pe_op op_add_str (pe_slice sl_str (pv 0) po_none (po_some (pv 4))) (pe_ix ix_list (pe_lst (pa_cons pe_str (pa_cons (pv 3) pa_nil))) (pe_op op_mod (pv 1) pe_int) (fun _ _ => rfl))) (pe_slice sl_str (pv 0) (po_some (pe_op op_add (pv 4) pe_int)) po_none))))))), ?_⟩)
  · obtain ⟨t, s, way, place, rfl, _⟩ := h
    rfl
  · obtain ⟨t, s, way, place, rfl, ht, hs, hw, hp, q⟩ := h
    have ln : ∀ n : Nat, n ≤ 100000 → n ≤ sizeLine := fun n h => Nat.le_trans h (by decide)
    walk_at "go"
    refine iteC (fun h0 => ?_) (fun h0 => ?_)
    · walk_at "go"
      exact q t H (by omega) (Same.refl _)
    · walk_at "go"
      refine ⟨t, rfl, Nat.le_trans ht (by decide), ?_⟩
      walk_at "go"
      refine r_I (by omega) ?_
      walk_at "go"
      refine iteC (fun h1 => ?_) (fun h1 => ?_)
      · walk_at "go"
        refine r_slS (by omega) fun y hy => ?_
        walk_at "go"
        refine ⟨y, s, rfl, rfl, ln _ (by omega), ?_⟩
        walk_at "go"
        refine r_slS (by omega) fun y2 hy2 => ?_
        refine ⟨_, y2, rfl, rfl, ln _ (by rw [str_len_add]; omega), ?_⟩
        exact q _ H (by rw [str_len_add, str_len_add]; omega) (Same.refl _)
      · walk_at "go"
        refine r_slS (by omega) fun y hy => ?_
        walk_at "go"
        refine newL fun p H' np sm e => ?_
        walk_at "go"
        refine r_I (by decide) ?_
        refine r_ixLo (sqL e) (Int.emod_nonneg _ (by decide)) (by show _ < (2 : Int); exact Int.emod_lt_of_pos _ (by decide)) fun v hv _ => ?_
        obtain ⟨m, rfl, hm⟩ : ∃ m : Str, v = .str m ∧ m.length ≤ 1 := by
          rcases List.mem_cons.mp hv with e | hv
          · exact ⟨_, e, by decide +kernel⟩
          · rcases List.mem_cons.mp hv with e | hv
            · exact ⟨_, e, hs⟩
            · cases hv
        refine ⟨y, m, rfl, rfl, ln _ (by omega), ?_⟩
        walk_at "go"
        refine r_slS (by omega) fun y2 hy2 => ?_
        refine ⟨_, y2, rfl, rfl, ln _ (by rw [str_len_add]; omega), ?_⟩
        exact q _ H' (by rw [str_len_add, str_len_add]; omega) sm
theorem ok_wholeR {f : Addr} {fd : FuncData} (F : Fun K "_law_whole_right" "_law_whole_right" s_whole_right_L f fd) (T : Txt K mg CG CW fG fW) (c_take_L : CalD P w K mg base CX0 1 "_law_take" spTake [])
    (c_is_whole : CalD P w K mg base CX0 1 "is_whole" (spWhole K) []) (k_is_whole_0_high_low_thing : CalN P w K mg base CX0 1 0 ["high", "low", "thing"] "is_whole" (spWhole K) (fun _ zs => zs.reverse)) : FnOk P w K mg base CX0 2 f fd ["_law_box_here"] spWholeR := by
  refine F.ok sc_whole_right_L (fun vs H Q E h => ?_) (fun cdv A outer s H vs Q E hr h => ⟨_, (pss_cons (ps_set (i := 1) sc_whole_right_L.nd rfl (.inl rfl) (pe_cal c_take_L hr (by decide) (by rfl) (pa_cons (pv 0) (pa_cons (pe_ix ix_list (pe_lst (pa_cons pe_int (pa_cons pe_int (pa_cons (pe_op op_pow pe_int pe_int) pa_nil)))) (pe_cal c_take_L hr (by decide) (by rfl) (pa_cons (pv 0) (pa_cons pe_int pa_nil))) (fun _ _ => rfl)) pa_nil))))
    (C8.pss_cut (ps_if (pt_cmpR op_eq (pe_cal c_take_L hr (by decide) (by rfl) (pa_cons (pv 0) (pa_cons pe_int pa_nil))) pe_int (nomark _)) (pss_one (ps_set (i := 1) sc_whole_right_L.nd rfl (.inl rfl) (pe_un un_neg (pv 1)))) pss_nil)
    (pss_cons (ps_set (i := 2) sc_whole_right_L.nd rfl (.inl rfl) (pe_op op_add (pv 1) (pe_ix ix_list (pe_lst (pa_cons pe_int (pa_cons pe_int (pa_cons (pe_un un_neg pe_int) (pa_cons (pe_un un_neg (pe_op op_pow pe_int pe_int)) (pa_cons (pe_op op_pow pe_int pe_int) pa_nil)))))) (pe_cal c_take_L hr (by decide) (by rfl) (pa_cons (pv 0) (pa_cons pe_int pa_nil))) (fun _ _ => rfl))))
    (pss_cons (ps_set (i := 3) sc_whole_right_L.nd rfl (.inl rfl) (pe_op op_add (pv 1) (pe_ix ix_list (pe_lst (pa_cons pe_int (pa_cons pe_int (pa_cons (pe_un un_neg pe_int) (pa_cons (pe_un un_neg (pe_op op_pow pe_int pe_int)) (pa_cons (pe_op op_pow pe_int pe_int) pa_nil)))))) (pe_cal c_take_L hr (by decide) (by rfl) (pa_cons (pv 0) (pa_cons pe_int pa_nil))) (fun _ _ => rfl))))
    (C8.pss_cut (ps_set (i := 4) sc_whole_right_L.nd rfl (.inl rfl) (pe_and (pe_cmpR op_le (pv 2) (pv 1) (nomark _)) (pe_one (pe_cmpR op_le (pv 1) (pv 3) (nomark _)))))
    (pss_cons (ps_if (pt_cmpR op_ne (pe_callB call_repr_bl (by rfl) T.m_repr (by decide +kernel) (pa_cons (pe_calN0 k_is_whole_0_high_low_thing (hr.mono (by decide)) (by rfl) (pk_cons (pv 3) (pk_cons (pv 2) (pk_cons (pv 1) pk_nil)))) pa_nil)) (pe_callB call_repr_bl (by rfl) T.m_repr (by decide +kernel) (pa_cons (pv 4) pa_nil)) (nomark _)) (pss_one (ps_ret pe_bl)) pss_nil)
    (pss_one (ps_ret (pe_cmpR op_eq (pe_callB call_repr_bl (by rfl) T.m_repr (by decide +kernel) (pa_cons (pe_cal c_is_whole hr (by decide) (by rfl) (pa_cons (pv 1) (pa_cons (pv 2) (pa_cons (pv 3) pa_nil)))) pa_nil)) (pe_callB call_repr_bl (by rfl) T.m_repr (by decide +kernel) (pa_cons (pv 4) pa_nil)) (nomark _)))))))))), ?_⟩)
  · obtain ⟨a, n, rfl, _⟩ := h
    rfl
  · obtain ⟨a, n, rfl, hB, hn, q⟩ := h
    walk_at "go"
    refine r_I ⟨by decide, by decide, by decide⟩ ?_
    walk_at "go"
    refine newL fun p H1 np s1 e1 => ?_
    have hB1 := hB.same s1
    walk_at "go"
    refine r_take hB1 fun d H2 d0 d1 hB2 b2 => ?_
    refine r_ixLo (sqL (b2 _ _ (hB.ne np) e1)) d0 d1 fun v hv _ => ?_
    obtain ⟨size, rfl, z0, z1⟩ : ∃ i : Int, v = .int i ∧ 0 < i ∧ i < 2 ^ 128 := by
      rcases List.mem_cons.mp hv with e | hv
      · exact ⟨_, e, by decide, by decide⟩
      · rcases List.mem_cons.mp hv with e | hv
        · exact ⟨_, e, by decide, by decide⟩
        · rcases List.mem_cons.mp hv with e | hv
          · exact ⟨_, e, by decide, by decide⟩
          · cases hv
    walk_at "go"
    refine r_take hB2 (h0 := z0) (h1 := z1) fun num H3 num0 num1 hB3 b3 => ?_
    walk_at "go"
    refine r_cut (fun σ H' => (∃ num : Int, σ = [some (.ref a), some (.int num), none, none, none]) ∧ Box a (n + 3) H' ∧ But a H H') ?_ ?_
    · walk_at "go"
      refine r_take hB3 fun d4 H4 _ _ hB4 b4 => ?_
      have b04 : But a H H4 := (((But.of s1).trans b2).trans b3).trans b4
      walk_at "go"
      refine iteC (fun _ => ?_) (fun _ => ?_)
      · walk_at "go"
        exact ⟨⟨_, rfl⟩, hB4, b04⟩
      · walk_at "go"
        exact ⟨⟨_, rfl⟩, hB4, b04⟩
    rintro σ H4 ⟨⟨num, rfl⟩, hB4, b04⟩
    walk_at "go"
    refine r_I ⟨by decide, by decide, by decide⟩ ?_
    walk_at "go"
    refine r_I ⟨by decide, by decide, by decide⟩ ?_
    walk_at "go"
    refine newL fun p5 H5 np5 s5 e5 => ?_
    walk_at "go"
    refine r_take (hB4.same s5) fun d5 H6 x50 x51 hB6 b6 => ?_
    refine r_ixLo (sqL (b6 _ _ (hB4.ne np5) e5)) x50 x51 fun v5 hv5 _ => ?_
    obtain ⟨f5, rfl⟩ : ∃ i : Int, v5 = .int i := by
      simp only [List.mem_cons, List.not_mem_nil, or_false] at hv5
      rcases hv5 with e | e | e | e | e <;> exact ⟨_, e⟩
    walk_at "go"
    refine r_I ⟨by decide, by decide, by decide⟩ ?_
    walk_at "go"
    refine r_I ⟨by decide, by decide, by decide⟩ ?_
    walk_at "go"
    refine newL fun p7 H7 np7 s7 e7 => ?_
    walk_at "go"
    refine r_take (hB6.same s7) fun d7 H8 x70 x71 hB8 b8 => ?_
    refine r_ixLo (sqL (b8 _ _ (hB6.ne np7) e7)) x70 x71 fun v7 hv7 _ => ?_
    obtain ⟨f7, rfl⟩ : ∃ i : Int, v7 = .int i := by
      simp only [List.mem_cons, List.not_mem_nil, or_false] at hv7
      rcases hv7 with e | e | e | e | e <;> exact ⟨_, e⟩
    have b08 : But a H H8 := (((b04.same s5).trans b6).same s7).trans b8
    walk_at "go"
    refine r_cut (fun σ H' => σ = [some (.ref a), some (.int num), some (.int (num + f5)), some (.int (num + f7)), some (.bl (wholeV (.int num) (num + f5) (num + f7)))] ∧ H' = H8) ?_ ?_
    · walk_at "go"
      refine iteC (fun h1 => ?_) (fun h1 => ?_)
      · walk_at "go"
        refine ⟨?_, rfl⟩
        show _ = [_, _, _, _, some (V.bl (decide (num + f5 ≤ num) && decide (num ≤ num + f7)))]
        rw [decide_eq_true h1, Bool.true_and]
        rfl
      · walk_at "go"
        refine ⟨?_, rfl⟩
        show _ = [_, _, _, _, some (V.bl (decide (num + f5 ≤ num) && decide (num ≤ num + f7)))]
        rw [decide_eq_false h1, Bool.false_and]
        rfl
    rintro σ H9 ⟨rfl, rfl⟩
    walk_at "go"
    refine ⟨rfl, rfl, ?_⟩
    refine ⟨.int num, num + f5, num + f7, rfl, .inl ⟨_, rfl⟩, ?_⟩
    walk_at "go"
    refine ⟨_, rfl, ?_⟩
    walk_at "go"
    refine ⟨_, rfl, ?_⟩
    walk_at "go"
    rw [reprB_inj]
    refine iteND rfl ?_
    walk_at "go"
    refine ⟨.int num, num + f5, num + f7, rfl, .inl ⟨_, rfl⟩, ?_⟩
    walk_at "go"
    refine ⟨_, rfl, ?_⟩
    walk_at "go"
    refine ⟨_, rfl, ?_⟩
    walk_at "go"
    rw [reprB_inj, decide_eq_true rfl]
    exact q _ hB8 b08
end
end K01

namespace K01
open PySem PySem.Spec PyProof.Rows L2 Bk


section
variable {P : Program} {w : World} {K : PySem.W.Frag} {mg : Str → Option Value} {base : Heap} {CG CW fG fW : Addr}
theorem ok_numR {f : Addr} {fd : FuncData} (F : Fun K "_law_number_right" "_law_number_right" s_number_right_L f fd) (T : Txt K mg CG CW fG fW) (c_value_L : CalD P w K mg base CX0 1 "_law_value" spVal [])
    (c_number_in : CalD P w K mg base CX0 3 "number_in" (spNum K) [.int 0, .int 4095])
    (k_number_in_1_least : CalN P w K mg base CX0 3 1 ["least"] "number_in" (spNum K) (fun vs zs => vs ++ zs ++ [.int 4095]))
    (k_number_in_1_most : CalN P w K mg base CX0 3 1 ["most"] "number_in" (spNum K) (fun vs zs => vs ++ [.int 0] ++ zs))
    (k_number_in_1_most_least : CalN P w K mg base CX0 3 1 ["most", "least"] "number_in" (spNum K) (fun vs zs => vs ++ zs.reverse))
    (k_number_in_1_least_most : CalN P w K mg base CX0 3 1 ["least", "most"] "number_in" (spNum K) (fun vs zs => vs ++ zs)) :
    FnOk P w K mg base CX0 4 f fd ["_law_text", "_law_floor", "_law_top"] spNumR := by
  refine F.ok sc_number_right_L (fun vs H Q E h => ?_) (fun cdv A outer s H vs Q E hr h => ⟨_, (pss_cons (ps_set (i := 3) sc_number_right_L.nd rfl (.inl rfl) (pe_cal c_value_L hr (by decide) (by rfl) (pa_cons (pv 0) pa_nil)))
    (pss_cons (ps_set (i := 4) sc_number_right_L.nd rfl (.inl rfl) (pe_lst (pa_cons (pe_calD c_number_in hr (by decide) (by rfl) (pa_cons (pv 0) pa_nil)) (pa_cons (pe_calN k_number_in_1_least (hr.mono (by decide)) (by rfl) (pa_cons (pv 0) pa_nil) (pk_cons (pv 1) pk_nil)) (pa_cons (pe_calN k_number_in_1_most (hr.mono (by decide)) (by rfl) (pa_cons (pv 0) pa_nil) (pk_cons (pv 2) pk_nil)) pa_nil)))))
    (pss_cons (ps_set (i := 4) sc_number_right_L.nd rfl (.inl rfl) (pe_op op_cat (pv 4) (pe_lst (pa_cons (pe_calN k_number_in_1_most_least (hr.mono (by decide)) (by rfl) (pa_cons (pv 0) pa_nil) (pk_cons (pv 2) (pk_cons (pv 1) pk_nil))) (pa_cons (pe_calN k_number_in_1_least_most (hr.mono (by decide)) (by rfl) (pa_cons (pv 0) pa_nil) (pk_cons (pv 1) (pk_cons (pv 2) pk_nil))) pa_nil)))))
    (pss_cons (ps_set (i := 5) sc_number_right_L.nd rfl (.inl rfl) (pe_lst (pa_cons (pe_tup (pa_cons pe_int (pa_cons pe_int pa_nil))) (pa_cons (pe_tup (pa_cons (pv 1) (pa_cons pe_int pa_nil))) (pa_cons (pe_tup (pa_cons pe_int (pa_cons (pv 2) pa_nil))) (pa_cons (pe_tup (pa_cons (pv 1) (pa_cons (pv 2) pa_nil))) (pa_cons (pe_tup (pa_cons (pv 1) (pa_cons (pv 2) pa_nil))) pa_nil)))))))
    (pss_cons (ps_for PassesOwn.never rfl (pi_zip (by rfl) T.m_zip (pa_cons (pv 4) (pa_cons (pv 5) pa_nil))) (pg_tup rfl (pgs_cons (pg_name (i := 6) sc_number_right_L.nd rfl (.inl rfl)) (pgs_cons (pg_name (i := 7) sc_number_right_L.nd rfl (.inl rfl)) pgs_nil)))
      (C8.pss_cut (ps_set (i := 8) sc_number_right_L.nd rfl (.inl rfl) (pe_ifExp (PW.pt (pw_and (pt_cmpR op_ge (pv 3) pe_int (nomark _)) (pw_and1 (pt_chain op_le op_le (pe_ix ix_tup (pv 7) pe_int (fun _ _ => rfl)) (pv 3) (pe_ix ix_tup (pv 7) pe_int (fun _ _ => rfl)))))) (pv 3) pe_non))
    (pss_one (ps_if (PW.pt (pw_or (pt_cmpR op_ne (pv 6) (pv 8) (nomark _)) (pw_or (pt_val (pe_callB call_is (by rfl) T.m_isinstance (by decide +kernel) (pa_cons (pv 6) (pa_cons (pe_bltn (v := .ty "bool") (by rfl) T.m_bool (by decide +kernel) rfl) pa_nil)))) (pw_or1 (pt_cmpR op_ne (pe_cmpR op_isN (pv 8) pe_non (nomark _)) (pe_cmpR op_isN (pv 6) pe_non (nomark _)) (nomark _)))))) (pss_one (ps_ret pe_bl)) pss_nil))))
    (pss_one (ps_ret pe_bl))))))), ?_⟩)
  · obtain ⟨z, lo, hi, rfl, _⟩ := h
    rfl
  · obtain ⟨z, lo, hi, rfl, hz, q⟩ := h
    walk_at "go"
    refine ⟨z, rfl, hz, fun H1 s1 => ?_⟩
    walk_at "go"
    refine ⟨.str z, 0, 4095, rfl, .inl ⟨z, rfl, hz, fun H2 s2 => ?_⟩⟩
    walk_at "go"
    refine ⟨rfl, rfl, .str z, lo, 4095, rfl, .inl ⟨z, rfl, hz, fun H3 s3 => ?_⟩⟩
    walk_at "go"
    refine ⟨rfl, rfl, .str z, 0, hi, rfl, .inl ⟨z, rfl, hz, fun H4 s4 => ?_⟩⟩
    walk_at "go"
    refine newL fun p5 H5 np5 s5 e5 => ?_
    walk_at "go"
    refine ⟨rfl, rfl, .str z, lo, hi, rfl, .inl ⟨z, rfl, hz, fun H6 s6 => ?_⟩⟩
    walk_at "go"
    refine ⟨rfl, rfl, .str z, lo, hi, rfl, .inl ⟨z, rfl, hz, fun H7 s7 => ?_⟩⟩
    walk_at "go"
    refine newL fun p8 H8 np8 s8 e8 => ?_
    refine ⟨p5, p8, _, _, rfl, rfl, s8 _ _ (s7 _ _ (s6 _ _ e5)), e8, Nat.le_trans (m := 100) (Nat.le_of_ble_eq_true rfl) (by decide), fun p9 np9 => ?_⟩
    have s9 := same_upd (o := .lst ([numV z 0 4095, numV z lo 4095, numV z 0 hi] ++ [numV z lo hi, numV z lo hi])) np9
    have e9 : upd H8 p9 (.lst ([numV z 0 4095, numV z lo 4095, numV z 0 hi] ++ [numV z lo hi, numV z lo hi])) p9 = some (.lst [numV z 0 4095, numV z lo 4095, numV z 0 hi, numV z lo hi, numV z lo hi]) := upd_same
    generalize upd H8 p9 (.lst ([numV z 0 4095, numV z lo 4095, numV z 0 hi] ++ [numV z lo hi, numV z lo hi])) = H9 at s9 e9 ⊢
    walk_at "go"
    refine newT fun t1 G1 n1 c1 u1 => ?_
    walk_at "go"
    refine newT fun t2 G2 n2 c2 u2 => ?_
    walk_at "go"
    refine newT fun t3 G3 n3 c3 u3 => ?_
    walk_at "go"
    refine newT fun t4 G4 n4 c4 u4 => ?_
    walk_at "go"
    refine newT fun t5 G5 n5 c5 u5 => ?_
    walk_at "go"
    refine newL fun p6 G6 n6 c6 u6 => ?_
    have all : Same H G6 := ((((((((((((s1.trans s2).trans s3).trans s4).trans s5).trans s6).trans s7).trans s8).trans s9).trans c1).trans c2).trans c3).trans c4).trans (c5.trans c6)
    have e9' : G6 p9 = some (.lst [numV z 0 4095, numV z lo 4095, numV z 0 hi, numV z lo hi, numV z lo hi]) := c6 _ _ (c5 _ _ (c4 _ _ (c3 _ _ (c2 _ _ (c1 _ _ e9)))))
    have pr : ∀ (i : Nat) (x y : V), [numV z 0 4095, numV z lo 4095, numV z 0 hi, numV z lo hi, numV z lo hi][i]? = some x → [V.ref t1, .ref t2, .ref t3, .ref t4, .ref t5][i]? = some y →
        ∃ (l h : Int) (t : Addr), x = numV z l h ∧ y = .ref t ∧ G6 t = some (.tup [.int l, .int h]) := by
      intro i x y hx hy
      rcases i with _ | _ | _ | _ | _ | i
      · cases hx; cases hy; exact ⟨0, 4095, t1, rfl, rfl, c6 _ _ (c5 _ _ (c4 _ _ (c3 _ _ (c2 _ _ u1))))⟩
      · cases hx; cases hy; exact ⟨lo, 4095, t2, rfl, rfl, c6 _ _ (c5 _ _ (c4 _ _ (c3 _ _ u2)))⟩
      · cases hx; cases hy; exact ⟨0, hi, t3, rfl, rfl, c6 _ _ (c5 _ _ (c4 _ _ u3))⟩
      · cases hx; cases hy; exact ⟨lo, hi, t4, rfl, rfl, c6 _ _ (c5 _ _ u4)⟩
      · cases hx; cases hy; exact ⟨lo, hi, t5, rfl, rfl, c6 _ _ u5⟩
      · cases hx
    walk_at "go"
    refine ⟨.ref p9, rfl, .ref p6, rfl, p9, p6, _, _, rfl, sqL e9', sqL u6, ?_⟩
    refine RZ.for_zipL (xs := [numV z 0 4095, numV z lo 4095, numV z 0 hi, numV z lo hi, numV z lo hi]) (ys := [V.ref t1, .ref t2, .ref t3, .ref t4, .ref t5]) rfl (fun i σ H' => Same G6 H' ∧ ∃ x6 x7 x8, σ = [some (.str z), some (.int lo), some (.int hi), some (.int (valOf z)), some (.ref p9), some (.ref p6), x6, x7, x8]) ⟨Same.refl _, none, none, none, rfl⟩
      (fun i σ H' h => ⟨sqL (h.1 _ _ e9'), sqL (h.1 _ _ u6)⟩) ?_ ?_
    · rintro i x y Tn σ H' hx hy ⟨sm, x6, x7, x8, rfl⟩ nT
      obtain ⟨l, h, t, rfl, rfl, et⟩ := pr i x y hx hy
      have smT := same_upd (o := .tup [numV z l h, .ref t]) nT
      have eT : upd H' Tn (.tup [numV z l h, .ref t]) Tn = some (.tup [numV z l h, .ref t]) := upd_same
      generalize upd H' Tn (.tup [numV z l h, .ref t]) = HT at smT eT ⊢
      refine ⟨Tn, _, rfl, sqT eT, rfl, numV z l h, _, rfl, .ref t, _, rfl, rfl, ?_⟩
      have et' := smT _ _ (sm _ _ et)
      walk_at "go"
      refine r_cut (fun σ H' => σ = [some (.str z), some (.int lo), some (.int hi), some (.int (valOf z)), some (.ref p9), some (.ref p6), some (numV z l h), some (.ref t), some (numV z l h)] ∧ H' = HT) ?_ ?_
      · walk_at "go"
        refine iteC (fun h1 => ?_) (fun h1 => ?_)
        · walk_at "go"
          refine r_ixT (sqT et') (v := .int l) rfl ?_
          walk_at "go"
          refine iteC (fun h2 => ?_) (fun h2 => ?_)
          · walk_at "go"
            refine r_ixT (sqT et') (v := .int h) rfl ?_
            walk_at "go"
            refine iteC (fun h3 => ?_) (fun h3 => ?_)
            · walk_at "go"
              refine ⟨?_, rfl⟩
              unfold numV
              rw [if_pos ⟨h1, h2, h3⟩]
              rfl
            · walk_at "go"
              refine ⟨?_, rfl⟩
              unfold numV
              rw [if_neg (fun c => h3 c.2.2)]
              rfl
          · walk_at "go"
            refine ⟨?_, rfl⟩
            unfold numV
            rw [if_neg (fun c => h2 c.2.1)]
            rfl
        · walk_at "go"
          refine ⟨?_, rfl⟩
          unfold numV
          rw [if_neg (fun c => h1 c.1)]
          rfl
      · rintro σ H2 ⟨rfl, rfl⟩
        refine r_if (r_or (r_test (r_op (r_var rfl (r_var rfl ⟨scal_num z l h, ?_⟩)))))
        walk_at "go"
        refine iteND rfl ?_
        walk_at "go"
        have hb : IsA K H2 (numV z l h) "bool" false := by
          rcases num_cases z l h with ⟨v, e⟩ | e <;> rw [e]
          · exact isa_int
          · exact isa_non
        refine r_is hb ?_
        walk_at "go"
        refine ⟨rfl, ?_⟩
        walk_at "go"
        refine ⟨rfl, ?_⟩
        walk_at "go"
        refine iteND rfl ?_
        walk_at "go"
        exact ⟨sm.trans smT, _, _, _, rfl⟩
    · rintro σ H' ⟨sm, x6, x7, x8, rfl⟩
      walk_at "go"
      exact q H' (all.trans sm)
theorem ok_named {f : Addr} {fd : FuncData} (F : Fun K "_law_named" "_law_named" s_named_L f fd) (T : Txt K mg CG CW fG fW) (c_is_name : CalD P w K mg base CX0 2 "is_name" (spName K) [])
    (k_is_name_0_thing : CalN P w K mg base CX0 2 0 ["thing"] "is_name" (spName K) (fun _ zs => zs))
    (k_number_in_0_most_thing : CalN P w K mg base CX0 3 0 ["most", "thing"] "number_in" (spNum K) (fun _ zs => zs.drop 1 ++ [.int 0] ++ zs.take 1))
    (k_number_in_1_most : CalN P w K mg base CX0 3 1 ["most"] "number_in" (spNum K) (fun vs zs => vs ++ [.int 0] ++ zs)) : FnOk P w K mg base CX0 4 f fd ["_law_text"] spNamed := by
  refine F.ok sc_named_L (fun vs H Q E h => ?_) (fun cdv A outer s H vs Q E hr h => ⟨_, (pss_one (ps_ret (pe_and (pe_cmpR op_eq (pe_calN0 k_is_name_0_thing (hr.mono (by decide)) (by rfl) (pk_cons (pv 0) pk_nil)) (pe_cal c_is_name hr (by decide) (by rfl) (pa_cons (pv 0) pa_nil)) (nomark _)) (pe_one (pe_cmpR op_eq (pe_calN0 k_number_in_0_most_thing (hr.mono (by decide)) (by rfl) (pk_cons pe_int (pk_cons (pv 0) pk_nil))) (pe_calN k_number_in_1_most (hr.mono (by decide)) (by rfl) (pa_cons (pv 0) pa_nil) (pk_cons pe_int pk_nil)) (nomark _)))))), ?_⟩)
  · obtain ⟨z, rfl, _⟩ := h
    rfl
  · obtain ⟨z, rfl, hz, q⟩ := h
    walk_at "go"
    refine ⟨rfl, rfl, .str z, rfl, .inl ⟨z, rfl, hz, fun H1 s1 => ?_⟩⟩
    walk_at "go"
    refine ⟨.str z, rfl, .inl ⟨z, rfl, hz, fun H2 s2 => ?_⟩⟩
    walk_at "go"
    refine iteD rfl ?_
    walk_at "go"
    refine ⟨rfl, rfl, .str z, 0, 9, rfl, .inl ⟨z, rfl, hz, fun H3 s3 => ?_⟩⟩
    walk_at "go"
    refine ⟨rfl, rfl, .str z, 0, 9, rfl, .inl ⟨z, rfl, hz, fun H4 s4 => ?_⟩⟩
    refine ⟨scal_num z 0 9, ?_⟩
    rw [decide_eq_true rfl]
    exact q H4 (((s1.trans s2).trans s3).trans s4)
end
end K01

namespace K01
open PySem PySem.Spec PyProof.Rows L2 Bk


section
variable {P : Program} {w : World} {K : PySem.W.Frag} {mg : Str → Option Value} {base : Heap} {CG CW fG fW : Addr}
theorem mkNW {H : Hp} {Q : VK} {x : V} (q : ∀ a dx H', H a = none → Same H H' → XV H' a CW dx [("found", x)] → Q (.ref a) H') : MkV CW (spNW CW) [] [x] H Q := by
  refine ⟨Nat.le_of_ble_eq_true rfl, fun a ha => ⟨a, x, rfl, upd_same, fun dx hd hn => ⟨rfl, ?_⟩⟩⟩
  have hd0 : H dx = none := by rw [upd_ne hn] at hd; exact hd
  refine q a dx _ ha (fun b o e => ?_) ⟨upd_same, ?_⟩
  · have na : b ≠ a := ne_of_none e ha
    have nd : b ≠ dx := ne_of_none e hd0
    rw [upd_ne na, upd_ne nd, upd_ne na]
    exact e
  · rw [upd_ne hn, upd_same]
theorem dispSI {σ : L2.St} {H : Hp} {Q : VK} {z : Str} {i : Int} (q : ∀ p H', H p = none → Same H H' → H' p = some (.dK [(.inr z, .int i)]) → Q (.ref p) H') : tDisp [(tC (.str z), tC (.int i))] σ H Q := fun p hp => by
  refine ⟨upd_same, [(.inr z, .int i)], rfl, Nat.le_of_ble_eq_true rfl, ?_⟩
  refine q p _ hp ?_ upd_same
  exact fun b o e => by
    have n := ne_of_none e hp
    rw [upd_ne n, upd_ne n]
    exact e
theorem ok_things {f fdN : Addr} {fd fdW : FuncData} (F : Fun K "_law_things" "_law_things" s_things_L f fd) (T : Txt K mg CG CW fG fW) (c_NoWord_init : Own P w K mg base CX0 2 fW fdW ["self", "found"] (spNW CW))
    (c_is_whole : CalD P w K mg base CX0 1 "is_whole" (spWhole K) []) (c_is_name : CalD P w K mg base CX0 2 "is_name" (spName K) []) (c_number_in : CalD P w K mg base CX0 3 "number_in" (spNum K) [.int 0, .int 4095])
    (k_number_in_1_least_most : CalN P w K mg base CX0 3 1 ["least", "most"] "number_in" (spNum K) (fun vs zs => vs ++ zs)) : FnOk P w K mg base CX0 4 f fd [] spThings := by
  refine F.ok sc_things_L (fun vs H Q E h => ?_) (fun cdv A outer s H vs Q E hr h => ⟨_, (pss_cons (ps_for PassesOwn.never rfl (pi_list (pe_lst (pa_cons pe_non (pa_cons pe_bl (pa_cons pe_bl (pa_cons (pe_lst pa_nil) (pa_cons (pe_tup pa_nil) (pa_cons pe_dnewK (pa_cons (pe_lst (pa_cons pe_str pa_nil)) (pa_cons (pe_tup (pa_cons pe_str (pa_cons pe_int pa_nil))) (pa_cons (pe_lst (pa_cons pe_int pa_nil)) (pa_cons pe_str (pa_cons pe_str (pa_cons (pe_disp (pps_cons pe_str pe_int pps_nil) rfl rfl (by simp) (by decide)) (pa_cons (pe_lst (pa_cons (pe_lst (pa_cons pe_int pa_nil)) pa_nil)) (pa_cons (pe_oex T.ox_NoWord T.i_NoWord T.t_NoWord c_NoWord_init.ok (hr.mono (by decide)) c_NoWord_init.bd .nil pass0 (by rfl) T.g_NoWord (pa_cons pe_str pa_nil)) pa_nil)))))))))))))))) (pg_name (i := 0) sc_things_L.nd rfl (.inl rfl))
      (pss_one (ps_if (PW.pt (pw_or (pt_cmpR op_notBl (pe_cal c_is_whole hr (by decide) (by rfl) (pa_cons (pv 0) (pa_cons pe_int (pa_cons pe_int pa_nil)))) pe_bl (nomark _)) (pw_or1 (pt_cmpR op_notBl (pe_cal c_is_whole hr (by decide) (by rfl) (pa_cons (pv 0) (pa_cons (pe_un un_neg pe_int) (pa_cons (pe_op op_pow pe_int pe_int) pa_nil)))) pe_bl (nomark _))))) (pss_one (ps_ret pe_bl)) pss_nil)))
    (pss_cons (ps_for PassesOwn.never rfl (pi_list (pe_lst (pa_cons pe_non (pa_cons pe_bl (pa_cons pe_bl (pa_cons (pe_lst pa_nil) (pa_cons (pe_tup pa_nil) (pa_cons pe_dnewK (pa_cons (pe_lst (pa_cons pe_str pa_nil)) (pa_cons (pe_tup (pa_cons pe_str (pa_cons pe_int pa_nil))) (pa_cons (pe_lst (pa_cons pe_int pa_nil)) (pa_cons pe_int (pa_cons pe_int (pa_cons (pe_disp (pps_cons pe_str pe_int pps_nil) rfl rfl (by simp) (by decide)) (pa_cons (pe_lst (pa_cons (pe_lst (pa_cons pe_int pa_nil)) pa_nil)) (pa_cons (pe_oex T.ox_NoWord T.i_NoWord T.t_NoWord c_NoWord_init.ok (hr.mono (by decide)) c_NoWord_init.bd .nil pass0 (by rfl) T.g_NoWord (pa_cons pe_str pa_nil)) pa_nil)))))))))))))))) (pg_name (i := 0) sc_things_L.nd rfl (.inl rfl))
      (pss_cons (ps_if (PW.pt (pw_or (pt_cmpR op_notBl (pe_cal c_is_name hr (by decide) (by rfl) (pa_cons (pv 0) pa_nil)) pe_bl (nomark _)) (pw_or1 (pt_cmpR op_notN (pe_calD c_number_in hr (by decide) (by rfl) (pa_cons (pv 0) pa_nil)) pe_non (nomark _))))) (pss_one (ps_ret pe_bl)) pss_nil)
    (pss_one (ps_if (pt_cmpR op_notN (pe_calN k_number_in_1_least_most (hr.mono (by decide)) (by rfl) (pa_cons (pv 0) pa_nil) (pk_cons pe_int (pk_cons pe_int pk_nil))) pe_non (nomark _)) (pss_one (ps_ret pe_bl)) pss_nil))))
    (pss_one (ps_ret (pe_and (pe_cmpR op_eq (C8.pe_gc (by rfl) T.c_MOST) pe_int (nomark _)) (pe_and (pe_cmpR op_eq (pe_calD c_number_in hr (by decide) (by rfl) (pa_cons pe_str pa_nil)) pe_int (nomark _)) (pe_one (pe_cmpR op_isN (pe_calD c_number_in hr (by decide) (by rfl) (pa_cons pe_str pa_nil)) pe_non (nomark _))))))))), ?_⟩)
  · obtain ⟨rfl, _⟩ := h
    rfl
  · obtain ⟨rfl, q⟩ := h
    walk_at "go"
    refine newL fun p3 H3 n3 s3 e3 => ?_
    walk_at "go"
    refine newT fun p4 H4 n4 s4 e4 => ?_
    walk_at "go"
    refine newDK fun p5 H5 n5 s5 e5 => ?_
    walk_at "go"
    refine newL fun p6 H6 n6 s6 e6 => ?_
    walk_at "go"
    refine newT fun p7 H7 n7 s7 e7 => ?_
    walk_at "go"
    refine newL fun p8 H8 n8 s8 e8 => ?_
    walk_at "go"
    refine dispSI fun p9 H9 n9 s9 e9 => ?_
    walk_at "go"
    refine newL fun p10 H10 n10 s10 e10 => ?_
    walk_at "go"
    refine newL fun p11 H11 n11 s11 e11 => ?_
    walk_at "go"
    refine mkNW fun p12 d12 H12 n12 s12 x12 => ?_
    walk_at "go"
    refine newL fun p13 H13 n13 s13 e13 => ?_
    have t12 : Same H12 H13 := s13
    have t11 := s12.trans t12
    have t10 := s11.trans t11
    have t9 := s10.trans t10
    have t8 := s9.trans t9
    have t7 := s8.trans t8
    have t6 := s7.trans t7
    have t5 := s6.trans t6
    have t4 := s5.trans t5
    have t3 := s4.trans t4
    have tall := s3.trans t3
    have x13 : XV H13 p12 CW d12 [("found", .str "a")] := ⟨t12 _ _ x12.1, t12 _ _ x12.2⟩
    have odd : ∀ (b : Bool) x, x ∈ [V.non, V.bl true, V.bl false, V.ref p3, V.ref p4, V.ref p5, V.ref p6, V.ref p7, V.ref p8, V.str "1", V.str "", V.ref p9, V.ref p11, V.ref p12] → ((IsA K H13 x "int" false ∨ ∃ b, x = .bl b) ∧ ∀ l h, wholeV x l h = false) := by
      intro _ x hx
      simp only [List.mem_cons, List.not_mem_nil, or_false] at hx
      rcases hx with e | e | e | e | e | e | e | e | e | e | e | e | e | e <;> subst e
      · exact ⟨.inl isa_non, fun _ _ => rfl⟩
      · exact ⟨.inr ⟨_, rfl⟩, fun _ _ => rfl⟩
      · exact ⟨.inr ⟨_, rfl⟩, fun _ _ => rfl⟩
      · exact ⟨.inl (isa_lst (t3 _ _ e3)), fun _ _ => rfl⟩
      · exact ⟨.inl (isa_tup (t4 _ _ e4)), fun _ _ => rfl⟩
      · exact ⟨.inl (isa_dK (t5 _ _ e5)), fun _ _ => rfl⟩
      · exact ⟨.inl (isa_lst (t6 _ _ e6)), fun _ _ => rfl⟩
      · exact ⟨.inl (isa_tup (t7 _ _ e7)), fun _ _ => rfl⟩
      · exact ⟨.inl (isa_lst (t8 _ _ e8)), fun _ _ => rfl⟩
      · exact ⟨.inl isa_str, fun _ _ => rfl⟩
      · exact ⟨.inl isa_str, fun _ _ => rfl⟩
      · exact ⟨.inl (isa_dK (t9 _ _ e9)), fun _ _ => rfl⟩
      · exact ⟨.inl (isa_lst (t11 _ _ e11)), fun _ _ => rfl⟩
      · exact ⟨.inl (isa_exc x13 T.xc_NoWord T.ki_NoWord), fun _ _ => rfl⟩
    refine ⟨p13, rfl, ⟨_, sqL e13⟩, ?_⟩
    refine for_list (xs := [V.non, V.bl true, V.bl false, V.ref p3, V.ref p4, V.ref p5, V.ref p6, V.ref p7, V.ref p8, V.str "1", V.str "", V.ref p9, V.ref p11, V.ref p12]) (fun i σ H' => (∃ y, σ = [y]) ∧ H' = H13) ⟨⟨_, rfl⟩, rfl⟩ (fun i σ H' _ h => by rw [h.2]; exact sqL e13) ?_ ?_
    · rintro i x σ H' hx ⟨⟨y, rfl⟩, rfl⟩
      obtain ⟨ox, ow⟩ := odd true x (List.mem_of_getElem? hx)
      have ow' : (∃ i, x = V.int i) ∨ (∃ b, x = .bl b) ∨ (IsA K H' x "int" false ∧ ∀ l h, wholeV x l h = false) := by
        rcases ox with o | o
        · exact .inr (.inr ⟨o, ow⟩)
        · exact .inr (.inl o)
      walk_at "go"
      refine ⟨x, 0, 9, rfl, ow', ?_⟩
      rw [ow]
      walk_at "go"
      refine ⟨_, _, rfl, rfl, ?_⟩
      walk_at "go"
      refine iteND rfl ?_
      walk_at "go"
      refine r_I ⟨by decide, by decide, by decide⟩ ?_
      walk_at "go"
      refine ⟨x, _, _, rfl, ow', ?_⟩
      rw [ow]
      walk_at "go"
      refine ⟨_, _, rfl, rfl, ?_⟩
      walk_at "go"
      refine iteND rfl ?_
      walk_at "go"
      exact ⟨⟨_, rfl⟩, rfl⟩
    rintro σ H' ⟨⟨y, rfl⟩, rfl⟩
    walk_at "go"
    refine newL fun a3 G3 n3 c3 e3 => ?_
    walk_at "go"
    refine newT fun a4 G4 n4 c4 e4 => ?_
    walk_at "go"
    refine newDK fun a5 G5 n5 c5 e5 => ?_
    walk_at "go"
    refine newL fun a6 G6 n6 c6 e6 => ?_
    walk_at "go"
    refine newT fun a7 G7 n7 c7 e7 => ?_
    walk_at "go"
    refine newL fun a8 G8 n8 c8 e8 => ?_
    walk_at "go"
    refine dispSI fun a9 G9 n9 c9 e9 => ?_
    walk_at "go"
    refine newL fun a10 G10 n10 c10 e10 => ?_
    walk_at "go"
    refine newL fun a11 G11 n11 c11 e11 => ?_
    walk_at "go"
    refine mkNW fun a12 b12 G12 n12 c12 y12 => ?_
    walk_at "go"
    refine newL fun a13 G13 n13 c13 f13 => ?_
    have v12 : Same G12 G13 := c13
    have v11 := c12.trans v12
    have v10 := c11.trans v11
    have v9 := c10.trans v10
    have v8 := c9.trans v9
    have v7 := c8.trans v8
    have v6 := c7.trans v7
    have v5 := c6.trans v6
    have v4 := c5.trans v5
    have v3 := c4.trans v4
    have vall := tall.trans (c3.trans v3)
    have y13 : XV G13 a12 CW b12 [("found", .str "a")] := ⟨v12 _ _ y12.1, v12 _ _ y12.2⟩
    have odd2 : ∀ x, x ∈ [V.non, V.bl true, V.bl false, V.ref a3, V.ref a4, V.ref a5, V.ref a6, V.ref a7, V.ref a8, V.int 7, V.int 0, V.ref a9, V.ref a11, V.ref a12] → IsA K G13 x "str" false := by
      intro x hx
      simp only [List.mem_cons, List.not_mem_nil, or_false] at hx
      rcases hx with e | e | e | e | e | e | e | e | e | e | e | e | e | e <;> subst e
      · exact isa_non
      · exact isa_bl
      · exact isa_bl
      · exact isa_lst (v3 _ _ e3)
      · exact isa_tup (v4 _ _ e4)
      · exact isa_dK (v5 _ _ e5)
      · exact isa_lst (v6 _ _ e6)
      · exact isa_tup (v7 _ _ e7)
      · exact isa_lst (v8 _ _ e8)
      · exact isa_int
      · exact isa_int
      · exact isa_dK (v9 _ _ e9)
      · exact isa_lst (v11 _ _ e11)
      · exact isa_exc y13 T.xc_NoWord T.ks_NoWord
    refine ⟨a13, rfl, ⟨_, sqL f13⟩, ?_⟩
    refine for_list (xs := [V.non, V.bl true, V.bl false, V.ref a3, V.ref a4, V.ref a5, V.ref a6, V.ref a7, V.ref a8, V.int 7, V.int 0, V.ref a9, V.ref a11, V.ref a12]) (fun i σ H' => (∃ y, σ = [y]) ∧ H' = G13) ⟨⟨_, rfl⟩, rfl⟩ (fun i σ H' _ h => by rw [h.2]; exact sqL f13) ?_ ?_
    · rintro i x σ H' hx ⟨⟨y, rfl⟩, rfl⟩
      have ox := odd2 x (List.mem_of_getElem? hx)
      walk_at "go"
      refine ⟨x, rfl, .inr ⟨ox, ?_⟩⟩
      walk_at "go"
      refine ⟨_, _, rfl, rfl, ?_⟩
      walk_at "go"
      refine iteND rfl ?_
      walk_at "go"
      refine ⟨x, 0, 4095, rfl, .inr ⟨ox, ?_⟩⟩
      walk_at "go"
      refine ⟨rfl, ?_⟩
      walk_at "go"
      refine iteND rfl ?_
      walk_at "go"
      refine ⟨rfl, rfl, x, 0, 10, rfl, .inr ⟨ox, ?_⟩⟩
      walk_at "go"
      refine ⟨rfl, ?_⟩
      walk_at "go"
      refine iteND rfl ?_
      walk_at "go"
      exact ⟨⟨_, rfl⟩, rfl⟩
    rintro σ H' ⟨⟨y, rfl⟩, rfl⟩
    walk_at "go"
    refine iteD rfl ?_
    walk_at "go"
    refine ⟨.str "4095", 0, 4095, rfl, .inl ⟨"4095", rfl, by decide +kernel, fun H1 s1 => ?_⟩⟩
    rw [show numV "4095" 0 4095 = .int 4095 by decide +kernel]
    walk_at "go"
    refine iteD rfl ?_
    walk_at "go"
    refine ⟨.str "4096", 0, 4095, rfl, .inl ⟨"4096", rfl, by decide +kernel, fun H2 s2 => ?_⟩⟩
    rw [show numV "4096" 0 4095 = .non by decide +kernel]
    walk_at "go"
    refine ⟨rfl, ?_⟩
    exact q H2 (vall.trans (s1.trans s2))
end
end K01

namespace K01
open PySem PySem.Spec PyProof.Rows L2 Bk


theorem butSame {p : Addr} {H H1 H2 : Hp} (s : Same H H1) (n : H p = none) (b : But p H1 H2) : Same H H2 := fun c o e => b c o (ne_of_none e n) (s c o e)
def spLaw (K : PySem.W.Frag) : Sp := fun vs H Q _ => ∃ (a : Addr) (ns : List Int), vs = [.ref a] ∧ SqL K H a (ns.map V.int) ∧ ns.length ≤ 63 ∧ ∀ H', Q (.bl true) H'
section
variable {P : Program} {w : World} {K : PySem.W.Frag} {mg : Str → Option Value} {base : Heap} {CG CW fG fW : Addr}
theorem ok_law {f : Addr} {fd : FuncData} (F : Fun K "law" "law" s_law f fd) (T : Txt K mg CG CW fG fW)
    (c_cell_L : CalD P w K mg base CX0 1 "_law_cell" (spCell K) []) (c_box_L : CalD P w K mg base CX0 1 "_law_box" spBox []) (c_take_L : CalD P w K mg base CX0 1 "_law_take" spTake []) (c_sign_L : CalD P w K mg base CX0 2 "_law_sign" spSign [])
    (c_whole_right_L : CalD P w K mg base CX0 2 "_law_whole_right" spWholeR []) (c_spoilt_L : CalD P w K mg base CX0 1 "_law_spoilt" spSpoilt []) (c_is_name : CalD P w K mg base CX0 2 "is_name" (spName K) [])
    (c_is_name_L : CalD P w K mg base CX0 1 "_law_is_name" spNameL []) (c_named_L : CalD P w K mg base CX0 4 "_law_named" spNamed []) (c_number_right_L : CalD P w K mg base CX0 4 "_law_number_right" spNumR [])
    (c_value_L : CalD P w K mg base CX0 1 "_law_value" spVal []) (c_things_L : CalD P w K mg base CX0 4 "_law_things" spThings []) : FnOk P w K mg base CX0 5 f fd ["_law_script"] (spLaw K) := by
  refine F.ok sc_law (fun vs H Q E h => ?_) (fun cdv A outer s H vs Q E hr h => ⟨_, (pss_cons (ps_for PassesOwn.never rfl (pi_range1 (by rfl) T.m_range (pa_cons (pe_callB (call_max2 rfl) (by rfl) T.m_max (by decide +kernel) (pa_cons pe_int (pa_cons (pe_callB (call_min2 rfl) (by rfl) T.m_min (by decide +kernel) (pa_cons pe_int (pa_cons (pe_callB call_len_seq (by rfl) T.m_len (by decide +kernel) (pa_cons (pv 0) pa_nil)) pa_nil))) pa_nil))) pa_nil)) (pg_name (i := 1) sc_law.nd rfl (.inl rfl))
      (pss_cons (ps_set (i := 2) sc_law.nd rfl (.inl rfl) (pe_cal c_box_L hr (by decide) (by rfl) (pa_cons (pe_cal c_cell_L hr (by decide) (by rfl) (pa_cons (pv 0) (pa_cons (pv 1) pa_nil))) pa_nil)))
    (pss_cons (ps_set (i := 3) sc_law.nd rfl (.inl rfl) (pe_lst (pa_cons (pe_cal c_take_L hr (by decide) (by rfl) (pa_cons (pv 2) (pa_cons pe_int pa_nil))) (pa_cons (pe_cal c_take_L hr (by decide) (by rfl) (pa_cons (pv 2) (pa_cons pe_int pa_nil))) (pa_cons (pe_cal c_take_L hr (by decide) (by rfl) (pa_cons (pv 2) (pa_cons pe_int pa_nil))) pa_nil)))))
    (pss_cons (ps_set (i := 4) sc_law.nd rfl (.inl rfl) (pe_lst (pa_cons (pe_cal c_take_L hr (by decide) (by rfl) (pa_cons (pv 2) (pa_cons pe_int pa_nil))) (pa_cons (pe_cal c_take_L hr (by decide) (by rfl) (pa_cons (pv 2) (pa_cons pe_int pa_nil))) pa_nil))))
    (pss_cons (ps_set (i := 5) sc_law.nd rfl (.inl rfl) (pe_lst (pa_cons (pe_cal c_sign_L hr (by decide) (by rfl) (pa_cons (pv 2) pa_nil)) (pa_cons (pe_ix ix_str pe_str (pe_cal c_take_L hr (by decide) (by rfl) (pa_cons (pv 2) (pa_cons pe_int pa_nil))) (fun _ _ => rfl)) pa_nil))))
    (pss_cons (ps_set (i := 6) sc_law.nd rfl (.inl rfl) pe_str)
    (pss_cons (ps_for PassesOwn.never rfl (pi_range1 (by rfl) T.m_range (pa_cons (pe_cal c_take_L hr (by decide) (by rfl) (pa_cons (pv 2) (pa_cons pe_int pa_nil))) pa_nil)) (pg_name (i := 7) sc_law.nd rfl (.inl rfl))
      (pss_one (ps_set (i := 6) sc_law.nd rfl (.inl rfl) (pe_op op_add_str (pv 6) (pe_ix ix_str pe_str (pe_cal c_take_L hr (by decide) (by rfl) (pa_cons (pv 2) (pa_cons pe_int pa_nil))) (fun _ _ => rfl))))))
    (pss_cons (ps_set (i := 8) sc_law.nd rfl (.inl rfl) (pe_ix ix_list (pe_lst (pa_cons pe_str (pa_cons pe_str pa_nil))) (pe_callTy call_int1 (by rfl) T.m_int (by decide +kernel) (pa_cons (pe_cmpR op_eq (pe_ix ix_list (pv 3) pe_int (fun _ _ => rfl)) pe_int (nomark _)) pa_nil)) (fun _ _ => rfl)))
    (pss_cons (ps_for PassesOwn.never rfl (pi_range1 (by rfl) T.m_range (pa_cons (pe_ix ix_list (pe_lst (pa_cons pe_int (pa_cons pe_int (pa_cons (pe_op op_sub pe_int (pe_callB call_len_str (by rfl) T.m_len (by decide +kernel) (pa_cons (pv 8) pa_nil))) (pa_cons (pe_cal c_take_L hr (by decide) (by rfl) (pa_cons (pv 2) (pa_cons pe_int pa_nil))) pa_nil))))) (pe_cal c_take_L hr (by decide) (by rfl) (pa_cons (pv 2) (pa_cons pe_int pa_nil))) (fun _ _ => rfl)) pa_nil)) (pg_name (i := 7) sc_law.nd rfl (.inl rfl))
      (pss_one (ps_set (i := 8) sc_law.nd rfl (.inl rfl) (pe_op op_add_str (pv 8) (pe_ix ix_str pe_str (pe_cal c_take_L hr (by decide) (by rfl) (pa_cons (pv 2) (pa_cons pe_int pa_nil))) (fun _ _ => rfl))))))
    (pss_cons (ps_set (i := 9) sc_law.nd rfl (.inl rfl) (pe_cal c_take_L hr (by decide) (by rfl) (pa_cons (pv 2) (pa_cons pe_int pa_nil))))
    (pss_cons (ps_set (i := 10) sc_law.nd rfl (.inl rfl) (pe_cal c_take_L hr (by decide) (by rfl) (pa_cons (pv 2) (pa_cons (pe_ix ix_list (pe_lst (pa_cons pe_int (pa_cons pe_int pa_nil))) (pe_cal c_take_L hr (by decide) (by rfl) (pa_cons (pv 2) (pa_cons pe_int pa_nil))) (fun _ _ => rfl)) pa_nil))))
    (pss_cons (ps_if (pt_not (pt_val (pe_cal c_whole_right_L hr (by decide) (by rfl) (pa_cons (pv 2) pa_nil)))) (pss_one (ps_ret pe_bl)) pss_nil)
    (pss_cons (ps_for PassesOwn.never rfl (pi_list (pe_lst (pa_cons (pv 6) (pa_cons (pe_cal c_spoilt_L hr (by decide) (by rfl) (pa_cons (pv 6) (pa_cons (pe_ix ix_list (pv 3) pe_int (fun _ _ => rfl)) (pa_cons (pe_ix ix_list (pv 4) pe_int (fun _ _ => rfl)) (pa_cons (pe_ix ix_list (pv 5) pe_int (fun _ _ => rfl)) pa_nil))))) (pa_cons (pv 8) (pa_cons (pe_op op_add_str (pv 6) pe_str) pa_nil)))))) (pg_name (i := 11) sc_law.nd rfl (.inl rfl))
      (pss_cons (ps_if (PW.pt (pw_or (pt_cmpR op_ne (pe_callB call_repr_bl (by rfl) T.m_repr (by decide +kernel) (pa_cons (pe_cal c_is_name hr (by decide) (by rfl) (pa_cons (pv 11) pa_nil)) pa_nil)) (pe_callB call_repr_bl (by rfl) T.m_repr (by decide +kernel) (pa_cons (pe_cal c_is_name_L hr (by decide) (by rfl) (pa_cons (pv 11) pa_nil)) pa_nil)) (nomark _)) (pw_or1 (pt_not (pt_val (pe_cal c_named_L hr (by decide) (by rfl) (pa_cons (pv 11) pa_nil))))))) (pss_one (ps_ret pe_bl)) pss_nil)
    (pss_one (ps_if (pt_not (pt_val (pe_cal c_number_right_L hr (by decide) (by rfl) (pa_cons (pv 11) (pa_cons (pv 9) (pa_cons (pv 10) pa_nil)))))) (pss_one (ps_ret pe_bl)) pss_nil))))
    (pss_cons (ps_if (pt_not (pt_val (pe_cal c_number_right_L hr (by decide) (by rfl) (pa_cons (pe_cal c_spoilt_L hr (by decide) (by rfl) (pa_cons (pv 8) (pa_cons (pe_ix ix_list (pv 3) pe_int (fun _ _ => rfl)) (pa_cons (pe_ix ix_list (pv 4) pe_int (fun _ _ => rfl)) (pa_cons (pe_ix ix_list (pv 5) pe_int (fun _ _ => rfl)) pa_nil))))) (pa_cons (pv 9) (pa_cons (pv 10) pa_nil)))))) (pss_one (ps_ret pe_bl)) pss_nil)
    (pss_cons (ps_set (i := 12) sc_law.nd rfl (.inl rfl) (pe_callB (call_max2 rfl) (by rfl) T.m_max (by decide +kernel) (pa_cons pe_int (pa_cons (pe_cal c_value_L hr (by decide) (by rfl) (pa_cons (pv 8) pa_nil)) pa_nil))))
    (pss_one (ps_for PassesOwn.never rfl (pi_list (pe_lst (pa_cons (pe_tup (pa_cons (pv 12) (pa_cons (pv 12) pa_nil))) (pa_cons (pe_tup (pa_cons (pe_op op_add (pv 12) pe_int) (pa_cons (pv 12) pa_nil))) (pa_cons (pe_tup (pa_cons (pv 12) (pa_cons (pe_callB (call_max2 rfl) (by rfl) T.m_max (by decide +kernel) (pa_cons pe_int (pa_cons (pe_op op_sub (pv 12) pe_int) pa_nil))) pa_nil))) (pa_cons (pe_tup (pa_cons pe_int (pa_cons (pv 12) pa_nil))) pa_nil)))))) (pg_name (i := 13) sc_law.nd rfl (.inl rfl))
      (pss_one (ps_if (pt_not (pt_val (pe_cal c_number_right_L hr (by decide) (by rfl) (pa_cons (pv 8) (pa_cons (pe_ix ix_tup (pv 13) pe_int (fun _ _ => rfl)) (pa_cons (pe_ix ix_tup (pv 13) pe_int (fun _ _ => rfl)) pa_nil)))))) (pss_one (ps_ret pe_bl)) pss_nil)))))))))))))))))))
    (pss_one (ps_ret (pe_cal0 c_things_L hr (by decide) (by rfl))))), ?_⟩)
  · obtain ⟨a, ns, rfl, _⟩ := h
    rfl
  · obtain ⟨a, ns, rfl, hS, hl, q⟩ := h
    walk_at "go"
    refine ⟨a, _, rfl, .inl hS, ?_⟩
    walk_at "go"
    refine ⟨_, _, rfl, ?_⟩
    walk_at "go"
    refine ⟨_, _, rfl, ?_⟩
    walk_at "go"
    have hlm : ((ns.map V.int).length : Int) = ns.length := by rw [List.length_map]
    rw [hlm]
    refine ⟨_, rfl, by split <;> split <;> omega, by split <;> split <;> omega, ?_⟩
    generalize hN : (if (if (ns.length : Int) < 30 then (ns.length : Int) else 30) > 2 then (if (ns.length : Int) < 30 then (ns.length : Int) else 30) else 2) = N
    have hN2 : N ≤ 30 := by rw [← hN]; split <;> split <;> omega
    refine for_range (fun i σ H' => Same H H' ∧ ∃ x1 x2 x3 x4 x5 x6 x7 x8 x9 x10 x11 x12 x13, σ = [some (.ref a), x1, x2, x3, x4, x5, x6, x7, x8, x9, x10, x11, x12, x13]) ⟨Same.refl _, none, none, none, none, none, none, none, none, none, none, none, none, none, rfl⟩ ?_ ?_
    · rintro i σ H0 hi ⟨sm0, x1, x2, x3, x4, x5, x6, x7, x8, x9, x10, x11, x12, x13, rfl⟩
      rw [Int.zero_add]
      walk_at "go"
      refine ⟨a, ns, i, rfl, sm0.seq hS, by omega, fun c => ?_⟩
      walk_at "go"
      refine ⟨c, rfl, fun p H1 np s1 hB1 => ?_⟩
      walk_at "go"
      refine r_take hB1 fun w0 H2 w00 w01 hB2 b2 => ?_
      walk_at "go"
      refine r_take hB2 fun w1 H3 w10 w11 hB3 b3 => ?_
      walk_at "go"
      refine r_take hB3 fun w2 H4 w20 w21 hB4 b4 => ?_
      walk_at "go"
      refine newL fun pw H5 nw s5 e5 => ?_
      have hB5 := hB4.same s5
      have npw := hB4.ne nw
      walk_at "go"
      refine r_take hB5 fun q0 H6 q00 q01 hB6 b6 => ?_
      walk_at "go"
      refine r_take hB6 fun q1 H7 q10 q11 hB7 b7 => ?_
      walk_at "go"
      refine newL fun pp H8 npp0 s8 e8 => ?_
      have hB8 := hB7.same s8
      have npp := hB7.ne npp0
      walk_at "go"
      refine ⟨p, _, rfl, hB8, by omega, fun c1 H9 hB9 b9 => ?_⟩
      walk_at "go"
      refine r_take hB9 fun r0 H10 r00 r01 hB10 b10 => ?_
      refine r_ixS r00 (Int.lt_of_lt_of_le r01 (by decide +kernel)) (by decide +kernel) fun c2 _ => ?_
      walk_at "go"
      refine newL fun ps H11 nps0 s11 e11 => ?_
      have hB11 := hB10.same s11
      have nps := hB10.ne nps0
      have fw : H11 pw = some (.lst [.int w0, .int w1, .int w2]) := s11 _ _ (b10 _ _ npw (b9 _ _ npw (s8 _ _ (b7 _ _ npw (b6 _ _ npw e5)))))
      have fp : H11 pp = some (.lst [.int q0, .int q1]) := s11 _ _ (b10 _ _ npp (b9 _ _ npp e8))
      have sm11 : Same H0 H11 := (butSame (butSame ((butSame (butSame ((butSame (butSame (butSame s1 np b2) np b3) np b4).trans s5) np b6) np b7).trans s8) np b9) np b10).trans s11
      clear b2 b3 b4 b6 b7 b9 b10 s5 s8 s11 hB1 hB2 hB3 hB4 hB5 hB6 hB7 hB8 hB9 hB10 e5 e8 s1
      walk_at "go"
      refine r_take hB11 fun t0 H12 t00 t01 hB12 b12 => ?_
      refine ⟨t0, rfl, by omega, by omega, ?_⟩
      refine for_range (fun j σ H' => ∃ (z : Str) (y7 : Option V), σ = [some (.ref a), some (.int i), some (.ref p), some (.ref pw), some (.ref pp), some (.ref ps), some (.str z), y7, x8, x9, x10, x11, x12, x13] ∧ z.length ≤ j ∧ Box p (8 + j) H' ∧ But p H12 H') ⟨"", x7, rfl, by decide, hB12, But.refl⟩ ?_ ?_
      · rintro j σ H13 hj ⟨z, y7, rfl, hz, hB, bt⟩
        walk_at "go"
        refine r_take hB fun d H14 d0 d1 hB14 b14 => ?_
        refine r_ixS d0 (Int.lt_of_lt_of_le d1 (by decide +kernel)) (by decide +kernel) fun c3 _ => ?_
        refine ⟨z, _, rfl, rfl, Nat.le_trans (m := 1000) (by show z.length + 1 ≤ 1000; omega) (by decide), ?_⟩
        walk_at "go"
        exact ⟨_, _, rfl, by rw [str_len_add]; show z.length + 1 ≤ j + 1; omega, hB14, bt.trans b14⟩
      rintro σ H13 ⟨nm, y7, rfl, hnm, hB13, b13⟩
      have hnm9 : nm.length ≤ 9 := by omega
      have hB13 : Box p 17 H13 := hB13.mono (by omega)
      have b1213 := b12.trans b13
      have sm13 := butSame sm11 np b1213
      have fw := b1213 _ _ npw fw
      have fp := b1213 _ _ npp fp
      have fs := b1213 _ _ nps e11
      clear b12 b13 b1213 sm11 hB11 hB12 e11
      walk_at "go"
      refine newL fun pf H14 npf s14 e14 => ?_
      walk_at "go"
      refine r_ixL (sqL (s14 _ _ fw)) (v := .int w2) rfl ?_
      walk_at "go"
      refine .inr ⟨_, rfl, ?_⟩
      refine r_ixLo (sqL e14) (by split <;> decide) (by split <;> decide) fun v hv _ => ?_
      obtain ⟨f0, rfl, hf0⟩ : ∃ z : Str, v = .str z ∧ z.length ≤ 1 := by
        simp only [List.mem_cons, List.not_mem_nil, or_false] at hv
        rcases hv with e | e
        · exact ⟨_, e, by decide +kernel⟩
        · exact ⟨_, e, by decide +kernel⟩
      have hB14 := hB13.same s14
      have fw := s14 _ _ fw
      have fp := s14 _ _ fp
      have fs := s14 _ _ fs
      have sm14 := sm13.trans s14
      clear sm13 hB13 s14 e14
      walk_at "go"
      refine ⟨f0, rfl, Nat.le_trans hf0 (by decide), ?_⟩
      walk_at "go"
      refine r_take hB14 fun u0 H15 u00 u01 hB15 b15 => ?_
      walk_at "go"
      refine newL fun pu H16 npu s16 e16 => ?_
      walk_at "go"
      refine r_take (hB15.same s16) fun u1 H17 u10 u11 hB17 b17 => ?_
      refine r_ixLo (sqL (b17 _ _ (hB15.ne npu) e16)) u10 u11 fun v hv _ => ?_
      obtain ⟨m, rfl, hm0, hm1⟩ : ∃ m : Int, v = .int m ∧ 0 ≤ m ∧ m ≤ 7 := by
        simp only [List.mem_cons, List.not_mem_nil, or_false] at hv
        rcases hv with e | e | e | e
        · exact ⟨_, e, by omega, by omega⟩
        · exact ⟨_, e, by omega, by omega⟩
        · exact ⟨_, e, by omega, by omega⟩
        · exact ⟨_, e, by omega, by omega⟩
      have b1417 : But p H14 H17 := (b15.same s16).trans b17
      have fw := b1417 _ _ npw fw
      have fp := b1417 _ _ npp fp
      have fs := b1417 _ _ nps fs
      have sm17 := butSame sm14 np b1417
      clear b15 s16 b17 b1417 sm14 hB14 hB15 e16
      walk_at "go"
      refine ⟨m, rfl, by omega, by omega, ?_⟩
      refine for_range (fun j σ H' => ∃ (z : Str) (y7 : Option V), σ = [some (.ref a), some (.int i), some (.ref p), some (.ref pw), some (.ref pp), some (.ref ps), some (.str nm), y7, some (.str z), x9, x10, x11, x12, x13] ∧ z.length ≤ 1 + j ∧ Box p (19 + j) H' ∧ But p H17 H') ⟨f0, y7, rfl, by omega, hB17, But.refl⟩ ?_ ?_
      · rintro j σ H13 hj ⟨z, y7, rfl, hz, hB, bt⟩
        walk_at "go"
        refine r_take hB fun d H14 d0 d1 hB14 b14 => ?_
        refine r_ixS d0 (Int.lt_of_lt_of_le d1 (by decide +kernel)) (by decide +kernel) fun c3 _ => ?_
        refine ⟨z, _, rfl, rfl, Nat.le_trans (m := 1000) (by show z.length + 1 ≤ 1000; omega) (by decide), ?_⟩
        walk_at "go"
        exact ⟨_, _, rfl, by rw [str_len_add]; show z.length + 1 ≤ 1 + (j + 1); omega, hB14, bt.trans b14⟩
      rintro σ H18 ⟨fg, y7, rfl, hfg, hB18, b18⟩
      have hfg8 : fg.length ≤ 8 := by omega
      have hB18 : Box p 26 H18 := hB18.mono (by omega)
      have sm18 := butSame sm17 np b18
      have fw := b18 _ _ npw fw
      have fp := b18 _ _ npp fp
      have fs := b18 _ _ nps fs
      clear b18 hB17 sm17
      walk_at "go"
      refine r_take hB18 fun fl H19 fl0 fl1 hB19 b19 => ?_
      walk_at "go"
      refine newL fun pt H20 npt s20 e20 => ?_
      walk_at "go"
      refine r_take (hB19.same s20) fun u2 H21 u20 u21 hB21 b21 => ?_
      refine r_ixLo (sqL (b21 _ _ (hB19.ne npt) e20)) u20 u21 fun v hv _ => ?_
      obtain ⟨sz, rfl, sz0, sz1⟩ : ∃ m : Int, v = .int m ∧ 0 < m ∧ m < 2 ^ 128 := by
        simp only [List.mem_cons, List.not_mem_nil, or_false] at hv
        rcases hv with e | e
        · exact ⟨_, e, by decide, by decide⟩
        · exact ⟨_, e, by decide, by decide⟩
      walk_at "go"
      refine r_take hB21 (h0 := sz0) (h1 := sz1) fun tp H22 tp0 tp1 hB22 b22 => ?_
      walk_at "go"
      refine ⟨p, _, rfl, hB22, by omega, fun H23 hB23 b23 => ?_⟩
      walk_at "go"
      have b1823 : But p H18 H23 := (((b19.same s20).trans b21).trans b22).trans b23
      have fw := b1823 _ _ npw fw
      have fp := b1823 _ _ npp fp
      have fs := b1823 _ _ nps fs
      have sm23 := butSame sm18 np b1823
      clear b19 s20 b21 b22 b23 b1823 hB18 hB19 hB21 hB22 hB23 e20 sm18
      walk_at "go"
      refine r_ixL (sqL fw) (v := .int w0) rfl ?_
      walk_at "go"
      refine r_ixL (sqL fp) (v := .int q0) rfl ?_
      walk_at "go"
      refine r_ixL (sqL fs) (v := .str ⟨#[c1]⟩) rfl ?_
      walk_at "go"
      refine ⟨nm, ⟨#[c1]⟩, w0, q0, rfl, by omega, by show 1 ≤ 1; omega, w00, q00, fun sp H24 hsp s24 => ?_⟩
      walk_at "go"
      refine ⟨nm, _, rfl, rfl, Nat.le_trans (m := 100) (by show nm.length + 1 ≤ 100; omega) (by decide), ?_⟩
      walk_at "go"
      refine newL fun pl H25 npl s25 e25 => ?_
      have fw := s25 _ _ (s24 _ _ fw)
      have fp := s25 _ _ (s24 _ _ fp)
      have fs := s25 _ _ (s24 _ _ fs)
      have sm25 := (sm23.trans s24).trans s25
      refine ⟨pl, rfl, ⟨_, sqL e25⟩, ?_⟩
      refine for_list (xs := [V.str nm, V.str sp, V.str fg, V.str (nm ++ "\n")]) (fun k σ H' => (∃ y11, σ = [some (.ref a), some (.int i), some (.ref p), some (.ref pw), some (.ref pp), some (.ref ps), some (.str nm), y7, some (.str fg), some (.int fl), some (.int tp), y11, x12, x13]) ∧ Same H25 H')
        ⟨⟨_, rfl⟩, Same.refl _⟩ (fun k σ H' _ h => sqL (h.2 _ _ e25)) ?_ ?_
      · rintro k x σ H26 hx ⟨⟨y11, rfl⟩, s26⟩
        obtain ⟨z, rfl, hz⟩ : ∃ z : Str, x = .str z ∧ z.length ≤ 1000 := by
          have hx := List.mem_of_getElem? hx
          simp only [List.mem_cons, List.not_mem_nil, or_false] at hx
          rcases hx with e | e | e | e
          · exact ⟨_, e, by omega⟩
          · exact ⟨_, e, by omega⟩
          · exact ⟨_, e, by omega⟩
          · exact ⟨_, e, by rw [str_len_add]; show nm.length + 1 ≤ 1000; omega⟩
        walk_at "go"
        refine ⟨.str z, rfl, .inl ⟨z, rfl, hz, fun H27 s27 => ?_⟩⟩
        walk_at "go"
        refine ⟨_, rfl, ?_⟩
        walk_at "go"
        refine ⟨z, rfl, hz, fun H28 s28 => ?_⟩
        walk_at "go"
        refine ⟨_, rfl, ?_⟩
        walk_at "go"
        refine iteND rfl ?_
        walk_at "go"
        refine ⟨z, rfl, hz, fun H29 s29 => ?_⟩
        walk_at "go"
        refine ⟨z, fl, tp, rfl, hz, fun H30 s30 => ?_⟩
        walk_at "go"
        exact ⟨⟨_, rfl⟩, (((s26.trans s27).trans s28).trans s29).trans s30⟩
      rintro σ H26 ⟨⟨y11, rfl⟩, s26⟩
      have fw := s26 _ _ fw
      have fp := s26 _ _ fp
      have fs := s26 _ _ fs
      have sm26 := sm25.trans s26
      walk_at "go"
      refine r_ixL (sqL fw) (v := .int w1) rfl ?_
      walk_at "go"
      refine r_ixL (sqL fp) (v := .int q1) rfl ?_
      walk_at "go"
      refine r_ixL (sqL fs) (v := .str ⟨#[c2]⟩) rfl ?_
      walk_at "go"
      refine ⟨fg, ⟨#[c2]⟩, w1, q1, rfl, by omega, by show 1 ≤ 1; omega, w10, q10, fun sp2 H27 hsp2 s27 => ?_⟩
      walk_at "go"
      refine ⟨sp2, fl, tp, rfl, hsp2, fun H28 s28 => ?_⟩
      walk_at "go"
      refine ⟨fg, rfl, by omega, fun H29 s29 => ?_⟩
      walk_at "go"
      refine ⟨_, _, rfl, ?_⟩
      generalize (if valOf fg > 0 then valOf fg else 0) = vv
      walk_at "go"
      refine newT fun t1 G1 n1 g1 e1 => ?_
      walk_at "go"
      refine newT fun t2 G2 n2 g2 e2 => ?_
      walk_at "go"
      refine ⟨_, _, rfl, ?_⟩
      walk_at "go"
      refine newT fun t3 G3 n3 g3 e3 => ?_
      walk_at "go"
      refine newT fun t4 G4 n4 g4 e4 => ?_
      walk_at "go"
      refine newL fun t5 G5 n5 g5 e5 => ?_
      have sm5 : Same H0 G5 := (((((((sm26.trans s27).trans s28).trans s29).trans g1).trans g2).trans g3).trans g4).trans g5
      refine ⟨t5, rfl, ⟨_, sqL e5⟩, ?_⟩
      refine for_list (xs := [V.ref t1, V.ref t2, V.ref t3, V.ref t4]) (fun k σ H' => (∃ y13, σ = [some (.ref a), some (.int i), some (.ref p), some (.ref pw), some (.ref pp), some (.ref ps), some (.str nm), y7, some (.str fg), some (.int fl), some (.int tp), y11, some (.int vv), y13]) ∧ Same G5 H')
        ⟨⟨_, rfl⟩, Same.refl _⟩ (fun k σ H' _ h => sqL (h.2 _ _ e5)) ?_ ?_
      · rintro k x σ G6 hx ⟨⟨y13, rfl⟩, g6⟩
        obtain ⟨t, l, h, rfl, et⟩ : ∃ (t : Addr) (l h : Int), x = .ref t ∧ G5 t = some (.tup [.int l, .int h]) := by
          have hx := List.mem_of_getElem? hx
          simp only [List.mem_cons, List.not_mem_nil, or_false] at hx
          rcases hx with e | e | e | e
          · exact ⟨_, _, _, e, g5 _ _ (g4 _ _ (g3 _ _ (g2 _ _ e1)))⟩
          · exact ⟨_, _, _, e, g5 _ _ (g4 _ _ (g3 _ _ e2))⟩
          · exact ⟨_, _, _, e, g5 _ _ (g4 _ _ e3)⟩
          · exact ⟨_, _, _, e, g5 _ _ e4⟩
        have et6 := g6 _ _ et
        walk_at "go"
        refine r_ixT (sqT et6) (v := .int l) rfl ?_
        walk_at "go"
        refine r_ixT (sqT et6) (v := .int h) rfl ?_
        walk_at "go"
        refine ⟨fg, l, h, rfl, by omega, fun G7 g7 => ?_⟩
        walk_at "go"
        exact ⟨⟨_, rfl⟩, g6.trans g7⟩
      rintro σ G6 ⟨⟨y13, rfl⟩, g6⟩
      exact ⟨sm0.trans (sm5.trans g6), _, _, _, _, _, _, _, _, _, _, _, _, _, rfl⟩
    · rintro σ H0 ⟨sm0, x1, x2, x3, x4, x5, x6, x7, x8, x9, x10, x11, x12, x13, rfl⟩
      walk_at "go"
      exact ⟨rfl, fun H1 s1 => q H1⟩
end
end K01

namespace Bk
open PySem PySem.Spec PyProof.Rows L2
/-! ## 8. binding with keywords -/
theorem vals_rev : ∀ {zs : List V} {ws : List Value}, Vals zs ws → Vals zs.reverse ws.reverse
  | _, _, .nil => .nil
  | _, _, .cons r t => by
    rw [List.reverse_cons, List.reverse_cons]
    exact (vals_rev t).append (.cons r .nil)
section
variable {K : PySem.W.Frag} {x qual : Str} {params : Arguments} {body : List Stmt} {scope : Scope} {kws : List (Str × V)} {f : Addr} {fd : FuncData} {ps : List Str}
theorem kbinds0 (F : FunD K x qual params body scope [] kws f fd) (n : Nat) (ks : List Str) (ms : List (Str × V)) (g : {α : Type} → List α → List α → List α → List α) (hk : kws ≠ []) (hms : ∀ q ∈ ms, q ∈ kws)
    (hrel : ∀ {vs mz zs : List V} {us mv ws : List Value}, Vals vs us → Vals mz mv → Vals zs ws → Vals (g vs mz zs) (g us mv ws))
    (h : ∀ (D : Addr) (doc pm : Value) (an : Option Addr) (cdv ct : Value) (us mv ws : List Value), us.length = n → mv.length = ms.length → ws.length = ks.length →
      KwChain D ((ms.map (·.1)).zip mv) (bindArgs (PySem.W.fnOf x qual params body scope .none (.ref D) doc pm an cdv ct) ⟨us, ks.zip ws⟩) (ps.zip (g us mv ws))) :
    ∃ mv : List Value, KBn K fd ps n ks (fun us ws => g us mv ws) (fun vs zs => g vs (ms.map (·.2)) zs) := by
  obtain ⟨oc, od, dV, kV, doc, pm, an, cdv, ct, osl, rfl, lk, hcd, hD, hK⟩ := F.ex
  rcases hD with ⟨_, rfl⟩ | ⟨e, _⟩
  · rcases hK with e | ⟨D, rfl, hq⟩
    · exact absurd e hk
    · obtain ⟨mv, hl, rk, hks⟩ := kwd_vals (ms := ms) fun q hm => hq q (hms q hm)
      refine ⟨mv, ⟨fun s us ws X l1 l2 => ?_, fun r1 r2 => hrel r1 rk r2⟩⟩
      exact BindsTo.of_looks fun M => KwChain.looks X hks (h D doc pm an cdv ct us mv ws l1 hl l2)
  · exact absurd rfl e
/-- keywords alone or beside values, no defaults -/
theorem kbPlain {st : Stmt} {f : Addr} {fd : FuncData} (F : Fun K x qual st f fd) (n : Nat) (ks : List Str) (g : {α : Type} → List α → List α → List α)
    (hrel : ∀ {vs zs : List V} {us ws : List Value}, Vals vs us → Vals zs ws → Vals (g vs zs) (g us ws))
    (h : ∀ (kV doc pm : Value) (an : Option Addr) (cdv ct : Value) (us ws : List Value), us.length = n → ws.length = ks.length → bindArgs (PySem.W.fnOf x qual (defArgs st) (defBody st) (defScope st) .none kV doc pm an cdv ct) ⟨us, ks.zip ws⟩ = pure (ps.zip (g us ws))) :
    KBn K fd ps n ks (fun us ws => g us ws) (fun vs zs => g vs zs) := by
  obtain ⟨oc, od, kV, doc, pm, an, cdv, ct, osl, rfl, lk, hcd⟩ := F.ex
  exact ⟨fun s us ws X l1 l2 => .of_eq (h kV doc pm an cdv ct us ws l1 l2), fun r1 r2 => hrel r1 r2⟩
end
theorem kit_sub {K : PySem.W.Frag} {C : Addr} {T : String} {b : Bool} (hm : PySem.W.kitMeta T = true) (h : PySem.W.subIn K (.ref C) (.type T) = some b) : PySem.W.kitOne K (.ref C) (.type T) = some b := by
  unfold PySem.W.kitOne PySem.W.kitCls
  rw [if_neg (fun z => by cases (beq_iff_eq.mp z))]
  show (if PySem.W.kitMeta T = true then PySem.W.subIn K (.ref C) (.type T) else none) = some b
  rw [if_pos hm]
  exact h
theorem CalN.mk' {P : Program} {w : World} {K : PySem.W.Frag} {mg : Str → Option Value} {base : Heap} {CX : CXT} {k n : Nat} {ks : List Str} {x : Str} {sp : Sp} {gV : List V → List V → List V} {f : Addr} {fd : FuncData} {ps : List Str} {g : List Value → List Value → List Value} (a : mg x = some (.ref f)) (kp : PySem.W.keepIn K (.ref f) = true) (F : FnOk P w K mg base CX k f fd ps sp) (b : KBn K fd ps n ks g gV) :
    CalN P w K mg base CX k n ks x sp gV := ⟨f, fd, ps, g, a, kp, F, b⟩
end Bk
namespace K01
open PySem PySem.Spec PyProof.Rows L2 Bk
theorem num_chain0 {D : Addr} {doc pm : Value} {an : Option Addr} {cdv ct : Value} {us ks : List Value} (h1 : us.length = 1) (h2 : ks.length = 2) :
    KwChain D ((["least", "most"] : List Str).zip ks) (bindArgs (PySem.W.fnOf "number_in" "number_in" (defArgs s_number_in) (defBody s_number_in) (defScope s_number_in) .none (.ref D) doc pm an cdv ct) ⟨us, []⟩) ((["thing", "least", "most"] : List Str).zip (us ++ ks)) := by
  match us, ks, h1, h2 with
  | [u], [a, b], _, _ => exact ⟨_, _, _, _, _, _, rfl, rfl, _, _, _, _, _, _, rfl, rfl, rfl⟩
end K01

namespace K01
open PySem PySem.Spec PyProof.Rows L2 Bk
theorem num_chain {D : Addr} {doc pm : Value} {an : Option Addr} {cdv ct : Value} {us mv ws : List Value} :
    (us.length = 1 → mv.length = 1 → ws.length = 1 → KwChain D ((["most"] : List Str).zip mv) (bindArgs (PySem.W.fnOf "number_in" "number_in" (defArgs s_number_in) (defBody s_number_in) (defScope s_number_in) .none (.ref D) doc pm an cdv ct) ⟨us, (["least"] : List Str).zip ws⟩) ((["thing", "least", "most"] : List Str).zip (us ++ ws ++ mv))) ∧
    (us.length = 1 → mv.length = 1 → ws.length = 1 → KwChain D ((["least"] : List Str).zip mv) (bindArgs (PySem.W.fnOf "number_in" "number_in" (defArgs s_number_in) (defBody s_number_in) (defScope s_number_in) .none (.ref D) doc pm an cdv ct) ⟨us, (["most"] : List Str).zip ws⟩) ((["thing", "least", "most"] : List Str).zip (us ++ mv ++ ws))) ∧
    (us.length = 1 → mv.length = 0 → ws.length = 2 → KwChain D (([] : List Str).zip mv) (bindArgs (PySem.W.fnOf "number_in" "number_in" (defArgs s_number_in) (defBody s_number_in) (defScope s_number_in) .none (.ref D) doc pm an cdv ct) ⟨us, (["most", "least"] : List Str).zip ws⟩) ((["thing", "least", "most"] : List Str).zip (us ++ ws.reverse))) ∧
    (us.length = 1 → mv.length = 0 → ws.length = 2 → KwChain D (([] : List Str).zip mv) (bindArgs (PySem.W.fnOf "number_in" "number_in" (defArgs s_number_in) (defBody s_number_in) (defScope s_number_in) .none (.ref D) doc pm an cdv ct) ⟨us, (["least", "most"] : List Str).zip ws⟩) ((["thing", "least", "most"] : List Str).zip (us ++ ws))) ∧
    (us.length = 0 → mv.length = 1 → ws.length = 2 → KwChain D ((["least"] : List Str).zip mv) (bindArgs (PySem.W.fnOf "number_in" "number_in" (defArgs s_number_in) (defBody s_number_in) (defScope s_number_in) .none (.ref D) doc pm an cdv ct) ⟨us, (["most", "thing"] : List Str).zip ws⟩) ((["thing", "least", "most"] : List Str).zip (ws.drop 1 ++ mv ++ ws.take 1))) := by
  refine ⟨fun h1 h2 h3 => ?_, fun h1 h2 h3 => ?_, fun h1 h2 h3 => ?_, fun h1 h2 h3 => ?_, fun h1 h2 h3 => ?_⟩
  · match us, mv, ws, h1, h2, h3 with
    | [u], [m], [a], _, _, _ => exact ⟨_, _, _, _, _, _, rfl, rfl, rfl⟩
  · match us, mv, ws, h1, h2, h3 with
    | [u], [m], [a], _, _, _ => exact ⟨_, _, _, _, _, _, rfl, rfl, rfl⟩
  · match us, mv, ws, h1, h2, h3 with
    | [u], [], [a, b], _, _, _ => exact rfl
  · match us, mv, ws, h1, h2, h3 with
    | [u], [], [a, b], _, _, _ => exact rfl
  · match us, mv, ws, h1, h2, h3 with
    | [], [m], [a, b], _, _, _ => exact ⟨_, _, _, _, _, _, rfl, rfl, rfl⟩
theorem all_mk {l : PySem.W.OpenLaw} {w : World} {K : PySem.W.Frag} {h : Heap} {mg : Str → Option Value} {fa C_GuestError C_NoWord f_is_whole f_is_name f_number_in f_written f_all_within f_GuestError_init f_NoWord_init f_cell_L f_box_L f_take_L f_sign_L f_spoilt_L f_is_name_L f_value_L f_number_right_L f_whole_right_L f_named_L f_things_L f_law : Addr} (X : K.In h) (G : h.Ns mainGlobals mg) (hfa : mg "law" = some (.ref fa))
    {od_is_whole an_is_whole : Option Addr} {sl_is_whole : Array (Option Value)} {oc_is_whole kV_is_whole dc_is_whole pm_is_whole cd_is_whole ct_is_whole : Value}
    {od_is_name an_is_name : Option Addr} {sl_is_name : Array (Option Value)} {oc_is_name kV_is_name dc_is_name pm_is_name cd_is_name ct_is_name : Value}
    {od_number_in an_number_in : Option Addr} {sl_number_in : Array (Option Value)} {oc_number_in  dc_number_in pm_number_in cd_number_in ct_number_in : Value} {D_number_in : Addr}
    {u_number_in_least : Value}
    {u_number_in_most : Value}
    {od_written an_written : Option Addr} {sl_written : Array (Option Value)} {oc_written kV_written dc_written pm_written cd_written ct_written : Value}
    {od_all_within an_all_within : Option Addr} {sl_all_within : Array (Option Value)} {oc_all_within kV_all_within dc_all_within pm_all_within cd_all_within ct_all_within : Value}
    {od_GuestError_init an_GuestError_init : Option Addr} {sl_GuestError_init : Array (Option Value)} {oc_GuestError_init kV_GuestError_init dc_GuestError_init pm_GuestError_init cd_GuestError_init ct_GuestError_init : Value}
    {od_NoWord_init an_NoWord_init : Option Addr} {sl_NoWord_init : Array (Option Value)} {oc_NoWord_init kV_NoWord_init dc_NoWord_init pm_NoWord_init cd_NoWord_init ct_NoWord_init : Value}
    {od_cell_L an_cell_L : Option Addr} {sl_cell_L : Array (Option Value)} {oc_cell_L kV_cell_L dc_cell_L pm_cell_L cd_cell_L ct_cell_L : Value}
    {od_box_L an_box_L : Option Addr} {sl_box_L : Array (Option Value)} {oc_box_L kV_box_L dc_box_L pm_box_L cd_box_L ct_box_L : Value}
    {od_take_L an_take_L : Option Addr} {sl_take_L : Array (Option Value)} {oc_take_L kV_take_L dc_take_L pm_take_L cd_take_L ct_take_L : Value}
    {od_sign_L an_sign_L : Option Addr} {sl_sign_L : Array (Option Value)} {oc_sign_L kV_sign_L dc_sign_L pm_sign_L cd_sign_L ct_sign_L : Value}
    {od_spoilt_L an_spoilt_L : Option Addr} {sl_spoilt_L : Array (Option Value)} {oc_spoilt_L kV_spoilt_L dc_spoilt_L pm_spoilt_L cd_spoilt_L ct_spoilt_L : Value}
    {od_is_name_L an_is_name_L : Option Addr} {sl_is_name_L : Array (Option Value)} {oc_is_name_L kV_is_name_L dc_is_name_L pm_is_name_L cd_is_name_L ct_is_name_L : Value}
    {od_value_L an_value_L : Option Addr} {sl_value_L : Array (Option Value)} {oc_value_L kV_value_L dc_value_L pm_value_L cd_value_L ct_value_L : Value}
    {od_number_right_L an_number_right_L : Option Addr} {sl_number_right_L : Array (Option Value)} {oc_number_right_L kV_number_right_L dc_number_right_L pm_number_right_L cd_number_right_L ct_number_right_L : Value}
    {od_whole_right_L an_whole_right_L : Option Addr} {sl_whole_right_L : Array (Option Value)} {oc_whole_right_L kV_whole_right_L dc_whole_right_L pm_whole_right_L cd_whole_right_L ct_whole_right_L : Value}
    {od_named_L an_named_L : Option Addr} {sl_named_L : Array (Option Value)} {oc_named_L kV_named_L dc_named_L pm_named_L cd_named_L ct_named_L : Value}
    {od_things_L an_things_L : Option Addr} {sl_things_L : Array (Option Value)} {oc_things_L kV_things_L dc_things_L pm_things_L cd_things_L ct_things_L : Value}
    {od_law an_law : Option Addr} {sl_law : Array (Option Value)} {oc_law kV_law dc_law pm_law cd_law ct_law : Value}
    {t_most t_short : Tok}
    {nmW qW : Str} {NW : Addr} {bsW : List Value} {snW : List Str} {subW : List Value} {abW : Bool} {colW : Option Bool} {ddW : Option Addr} {w0 w1 w2 w3 w5 : Option Value}
    (aC_GuestError : PySem.W.nsIn K mainGlobals "GuestError" = some (some (.ref C_GuestError)))
    (aC_NoWord : PySem.W.nsIn K mainGlobals "NoWord" = some (some (.ref C_NoWord)))
    (a_is_whole : PySem.W.nsIn K mainGlobals "is_whole" = some (some (.ref f_is_whole)))
    (l_is_whole : K.lookup f_is_whole = some ⟨oc_is_whole, od_is_whole, .func (PySem.W.fnOf "is_whole" "is_whole" (defArgs s_is_whole) (defBody s_is_whole) (defScope s_is_whole) .none kV_is_whole dc_is_whole pm_is_whole an_is_whole cd_is_whole ct_is_whole), sl_is_whole⟩)
    (c_is_whole : PySem.W.codeIn K cd_is_whole "is_whole" = true)
    (k_is_whole : PySem.W.keepIn K (.ref f_is_whole) = true)
    (a_is_name : PySem.W.nsIn K mainGlobals "is_name" = some (some (.ref f_is_name)))
    (l_is_name : K.lookup f_is_name = some ⟨oc_is_name, od_is_name, .func (PySem.W.fnOf "is_name" "is_name" (defArgs s_is_name) (defBody s_is_name) (defScope s_is_name) .none kV_is_name dc_is_name pm_is_name an_is_name cd_is_name ct_is_name), sl_is_name⟩)
    (c_is_name : PySem.W.codeIn K cd_is_name "is_name" = true)
    (k_is_name : PySem.W.keepIn K (.ref f_is_name) = true)
    (a_number_in : PySem.W.nsIn K mainGlobals "number_in" = some (some (.ref f_number_in)))
    (l_number_in : K.lookup f_number_in = some ⟨oc_number_in, od_number_in, .func (PySem.W.fnOf "number_in" "number_in" (defArgs s_number_in) (defBody s_number_in) (defScope s_number_in) .none (.ref D_number_in) dc_number_in pm_number_in an_number_in cd_number_in ct_number_in), sl_number_in⟩)
    (c_number_in : PySem.W.codeIn K cd_number_in "number_in" = true)
    (k_number_in : PySem.W.keepIn K (.ref f_number_in) = true)
    (kd_number_in_least : PySem.W.nsIn K D_number_in "least" = some (some u_number_in_least))
    (kd_number_in_most : PySem.W.nsIn K D_number_in "most" = some (some u_number_in_most))
    (a_written : PySem.W.nsIn K mainGlobals "_written" = some (some (.ref f_written)))
    (l_written : K.lookup f_written = some ⟨oc_written, od_written, .func (PySem.W.fnOf "_written" "_written" (defArgs s_written) (defBody s_written) (defScope s_written) .none kV_written dc_written pm_written an_written cd_written ct_written), sl_written⟩)
    (c_written : PySem.W.codeIn K cd_written "_written" = true)
    (k_written : PySem.W.keepIn K (.ref f_written) = true)
    (a_all_within : PySem.W.nsIn K mainGlobals "_all_within" = some (some (.ref f_all_within)))
    (l_all_within : K.lookup f_all_within = some ⟨oc_all_within, od_all_within, .func (PySem.W.fnOf "_all_within" "_all_within" (defArgs s_all_within) (defBody s_all_within) (defScope s_all_within) .none kV_all_within dc_all_within pm_all_within an_all_within cd_all_within ct_all_within), sl_all_within⟩)
    (c_all_within : PySem.W.codeIn K cd_all_within "_all_within" = true)
    (k_all_within : PySem.W.keepIn K (.ref f_all_within) = true)
    (a_GuestError_init : PySem.W.findIn K (.ref C_GuestError) "__init__" = some (some (.ref f_GuestError_init)))
    (l_GuestError_init : K.lookup f_GuestError_init = some ⟨oc_GuestError_init, od_GuestError_init, .func (PySem.W.fnOf "__init__" "GuestError.__init__" (defArgs s_GuestError_init) (defBody s_GuestError_init) (defScope s_GuestError_init) .none kV_GuestError_init dc_GuestError_init pm_GuestError_init an_GuestError_init cd_GuestError_init ct_GuestError_init), sl_GuestError_init⟩)
    (c_GuestError_init : PySem.W.codeIn K cd_GuestError_init "GuestError.__init__" = true)
    (k_GuestError_init : PySem.W.keepIn K (.ref f_GuestError_init) = true)
    (a_NoWord_init : PySem.W.findIn K (.ref C_NoWord) "__init__" = some (some (.ref f_NoWord_init)))
    (l_NoWord_init : K.lookup f_NoWord_init = some ⟨oc_NoWord_init, od_NoWord_init, .func (PySem.W.fnOf "__init__" "NoWord.__init__" (defArgs s_NoWord_init) (defBody s_NoWord_init) (defScope s_NoWord_init) .none kV_NoWord_init dc_NoWord_init pm_NoWord_init an_NoWord_init cd_NoWord_init ct_NoWord_init), sl_NoWord_init⟩)
    (c_NoWord_init : PySem.W.codeIn K cd_NoWord_init "NoWord.__init__" = true)
    (k_NoWord_init : PySem.W.keepIn K (.ref f_NoWord_init) = true)
    (a_cell_L : PySem.W.nsIn K mainGlobals "_law_cell" = some (some (.ref f_cell_L)))
    (l_cell_L : K.lookup f_cell_L = some ⟨oc_cell_L, od_cell_L, .func (PySem.W.fnOf "_law_cell" "_law_cell" (defArgs s_cell_L) (defBody s_cell_L) (defScope s_cell_L) .none kV_cell_L dc_cell_L pm_cell_L an_cell_L cd_cell_L ct_cell_L), sl_cell_L⟩)
    (c_cell_L : PySem.W.codeIn K cd_cell_L "_law_cell" = true)
    (k_cell_L : PySem.W.keepIn K (.ref f_cell_L) = true)
    (a_box_L : PySem.W.nsIn K mainGlobals "_law_box" = some (some (.ref f_box_L)))
    (l_box_L : K.lookup f_box_L = some ⟨oc_box_L, od_box_L, .func (PySem.W.fnOf "_law_box" "_law_box" (defArgs s_box_L) (defBody s_box_L) (defScope s_box_L) .none kV_box_L dc_box_L pm_box_L an_box_L cd_box_L ct_box_L), sl_box_L⟩)
    (c_box_L : PySem.W.codeIn K cd_box_L "_law_box" = true)
    (k_box_L : PySem.W.keepIn K (.ref f_box_L) = true)
    (a_take_L : PySem.W.nsIn K mainGlobals "_law_take" = some (some (.ref f_take_L)))
    (l_take_L : K.lookup f_take_L = some ⟨oc_take_L, od_take_L, .func (PySem.W.fnOf "_law_take" "_law_take" (defArgs s_take_L) (defBody s_take_L) (defScope s_take_L) .none kV_take_L dc_take_L pm_take_L an_take_L cd_take_L ct_take_L), sl_take_L⟩)
    (c_take_L : PySem.W.codeIn K cd_take_L "_law_take" = true)
    (k_take_L : PySem.W.keepIn K (.ref f_take_L) = true)
    (a_sign_L : PySem.W.nsIn K mainGlobals "_law_sign" = some (some (.ref f_sign_L)))
    (l_sign_L : K.lookup f_sign_L = some ⟨oc_sign_L, od_sign_L, .func (PySem.W.fnOf "_law_sign" "_law_sign" (defArgs s_sign_L) (defBody s_sign_L) (defScope s_sign_L) .none kV_sign_L dc_sign_L pm_sign_L an_sign_L cd_sign_L ct_sign_L), sl_sign_L⟩)
    (c_sign_L : PySem.W.codeIn K cd_sign_L "_law_sign" = true)
    (k_sign_L : PySem.W.keepIn K (.ref f_sign_L) = true)
    (a_spoilt_L : PySem.W.nsIn K mainGlobals "_law_spoilt" = some (some (.ref f_spoilt_L)))
    (l_spoilt_L : K.lookup f_spoilt_L = some ⟨oc_spoilt_L, od_spoilt_L, .func (PySem.W.fnOf "_law_spoilt" "_law_spoilt" (defArgs s_spoilt_L) (defBody s_spoilt_L) (defScope s_spoilt_L) .none kV_spoilt_L dc_spoilt_L pm_spoilt_L an_spoilt_L cd_spoilt_L ct_spoilt_L), sl_spoilt_L⟩)
    (c_spoilt_L : PySem.W.codeIn K cd_spoilt_L "_law_spoilt" = true)
    (k_spoilt_L : PySem.W.keepIn K (.ref f_spoilt_L) = true)
    (a_is_name_L : PySem.W.nsIn K mainGlobals "_law_is_name" = some (some (.ref f_is_name_L)))
    (l_is_name_L : K.lookup f_is_name_L = some ⟨oc_is_name_L, od_is_name_L, .func (PySem.W.fnOf "_law_is_name" "_law_is_name" (defArgs s_is_name_L) (defBody s_is_name_L) (defScope s_is_name_L) .none kV_is_name_L dc_is_name_L pm_is_name_L an_is_name_L cd_is_name_L ct_is_name_L), sl_is_name_L⟩)
    (c_is_name_L : PySem.W.codeIn K cd_is_name_L "_law_is_name" = true)
    (k_is_name_L : PySem.W.keepIn K (.ref f_is_name_L) = true)
    (a_value_L : PySem.W.nsIn K mainGlobals "_law_value" = some (some (.ref f_value_L)))
    (l_value_L : K.lookup f_value_L = some ⟨oc_value_L, od_value_L, .func (PySem.W.fnOf "_law_value" "_law_value" (defArgs s_value_L) (defBody s_value_L) (defScope s_value_L) .none kV_value_L dc_value_L pm_value_L an_value_L cd_value_L ct_value_L), sl_value_L⟩)
    (c_value_L : PySem.W.codeIn K cd_value_L "_law_value" = true)
    (k_value_L : PySem.W.keepIn K (.ref f_value_L) = true)
    (a_number_right_L : PySem.W.nsIn K mainGlobals "_law_number_right" = some (some (.ref f_number_right_L)))
    (l_number_right_L : K.lookup f_number_right_L = some ⟨oc_number_right_L, od_number_right_L, .func (PySem.W.fnOf "_law_number_right" "_law_number_right" (defArgs s_number_right_L) (defBody s_number_right_L) (defScope s_number_right_L) .none kV_number_right_L dc_number_right_L pm_number_right_L an_number_right_L cd_number_right_L ct_number_right_L), sl_number_right_L⟩)
    (c_number_right_L : PySem.W.codeIn K cd_number_right_L "_law_number_right" = true)
    (k_number_right_L : PySem.W.keepIn K (.ref f_number_right_L) = true)
    (a_whole_right_L : PySem.W.nsIn K mainGlobals "_law_whole_right" = some (some (.ref f_whole_right_L)))
    (l_whole_right_L : K.lookup f_whole_right_L = some ⟨oc_whole_right_L, od_whole_right_L, .func (PySem.W.fnOf "_law_whole_right" "_law_whole_right" (defArgs s_whole_right_L) (defBody s_whole_right_L) (defScope s_whole_right_L) .none kV_whole_right_L dc_whole_right_L pm_whole_right_L an_whole_right_L cd_whole_right_L ct_whole_right_L), sl_whole_right_L⟩)
    (c_whole_right_L : PySem.W.codeIn K cd_whole_right_L "_law_whole_right" = true)
    (k_whole_right_L : PySem.W.keepIn K (.ref f_whole_right_L) = true)
    (a_named_L : PySem.W.nsIn K mainGlobals "_law_named" = some (some (.ref f_named_L)))
    (l_named_L : K.lookup f_named_L = some ⟨oc_named_L, od_named_L, .func (PySem.W.fnOf "_law_named" "_law_named" (defArgs s_named_L) (defBody s_named_L) (defScope s_named_L) .none kV_named_L dc_named_L pm_named_L an_named_L cd_named_L ct_named_L), sl_named_L⟩)
    (c_named_L : PySem.W.codeIn K cd_named_L "_law_named" = true)
    (k_named_L : PySem.W.keepIn K (.ref f_named_L) = true)
    (a_things_L : PySem.W.nsIn K mainGlobals "_law_things" = some (some (.ref f_things_L)))
    (l_things_L : K.lookup f_things_L = some ⟨oc_things_L, od_things_L, .func (PySem.W.fnOf "_law_things" "_law_things" (defArgs s_things_L) (defBody s_things_L) (defScope s_things_L) .none kV_things_L dc_things_L pm_things_L an_things_L cd_things_L ct_things_L), sl_things_L⟩)
    (c_things_L : PySem.W.codeIn K cd_things_L "_law_things" = true)
    (k_things_L : PySem.W.keepIn K (.ref f_things_L) = true)
    (a_law : PySem.W.nsIn K mainGlobals "law" = some (some (.ref f_law)))
    (l_law : K.lookup f_law = some ⟨oc_law, od_law, .func (PySem.W.fnOf "law" "law" (defArgs s_law) (defBody s_law) (defScope s_law) .none kV_law dc_law pm_law an_law cd_law ct_law), sl_law⟩)
    (c_law : PySem.W.codeIn K cd_law "law" = true)
    (k_law : PySem.W.keepIn K (.ref f_law) = true)
    (cMOST : PySem.W.nsIn K mainGlobals "MOST" = some (some (.int 4095 t_most)))
    (cSHORT : PySem.W.nsIn K mainGlobals "SHORT" = some (some (.int 6 t_short)))
    (rd_G : PySem.W.readsIn K C_GuestError (.type "type") = true)
    (ga_G : PySem.W.specialIn K (.ref C_GuestError) "__getattribute__" = some (some (.builtin "type.__getattribute__")))
    (at_G : PySem.W.findCls K (.ref C_GuestError) (.type "type") "__init__" = some (.val (.ref f_GuestError_init)))
    (vV : PySem.W.findCls K (.type "ValueError") (.type "type") "__init__" = some (.val (.builtin "ValueError.__init__")))
    (xL_W : K.lookup C_NoWord = some (excClassObj nmW qW C_NoWord NW bsW [.ref C_GuestError, .type "ValueError", .type "Exception", .type "BaseException", .type "object"] true snW subW abW colW ddW w0 w1 w2 w3 w5 "ValueError.__new__"))
    (sa_W : PySem.W.findIn K (.ref C_NoWord) "__setattr__" = some (some (.builtin "object.__setattr__")))
    (ex_W : PySem.W.subIn K (.ref C_NoWord) (.type "BaseException") = some true)
    (ty_W : PySem.W.typeIn K (.ref C_NoWord) = some (.type "type"))
    (kp_W : PySem.W.keepIn K (.ref C_NoWord) = true)
    (tf_W : PySem.W.typeIn K (.ref f_NoWord_init) = some (.type "function"))
    (nf_W : PySem.W.findIn K (.ref C_NoWord) "found" = some none)
    (hg_W : PySem.W.findIn K (.ref C_NoWord) "__getattribute__" = some (some (.builtin "BaseException.__getattribute__")))
    (hk_W : PySem.W.findIn K (.ref C_NoWord) "__getattr__" = some none)
    (hd_W : PySem.W.hasDictIn K C_NoWord = true)
    (ha_W : PySem.W.findIn K (.ref C_NoWord) "__class__" = some (some (.builtin "object.__class__")))
    (hn_W : PySem.W.specialIn K (.builtin "object.__class__") "__get__" = some (some (.builtin "getset_descriptor.__get__")))
    (ht_W : PySem.W.takesIn K (.builtin "object.__class__") = some true)
    (hm_W : PySem.W.mroIn K C_NoWord (.type "object") = some true)
    (ki_W : PySem.W.subIn K (.ref C_NoWord) (.type "int") = some false)
    (ks_W : PySem.W.subIn K (.ref C_NoWord) (.type "str") = some false)
    (ul : RelV (.int 0) u_number_in_least)
    (um : RelV (.int 4095) u_number_in_most)
    (z_isinstance : PySem.W.nsIn K mainGlobals "isinstance" = some none)
    (z_int : PySem.W.nsIn K mainGlobals "int" = some none)
    (z_bool : PySem.W.nsIn K mainGlobals "bool" = some none)
    (z_str : PySem.W.nsIn K mainGlobals "str" = some none)
    (z_len : PySem.W.nsIn K mainGlobals "len" = some none)
    (z_all : PySem.W.nsIn K mainGlobals "all" = some none)
    (z_max : PySem.W.nsIn K mainGlobals "max" = some none)
    (z_min : PySem.W.nsIn K mainGlobals "min" = some none)
    (z_range : PySem.W.nsIn K mainGlobals "range" = some none)
    (z_zip : PySem.W.nsIn K mainGlobals "zip" = some none)
    (z_repr : PySem.W.nsIn K mainGlobals "repr" = some none)
    (z_ValueError : PySem.W.nsIn K mainGlobals "ValueError" = some none) :
    ∃ fd : FuncData, (∀ (s : Shared) (v : Value), BindsTo s fd ⟨[v], []⟩ [("_law_script", v)]) ∧ ∀ base : Heap, K.In base → base.Ns mainGlobals mg → FnOk l.prog w K mg base CX0 5 fa fd ["_law_script"] (spLaw K) := by
  have e := hfa.symm.trans (PySem.W.mg_of X G a_law)
  cases e
  have mo : ∀ {x : Str} {u : Value}, PySem.W.nsIn K mainGlobals x = some (some u) → mg x = some u := fun q => PySem.W.mg_of X G q
  have mz : ∀ {x : Str}, PySem.W.nsIn K mainGlobals x = some none → mg x = none := fun q => PySem.W.mg_none_of X G q
  have F_is_whole := fun_mk (st := s_is_whole) l_is_whole c_is_whole k_is_whole
  have b_is_whole := F_is_whole.binds (ps := ["thing", "low", "high"]) fun _ _ _ _ _ _ us hl => match us, hl with | [_, _, _], _ => rfl
  have F_is_name := fun_mk (st := s_is_name) l_is_name c_is_name k_is_name
  have b_is_name := F_is_name.binds (ps := ["thing"]) fun _ _ _ _ _ _ us hl => match us, hl with | [_], _ => rfl
  have F_written := fun_mk (st := s_written) l_written c_written k_written
  have b_written := F_written.binds (ps := ["thing", "figures"]) fun _ _ _ _ _ _ us hl => match us, hl with | [_, _], _ => rfl
  have F_all_within := fun_mk (st := s_all_within) l_all_within c_all_within k_all_within
  have b_all_within := F_all_within.binds (ps := ["text", "first", "last"]) fun _ _ _ _ _ _ us hl => match us, hl with | [_, _, _], _ => rfl
  have F_GuestError_init := fun_mk (st := s_GuestError_init) l_GuestError_init c_GuestError_init k_GuestError_init
  have b_GuestError_init := F_GuestError_init.binds (ps := ["self", "text"]) fun _ _ _ _ _ _ us hl => match us, hl with | [_, _], _ => rfl
  have F_NoWord_init := fun_mk (st := s_NoWord_init) l_NoWord_init c_NoWord_init k_NoWord_init
  have b_NoWord_init := F_NoWord_init.binds (ps := ["self", "found"]) fun _ _ _ _ _ _ us hl => match us, hl with | [_, _], _ => rfl
  have F_cell_L := fun_mk (st := s_cell_L) l_cell_L c_cell_L k_cell_L
  have b_cell_L := F_cell_L.binds (ps := ["_law_script", "_law_k"]) fun _ _ _ _ _ _ us hl => match us, hl with | [_, _], _ => rfl
  have F_box_L := fun_mk (st := s_box_L) l_box_L c_box_L k_box_L
  have b_box_L := F_box_L.binds (ps := ["_law_cell_here"]) fun _ _ _ _ _ _ us hl => match us, hl with | [_], _ => rfl
  have F_take_L := fun_mk (st := s_take_L) l_take_L c_take_L k_take_L
  have b_take_L := F_take_L.binds (ps := ["_law_box_here", "_law_size"]) fun _ _ _ _ _ _ us hl => match us, hl with | [_, _], _ => rfl
  have F_sign_L := fun_mk (st := s_sign_L) l_sign_L c_sign_L k_sign_L
  have b_sign_L := F_sign_L.binds (ps := ["_law_box_here"]) fun _ _ _ _ _ _ us hl => match us, hl with | [_], _ => rfl
  have F_spoilt_L := fun_mk (st := s_spoilt_L) l_spoilt_L c_spoilt_L k_spoilt_L
  have b_spoilt_L := F_spoilt_L.binds (ps := ["_law_text", "_law_way", "_law_place", "_law_sign_here"]) fun _ _ _ _ _ _ us hl => match us, hl with | [_, _, _, _], _ => rfl
  have F_is_name_L := fun_mk (st := s_is_name_L) l_is_name_L c_is_name_L k_is_name_L
  have b_is_name_L := F_is_name_L.binds (ps := ["_law_text"]) fun _ _ _ _ _ _ us hl => match us, hl with | [_], _ => rfl
  have F_value_L := fun_mk (st := s_value_L) l_value_L c_value_L k_value_L
  have b_value_L := F_value_L.binds (ps := ["_law_text"]) fun _ _ _ _ _ _ us hl => match us, hl with | [_], _ => rfl
  have F_number_right_L := fun_mk (st := s_number_right_L) l_number_right_L c_number_right_L k_number_right_L
  have b_number_right_L := F_number_right_L.binds (ps := ["_law_text", "_law_floor", "_law_top"]) fun _ _ _ _ _ _ us hl => match us, hl with | [_, _, _], _ => rfl
  have F_whole_right_L := fun_mk (st := s_whole_right_L) l_whole_right_L c_whole_right_L k_whole_right_L
  have b_whole_right_L := F_whole_right_L.binds (ps := ["_law_box_here"]) fun _ _ _ _ _ _ us hl => match us, hl with | [_], _ => rfl
  have F_named_L := fun_mk (st := s_named_L) l_named_L c_named_L k_named_L
  have b_named_L := F_named_L.binds (ps := ["_law_text"]) fun _ _ _ _ _ _ us hl => match us, hl with | [_], _ => rfl
  have F_things_L := fun_mk (st := s_things_L) l_things_L c_things_L k_things_L
  have b_things_L := F_things_L.binds (ps := []) fun _ _ _ _ _ _ us hl => match us, hl with | [], _ => rfl
  have F_law := fun_mk (st := s_law) l_law c_law k_law
  have T : Txt K mg C_GuestError C_NoWord f_GuestError_init f_NoWord_init :=
    { m_isinstance := mz z_isinstance, m_int := mz z_int, m_bool := mz z_bool, m_str := mz z_str, m_len := mz z_len, m_all := mz z_all, m_max := mz z_max, m_min := mz z_min, m_range := mz z_range, m_zip := mz z_zip, m_repr := mz z_repr, m_ValueError := mz z_ValueError,
      c_MOST := ⟨_, mo cMOST, ⟨_, rfl⟩⟩, c_SHORT := ⟨_, mo cSHORT, ⟨_, rfl⟩⟩, g_GuestError := mo aC_GuestError, rd_GuestError := rd_G, ga_GuestError := ga_G, at_GuestError := at_G, vV := vV, g_NoWord := mo aC_NoWord,
      ox_NoWord := ⟨⟨nmW, qW, NW, bsW, _, snW, subW, abW, colW, ddW, w0, w1, w2, w3, w5, xL_W, (by show PySem.HandSPX.refsVE [.type "ValueError", .type "Exception", .type "BaseException", .type "object"] = true; decide +kernel)⟩, sa_W, ex_W, ty_W, kp_W⟩,
      i_NoWord := a_NoWord_init, t_NoWord := tf_W, nf_NoWord := nf_W, xc_NoWord := ⟨hg_W, hk_W, ex_W, hd_W, ha_W, hn_W, ht_W, hm_W⟩, ki_NoWord := kit_sub (by decide +kernel) ki_W, ks_NoWord := kit_sub (by decide +kernel) ks_W }
  have D_n : FunD K "number_in" "number_in" (defArgs s_number_in) (defBody s_number_in) (defScope s_number_in) [] [("least", .int 0), ("most", .int 4095)] f_number_in _ := ⟨⟨_, _, _, _, _, _, _, _, _, _, rfl, l_number_in, c_number_in, .inl ⟨rfl, rfl⟩, .inr ⟨D_number_in, rfl, fun q hq => by
    rcases List.mem_cons.mp hq with e | hq
    · subst e; exact ⟨_, kd_number_in_least, ul⟩
    · rcases List.mem_cons.mp hq with e | hq
      · subst e; exact ⟨_, kd_number_in_most, um⟩
      · cases hq⟩⟩, k_number_in⟩
  refine ⟨PySem.W.fnOf "law" "law" (defArgs s_law) (defBody s_law) (defScope s_law) .none kV_law dc_law pm_law an_law cd_law ct_law, fun s v => .of_eq rfl, fun base _ _ => ?_⟩
  have c_cell := CalD.mk' (P := l.prog) (w := w) (base := base) (mo a_cell_L) k_cell_L (ok_cell F_cell_L T) b_cell_L
  have c_box := CalD.mk' (P := l.prog) (w := w) (base := base) (mo a_box_L) k_box_L (ok_box F_box_L T) b_box_L
  have c_take := CalD.mk' (P := l.prog) (w := w) (base := base) (mo a_take_L) k_take_L (ok_take F_take_L T) b_take_L
  have o_GE : Own l.prog w K mg base CX0 1 f_GuestError_init _ ["self", "text"] (spGE K) := ⟨ok_GE F_GuestError_init T, b_GuestError_init, k_GuestError_init⟩
  have o_NW : Own l.prog w K mg base CX0 2 f_NoWord_init _ ["self", "found"] (spNW C_NoWord) := ⟨ok_NW F_NoWord_init T o_GE, b_NoWord_init, k_NoWord_init⟩
  have f_wh := ok_whole (P := l.prog) (w := w) (base := base) F_is_whole T
  have c_wh := CalD.mk' (mo a_is_whole) k_is_whole f_wh b_is_whole
  have k_wh : CalN l.prog w K mg base CX0 1 0 ["high", "low", "thing"] "is_whole" (spWhole K) (fun _ zs => zs.reverse) := CalN.mk' (mo a_is_whole) k_is_whole f_wh (kbPlain F_is_whole 0 ["high", "low", "thing"] (fun _ zs => zs.reverse) (fun _ r => vals_rev r) (fun _ _ _ _ _ _ us ws h1 h2 => match us, ws, h1, h2 with | [], [_, _, _], _, _ => rfl))
  have c_aw := CalD.mk' (P := l.prog) (w := w) (base := base) (mo a_all_within) k_all_within (ok_allW F_all_within T) b_all_within
  have f_nm := ok_name (P := l.prog) (w := w) (base := base) F_is_name T c_aw
  have c_nm := CalD.mk' (mo a_is_name) k_is_name f_nm b_is_name
  have k_nm : CalN l.prog w K mg base CX0 2 0 ["thing"] "is_name" (spName K) (fun _ zs => zs) := CalN.mk' (mo a_is_name) k_is_name f_nm (kbPlain F_is_name 0 ["thing"] (fun _ zs => zs) (fun _ r => r) (fun _ _ _ _ _ _ us ws h1 h2 => match us, ws, h1, h2 with | [], [_], _, _ => rfl))
  have c_wn := CalD.mk' (P := l.prog) (w := w) (base := base) (mo a_written) k_written (ok_wr F_written T c_aw) b_written
  have f_nu := ok_num (P := l.prog) (w := w) (base := base) (D := D_number_in) D_n T c_wn
  have c_nu : CalD l.prog w K mg base CX0 3 "number_in" (spNum K) [.int 0, .int 4095] := by
    obtain ⟨ds, v, b⟩ := D_n.binds0 (ps := ["thing", "least", "most"]) 1 (by simp) rfl fun _ _ _ _ _ _ us ks h1 h2 => num_chain0 h1 h2
    exact ⟨_, _, _, ds, mo a_number_in, k_number_in, f_nu, b, v⟩
  have k1 : CalN l.prog w K mg base CX0 3 1 ["least"] "number_in" (spNum K) (fun vs zs => vs ++ zs ++ [.int 4095]) := by
    obtain ⟨mv, b⟩ := kbinds0 (ps := ["thing", "least", "most"]) D_n 1 ["least"] [("most", .int 4095)] (fun us ms ws => us ++ ws ++ ms) (by simp) (by simp) (fun a b c => (a.append c).append b) fun _ _ _ _ _ _ us mv ws h1 h2 h3 => num_chain.1 h1 h2 h3
    exact CalN.mk' (mo a_number_in) k_number_in f_nu b
  have k2 : CalN l.prog w K mg base CX0 3 1 ["most"] "number_in" (spNum K) (fun vs zs => vs ++ [.int 0] ++ zs) := by
    obtain ⟨mv, b⟩ := kbinds0 (ps := ["thing", "least", "most"]) D_n 1 ["most"] [("least", .int 0)] (fun us ms ws => us ++ ms ++ ws) (by simp) (by simp) (fun a b c => (a.append b).append c) fun _ _ _ _ _ _ us mv ws h1 h2 h3 => num_chain.2.1 h1 h2 h3
    exact CalN.mk' (mo a_number_in) k_number_in f_nu b
  have k3 : CalN l.prog w K mg base CX0 3 1 ["most", "least"] "number_in" (spNum K) (fun vs zs => vs ++ zs.reverse) := by
    obtain ⟨mv, b⟩ := kbinds0 (ps := ["thing", "least", "most"]) D_n 1 ["most", "least"] [] (fun us _ ws => us ++ ws.reverse) (by simp) (by simp) (fun a b c => a.append (vals_rev c)) fun _ _ _ _ _ _ us mv ws h1 h2 h3 => num_chain.2.2.1 h1 h2 h3
    exact CalN.mk' (mo a_number_in) k_number_in f_nu b
  have k4 : CalN l.prog w K mg base CX0 3 1 ["least", "most"] "number_in" (spNum K) (fun vs zs => vs ++ zs) := by
    obtain ⟨mv, b⟩ := kbinds0 (ps := ["thing", "least", "most"]) D_n 1 ["least", "most"] [] (fun us _ ws => us ++ ws) (by simp) (by simp) (fun a b c => a.append c) fun _ _ _ _ _ _ us mv ws h1 h2 h3 => num_chain.2.2.2.1 h1 h2 h3
    exact CalN.mk' (mo a_number_in) k_number_in f_nu b
  have k5 : CalN l.prog w K mg base CX0 3 0 ["most", "thing"] "number_in" (spNum K) (fun _ zs => zs.drop 1 ++ [.int 0] ++ zs.take 1) := by
    obtain ⟨mv, b⟩ := kbinds0 (ps := ["thing", "least", "most"]) D_n 0 ["most", "thing"] [("least", .int 0)] (fun _ ms ws => ws.drop 1 ++ ms ++ ws.take 1) (by simp) (by simp) (fun a b c => ((c.drop 1).append b).append (c.take 1)) fun _ _ _ _ _ _ us mv ws h1 h2 h3 => num_chain.2.2.2.2 h1 h2 h3
    exact CalN.mk' (mo a_number_in) k_number_in f_nu b
  have c_sg := CalD.mk' (P := l.prog) (w := w) (base := base) (mo a_sign_L) k_sign_L (ok_sign F_sign_L T c_take) b_sign_L
  have c_sp := CalD.mk' (P := l.prog) (w := w) (base := base) (mo a_spoilt_L) k_spoilt_L (ok_spoilt F_spoilt_L T) b_spoilt_L
  have c_nl := CalD.mk' (P := l.prog) (w := w) (base := base) (mo a_is_name_L) k_is_name_L (ok_nameL F_is_name_L T) b_is_name_L
  have c_vl := CalD.mk' (P := l.prog) (w := w) (base := base) (mo a_value_L) k_value_L (ok_value F_value_L T) b_value_L
  have c_nr := CalD.mk' (P := l.prog) (w := w) (base := base) (mo a_number_right_L) k_number_right_L (ok_numR F_number_right_L T c_vl c_nu k1 k2 k3 k4) b_number_right_L
  have c_wr := CalD.mk' (P := l.prog) (w := w) (base := base) (mo a_whole_right_L) k_whole_right_L (ok_wholeR F_whole_right_L T c_take c_wh k_wh) b_whole_right_L
  have c_na := CalD.mk' (P := l.prog) (w := w) (base := base) (mo a_named_L) k_named_L (ok_named F_named_L T c_nm k_nm k5 k2) b_named_L
  have c_th := CalD.mk' (P := l.prog) (w := w) (base := base) (mo a_things_L) k_things_L (ok_things (fdN := f_NoWord_init) F_things_L T o_NW c_wh c_nm c_nu k4) b_things_L
  exact ok_law F_law T c_cell c_box c_take c_sg c_wr c_sp c_nm c_nl c_na c_nr c_vl c_th
end K01
open PySem PySem.W PyProof.Rows
set_option maxHeartbeats 0 in
theorem PySem.Challenge.cw_guestsalone_k01_words_of_anything_holds : PySem.Challenge.rw_guestsalone_k01_words_of_anything.Holds := by
  w_on; o_law; k_head; (case hw => w_witness2)
  k_fill
  refine L2.walk_of (l := PySem.Challenge.rw_guestsalone_k01_words_of_anything) (n := 63) (k := 5) (x := "_law_script") (CX := fun _ => L2.CX0) (sp := fun w => K01.spLaw _) rfl (by decide) rfl ⟨rfl, by decide, by decide⟩ (fun w h Y => PySem.W.kIn_of Y) ?F (fun _ _ a ns hl _ hS => ⟨a, ns, rfl, hS, hl, fun _ => rfl⟩) (fun _ _ _ _ _ h => h)
  case F =>
    intro w mg fa h KX G hmg
    refine' K01.all_mk KX G hmg ?aC_GuestError ?aC_NoWord ?a_is_whole ?l_is_whole ?c_is_whole ?k_is_whole ?a_is_name ?l_is_name ?c_is_name ?k_is_name ?a_number_in ?l_number_in ?c_number_in ?k_number_in ?kd_number_in_least ?kd_number_in_most ?a_written ?l_written ?c_written ?k_written ?a_all_within ?l_all_within ?c_all_within ?k_all_within ?a_GuestError_init ?l_GuestError_init ?c_GuestError_init ?k_GuestError_init ?a_NoWord_init ?l_NoWord_init ?c_NoWord_init ?k_NoWord_init ?a_cell_L ?l_cell_L ?c_cell_L ?k_cell_L ?a_box_L ?l_box_L ?c_box_L ?k_box_L ?a_take_L ?l_take_L ?c_take_L ?k_take_L ?a_sign_L ?l_sign_L ?c_sign_L ?k_sign_L ?a_spoilt_L ?l_spoilt_L ?c_spoilt_L ?k_spoilt_L ?a_is_name_L ?l_is_name_L ?c_is_name_L ?k_is_name_L ?a_value_L ?l_value_L ?c_value_L ?k_value_L ?a_number_right_L ?l_number_right_L ?c_number_right_L ?k_number_right_L ?a_whole_right_L ?l_whole_right_L ?c_whole_right_L ?k_whole_right_L ?a_named_L ?l_named_L ?c_named_L ?k_named_L ?a_things_L ?l_things_L ?c_things_L ?k_things_L ?a_law ?l_law ?c_law ?k_law ?cMOST ?cSHORT ?rd_G ?ga_G ?at_G ?vV ?xL_W ?sa_W ?ex_W ?ty_W ?kp_W ?tf_W ?nf_W ?hg_W ?hk_W ?hd_W ?ha_W ?hn_W ?ht_W ?hm_W ?ki_W ?ks_W ?ul ?um ?z_isinstance ?z_int ?z_bool ?z_str ?z_len ?z_all ?z_max ?z_min ?z_range ?z_zip ?z_repr ?z_ValueError
    (case aC_GuestError => k_is)
    (case aC_NoWord => k_is)
    (case a_is_whole => k_is)
    (case l_is_whole => k_is)
    (case c_is_whole => k_is)
    (case k_is_whole => k_is)
    (case a_is_name => k_is)
    (case l_is_name => k_is)
    (case c_is_name => k_is)
    (case k_is_name => k_is)
    (case a_number_in => k_is)
    (case l_number_in => k_is)
    (case c_number_in => k_is)
    (case k_number_in => k_is)
    (case kd_number_in_least => k_is)
    (case kd_number_in_most => k_is)
    (case a_written => k_is)
    (case l_written => k_is)
    (case c_written => k_is)
    (case k_written => k_is)
    (case a_all_within => k_is)
    (case l_all_within => k_is)
    (case c_all_within => k_is)
    (case k_all_within => k_is)
    (case a_GuestError_init => k_is)
    (case l_GuestError_init => k_is)
    (case c_GuestError_init => k_is)
    (case k_GuestError_init => k_is)
    (case a_NoWord_init => k_is)
    (case l_NoWord_init => k_is)
    (case c_NoWord_init => k_is)
    (case k_NoWord_init => k_is)
    (case a_cell_L => k_is)
    (case l_cell_L => k_is)
    (case c_cell_L => k_is)
    (case k_cell_L => k_is)
    (case a_box_L => k_is)
    (case l_box_L => k_is)
    (case c_box_L => k_is)
    (case k_box_L => k_is)
    (case a_take_L => k_is)
    (case l_take_L => k_is)
    (case c_take_L => k_is)
    (case k_take_L => k_is)
    (case a_sign_L => k_is)
    (case l_sign_L => k_is)
    (case c_sign_L => k_is)
    (case k_sign_L => k_is)
    (case a_spoilt_L => k_is)
    (case l_spoilt_L => k_is)
    (case c_spoilt_L => k_is)
    (case k_spoilt_L => k_is)
    (case a_is_name_L => k_is)
    (case l_is_name_L => k_is)
    (case c_is_name_L => k_is)
    (case k_is_name_L => k_is)
    (case a_value_L => k_is)
    (case l_value_L => k_is)
    (case c_value_L => k_is)
    (case k_value_L => k_is)
    (case a_number_right_L => k_is)
    (case l_number_right_L => k_is)
    (case c_number_right_L => k_is)
    (case k_number_right_L => k_is)
    (case a_whole_right_L => k_is)
    (case l_whole_right_L => k_is)
    (case c_whole_right_L => k_is)
    (case k_whole_right_L => k_is)
    (case a_named_L => k_is)
    (case l_named_L => k_is)
    (case c_named_L => k_is)
    (case k_named_L => k_is)
    (case a_things_L => k_is)
    (case l_things_L => k_is)
    (case c_things_L => k_is)
    (case k_things_L => k_is)
    (case a_law => k_is)
    (case l_law => k_is)
    (case c_law => k_is)
    (case k_law => k_is)
    (case cMOST => k_is)
    (case cSHORT => k_is)
    (case rd_G => k_is)
    (case ga_G => k_is)
    (case at_G => k_is)
    (case vV => k_is)
    (case xL_W => k_is)
    (case sa_W => k_is)
    (case ex_W => k_is)
    (case ty_W => k_is)
    (case kp_W => k_is)
    (case tf_W => k_is)
    (case nf_W => k_is)
    (case hg_W => k_is)
    (case hk_W => k_is)
    (case hd_W => k_is)
    (case ha_W => k_is)
    (case hn_W => k_is)
    (case ht_W => k_is)
    (case hm_W => k_is)
    (case ki_W => k_is)
    (case ks_W => k_is)
    (case ul => exact ⟨_, rfl⟩)
    (case um => exact ⟨_, rfl⟩)
    (case z_isinstance => k_is)
    (case z_int => k_is)
    (case z_bool => k_is)
    (case z_str => k_is)
    (case z_len => k_is)
    (case z_all => k_is)
    (case z_max => k_is)
    (case z_min => k_is)
    (case z_range => k_is)
    (case z_zip => k_is)
    (case z_repr => k_is)
    (case z_ValueError => k_is)
