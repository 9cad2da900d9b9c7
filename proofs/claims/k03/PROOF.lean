import PyProof.Rows.All
import Wide.All
import OpenK.AllK
import Wide.FinOn
import HandS.Base
import HandS.Call
import HandS.List
import HandS.Comp
import HandS.Ends
import HandS.Dict
import HandS.Iter
import HandS.Text
import HandS.Words
import HandS.Wide
import HandS.Flow
import HandS.Style
import HandS.IsInst
import HandS.ExcInit
import HandS.ExcIs
import HandS.Defaults
import HandS.Walk
import HandS.Codes
import KE.IntTextLaws
import PyProof.ReprRoads
import HandS.WordsExc
import HandS.TryMany
import HandS.ExcOwn
import HandS.ExcField
import KE.GoesEnum
import HandS.WideBits
import PyProof.ReprBulk
import PySem.Challenge.RW_guestsalone_k03_sums_and_bits
set_option Elab.async false
set_option linter.all false
set_option maxRecDepth 100000
set_option maxHeartbeats 8000000
namespace Bk
open PySem PySem.Spec PyProof.Rows L2
/-! ## 1. rules of our own -/
section
variable {X : Cx} {CX : CXT} {k n : Nat} {f : Addr} {fd : FuncData} {ps ks : List Str} {sp : Sp} {E : XK} {x m : Str} {p p1 p2 pos : Pos} {e : Expr} {es : List Expr} {kws : List Keyword} {t tk ta : TA} {g : List Value → List Value → List Value} {gV : List V → List V → List V}
/-- f(k = v, ..): keywords alone -/
theorem pe_callN0 (F : FnOk X.prog X.w X.K X.mg X.base CX k f fd ps sp) (hr : Room k X.A) (hg : Gl X x) (hm : X.mg x = some (.ref f)) (hk : PySem.W.keepIn X.K (.ref f) = true) (hb : KBn X.K fd ps 0 ks g gV) (hx : Passes CX X E)
    (hkw : PK X kws tk) (hall : (backToKw pos (keywordEach kws X.env)).all (·.1.isSome) = true := by rfl) (hks : (backToKw pos (keywordEach kws X.env)).filterMap (·.1) = ks := by rfl)
    (hdb : (x == ("__debug__" : Str)) = false := by decide)
    (hpl : ((backTo pos (starEach [] X.env)).any (·.1) || (backToKw pos (keywordEach kws X.env)).any (·.1.isNone)) = false := by rfl) :
    PE X (.Call (.Name x p) [] kws pos) (tCallN 0 ks.length sp gV E tNil tk) := by
  refine ⟨fun pins s σ H Q I h => ?_⟩
  refine wpAny_Call_Name_kw (ld_glob I hg hm ?_ hdb)
  refine PySem.W.callWith_KW0 (h₀ := X.base) I.ok.mod.kin hk hall ?_ hpl
  refine thn (hkw.run pos pins s σ H _ I h) fun ws s2 ⟨zs, H2, I2, rz, l1, l2, q2⟩ => ⟨I2.kIn, ?_⟩
  rw [hks]
  exact run_fnN (us := []) (vs := []) F hr hb hx I2 .nil rz rfl l2 q2
/-- C.m(e, ..): m a plain def of the class at B (or above it), read off the class -/
theorem pe_cdef {B : Addr} {mc : Value} {ds : List Value} {dvs : List V} {pl : Sem Bool} (F : FnOk X.prog X.w X.K X.mg X.base CX k f fd ps sp) (hr : Room k X.A) (hg : Gl X x) (hm : X.mg x = some (.ref B))
    (rd : PySem.W.readsIn X.K B mc = true) (ga : PySem.W.specialIn X.K (.ref B) "__getattribute__" = some (some (.builtin "type.__getattribute__"))) (at_ : PySem.W.findCls X.K (.ref B) mc m = some (.val (.ref f)))
    (hk : PySem.W.keepIn X.K (.ref f) = true) (hb : Binds X.K fd ps ds) (hd : Vals dvs ds) (hx : Passes CX X E) (ha : PA X (e :: es) t)
    (ht : eval (.Call (.Attribute (.Name x p1) m p2) (e :: es) [] pos) X.env = (do
      let ov ← eval (.Name x p1) X.env
      standAt p2.atName
      let (f, first) ← holding [ov] (getMethod ov m pl)
      callWith pos f first (backTo pos (starEach (e :: es) X.env)) (backToKw pos (keywordEach [] X.env))) := by rfl)
    (hdb : (x == ("__debug__" : Str)) = false := by decide) (he : starEach (e :: es) X.env = (false, eval e X.env) :: starEach es X.env := by rfl) (hpl : (backTo pos (starEach es X.env)).any (·.1) = false := by rfl) :
    PE X (.Call (.Attribute (.Name x p1) m p2) (e :: es) [] pos) (tCall sp dvs E t) := by
  refine ⟨fun pins s σ H Q I h => ?_⟩
  refine PySem.W.methodCall_KW (pl := pl) (ld_glob I hg hm ?_ hdb) ht
  refine PySem.W.method_cls I.kIn ga (PySem.W.cls_value I.kIn rd at_ rfl ?_)
  have I1 := I.tok (s.toks + 1)
  refine PySem.W.callWith_K (h₀ := X.base) I.ok.mod.kin hk (thn (ha.run pos pins _ σ H _ I1 h) fun us s1 ⟨vs, H1, I2, r, q⟩ => ⟨I2.kIn, ?_⟩) he hpl
  exact run_fn F hr hb hd hx I2 r q
/-- C(e, ..) as a value, C an own exception class under ValueError whose own __init__ keeps sp -/
def tMkV (C : Addr) (sp : Sp) (dvs : List V) (ta : TA) : TE := fun σ H Q => ta σ H fun vs H1 => vs.length ≤ 1000 ∧ ∀ a, H1 a = none → sp (.ref a :: (vs ++ dvs)) (upd H1 a (exo a C none)) (fun v H2 => v = .non ∧ Q (.ref a) H2) (fun _ _ _ => False)
theorem pe_oex {C fI : Addr} {ds : List Value} {dvs : List V} (T : OexC X.K C) (iC : PySem.W.findIn X.K (.ref C) "__init__" = some (some (.ref fI))) (tI : PySem.W.typeIn X.K (.ref fI) = some (.type "function"))
    (F1 : FnOk X.prog X.w X.K X.mg X.base CX k fI fd ps sp) (hr : Room (k + 1) X.A) (hb : Binds X.K fd ps ds) (hd : Vals dvs ds) (hx : Passes CX X (fun _ _ _ => False)) (hg : Gl X x) (hm : X.mg x = some (.ref C)) (ha : PA X (e :: es) ta)
    (hdb : (x == ("__debug__" : Str)) = false := by decide) (he : starEach (e :: es) X.env = (false, eval e X.env) :: starEach es X.env := by rfl) (hpl : (backTo pos (starEach es X.env)).any (·.1) = false := by rfl) :
    PE X (.Call (.Name x p) (e :: es) [] pos) (tMkV C sp dvs ta) := by
  refine ⟨fun pins s σ H Q I h => ?_⟩
  obtain ⟨nm, q, N, bs, bm, sn, sub, ab, col, dd, k0, k1, k2, k3, k5, hC, hbm⟩ := T.cls
  refine wpAny_Call_Name_kw (ld_glob I hg hm ?_ hdb)
  refine PySem.W.callWith_K (h₀ := X.base) I.ok.mod.kin T.kC (thn (ha.run pos pins s σ H _ I h) fun us s1 ⟨vs, H1, I1, r1, hz, q1⟩ => ⟨I1.kIn, ?_⟩) he hpl
  show wpAny _ _ (call (.ref C) us) _ _ _
  obtain ⟨hp, g, dr, tk, os⟩ := s1
  have hsz : hp.objs.size ≤ hp.objs.size + 1 := Nat.le_succ _
  have hn : H1 (hp.objs.size + 1) = none := I1.hok.fresh hsz
  have hq := q1 (hp.objs.size + 1) hn
  have kk : ∀ b o, hp.get? b = some o → ((hp.push (PySem.W.kdv_tup us)).push (PySem.HandSPX.excO C hp.objs.size)).get? b = some o := fun b o e => Heap.get?_push_of_some _ (Heap.get?_push_of_some _ e)
  have hget : ((hp.push (PySem.W.kdv_tup us)).push (PySem.HandSPX.excO C hp.objs.size)).get? (hp.objs.size + 1) = some (PySem.HandSPX.excO C hp.objs.size) := by heap_get
  have I2 : Inv X pins σ (upd H1 (hp.objs.size + 1) (exo (hp.objs.size + 1) C none)) ⟨(hp.push (PySem.W.kdv_tup us)).push (PySem.HandSPX.excO C hp.objs.size), g, dr, tk, os⟩ :=
    I1.laid (t' := tk) (a := hp.objs.size + 1) (o := exo (hp.objs.size + 1) C none) (h' := (hp.push (PySem.W.kdv_tup us)).push (PySem.HandSPX.excO C hp.objs.size)) kk hsz (exo_ok hget)
  have r2 : Vals (V.ref (hp.objs.size + 1) :: (vs ++ dvs)) (Value.ref (hp.objs.size + 1) :: (us ++ ds)) := .cons rfl (r1.append hd)
  have hl : (Value.ref (hp.objs.size + 1) :: us ++ ds).length = ps.length := by
    have e := r2.length
    rw [F1.len _ _ _ _ hq] at e
    exact e.symm
  have hus : us.length ≤ sizeLine := by
    rw [← Paired.length r1, sizeLine_eq]
    omega
  refine wpAny_call (PySem.HandSPX.call_own F.excBase_ValueError (fun Y => PySem.HandSPX.refsVE_contains Y bm hbm) (I1.kIn _ _ hC) (PySem.W.looks_findIn I1.kIn iC) (fun self => PySem.W.bind_fn I1.kIn self tI) hus
    (codeAny_mono (F1.run _ X.stack _ _ ⟨Value.ref (hp.objs.size + 1) :: us, []⟩ (Value.ref (hp.objs.size + 1) :: (us ++ ds)) _ _ (fun _ _ _ => False) (hr.make C us []) (I2.env0.make C us []) (hb _ (Value.ref (hp.objs.size + 1) :: us) I2.kIn hl) r2 hq) fun r s' hq' => ?_))
  cases r with
  | error er => exact hx pins σ _ _ er s' I2 hq'
  | ok fl =>
    cases fl with
    | ret u =>
      obtain ⟨v, H2, I3, rv, ev, q2⟩ := I2.after hq'
      subst ev
      exact ⟨rv, .ref (hp.objs.size + 1), H2, I3, rfl, q2⟩
    | next => exact False.elim hq'
    | brk => exact False.elim hq'
    | cont => exact False.elim hq'
/-- repr of a truth -/
def reprB (b : Bool) : Str := if b then "True" else "False"
theorem reprB_inj {a b : Bool} : decide (V.str (reprB a) = V.str (reprB b)) = decide (a = b) := by
  cases a <;> cases b <;> decide +kernel
theorem call_repr_bl : CallR X (.builtin "repr") (fun xs H Q => ∃ b, xs = [.bl b] ∧ Q (.str (reprB b)) H) := by
  intro pins s σ H xs us Q I r h
  obtain ⟨b, rfl, q⟩ := h
  obtain ⟨u, rfl, rfl⟩ := vals1 r
  exact PySem.P.repr_of_bool ⟨.str _, H, I.tok _, ⟨_, rfl⟩, q⟩
end
/-! ### an exception as a value: isinstance, its field -/
end Bk
namespace PySem.W
open PySem PySem.Spec PySem.Calls PyProof.Rows
section
variable {prog : Program} {w : World} {A : Around} {E : Value → Shared → Prop} {s : Shared} {K : Frag} {x D : Addr} {ox : Obj} {od : Option Obj}
theorem bk_findObj {C : Addr} {name : Str} {a g : Value} (hc : (clsIn K C).isSome = true) (ha : findIn K (.ref C) name = some (some a)) (hg : specialIn K a "__get__" = some (some g)) (ht : takesIn K a = some true) : findObj K C od name = some (.bind g a) := by
  obtain ⟨cd, hc⟩ := Option.isSome_iff_exists.mp hc
  unfold findObj
  rw [hc, Option.bind_some, ha, Option.bind_some]
  simp [hg, ht]
theorem bk_class {Q : Option Value → Shared → Prop} (hga : findIn K (.ref D) "__getattribute__" = some (some (.builtin "BaseException.__getattribute__"))) (hgt : findIn K (.ref D) "__getattr__" = some none) (hsub : subIn K (.ref D) (.type "BaseException") = some true)
    (hdct : hasDictIn K D = true) (ha : findIn K (.ref D) "__class__" = some (some (.builtin "object.__class__")))
    (hn : specialIn K (.builtin "object.__class__") "__get__" = some (some (.builtin "getset_descriptor.__get__"))) (htk : takesIn K (.builtin "object.__class__") = some true) (hm : mroIn K D (.type "object") = some true)
    (X : K.In s.heap) (I : InstAt s.heap x ox D od) (h : Q (some (.ref D)) { s with toks := s.toks + 1 }) : wpAny (model prog w) A (getAttr? (.ref x) "__class__") Q E s := by
  have hf : findObj K D od "__class__" = some (.bind (.builtin "getset_descriptor.__get__") (.builtin "object.__class__")) := bk_findObj (by obtain ⟨cd, hc, _⟩ := any_some hdct; rw [hc]; rfl) ha hn htk
  obtain ⟨hp, g, d, t, os⟩ := s
  have L0 := I.type (M := model prog w)
  have L1 := looks_findIn (M := model prog w) X hga
  have L2 := looks_findIn (M := model prog w) X hgt
  have L3 := looks_find (M := model prog w) X I hf
  have sub : Looks (model prog w) hp (isInstance (.ref x) (.type "BaseException")) true := L0.andThen (looks_subIn X hsub)
  have hx0 : (false && onTheHeap (Value.builtin "BaseException.__getattribute__")) = false := rfl
  have hx2 : (Value.builtin "BaseException.__getattribute__" == Value.builtin "object.__getattribute__") = false := by decide +kernel
  have hx1 : (onTheHeap (Value.ref D) && Value.builtin "BaseException.__getattribute__" == Value.builtin "object.__getattribute__") = false := by rw [hx2]; rfl
  unfold getAttr? getAttrBy? getAttrBy
  refine wpAny_bind (wpAny_mkText (wpAny_bind (wpAny_attempt (wpAny_holding (wpAny_bind (L0.at (wpAny_bind (L1.at ?_))))))))
  show wpAny _ _ (if (onTheHeap (Value.ref D) && Value.builtin "BaseException.__getattribute__" == Value.builtin "object.__getattribute__") = true then _ else _) _ _ _
  rw [hx1, if_neg Bool.false_ne_true]
  unfold getAttrByItsOwn hookBefore
  refine wpAny_bind ?_
  rw [if_pos (show onTheHeap (Value.ref D) = true from rfl)]
  refine L2.at ?_
  refine wpAny_bind (wpAny_attempt (wpAny_holding ?_))
  unfold callGetattribute
  rw [hx0, if_neg Bool.false_ne_true]
  unfold boundAndCalled
  rw [PySem.F.excAttr_ValueError.ga.bind (.ref x)]
  refine wpAny_bind (wpAny_pure ?_)
  show wpAny _ _ (call (.builtin "BaseException.__getattribute__") [.ref x, .str "__class__" t]) _ _ _
  refine wpAny_call (codeAny_call_builtin PySem.F.excAttr_ValueError.ga.plain PySem.F.entry_bexc_ga ?_)
  refine @check_slot (model prog w) _ _ ⟨hp, g, d, t + 1, os⟩ "BaseException.__getattribute__" "BaseException" "__getattribute__" (.ref x) [.str "__class__" t] [] _ (by decide +kernel) (by decide +kernel) sub (PySem.F.args_bexc_ga (.ref x) (.str "__class__" t)) ?_
  unfold Builtin.«object.__getattribute__»
  refine wpAny_bind (wpAny_of_eq (a := ((Value.ref x : Value), [Value.str "__class__" t])) (by first | rfl | (simp only [slotArgs]; rfl)) ?_)
  refine wpAny_bind (wpAny_pure (wpAny_bind (L0.at (wpAny_bind (L3.at ?_)))))
  show wpAny _ _ (holding [Value.builtin "object.__class__"] (call (.builtin "getset_descriptor.__get__") [.builtin "object.__class__", .ref x, .ref D]) >>= ret) _ _ _
  refine wpAny_bind (wpAny_holding (wpAny_call (class_get (s := ⟨hp, g, d, t + 1, os⟩) (ox := ox) (od := od) X I hm ?_)))
  refine wpAny_pure ?_
  show wpAny _ _ (handedOut (.ref D)) _ _ _
  rw [handedOut_of (v := .ref D) rfl]
  first
    | exact wpAny_pure (wpAny_pure h)
    | exact wpAny_pure h
    | exact wpAny_pure (wpAny_bind (wpAny_pure (wpAny_pure h)))
theorem bk_kitx (hga : findIn K (.ref D) "__getattribute__" = some (some (.builtin "BaseException.__getattribute__"))) (hgt : findIn K (.ref D) "__getattr__" = some none) (hsub : subIn K (.ref D) (.type "BaseException") = some true) (hdct : hasDictIn K D = true) (ha : findIn K (.ref D) "__class__" = some (some (.builtin "object.__class__")))
    (hn : specialIn K (.builtin "object.__class__") "__get__" = some (some (.builtin "getset_descriptor.__get__"))) (htk : takesIn K (.builtin "object.__class__") = some true) (hm : mroIn K D (.type "object") = some true) :
    KitX K (.ref x) (.ref D) (fun h => InstAt h x ox D od) where
  ty := fun _ _ _ I => I.type
  it := fun _ _ X _ => by
    obtain ⟨cdD, hcD, _⟩ := any_some hdct
    unfold clsIn at hcD
    split at hcD
    · rename_i c' d' cd' sl' ho
      intro A' Q' E' s' k q
      unfold isType loadHead
      exact wpAny_bind (wpAny_loadPart (k _ _ (X _ _ ho)) (wpAny_pure q))
    · cases hcD
  ne := fun h tp dd its n sl X htp => by
    obtain ⟨cdD, hcD, _⟩ := any_some hdct
    refine Bool.eq_false_iff.mpr fun q => ?_
    have e : D = tp := Value.ref.inj (beq_iff_eq.mp q)
    subst e
    unfold clsIn at hcD
    split at hcD
    · rename_i c' d' cd' sl' ho
      have z := (X _ _ ho).symm.trans htp
      cases z
    · cases hcD
  ca := fun X I k => bk_class hga hgt hsub hdct ha hn htk hm X I k
end
end PySem.W
namespace Bk
open PySem PySem.Spec PyProof.Rows L2
/-- at a: an exception of the class at D, its own dict (at dx) holds fs -/
def XV (H : Hp) (a D dx : Addr) (fs : List (Str × V)) : Prop := H a = some (exo a D (some dx)) ∧ H dx = some (exd dx fs)
theorem xv_inst {X : Cx} {pins : List (Addr × Obj)} {σ : L2.St} {H : Hp} {s : Shared} {a D dx : Addr} {fs : List (Str × V)} (I : Inv X pins σ H s) (h : XV H a D dx fs) :
    ∃ (ox od : Obj) (mA : Str → Option Value), PySem.W.InstAt s.heap a ox D (some od) ∧ (∀ f, PySem.W.lookIn f od = some (mA f)) ∧ ∀ f, RelO (fs.lookup f) (mA f) := by
  obtain ⟨t1, ho⟩ := exo_at I.hok h.1
  obtain ⟨mA, hns, rel⟩ := exd_at I.hok h.2
  obtain ⟨od, hod, hl⟩ := lookIn_ns hns
  exact ⟨_, od, mA, ⟨ho, rfl, rfl, hod⟩, hl, rel⟩
/-- isinstance(e, c), e such an exception -/
def rIsX (K : PySem.W.Frag) : List V → Hp → VK → Prop := fun xs H Q => ∃ (a D dx : Addr) (fs : List (Str × V)) (c : V) (u : Value) (b : Bool), xs = [.ref a, c] ∧ XV H a D dx fs ∧ ExcC K D ∧ ClsV c u ∧ PySem.W.kitOne K (.ref D) u = some b ∧ Q (.bl b) H
theorem call_isX {X : Cx} : CallR X (.builtin "isinstance") (rIsX X.K) := by
  intro pins s σ H xs us Q I r h
  obtain ⟨a, D, dx, fs, c, u, b, rfl, xv, C, k, e, q⟩ := h
  obtain ⟨u1, u2, rfl, r1, r2⟩ := vals2 r
  have e2 := k.eq r2
  subst e2
  obtain rfl : u1 = Value.ref a := r1
  obtain ⟨ox, od, mA, J, _, _⟩ := xv_inst I xv
  exact PySem.W.kia_one (PySem.W.bk_kitx (ox := ox) (od := some od) C.hg C.hk C.hs C.hd C.ha C.hn C.ht C.hm) I.kIn J e (fun z => nomatch z) fun tk => ⟨.bl b, H, I.tok tk, rfl, q⟩
/-- isinstance of a value of any form met here -/
def rIs (K : PySem.W.Frag) : List V → Hp → VK → Prop := fun xs H Q => rIsi K xs H Q ∨ rIsX K xs H Q
theorem call_is {X : Cx} : CallR X (.builtin "isinstance") (rIs X.K) := CallR.or call_isi call_isX
end Bk

namespace Bk
open PySem PySem.Spec PyProof.Rows L2
/-! ## 2. a def that may be called by its name -/
structure Cal (P : Program) (w : World) (K : PySem.W.Frag) (mg : Str → Option Value) (base : Heap) (CX : CXT) (k : Nat) (x : Str) (sp : Sp) : Prop where
  ex : ∃ (f : Addr) (fd : FuncData) (ps : List Str) (ds : List Value) (dvs : List V), mg x = some (.ref f) ∧ PySem.W.keepIn K (.ref f) = true ∧ FnOk P w K mg base CX k f fd ps (fun vs H Q E => sp vs H Q E ∧ vs.length = ps.length) ∧ Binds K fd ps [] ∧ ds = [] ∧ dvs = []
/-- the same with keywords: n values by places, then those of the keywords ks; gV orders them -/
structure CalN (P : Program) (w : World) (K : PySem.W.Frag) (mg : Str → Option Value) (base : Heap) (CX : CXT) (k n : Nat) (ks : List Str) (x : Str) (sp : Sp) (gV : List V → List V → List V) : Prop where
  ex : ∃ (f : Addr) (fd : FuncData) (ps : List Str) (g : List Value → List Value → List Value), mg x = some (.ref f) ∧ PySem.W.keepIn K (.ref f) = true ∧ FnOk P w K mg base CX k f fd ps sp ∧ KBn K fd ps n ks g gV
/-- defaults fill up -/
structure CalD (P : Program) (w : World) (K : PySem.W.Frag) (mg : Str → Option Value) (base : Heap) (CX : CXT) (k : Nat) (x : Str) (sp : Sp) (dvs : List V) : Prop where
  ex : ∃ (f : Addr) (fd : FuncData) (ps : List Str) (ds : List Value), mg x = some (.ref f) ∧ PySem.W.keepIn K (.ref f) = true ∧ FnOk P w K mg base CX k f fd ps sp ∧ Binds K fd ps ds ∧ Vals dvs ds
/-- a method's def, by itself -/
structure Own (P : Program) (w : World) (K : PySem.W.Frag) (mg : Str → Option Value) (base : Heap) (CX : CXT) (k : Nat) (f : Addr) (fd : FuncData) (ps : List Str) (sp : Sp) : Prop where
  ok : FnOk P w K mg base CX k f fd ps sp
  bd : Binds K fd ps []
  kp : PySem.W.keepIn K (.ref f) = true
section
variable {X : Cx} {CX : CXT} {k j n : Nat} {ks : List Str} {sp : Sp} {E : XK} {x : Str} {p pos : Pos} {e : Expr} {es : List Expr} {kws : List Keyword} {t tk : TA} {gV : List V → List V → List V} {dvs : List V}
theorem pe_cal (c : CalD X.prog X.w X.K X.mg X.base CX0 k x sp []) (hr : Room j X.A) (hk : k ≤ j) (hg : Gl X x) (ha : PA X (e :: es) t)
    (hdb : (x == ("__debug__" : Str)) = false := by decide) (he : starEach (e :: es) X.env = (false, eval e X.env) :: starEach es X.env := by rfl) (hpl : (backTo pos (starEach es X.env)).any (·.1) = false := by rfl) :
    PE X (.Call (.Name x p) (e :: es) [] pos) (tCall sp [] E0 t) := by
  obtain ⟨f, fd, ps, ds, h1, h2, h3, h4, h5⟩ := c.ex
  exact pe_call h3 (hr.mono hk) hg h1 h2 h4 h5 pass0 ha hdb he hpl
theorem pe_calD (c : CalD X.prog X.w X.K X.mg X.base CX0 k x sp dvs) (hr : Room j X.A) (hk : k ≤ j) (hg : Gl X x) (ha : PA X (e :: es) t)
    (hdb : (x == ("__debug__" : Str)) = false := by decide) (he : starEach (e :: es) X.env = (false, eval e X.env) :: starEach es X.env := by rfl) (hpl : (backTo pos (starEach es X.env)).any (·.1) = false := by rfl) :
    PE X (.Call (.Name x p) (e :: es) [] pos) (tCall sp dvs E0 t) := by
  obtain ⟨f, fd, ps, ds, h1, h2, h3, h4, h5⟩ := c.ex
  exact pe_call h3 (hr.mono hk) hg h1 h2 h4 h5 pass0 ha hdb he hpl
theorem pe_cal0 (c : CalD X.prog X.w X.K X.mg X.base CX0 k x sp []) (hr : Room j X.A) (hk : k ≤ j) (hg : Gl X x) (hdb : (x == ("__debug__" : Str)) = false := by decide) :
    PE X (.Call (.Name x p) [] [] pos) (tCall sp [] E0 tNil) := by
  obtain ⟨f, fd, ps, ds, h1, h2, h3, h4, h5⟩ := c.ex
  exact pe_call0 h3 (hr.mono hk) hg h1 h2 h4 h5 pass0 hdb
theorem pe_calN (c : CalN X.prog X.w X.K X.mg X.base CX0 k n ks x sp gV) (hr : Room k X.A) (hg : Gl X x) (ha : PA X (e :: es) t) (hkw : PK X kws tk)
    (hall : (backToKw pos (keywordEach kws X.env)).all (·.1.isSome) = true := by rfl) (hks : (backToKw pos (keywordEach kws X.env)).filterMap (·.1) = ks := by rfl)
    (hdb : (x == ("__debug__" : Str)) = false := by decide) (he : starEach (e :: es) X.env = (false, eval e X.env) :: starEach es X.env := by rfl)
    (hpl : ((backTo pos (starEach (e :: es) X.env)).any (·.1) || (backToKw pos (keywordEach kws X.env)).any (·.1.isNone)) = false := by rfl) :
    PE X (.Call (.Name x p) (e :: es) kws pos) (tCallN n ks.length sp gV E0 t tk) := by
  obtain ⟨f, fd, ps, g, h1, h2, h3, h4⟩ := c.ex
  exact pe_callN h3 hr hg h1 h2 h4 pass0 ha hkw hall hks hdb he hpl
theorem pe_calN0 (c : CalN X.prog X.w X.K X.mg X.base CX0 k 0 ks x sp gV) (hr : Room k X.A) (hg : Gl X x) (hkw : PK X kws tk)
    (hall : (backToKw pos (keywordEach kws X.env)).all (·.1.isSome) = true := by rfl) (hks : (backToKw pos (keywordEach kws X.env)).filterMap (·.1) = ks := by rfl)
    (hdb : (x == ("__debug__" : Str)) = false := by decide)
    (hpl : ((backTo pos (starEach [] X.env)).any (·.1) || (backToKw pos (keywordEach kws X.env)).any (·.1.isNone)) = false := by rfl) :
    PE X (.Call (.Name x p) [] kws pos) (tCallN 0 ks.length sp gV E0 tNil tk) := by
  obtain ⟨f, fd, ps, g, h1, h2, h3, h4⟩ := c.ex
  exact pe_callN0 h3 hr hg h1 h2 h4 pass0 hkw hall hks hdb hpl
end
theorem CalD.mk' {P : Program} {w : World} {K : PySem.W.Frag} {mg : Str → Option Value} {base : Heap} {CX : CXT} {k : Nat} {x : Str} {sp : Sp} {f : Addr} {fd : FuncData} {ps : List Str} (g : mg x = some (.ref f)) (kp : PySem.W.keepIn K (.ref f) = true) (F : FnOk P w K mg base CX k f fd ps sp) (b : Binds K fd ps []) :
    CalD P w K mg base CX k x sp [] := ⟨f, fd, ps, [], g, kp, F, b, .nil⟩
/-! ## 3. going through a reading -/
section
variable {K : PySem.W.Frag} {σ : L2.St} {H : Hp} {ta tb tc te : TE} {t u : TT} {x y v : V} {Q : VK} {QB : Bool → Hp → Prop} {QL : List V → Hp → Prop} {r r' : R2} {D : Ends} {a b : TS} {tr : TA}
theorem r_var {i : Nat} (h : σ[i]? = some (some v)) (q : Q v H) : tVar i σ H Q := ⟨v, h, q⟩
theorem r_c (q : Q v H) : tC v σ H Q := q
theorem r_op (q : ta σ H fun x H1 => tb σ H1 fun y H2 => r x y H2 Q) : tOp r ta tb σ H Q := q
theorem r_un {r : V → Hp → VK → Prop} (q : ta σ H fun x H1 => r x H1 Q) : tUn r ta σ H Q := q
theorem r_I0 {g : Int → Int → V} {i j : Int} (q : Q (g i j) H) : rI0 g (.int i) (.int j) H Q := ⟨i, j, rfl, rfl, q⟩
theorem r_I {C : Int → Int → Prop} {g : Int → Int → V} {i j : Int} (c : C i j) (q : Q (g i j) H) : rI C g (.int i) (.int j) H Q := ⟨i, j, rfl, rfl, c, q⟩
theorem r_U {g : Int → V} {i : Int} (q : Q (g i) H) : rU g (.int i) H Q := ⟨i, rfl, q⟩
theorem r_eq (s : scal x y = true) (q : Q (.bl (decide (x = y))) H) : rEq x y H Q := ⟨s, q⟩
theorem r_ne (s : scal x y = true) (q : Q (.bl (!decide (x = y))) H) : rNe x y H Q := ⟨s, q⟩
theorem r_nil (q : QL [] H) : tNil σ H QL := q
theorem r_cons (q : ta σ H fun x H1 => tr σ H1 fun xs H2 => QL (x :: xs) H2) : tCons ta tr σ H QL := q
theorem r_call {sp : Sp} {dvs : List V} {E : XK} (q : tr σ H fun vs H1 => sp (vs ++ dvs) H1 Q E) : tCall sp dvs E tr σ H Q := q
theorem r_callN {n m : Nat} {sp : Sp} {gV : List V → List V → List V} {E : XK} {tk : TA} (q : tr σ H fun vs H1 => tk σ H1 fun zs H2 => vs.length = n ∧ zs.length = m ∧ sp (gV vs zs) H2 Q E) : tCallN n m sp gV E tr tk σ H Q := q
theorem r_cb {rc : List V → Hp → VK → Prop} (q : tr σ H fun vs H1 => rc vs H1 Q) : tCB rc tr σ H Q := q
theorem r_ret (q : te σ H D.rt) : tRet te D σ H := q
theorem r_seq (q : a { D with nx := b D } σ H) : tSeq a b D σ H := q
theorem r_asg {g : TG} (q : te σ H fun x H1 => g x σ H1 D.nx) : tAsg te g D σ H := q
theorem r_name {i : Nat} {Qs : L2.St → Hp → Prop} (q : Qs (σ.set i (some v)) H) : gName i v σ H Qs := q
theorem r_if (q : t σ H fun b' H1 => if b' = true then a D σ H1 else b D σ H1) : tIfS t a b D σ H := q
theorem r_next (q : D.nx σ H) : tNext D σ H := q
theorem r_drop (q : te σ H fun _ H1 => D.nx σ H1) : tDrop te D σ H := q
theorem r_test (q : te σ H fun x H' => ∃ k, x = .bl k ∧ QB k H') : tTest te σ H QB := q
theorem r_tB (q : te σ H fun x H' => ∃ k, x = .bl k ∧ QB k H') : tB te σ H QB := q
theorem r_isb {k : Bool} (q : QB k H) : ∃ k', V.bl k = .bl k' ∧ QB k' H := ⟨k, rfl, q⟩
theorem r_isv {k : Bool} {A : Bool → Prop} (q : A k) : ∃ k', V.bl k = .bl k' ∧ A k' := ⟨k, rfl, q⟩
theorem r_not (q : t σ H fun c H1 => QB (!c) H1) : tNot t σ H QB := q
theorem r_and (q : t σ H fun c H1 => if c = true then u σ H1 QB else QB false H1) : tAnd t u σ H QB := q
theorem r_or (q : t σ H fun c H1 => if c = true then QB true H1 else u σ H1 QB) : tOr t u σ H QB := q
theorem r_andV (q : ta σ H fun x H1 => ∃ c, x = .bl c ∧ if c = true then tb σ H1 Q else Q (.bl false) H1) : tAndV ta tb σ H Q := q
theorem r_orV (q : ta σ H fun x H1 => ∃ c, x = .bl c ∧ if c = true then Q (.bl true) H1 else tb σ H1 Q) : tOrV ta tb σ H Q := q
theorem r_notV (q : ta σ H fun x H1 => ∃ c, x = .bl c ∧ Q (.bl (!c)) H1) : tNotV ta σ H Q := q
theorem r_chain (q : ta σ H fun x H1 => tb σ H1 fun y H2 => r x y H2 fun z H3 => ∃ k, z = .bl k ∧ (if k = true then tc σ H3 fun w' H4 => r' y w' H4 Q else Q (.bl false) H3)) : tChain r r' ta tb tc σ H Q := q
theorem r_ifE (q : t σ H fun c H1 => if c = true then ta σ H1 Q else tb σ H1 Q) : tIf t ta tb σ H Q := q
theorem r_isN (q : Q (.bl (decide (x = .non))) H) : (fun x y H Q => y = V.non ∧ Q (.bl (decide (x = .non))) H : R2) x .non H Q := ⟨rfl, q⟩
def NewL (xs : List V) (H : Hp) (Q : VK) : Prop := xs.length ≤ sizeLine ∧ ∀ p, H p = none → Q (.ref p) (upd H p (.lst xs))
def NewT (xs : List V) (H : Hp) (Q : VK) : Prop := xs.length ≤ sizeLine ∧ ∀ p, H p = none → Q (.ref p) (upd H p (.tup xs))
theorem r_lst (q : tr σ H fun xs H1 => NewL xs H1 Q) : tLst tr σ H Q := q
theorem r_tup (q : tr σ H fun xs H1 => NewT xs H1 Q) : tTup tr σ H Q := q
theorem same_upd {p : Addr} {o : HO} (h : H p = none) : Same H (upd H p o) := fun b x e => by
  rw [upd_ne (ne_of_none e h)]
  exact e
/-- a new object: the heap behind it by what stands in it -/
theorem newL {xs : List V} (q : ∀ p H', H p = none → Same H H' → H' p = some (.lst xs) → Q (.ref p) H') (hl : xs.length ≤ 10000 := by exact Nat.le_of_ble_eq_true rfl) : NewL xs H Q :=
  ⟨Nat.le_trans hl (by decide), fun p hp => q p _ hp (same_upd hp) upd_same⟩
theorem newT {xs : List V} (q : ∀ p H', H p = none → Same H H' → H' p = some (.tup xs) → Q (.ref p) H') (hl : xs.length ≤ 10000 := by exact Nat.le_of_ble_eq_true rfl) : NewT xs H Q :=
  ⟨Nat.le_trans hl (by decide), fun p hp => q p _ hp (same_upd hp) upd_same⟩
def NewDK (kvs : List (Key × V)) (H : Hp) (Q : VK) : Prop := ∀ p, H p = none → Q (.ref p) (upd H p (.dK kvs))
theorem r_dnewK (q : NewDK [] H Q) : tDNewK σ H Q := q
theorem newDK {kvs : List (Key × V)} (q : ∀ p H', H p = none → Same H H' → H' p = some (.dK kvs) → Q (.ref p) H') : NewDK kvs H Q := fun p hp => q p _ hp (same_upd hp) upd_same
def MkV (C : Addr) (sp : Sp) (dvs vs : List V) (H : Hp) (Q : VK) : Prop := vs.length ≤ 1000 ∧ ∀ a, H a = none → sp (.ref a :: (vs ++ dvs)) (upd H a (exo a C none)) (fun v H2 => v = .non ∧ Q (.ref a) H2) (fun _ _ _ => False)
theorem r_mkV {C : Addr} {sp : Sp} {dvs : List V} (q : tr σ H fun vs H1 => MkV C sp dvs vs H1 Q) : tMkV C sp dvs tr σ H Q := q
def ForL (J : It) (g : TG) (tb : TS) (D : Ends) (σ : L2.St) (H : Hp) : Prop := ∃ W : Nat → Nat → L2.St → Hp → Prop, (∃ m, W 0 m σ H) ∧ ∀ i m σ H, W i m σ H →
  (J.stop i H ∧ D.nx σ H) ∨ (J.go i H ∧ ∃ N : L2.St → Hp → Prop, (∀ σ' H', N σ' H' → ∃ m', m' < m ∧ W (i + 1) m' σ' H') ∧ ∀ x H', J.yld i H x H' → g x σ H' fun σ2 H2 => tb { D with nx := N, ct := N, bk := D.nx } σ2 H2)
theorem r_for {wi : TI} {g : TG} (q : wi σ H fun J H1 => ForL J g a D σ H1) : tFor wi g a D σ H := q
theorem r_iList {tl : TE} {R : It → Hp → Prop} (q : tl σ H fun x H1 => ∃ p, x = .ref p ∧ (∃ xs, SqL K H1 p xs) ∧ R (Itl K p) H1) : iList K tl σ H R := q
theorem r_iTup {tl : TE} {R : It → Hp → Prop} (q : tl σ H fun x H1 => ∃ p, x = .ref p ∧ (∃ xs, SqT K H1 p xs) ∧ R (Itt K p) H1) : iTup K tl σ H R := q
theorem r_iRng1 {R : It → Hp → Prop} (q : tr σ H fun vs H1 => ∃ j : Int, vs = [.int j] ∧ -(2 ^ 62) ≤ j ∧ j < 2 ^ 62 ∧ R (Itr 0 j.toNat) H1) : iRng1 tr σ H R := q
theorem r_iRng2 {R : It → Hp → Prop} (q : tr σ H fun vs H1 => ∃ i j : Int, vs = [.int i, .int j] ∧ (-(2 ^ 62) ≤ i ∧ i < 2 ^ 62 ∧ -(2 ^ 62) ≤ j ∧ j < 2 ^ 62) ∧ R (Itr i (j - i).toNat) H1) : iRng2 tr σ H R := q
theorem r_ixL {p : Addr} {xs : List V} {i : Int} (h : SqL K H p xs) (ha : atI xs i = some v) (q : Q v H) : rIxL K (.ref p) (.int i) H Q := ⟨p, xs, i, v, rfl, rfl, h, ha, q⟩
theorem r_ixT {p : Addr} {xs : List V} {i : Int} (h : SqT K H p xs) (ha : atI xs i = some v) (q : Q v H) : rIxT K (.ref p) (.int i) H Q := ⟨p, xs, i, v, rfl, rfl, h, ha, q⟩
theorem r_gSub {to ti : TE} {ts : TSet} {Qs : L2.St → Hp → Prop} (q : to σ H fun o H1 => ti σ H1 fun i H2 => ts o i v H2 fun H3 => Qs σ H3) : gSub to ti ts v σ H Qs := q
theorem r_bm {T : String} {rm : V → List V → Hp → VK → Prop} {to : TE} (q : to σ H fun x H1 => tyV K T x H1 ∧ tr σ H1 fun xs H2 => rm x xs H2 Q) : tBM K T rm to tr σ H Q := q
theorem iteNF {A B : Prop} (h : B) : if (!true) = true then A else B := iteF h
theorem iteNT {A B : Prop} (h : A) : if (!false) = true then A else B := iteT h
theorem iteD {c A B : Prop} [Decidable c] (hc : c) (h : A) : if decide c = true then A else B := by rw [decide_eq_true hc]; exact iteT h
theorem iteDn {c A B : Prop} [Decidable c] (hc : ¬ c) (h : B) : if decide c = true then A else B := by rw [decide_eq_false hc]; exact iteF h
theorem iteND {c A B : Prop} [Decidable c] (hc : c) (h : B) : if (!decide c) = true then A else B := by rw [decide_eq_true hc]; exact iteF h
theorem iteNDn {c A B : Prop} [Decidable c] (hc : ¬ c) (h : A) : if (!decide c) = true then A else B := by rw [decide_eq_false hc]; exact iteT h
/-- a test that is open: both ways, by what it says -/
theorem iteC {c A B : Prop} [Decidable c] (h1 : c → A) (h2 : ¬ c → B) : if decide c = true then A else B := by
  by_cases h : c
  · exact iteD h (h1 h)
  · exact iteDn h (h2 h)
theorem iteNC {c A B : Prop} [Decidable c] (h1 : ¬ c → A) (h2 : c → B) : if (!decide c) = true then A else B := by
  by_cases h : c
  · exact iteND h (h2 h)
  · exact iteNDn h (h1 h)
theorem iteB {b : Bool} {A B : Prop} (h1 : b = true → A) (h2 : b = false → B) : if b = true then A else B := by
  cases b
  · exact iteF (h2 rfl)
  · exact iteT (h1 rfl)
theorem iteNB {b : Bool} {A B : Prop} (h1 : b = false → A) (h2 : b = true → B) : if (!b) = true then A else B := by
  cases b
  · exact iteT (h1 rfl)
  · exact iteF (h2 rfl)
theorem r_m1 {rm : V → List V → Hp → VK → Prop} {to te : TE} (q : to σ H fun x H1 => (∃ a, x = .str a) ∧ te σ H1 fun y H2 => rm x [y] H2 Q) : tM1 rm to te σ H Q := q
theorem r_len {z : Str} (h : z.length ≤ 100000) (q : Q (.int z.length) H) : ∃ z', [V.str z] = [V.str z'] ∧ z'.length ≤ sizeLine ∧ Q (.int z'.length) H := ⟨z, rfl, Nat.le_trans h (by decide), q⟩
theorem sqL {p : Addr} {xs : List V} (h : H p = some (.lst xs)) : SqL K H p xs := .inl (.inl h)
theorem sqT {p : Addr} {xs : List V} (h : H p = some (.tup xs)) : SqT K H p xs := .inl (.inl h)
end
end Bk

namespace Bk
open PySem PySem.Spec PyProof.Rows L2
/-! ## 4. what isinstance answers -/
def IsA (K : PySem.W.Frag) (H : Hp) (x : V) (T : String) (b : Bool) : Prop :=
  (∃ t, TyX K H x t ∧ PySem.W.kitOne K t (.type T) = some b) ∨ (∃ (a D dx : Addr) (fs : List (Str × V)), x = .ref a ∧ XV H a D dx fs ∧ ExcC K D ∧ PySem.W.kitOne K (.ref D) (.type T) = some b)
section
variable {K : PySem.W.Frag} {H H' : Hp} {x : V} {T : String} {b : Bool} {Q : VK}
theorem r_is (h : IsA K H x T b) (q : Q (.bl b) H) : rIs K [x, .ty T] H Q := by
  rcases h with ⟨t, h1, h2⟩ | ⟨a, D, dx, fs, rfl, h1, h2, h3⟩
  · exact .inl ⟨x, .ty T, t, .type T, b, rfl, .ty T, h1, h2, q⟩
  · exact .inr ⟨a, D, dx, fs, .ty T, .type T, b, rfl, h1, h2, .ty T, h3, q⟩
theorem isa_int {i : Int} (h : kitB "int" T = some b := by decide +kernel) : IsA K H (.int i) T b := .inl ⟨.type "int", .base (.int i), kit_ty h⟩
theorem isa_bl {c : Bool} (h : kitB "bool" T = some b := by decide +kernel) : IsA K H (.bl c) T b := .inl ⟨.type "bool", .base (.bl c), kit_ty h⟩
theorem isa_str {z : Str} (h : kitB "str" T = some b := by decide +kernel) : IsA K H (.str z) T b := .inl ⟨.type "str", .base (.str z), kit_ty h⟩
theorem isa_non (h : kitB "NoneType" T = some b := by decide +kernel) : IsA K H .non T b := .inl ⟨.type "NoneType", .base .non, kit_ty h⟩
theorem isa_lst {a : Addr} {xs : List V} (e : H a = some (.lst xs)) (h : kitB "list" T = some b := by decide +kernel) : IsA K H (.ref a) T b := .inl ⟨.type "list", .base (.lst e), kit_ty h⟩
theorem isa_tup {a : Addr} {xs : List V} (e : H a = some (.tup xs)) (h : kitB "tuple" T = some b := by decide +kernel) : IsA K H (.ref a) T b := .inl ⟨.type "tuple", .base (.tup e), kit_ty h⟩
theorem isa_dK {a : Addr} {kvs : List (Key × V)} (e : H a = some (.dK kvs)) (h : kitB "dict" T = some b := by decide +kernel) : IsA K H (.ref a) T b := .inl ⟨.type "dict", .base (.dK e), kit_ty h⟩
theorem isa_exc {a D dx : Addr} {fs : List (Str × V)} (e : XV H a D dx fs) (C : ExcC K D) (h : PySem.W.kitOne K (.ref D) (.type T) = some b) : IsA K H (.ref a) T b := .inr ⟨a, D, dx, fs, rfl, e, C, h⟩
end
/-! ## 5. the box of draws -/
def Box (a : Addr) (n : Nat) (H : Hp) : Prop := ∃ x y z : Int, H a = some (.lst [.int x, .int y, .int z]) ∧ 0 ≤ x ∧ 0 ≤ y ∧ y < 2147483629 ∧ 0 ≤ z ∧ z ≤ (n : Int)
/-- all but what stands at a is as it was -/
def But (a : Addr) (H H' : Hp) : Prop := ∀ b o, b ≠ a → H b = some o → H' b = some o
theorem But.refl {a : Addr} {H : Hp} : But a H H := fun _ _ _ h => h
theorem But.trans {a : Addr} {H H1 H2 : Hp} (x : But a H H1) (y : But a H1 H2) : But a H H2 := fun b o n e => y b o n (x b o n e)
theorem But.same {a : Addr} {H H1 H2 : Hp} (x : But a H H1) (y : Same H1 H2) : But a H H2 := fun b o n e => y b o (x b o n e)
theorem But.of {a : Addr} {H H1 : Hp} (y : Same H H1) : But a H H1 := fun b o _ e => y b o e
theorem But.upd {a : Addr} {H : Hp} {o : HO} : But a H (upd H a o) := fun b u n e => by rw [upd_ne n]; exact e
theorem Box.same {a : Addr} {n : Nat} {H H' : Hp} (h : Box a n H) (s : Same H H') : Box a n H' := by
  obtain ⟨x, y, z, e, r⟩ := h
  exact ⟨x, y, z, s _ _ e, r⟩
theorem Box.mono {a : Addr} {n m : Nat} {H : Hp} (h : Box a n H) (l : n ≤ m) : Box a m H := by
  obtain ⟨x, y, z, e, r1, r2, r3, r4, r5⟩ := h
  exact ⟨x, y, z, e, r1, r2, r3, r4, by omega⟩
theorem Box.ne {a p : Addr} {n : Nat} {H : Hp} (h : Box a n H) (hp : H p = none) : p ≠ a := by
  obtain ⟨x, y, z, e, _⟩ := h
  exact (ne_of_none e hp).symm
theorem Box.ne_tup {a p : Addr} {n : Nat} {H : Hp} {xs : List V} (h : Box a n H) (hp : H p = some (.tup xs)) : p ≠ a := by
  obtain ⟨x, y, z, e, _⟩ := h
  exact fun q => by rw [q, e] at hp; cases hp
def spCell (K : PySem.W.Frag) : Sp := fun vs H Q _ => ∃ (a : Addr) (ns : List Int) (k : Nat), vs = [.ref a, .int k] ∧ SqL K H a (ns.map V.int) ∧ k ≤ 100000 ∧ ∀ c, Q (.int c) H
def spBox : Sp := fun vs H Q _ => ∃ c : Int, vs = [.int c] ∧ ∀ p H', H p = none → Same H H' → Box p 0 H' → Q (.ref p) H'
def spTake : Sp := fun vs H Q _ => ∃ (a : Addr) (n : Nat) (size : Int), vs = [.ref a, .int size] ∧ Box a n H ∧ n < 1000000 ∧ 0 < size ∧ size < 2 ^ 128 ∧
  ∀ d H', 0 ≤ d → d < size → Box a (n + 1) H' → But a H H' → Q (.int d) H'
theorem cdiv {i j : Int} (h : 0 < j) (h2 : j < 2 ^ 128) : CDivW i j := wide_div (b := 128) h (by omega) (by decide) (by decide)
theorem cmul {i j : Int} (h1 : -(2 ^ 128) < i) (h2 : i < 2 ^ 128) (h3 : -(2 ^ 128) < j) (h4 : j < 2 ^ 128) : CMulW i j := wide_mul (a := 128) (b := 128) (by omega) (by omega) (by decide) (by decide) (by decide)
theorem at_map {ns : List Int} {k : Nat} (h : k < ns.length) : atI (ns.map V.int) ((k : Nat) : Int) = some (.int ns[k]) := atI_nat (by rw [List.getElem?_map, List.getElem?_eq_getElem h]; rfl)
end Bk

namespace Bk
open PySem PySem.Spec PyProof.Rows L2
theorem sameBut {H H' : Hp} {D : Addr} {o : HO} (h : Same H H') (n : H D = none) : Same H (upd H' D o) := fun b u e => by
  rw [upd_ne (ne_of_none e n)]
  exact h b u e
/-! ## 6. a comprehension over a text's signs, all of it -/
section
variable {K : PySem.W.Frag} {σ : L2.St} {H : Hp} {Q : VK} {te : TE}
/-- the list of p of each sign -/
theorem r_lcStr {i0 j : Nat} {vs : List Nat} {z : Str} (p : Nat → V) (hv : σ[i0]? = some (some (.str z))) (hz : z.length ≤ 100000)
    (hw : ∀ x, wipe ((wipe σ vs).set j (some x)) vs = wipe σ vs)
    (ht : ∀ (c : Nat) (H' : Hp) (Q' : VK), c ∈ z.cps.toList → Same H H' → (∀ H2, Same H' H2 → Q' (p c) H2) → te ((wipe σ vs).set j (some (.str ⟨#[c]⟩))) H' Q')
    (q : ∀ D H', H D = none → Same H H' → H' D = some (.lst (z.cps.toList.map p)) → Q (.ref D) H') :
    tLc (iStr (tVar i0)) (gName j) tYes te vs σ H Q := by
  refine ⟨_, hv, z, rfl, fun D hD => ?_⟩
  refine lc_it (n := z.cps.size) walk_str (fun i H' => Same H H' ∧ H' D = some (.lst ((z.cps.toList.take i).map p))) ⟨same_upd hD, by rw [upd_same]; rfl⟩ (fun _ _ _ _ => trivial) ?_ ?_
  · rintro i x H1 H2 hi ⟨sm, e⟩ ⟨rfl, c, hc, rfl⟩
    have hc' : z.cps.toList[i]? = some c := by rw [Array.getElem?_toList]; exact hc
    refine ⟨hw _, ?_⟩
    show te _ _ _
    refine ht c _ _ (List.mem_of_getElem? hc') sm fun H3 s3 => ⟨_, s3 _ _ e, ?_, sameBut (sm.trans s3) hD, ?_⟩
    · have l : ((z.cps.toList.take i).map p).length ≤ z.cps.size := by
        rw [List.length_map, List.length_take, Array.length_toList]
        omega
      have hz' : z.cps.size ≤ 100000 := hz
      exact Nat.lt_of_le_of_lt (Nat.le_trans l hz') (by decide)
    · rw [upd_same, List.take_add_one, hc', List.map_append]
      rfl
  · rintro H1 ⟨sm, e⟩
    refine q D H1 hD sm ?_
    rw [e]
    have l : z.cps.size = z.cps.toList.length := (Array.length_toList).symm
    rw [l, List.take_length]
/-- all([p(sign) for sign in text]) -/
theorem r_allStr {i0 j : Nat} {vs : List Nat} {z : Str} (p : Nat → Bool) (hv : σ[i0]? = some (some (.str z))) (hz : z.length ≤ 100000)
    (hw : ∀ x, wipe ((wipe σ vs).set j (some x)) vs = wipe σ vs)
    (ht : ∀ (c : Nat) (H' : Hp) (Q' : VK), c ∈ z.cps.toList → Same H H' → (∀ H2, Same H' H2 → Q' (.bl (p c)) H2) → te ((wipe σ vs).set j (some (.str ⟨#[c]⟩))) H' Q')
    (q : ∀ H', Same H H' → Q (.bl (z.cps.toList.all p)) H') :
    tCB (rAll K) (tCons (tLc (iStr (tVar i0)) (gName j) tYes te vs) tNil) σ H Q := by
  refine r_cb (r_cons ?_)
  refine r_lcStr (fun c => .bl (p c)) hv hz hw ht fun D H' nD sm e => ?_
  refine r_nil ⟨D, z.cps.toList.map p, rfl, sqL ?_, ?_⟩
  · rw [e, List.map_map]
    rfl
  · rw [List.all_map]
    exact q H' sm
end
/-! ## 7. draws, items, slices -/
section
variable {K : PySem.W.Frag} {σ : L2.St} {H : Hp} {Q : VK} {E : XK} {te : TE} {tl th : TO} {QO : Option Int → Hp → Prop}
theorem r_take {a : Addr} {n : Nat} {size : Int} (hB : Box a n H) (q : ∀ d H', 0 ≤ d → d < size → Box a (n + 1) H' → But a H H' → Q (.int d) H') (hn : n < 1000000 := by omega) (h0 : 0 < size := by decide) (h1 : size < 2 ^ 128 := by decide) : spTake [.ref a, .int size] H Q E :=
  ⟨a, n, size, rfl, hB, hn, h0, h1, q⟩
theorem r_ixS {z : Str} {d : Int} (h0 : 0 ≤ d) (h1 : d < (z.cps.toList.length : Int)) (hz : z.length ≤ 100000) (q : ∀ c, z.cps.toList[d.toNat]? = some c → Q (.str ⟨#[c]⟩) H) : rIxS (.str z) (.int d) H Q := by
  have l : d.toNat < z.cps.toList.length := by omega
  obtain ⟨c, hc⟩ : ∃ c, z.cps.toList[d.toNat]? = some c := ⟨_, List.getElem?_eq_getElem l⟩
  refine ⟨z, d, c, rfl, rfl, Nat.le_trans hz (by decide), ?_, q c hc⟩
  have e : d = ((d.toNat : Nat) : Int) := by omega
  rw [e]
  exact atI_nat hc
theorem r_ixLo {p : Addr} {xs : List V} {d : Int} (h : SqL K H p xs) (h0 : 0 ≤ d) (h1 : d < (xs.length : Int)) (q : ∀ v, v ∈ xs → xs[d.toNat]? = some v → Q v H) : rIxL K (.ref p) (.int d) H Q := by
  have l : d.toNat < xs.length := by omega
  obtain ⟨v, hv⟩ : ∃ v, xs[d.toNat]? = some v := ⟨_, List.getElem?_eq_getElem l⟩
  refine r_ixL h (v := v) ?_ (q v (List.mem_of_getElem? hv) hv)
  have e : d = ((d.toNat : Nat) : Int) := by omega
  rw [e]
  exact atI_nat hv
theorem r_sl {r : V → Option Int → Option Int → Hp → VK → Prop} (q : te σ H fun x H1 => tl σ H1 fun l H2 => th σ H2 fun u H3 => r x l u H3 Q) : tSl r te tl th σ H Q := q
theorem r_noPart (q : QO none H) : tNoPart σ H QO := q
theorem r_part (q : te σ H fun x H1 => ∃ i, x = .int i ∧ QO (some i) H1) : tPart te σ H QO := q
theorem r_isi {i : Int} {A : Int → Prop} (q : A i) : ∃ i', V.int i = .int i' ∧ A i' := ⟨i, rfl, q⟩
theorem r_slS {z : Str} {lo hi : Option Int} (hz : z.length ≤ 100000) (q : ∀ y : Str, y.length ≤ z.length → Q (.str y) H) : rSlS (.str z) lo hi H Q := ⟨z, rfl, Nat.le_trans hz (by decide), q _ (cutS_length z lo hi)⟩
end
theorem r_cut {a b : TS} {D : Ends} {σ : L2.St} {H : Hp} (Mid : L2.St → Hp → Prop) (h1 : a { D with nx := Mid } σ H) (h2 : ∀ σ' H', Mid σ' H' → b D σ' H') : C8.tCut a b D σ H := ⟨Mid, h1, h2⟩
theorem str_len_add (x y : Str) : (x ++ y).length = x.length + y.length := by
  have h : ∀ z : Str, z.length = z.cps.toList.length := fun z => (Array.length_toList).symm
  rw [h, h, h]; show (TL.tl (x ++ y)).length = _; rw [TL.tl_append]
  exact List.length_append
theorem lt1 {c d : Nat} : decide ([c] < [d]) = decide (c < d) := by
  by_cases h : c < d
  · rw [decide_eq_true h]
    exact decide_eq_true (List.Lex.rel h)
  · rw [decide_eq_false h]
    refine decide_eq_false fun z => ?_
    cases z with
    | rel q => exact h q
    | cons q => cases q
theorem sign_tl {c : Nat} : (⟨#[c]⟩ : Str).cps.toList = [c] := rfl
/-- a text begins with this sign -/
theorem starts1 (z : Str) (c : Nat) : Txt.startswith z ⟨#[c]⟩ = decide (z.cps.toList[0]? = some c) := by
  have h := PySem.StrLaws.subAt_one z c 0
  unfold Txt.startswith
  by_cases e : z.cps.toList[0]? = some c
  · obtain ⟨h1, h2⟩ := h.mpr e
    rw [decide_eq_true e, h2, decide_eq_true h1]
    rfl
  · rw [decide_eq_false e]
    by_cases h1 : 0 + (⟨#[c]⟩ : Str).length ≤ z.length
    · rw [decide_eq_true h1, Bool.true_and]
      exact Bool.eq_false_iff.mpr fun h2 => e (h.mp ⟨h1, h2⟩)
    · rw [decide_eq_false h1]
      rfl
end Bk

namespace Bk
open PySem PySem.Spec PyProof.Rows L2
/-! ## 9. defs that are run where no text is being told of a thing -/
structure FnG (P : Program) (w : World) (K : PySem.W.Frag) (mg : Str → Option Value) (base : Heap) (CX : CXT) (k : Nat) (f : Addr) (fd : FuncData) (ps : List Str) (sp : Sp) : Prop where
  len : ∀ vs H Q E, sp vs H Q E → vs.length = ps.length
  go : ∀ (A : Around) (ou : List Env) (s : Shared) (H : Hp) (ar : Args) (us : List Value) (vs : List V) (Q : VK) (E : XK), A.guards = some [] → Room k A → Env0 P w K mg base A ou s H → BindsTo s fd ar (ps.zip us) → Vals vs us → sp vs H Q E →
    codeAny (model P w) A (.call (.ref f) ar) (CR CX ou P w H s Q E) s
section
variable {P : Program} {w : World} {K : PySem.W.Frag} {mg : Str → Option Value} {base : Heap} {CX : CXT} {j k : Nat} {f : Addr} {fd : FuncData} {N ps : List Str} {sp : Sp} {x qual : Str} {st : Stmt}
theorem FnG.of (F : FnOk P w K mg base CX k f fd ps sp) : FnG P w K mg base CX k f fd ps sp := ⟨F.len, fun A ou s H ar us vs Q E _ => F.run A ou s H ar us vs Q E⟩
theorem FnG.up (F : FnG P w K mg base CX j f fd ps sp) (h : j ≤ k) : FnG P w K mg base CX k f fd ps sp := ⟨F.len, fun A ou s H ar us vs Q E g hr => F.go A ou s H ar us vs Q E g (hr.mono h)⟩
/-- by its body -/
theorem fun_okG (F : Fun K x qual st f fd) (S : FnScope N ps (defScope st)) (len : ∀ vs H Q E, sp vs H Q E → vs.length = ps.length)
    (hbody : ∀ (cdv : Value) (A : Around) (ou : List Env) (s : Shared) (H : Hp) (vs : List V) (Q : VK) (E : XK), (A.deeper (envOfC qual (defScope st) s.heap.objs.size f cdv)).guards = some [] → Room k (A.deeper (envOfC qual (defScope st) s.heap.objs.size f cdv)) → sp vs H Q E →
      ∃ t, PSs (cxOf CX0 P w K mg base N qual (defScope st) f cdv A ou s H E).nox (defBody st) t ∧ t { nx := fun _ H' => Q .non H', rt := Q } (start N vs) H) : FnG P w K mg base CX0 (k + 1) f fd ps sp := by
  obtain ⟨oc, od, kV, doc, pm, an, cdv, ct, osl, rfl, lk, hcd⟩ := F.ex
  refine ⟨len, fun A ou s H ar us vs Q E hg hr e0 hb rv hsp => ?_⟩
  have KX : K.In s.heap := e0.mod.kin.keeps fun b o z => (e0.bs b o z).1
  refine Att.call_fn KX (e0.mod.nolimit.keeps fun b o z => (e0.bs b o z).1) lk hcd hr.depth hb ?_ (fun s1 x1 => ?_) S.co S.gen S.kind
  · rw [List.all_eq_true]
    rintro ⟨n, v⟩ hy
    rcases S.par n (List.of_mem_zip hy).1 with q | q <;> simp [q]
  · obtain ⟨t, ht, hq⟩ := hbody cdv A ou s H vs Q E hg (hr.deeper _) hsp
    have I := inv_start (CX := CX0) (E := E) S hr.hd e0 (len _ _ _ _ hsp) rv x1
    refine wpAny_mono (ht.nox.run [] s1 (start N vs) H _ I hq) (fun fl s2 z => ?_) fun _ _ z => z
    cases fl with
    | ret u => exact let ⟨v, _, H2, J, r2, q2⟩ := z; ⟨v, H2, J.os, J.bare, J.base, J.hok, r2, q2⟩
    | next => exact let ⟨_, H2, J, q2⟩ := z; ⟨.non, H2, J.os, J.bare, J.base, J.hok, rfl, q2⟩
    | brk => exact (let ⟨_, _, _, q2⟩ := z; q2 : False).elim
    | cont => exact (let ⟨_, _, _, q2⟩ := z; q2 : False).elim
end
structure CalG (P : Program) (w : World) (K : PySem.W.Frag) (mg : Str → Option Value) (base : Heap) (CX : CXT) (k : Nat) (x : Str) (sp : Sp) : Prop where
  ex : ∃ (f : Addr) (fd : FuncData) (ps : List Str), mg x = some (.ref f) ∧ PySem.W.keepIn K (.ref f) = true ∧ FnG P w K mg base CX k f fd ps sp ∧ Binds K fd ps []
theorem CalG.mk' {P : Program} {w : World} {K : PySem.W.Frag} {mg : Str → Option Value} {base : Heap} {CX : CXT} {k : Nat} {x : Str} {sp : Sp} {f : Addr} {fd : FuncData} {ps : List Str} (g : mg x = some (.ref f)) (kp : PySem.W.keepIn K (.ref f) = true) (F : FnG P w K mg base CX k f fd ps sp) (b : Binds K fd ps []) :
    CalG P w K mg base CX k x sp := ⟨f, fd, ps, g, kp, F, b⟩
section
variable {X : Cx} {k j : Nat} {sp : Sp} {x : Str} {p pos : Pos} {e : Expr} {es : List Expr} {t : TA}
theorem pe_calG (c : CalG X.prog X.w X.K X.mg X.base CX0 k x sp) (ga : X.A.guards = some []) (hr : Room j X.A) (hk : k ≤ j) (hg : Gl X x) (ha : PA X (e :: es) t)
    (hdb : (x == ("__debug__" : Str)) = false := by decide) (he : starEach (e :: es) X.env = (false, eval e X.env) :: starEach es X.env := by rfl) (hpl : (backTo pos (starEach es X.env)).any (·.1) = false := by rfl) :
    PE X (.Call (.Name x p) (e :: es) [] pos) (tCall sp [] E0 t) := by
  obtain ⟨f, fd, ps, h1, h2, h3, h4⟩ := c.ex
  refine ⟨fun pins s σ H Q I h => wpAny_Call_Name_kw (ld_glob I hg h1 (PySem.W.callWith_K (h₀ := X.base) I.ok.mod.kin h2 (thn (ha.run pos pins s σ H _ I h) fun us s1 ⟨vs, H1, I1, r, q⟩ => ⟨I1.kIn, ?_⟩) he hpl) hdb)⟩
  have q' : sp vs H1 Q E0 := by have z : sp (vs ++ []) H1 Q E0 := q; rw [List.append_nil] at z; exact z
  have b := h4 s1 us I1.kIn (by rw [List.append_nil, ← r.length]; exact h3.len _ _ _ _ q')
  rw [List.append_nil] at b
  refine wpAny_call (codeAny_mono (h3.go X.A X.stack s1 H1 ⟨us, []⟩ us vs Q E0 ga (hr.mono hk) I1.env0 b r q') fun rr s2 z => ?_)
  match rr, z with
  | .ok (.ret _), z => exact I1.after z
end
/-! ### the head -/
section
variable {P : Program} {w : World} {K : PySem.W.Frag} {mg mb : Str → Option Value} {s : Shared} {a : Addr} {vs : List Value} {ns : List Int} {H : Hp}
theorem lawG_core {k : Nat} {fa : Addr} {fd : FuncData} {x : Str} {sp : Sp} (KX : K.In s.heap) (hns : s.heap.Ns mainGlobals mg) (hb : s.heap.Ns builtinsNs mb) (hbb : ∀ x : Str, x ≠ "__name__" → mb x = bootBuiltins x) (hlim : s.heap.NoLimit) (hg : s.gens = #[])
    (ha : s.heap.get? a = some { cls := .type "list", data := .seq vs.toArray }) (hr : Room k callerA)
    (F : ∀ base : Heap, K.In base → base.Ns mainGlobals mg → FnG P w K mg base CX0 k fa fd [x] sp) (hbind : ∀ (s : Shared) (u : Value), BindsTo s fd ⟨[u], []⟩ [(x, u)])
    (hO : Only H) (hq : sp [.ref a] H (fun v _ => v = .bl true) fun _ _ _ => False) (ok : HOk P w H s.heap) (hA : ∀ b, H b ≠ none → b = a ∧ K.lookup a = none) :
    codeAny (model P w) callerA (.call (.ref fa) ⟨[.ref a], []⟩) (fun r s' => r = .ok (.ret (.bool true)) ∧ OldK s.heap s'.heap ∧ s'.os = s.os ∧ AllBare s'.gens) s := by
  have un : ∀ {b : Addr} {o : Obj}, s.heap.get? b = some o → (b = a → K.lookup a ≠ none ∨ ∃ es ep, o.data = .dict es ep) → (hidT s.heap H).get? b = some o := fun {b o} e n => hidT_get e (by
    apply Classical.byContradiction
    intro z
    obtain ⟨rfl, kn⟩ := hA b z
    rcases n rfl with q | ⟨es, ep, q⟩
    · exact q kn
    · rw [ha] at e
      cases e
      exact nomatch q)
  have nsK : ∀ {b : Addr} {m : Str → Option Value}, s.heap.Ns b m → (hidT s.heap H).Ns b m := fun ⟨o, es, ep, e, d, r⟩ => ⟨o, es, ep, un e fun _ => .inr ⟨es, ep, d⟩, d, r⟩
  have hKb : K.In (hidT s.heap H) := fun b o e => un (KX b o e) fun z => .inl (by rw [← z, e]; exact Option.some_ne_none o)
  have e0 : Env0 P w K mg (hidT s.heap H) callerA [] s H := ⟨rfl, ⟨hKb, nsK hns, ⟨mb, nsK hb, hbb⟩, hlim.elim fun mc z => ⟨mc, nsK z.1, z.2⟩⟩, fun b o z => of_hidT z, Nat.le_of_eq (hidT_size _ _), trivial, fun _ z => absurd z List.not_mem_nil, ok, .of_eq hg⟩
  refine codeAny_mono ((F _ hKb (nsK hns)).go callerA [] s H ⟨[.ref a], []⟩ [.ref a] [.ref a] _ _ rfl hr e0 (hbind s (.ref a)) (.cons rfl .nil) hq) fun r s' h => ?_
  match r, h with
  | .ok (.ret u), h =>
    obtain ⟨v, H2, os, bare, un2, ok2, rv, q2⟩ := h
    obtain rfl : v = .bl true := q2
    obtain rfl : u = Value.bool true := rv
    refine ⟨rfl, OldK.of_keep fun b o e => ?_, os, bare⟩
    rcases hO b with z | ⟨ob, xs, z⟩
    · exact un2.keep b o e z List.not_mem_nil List.not_mem_nil
    · have o1 := (ok b _ z).1
      have o2 := (ok2 b _ (un2.frzs b ob _ z)).1
      rw [e] at o1
      rw [o1]
      exact o2
theorem lawG {k : Nat} {fa : Addr} {fd : FuncData} {x : Str} {sp : Sp} (KX : K.In s.heap) (hns : s.heap.Ns mainGlobals mg) (hb : s.heap.Ns builtinsNs mb) (hbb : ∀ x : Str, x ≠ "__name__" → mb x = bootBuiltins x) (hlim : s.heap.NoLimit) (hg : s.gens = #[])
    (ha : s.heap.get? a = some { cls := .type "list", data := .seq vs.toArray }) (hi : IntsAre vs ns) (hl : ns.length ≤ sizeLine) (hr : Room k callerA)
    (F : ∀ base : Heap, K.In base → base.Ns mainGlobals mg → FnG P w K mg base CX0 k fa fd [x] sp) (hbind : ∀ (s : Shared) (u : Value), BindsTo s fd ⟨[u], []⟩ [(x, u)])
    (hsp : ∀ H : Hp, Only H → SqL K H a (ns.map V.int) → sp [.ref a] H (fun v _ => v = .bl true) fun _ _ _ => False) :
    codeAny (model P w) callerA (.call (.ref fa) ⟨[.ref a], []⟩) (fun r s' => r = .ok (.ret (.bool true)) ∧ OldK s.heap s'.heap ∧ s'.os = s.os ∧ AllBare s'.gens) s := by
  have rv := vals_ints hi
  cases hk : K.lookup a with
  | some o =>
    have e := KX a o hk
    rw [ha] at e
    cases e
    exact lawG_core KX hns hb hbb hlim hg ha hr F hbind (fun _ => .inl rfl) (hsp (fun _ => none) (fun _ => .inl rfl) (.inr ⟨_, vs.toArray, _, hk, rfl, rfl, rfl, by rw [List.size_toArray, hi.length]; exact hl, rv⟩)) (fun b u z => nomatch z) fun b z => absurd rfl z
  | none =>
    have ke : (fun b => if b = a then some (HO.frz { cls := .type "list", data := .seq vs.toArray } (.lst (ns.map V.int))) else none) a = some (HO.frz { cls := .type "list", data := .seq vs.toArray } (.lst (ns.map V.int))) := if_pos rfl
    have only : ∀ b, (fun b => if b = a then some (HO.frz { cls := .type "list", data := .seq vs.toArray } (.lst (ns.map V.int))) else none) b ≠ none → b = a := fun b z => Classical.byContradiction fun n => z (if_neg n)
    have hO : Only (fun b => if b = a then some (HO.frz { cls := .type "list", data := .seq vs.toArray } (.lst (ns.map V.int))) else none) := fun b => by
      by_cases q : b = a
      · exact .inr ⟨_, _, if_pos q⟩
      · exact .inl (if_neg q)
    refine lawG_core KX hns hb hbb hlim hg ha hr F hbind hO (hsp _ hO (.inl (.inr ⟨_, ke⟩))) (fun b u z => ?_) fun b z => ⟨only b z, hk⟩
    obtain rfl := only b fun y => nomatch z.symm.trans y
    have z2 := ke.symm.trans z
    cases z2
    exact ⟨ha, by rw [List.length_map]; exact hl, vs, _, rv, ha⟩
end
theorem walk_ofG {l : PySem.W.OpenLaw} {n k : Nat} {q : Program} {loose : List Str} {XP : (Str → Option Value) → Heap → Prop} {YP : World → Heap → Prop} {d : DefRec} {K : Params → PySem.W.Frag} {sp : World → Sp} {x : Str}
    (hn : l.most = some n) (hn2 : n ≤ sizeLine) (hdf : d.params.defaults = []) (hr : Room k callerA) (hY : ∀ (w : World) (h : Heap), YP w h → (K w.params).In h)
    (F : ∀ (w : World) (mg : Str → Option Value) (fa : Addr) (h : Heap), (K w.params).In h → h.Ns mainGlobals mg → mg d.name = some (.ref fa) →
      ∃ fd : FuncData, (∀ (s : Shared) (u : Value), BindsTo s fd ⟨[u], []⟩ [(x, u)]) ∧ ∀ base : Heap, (K w.params).In base → base.Ns mainGlobals mg → FnG l.prog w (K w.params) mg base CX0 k fa fd [x] (sp w))
    (hsp : ∀ (w : World) (H : Hp) (a : Addr) (ns : List Int), ns.length ≤ n → Only H → SqL (K w.params) H a (ns.map V.int) → sp w [.ref a] H (fun v _ => v = .bl true) fun _ _ _ => False) :
    PySem.W.WalkO q loose XP YP l.row.toRowW d [] (fun f vs => PySem.call f vs) :=
  Att.attach_call hn hdf fun w s₀ s₁ mg mb fa o pm cd doc a vs ns G Y ho hd hcd hmg hobj hints hlen hg => by
    obtain ⟨fd, hb, hF⟩ := F w mg fa _ (hY w _ Y) G.T.g hmg
    exact lawG (hY w _ Y) G.T.g G.T.b G.T.builtins G.T.nolimit hg hobj hints (Nat.le_trans hlen hn2) hr hF hb fun H hO hS => hsp w H a ns hlen hO hS
/-! ## 10. a thing's text -/
mutual
theorem dp_flat {K : PySem.W.Frag} {H : Hp} : ∀ (d : PyData) (v : V), Dp K H v d → d.hasDict = false
  | .none, _, _ => by simp only [PyData.hasDict]
  | .bool _, _, _ => by simp only [PyData.hasDict]
  | .int _, _, _ => by simp only [PyData.hasDict]
  | .str _, _, _ => by simp only [PyData.hasDict]
  | .list ds, _, h => by
    cases h with
    | lst _ ha => simpa only [PyData.hasDict] using dp_flatAll ds _ ha
  | .tuple ds, _, h => by
    cases h with
    | tup _ ha => simpa only [PyData.hasDict] using dp_flatAll ds _ ha
  | .dict _, _, h => by cases h
theorem dp_flatAll {K : PySem.W.Frag} {H : Hp} : ∀ (ds : List PyData) (vs : List V), DpAll K H vs ds → PyData.hasDictAll ds = false
  | [], _, _ => by simp only [PyData.hasDictAll]
  | d :: ds, _, h => by
    cases h with
    | cons h1 h2 => simp only [PyData.hasDictAll, dp_flat d _ h1, dp_flatAll ds _ h2, Bool.or_false]
end
/-- z is how repr tells v -/
def Shw (K : PySem.W.Frag) (H : Hp) (v : V) (z : Str) : Prop := (∃ d, Dp K H v d ∧ d.showable = true ∧ d.shown.length ≤ sizeLine ∧ d.depth ≤ 60 ∧ z = d.shown) ∨ ∃ a, v = .ref a ∧ H a = some (.dK []) ∧ z = "{}"
section
variable {X : Cx} {j : Nat}
theorem call_repr_shw (ga : X.A.guards = some []) (hr : Room j X.A) : CallR X (.builtin "repr") (fun xs H Q => ∃ v z, xs = [v] ∧ Shw X.K H v z ∧ Q (.str z) H) := by
  intro pins s σ H xs us Q I r h
  obtain ⟨v, z, rfl, hs, q⟩ := h
  obtain ⟨u, rfl, rv⟩ := vals1 r
  have hu := hr.units
  rcases hs with ⟨d, hd, h1, h2, h3, rfl⟩ | ⟨a, rfl, ha, rfl⟩
  · have fin : ∀ {x : Str} {t : Nat}, x = d.shown → EP X pins σ Q (.str x s.toks) { s with toks := t } := fun {x t} e => ⟨.str _, H, I.tok _, ⟨_, rfl⟩, by rw [e]; exact q⟩
    have ref : ∀ {a : Addr}, v = .ref a → wpAny (model X.prog X.w) X.A (call (.builtin "repr") [u]) (EP X pins σ Q) X.xe s := fun {a} e => by
      subst e
      obtain rfl : u = Value.ref a := rv
      obtain ⟨as, rd⟩ := Dp.reads I d (.ref a) _ hd rfl
      exact repr_of_reads' rd h1 (PyData.noDict_hsm (dp_flat d _ hd)) ga (by omega) (fun _ _ e => e) (fun h' u tk hk => ⟨.str _, H, I.kept hk, ⟨_, rfl⟩, q⟩) h2
    cases hd with
    | non =>
      cases rv
      exact PySem.P.repr_of_none (fin (by simp only [PyData.shown]))
    | bl b =>
      cases rv
      exact PySem.P.repr_of_bool (fin (by simp only [PyData.shown]))
    | int i =>
      obtain ⟨t, rfl⟩ := rv
      exact PySem.P.repr_of_int (by simpa only [PyData.showable, decide_eq_true_eq] using h1) (fin (by simp only [PyData.shown]))
    | str x =>
      obtain ⟨t, rfl⟩ := rv
      exact PySem.P.repr_of_str (fin (by simp only [PyData.shown])) (by simpa only [PyData.shown] using h2)
    | lst _ _ => exact ref rfl
    | tup _ _ => exact ref rfl
  · obtain rfl : u = Value.ref a := rv
    obtain ⟨_, hm, vs, kv, o, es, ep, ho, hx, hde, _, pr, _⟩ := I.hok a _ ha
    cases kv
    have e0 : es.toList = [] := by
      have z := pr
      generalize es.toList = l at z
      cases z
      rfl
    have hc : o.cls = .type "dict" := hx.1
    have rd : Reads s.heap (.ref a) (.dict []) [a] := by
      have z : Reads s.heap (.ref a) (.dict []) (a :: [] ++ []) := .dict ho hc hde (by rw [e0]; exact .nil) (by rw [e0]; exact .nil)
      exact z
    have nm : sysModules ∉ [a] := fun z => by
      rw [List.mem_singleton.mp z] at hm
      exact absurd hm (by simp)
    have dp : (PyData.dict []).depth = 1 := by simp [PyData.depth, PyData.depthKv]
    have tx : (PyData.dict []).shown = ("{}" : Str) := by simp [PyData.shown, PyData.shownKv]; rfl
    refine repr_of_reads' rd (by simp only [PyData.showable, PyData.showableKv]) (fun _ => nm) ga (by rw [dp]; omega) (fun _ _ e => e) (fun h' u tk hk => ⟨.str _, H, I.kept hk, ⟨_, rfl⟩, ?_⟩) ?_
    · rw [tx]
      exact q
    · rw [tx]
      decide
end
end Bk

namespace Bk
open PySem PySem.Spec PyProof.Rows L2
/-! ## 11. try: .. except A as e: .. except B as e: .. , what none of them takes does not come -/
abbrev ClA := Value × Nat × (Addr → Value → Option Addr → TS)
def offI (i : Nat) (D : Ends) : Ends := { nx := fun τ G => D.nx (τ.set i none) G, rt := D.rt, bk := fun τ G => D.bk (τ.set i none) G, ct := fun τ G => D.ct (τ.set i none) G }
def wAM (K : PySem.W.Frag) (D : Ends) : List ClA → WX
  | [] => fun _ _ _ _ => False
  | q :: l => fun cls d τ G => ∃ b, PySem.W.exmOne K cls q.1 = some b ∧ (b = true → ∀ a, G a = none → q.2.2 a cls d (offI q.2.1 D) (τ.set q.2.1 (some (.ref a))) G) ∧ (b = false → wAM K D l cls d τ G)
inductive HdA (X : Cx) : List ExceptHandler → List ClA → Prop
  | stop {hds : List ExceptHandler} : HdA X hds []
  | more {x n : Str} {c : Value} {i : Nat} {ts : Addr → Value → Option Addr → TS} {b : Stmt} {bs : List Stmt} {p1 p2 : Pos} {hds : List ExceptHandler} {l : List ClA} (nm : Names X x c) (hi : X.N[i]? = some n) (hn : X.env.kindOf n = some .local)
      (su : ∀ (a : Addr) (oe : Obj) (cls : Value) (d : Option Addr) (pn : List (Addr × Obj)), Zc cls d oe → (∃ vs, oe.data = .fields vs) → PSs (X.suite a ((a, oe) :: pn)) (b :: bs) (ts a cls d)) (r : HdA X hds l) :
      HdA X (.ExceptHandler (some (.Name x p1)) (some n) (b :: bs) p2 :: hds) ((c, i, ts) :: l)
section
variable {X : Cx} {body : List Stmt} {h₀ : ExceptHandler} {hds : List ExceptHandler} {l : List ClA} {pos : Pos} {tb : WX → TS}
theorem ps_try_asM (st : X.stack = X.env :: X.outer) (fr : X.env.frame = some X.env.locals) (nd : X.N.Nodup)
    (hb : ∀ (W : WX) (pn : List (Addr × Obj)) (xe : Value → Shared → Prop), Takes (X.tr pn xe) W → PassesOwn (model X.prog X.w) X.A X.env xe → PSs (X.tr pn xe) body (tb W))
    (hh : HdA X (h₀ :: hds) l) : PS X (.Try body (h₀ :: hds) [] [] pos) (fun D τ G => tb (wAM X.K D l) D τ G) := by
  refine ⟨fun pins s τ G D I hq => wpAny_Try_except ?_⟩
  have ok := I.ok
  refine wpAny_mono ((hb (wAM X.K D l) (X.pn ++ pins) _ (fun u s2 z => ?_) PassesOwn.looking).run [] s τ G D (I.toTry _) hq) (fun fl s2 z => ?_) (fun _ _ z => z)
  · -- what came out of the body
    obtain ⟨a, B, sI, pins2, τ2, G2, cls, d, rfl, J2, nb, up, sky, na, os, ag, w⟩ := z
    have J : Inv X pins τ2 G2 sI := J2.ofTry ok
    refine Sky.land Zc.steady (show X.A.frames = some (X.env :: X.outer) by rw [ok.frames, st]) fr (by rw [← st]; exact sky) fun h3 fl3 up3 => ?_
    obtain ⟨o3, v3, g3, z3, d3⟩ := fl3.there
    have J3 : Inv X pins τ2 G2 { s2 with heap := h3 } := J.landed nb fl3.1 (up.trans up3) os ag
    have out : a ∉ frs (X.env :: X.outer) := fun m => by
      obtain ⟨_, o4, g4, n4⟩ := fl3.2.2.1.mem m
      rw [g3] at g4
      cases g4
      exact n4 _ d3
    have aL : a ≠ X.env.locals := fun e => out (List.mem_filterMap.mpr ⟨X.env, List.mem_cons_self, by rw [fr, e]⟩)
    have aF : a ∉ X.fs := fun m => by
      obtain ⟨e, me, q⟩ := List.mem_filterMap.mp m
      exact out (List.mem_filterMap.mpr ⟨e, List.mem_cons_of_mem _ me, q⟩)
    have S3 := J3.suite g3 d3 na aL aF
    have all : ∀ {hs : List ExceptHandler} {k : List ClA}, HdA X hs k → wAM X.K D k cls d τ2 G2 → wpAny (model X.prog X.w) X.A (handleBy (.ref a) X.env hs) (SP X pins D) X.xe { s2 with heap := h3 } := by
      intro hs k hk
      induction hk with
      | stop => exact fun z => z.elim
      | @more x n c i ts b bs p1 p2 hs2 k2 nm hi hn su r ih =>
        rintro ⟨yes, e1, w1, w2⟩
        refine wpAny_handleBy_cons (codeAny_handlers_test ?_) (fun q => nomatch q)
        have T1 : PySem.W.Looks (model X.prog X.w) h3 (typeOf (.ref a)) cls := fun A Q E s k q => wpAny_typeOf_ref (k _ _ g3) (by rw [z3.1]; exact q)
        have T2 := PySem.W.exm_one (M := model X.prog X.w) J3.kIn T1 e1
        have ask : ∀ {Q : Value → Shared → Prop} {E : Value → Shared → Prop}, Q c { s2 with heap := h3 } → wpAny (model X.prog X.w) (X.A.mark (some (.ref a))) (eval (.Name x p1) X.env) Q E { s2 with heap := h3 } := fun {Q E} q => by
          obtain ⟨g1, g2, m1 | ⟨m1, m2, m3⟩⟩ := nm
          · exact ld_glob (X := X.suite a ((a, o3) :: (X.pn ++ pins))) S3 g1 m1 q g2
          · exact ld_blt (X := X.suite a ((a, o3) :: (X.pn ++ pins))) S3 g1 m1 m2 q m3 g2
        refine ask (T2.here ?_)
        match yes, w1, w2 with
        | false, w1, w2 => exact ih (w2 rfl)
        | true, w1, w2 =>
          refine codeAny_handlers_suite_as (HandSPX.lands_againZ fl3 fun h4 fl4 up4 => ?_)
          obtain ⟨o4, v4, g4, z4, d4⟩ := fl4.there
          have S4 := (J.landed nb fl4.1 ((up.trans up3).trans up4) os ag : Inv X pins τ2 G2 { s2 with heap := h4 }).suite g4 d4 na aL aF
          refine store_ok (X := X.suite a ((a, o4) :: (X.pn ++ pins))) (v := .ref a) S4 nd hi (.inl hn) rfl (fun s5 S5 => ?_) (.inr hn)
          refine wpAny_mono ((su a o4 cls d (X.pn ++ pins) z4 ⟨_, d4⟩).run [] s5 _ G2 _ S5 (w1 rfl a na)) (fun fl s6 z6 => ?_) fun _ _ z6 => z6.elim
          have back : ∀ {τ6 : L2.St} {G6 : Hp} {R : Shared → Prop}, Inv (X.suite a ((a, o4) :: (X.pn ++ pins))) [] τ6 G6 s6 → (∀ s7, Inv X pins (τ6.set i none) G6 s7 → R s7) →
              wpAny (model X.prog X.w) X.A (do bindName X.env n .none; unbindBehindTheSuite X.env n p2) (fun _ s7 => R s7) X.xe s6 := fun {τ6 G6 R} S6 f => gone_ok (S6.unsuite ok) nd hi hn f
          match fl, z6 with
          | .next, ⟨_, _, S6, q6⟩ => exact back S6 fun s7 J7 => ⟨_, _, J7, q6⟩
          | .brk, ⟨_, _, S6, q6⟩ => exact back S6 fun s7 J7 => ⟨_, _, J7, q6⟩
          | .cont, ⟨_, _, S6, q6⟩ => exact back S6 fun s7 J7 => ⟨_, _, J7, q6⟩
          | .ret u, ⟨_, _, _, S6, r6, q6⟩ => exact back S6 fun s7 J7 => ⟨_, _, _, J7, r6, q6⟩
    exact all hh w
  · match fl, z with
    | .next, ⟨_, _, J, q⟩ => exact wpAny_execs_nil ⟨_, _, J.ofTry ok, q⟩
    | .brk, ⟨_, _, J, q⟩ => exact ⟨_, _, J.ofTry ok, q⟩
    | .cont, ⟨_, _, J, q⟩ => exact ⟨_, _, J.ofTry ok, q⟩
    | .ret u, ⟨_, _, _, J, r, q⟩ => exact ⟨_, _, _, J.ofTry ok, r, q⟩
end
end Bk

namespace Bk
open PySem PySem.Spec PyProof.Rows L2
/-! ## 12. enumerate of a tuple -/
theorem meets_enum1 {v : Value} {o : Obj} {S : Heap → Prop} (B : Begins v o S) :
    Meets (Builtin.«enumerate.__new__» ⟨[.type "enumerate", v], []⟩) (fun _ R s => S s.heap ∧
      R (.ok (.ret (.ref (s.heap.push o).objs.size))) { s with heap := (s.heap.push o).push { cls := .type "enumerate", data := .fields #[.none, .bool false, .ref s.heap.objs.size, rawInt 0, .none, .none] } }) :=
  .of_wp fun prog w A R s z => by
    obtain ⟨hp, g, d, tk, os⟩ := s
    obtain ⟨z1, z2⟩ := z
    have sub := sub_enumerate
    have it : ∀ {A' : Around} {E : Value → Shared → Prop} {Q : Value → Shared → Prop}, Q (.ref hp.objs.size) ⟨hp.push o, g, d, tk, os⟩ → wpAny (model prog w) A' (pyIter v) Q E ⟨hp, g, d, tk, os⟩ := fun q => B.iter prog w _ _ _ _ z1 q
    wp_walk using it
    refine wpAny_stack_any fun st => wpAny_pure ?_
    split
    · rename_i c _ _ _ _ _
      cases (c == Value.type "enumerate") <;> (wp_walk using it; exact ⟨_, rfl, z2⟩)
    · wp_walk using it
      exact ⟨_, rfl, z2⟩
theorem enum1 {prog : Program} {w : World} {A : Around} {E : Value → Shared → Prop} {s : Shared} {v : Value} {o : Obj} {S : Heap → Prop} {Q : Value → Shared → Prop} (B : Begins v o S) (z : S s.heap)
    (q : ∀ h', IsEnum h' (s.heap.objs.size + 1) s.heap.objs.size 0 .none → h'.get? s.heap.objs.size = some o → h'.objs.size = s.heap.objs.size + 2 → (∀ b u, s.heap.get? b = some u → h'.get? b = some u) → Q (.ref (s.heap.objs.size + 1)) { s with heap := h' }) :
    wpAny (model prog w) A (call (.type "enumerate") [v]) Q E s := by
  refine callType_new F.called_enumerate (by decide) (F.typeCall_enumerate_1 _) (F.newCall_enumerate_1 _) (fun u => F.args_object_init_2 u _) F.entry_enumerate_new (meets_enum1 B) ⟨z, ?_⟩
  have sz : (s.heap.push o).objs.size = s.heap.objs.size + 1 := Heap.size_push ..
  have top := Heap.get?_push_size (s.heap.push o) (o := { cls := .type "enumerate", data := .fields #[.none, .bool false, .ref s.heap.objs.size, rawInt 0, .none, .none] }) rfl
  show _ ∧ _
  rw [sz] at top ⊢
  exact ⟨⟨_, top, rfl⟩, q _ top (Heap.get?_push_of_some _ (Heap.get?_push_size _ B.free)) (by rw [Heap.size_push, sz]) fun b u e => Heap.get?_push_of_some _ (Heap.get?_push_of_some _ e)⟩
/-- the tuple's items in new pairs -/
def Itu (K : PySem.W.Frag) (a : Addr) : It :=
  ⟨fun i H => ∃ (xs : List V) (x : V), SqT K H a xs ∧ xs[i]? = some x, fun i H v H' => ∃ T x, v = .ref T ∧ H T = none ∧ H' = upd H T (.tup [.int (i : Nat), x]) ∧ ∀ xs, SqT K H a xs → xs[i]? = some x, fun i H => ∃ xs : List V, SqT K H a xs ∧ xs.length ≤ i⟩
theorem turn_enumT {P : Program} {w : World} {K : PySem.W.Frag} {elts : List Expr} {kk : Nat} {tpos : Pos} (a e it : Addr) (ai : a ≠ it) (ae : a ≠ e) :
    Turn P w K (.Tuple elts kk tpos) (Itu K a) [e, it] e (fun i h => (∃ old, IsEnum h e it ((i : Nat) : Int) old) ∧ h.IsTupleIter it a i ∧ e ≠ it) where
  mem := List.mem_cons_self
  obj := fun i h st b hb => by
    obtain ⟨⟨old, he⟩, ⟨o, ho, _, hd⟩, _⟩ := st
    rcases List.mem_cons.mp hb with z | z
    · subst z
      exact ⟨_, he, fun v q => nomatch q⟩
    · exact ⟨o, by rw [List.mem_singleton.mp z]; exact ho, fun v q => by rw [hd] at q; exact nomatch q⟩
  keep := fun i h h' st k => ⟨st.1.elim fun old z => ⟨old, k e List.mem_cons_self _ z⟩, st.2.1.at fun o q => k it (List.mem_cons_of_mem _ List.mem_cons_self) o q, st.2.2⟩
  item := by
    intro X hP hw hK hc i pins s σ H E I hf st hg
    subst hP hw hK
    obtain ⟨⟨old, he⟩, hit, ne⟩ := st
    obtain ⟨xs, x, hq, hx⟩ := hg
    obtain ⟨its, rv, p, _⟩ := I.tuple hq
    obtain ⟨u, hu, ru⟩ := rv.get hx
    have e1 := Heap.lt_size he
    have i1 : it < s.heap.objs.size := let ⟨_, q, _⟩ := hit; Heap.lt_size q
    have li : i < its.toArray.size := by
      rw [List.size_toArray]
      exact (List.getElem?_eq_some_iff.mp hu).1
    refine wpAny_pyNext_enum_itemD (Draws.tuple (show X.A.in1.handled = none from I.ok.hd hc) it a ai its.toArray) he ⟨hit, p⟩ li ne (fun z => ?_) fun v h' tk hv ho hs hT _ hk => ?_
    · rcases List.mem_cons.mp z with z | z
      · exact ne z
      · exact ae (List.mem_singleton.mp z).symm
    obtain rfl : v = u := by
      have hv' : its.toArray[i]? = some v := hv
      rw [List.getElem?_toArray, hu] at hv'
      exact (Option.some.inj hv').symm
    refine ⟨_, rfl, wpAny_letOwnedTupleGo_enum (s := { s with heap := h', toks := tk + 1 }) ho fun h2 he2 sb => ?_⟩
    have T2 : h2.get? s.heap.objs.size = some { cls := .type "tuple", data := .seq #[.int i tk, v] } := (sb.2 _ (Nat.ne_of_gt e1)).trans hT
    have fresh := I.hok.fresh (Nat.le_refl s.heap.objs.size)
    have J : Inv X pins σ (upd H s.heap.objs.size (.tup [.int (i : Nat), x])) { s with heap := h2, toks := tk + 1 } :=
      I.turnedNew (ch := [e, it]) (fun b ob hb q => (sb.2 b (fun z => hb (by simp [z]))).trans (hk b ob (fun z => hb (by simp [z])) (fun z => hb (by simp [z])) q)) hf (Nat.le_refl _)
        (show ObjOk X.prog X.w _ h2 _ (.tup [.int (i : Nat), x]) from ⟨Nat.le_of_ble_eq_true rfl, [.int i tk, v], .cons ⟨_, rfl⟩ (.cons ru .nil), ⟨_, T2, rfl, _, rfl⟩⟩)
    refine ⟨.ref s.heap.objs.size, _, J, rfl, ⟨_, x, rfl, fresh, rfl, fun ys hy => by rw [I.tuple_inj hy hq]; exact hx⟩, ⟨⟨v, ?_⟩, hs.1.at fun o q => (sb.2 it (Ne.symm ne)).trans q, ne⟩, fun b hb => ?_⟩
    · rw [show ((i + 1 : Nat) : Int) = (i : Int) + 1 by omega]
      exact he2
    · have lb : b < s.heap.objs.size := by
        rcases List.mem_cons.mp hb with z | z
        · rw [z]; exact e1
        · rw [List.mem_singleton.mp z]; exact i1
      rw [upd_ne (Nat.ne_of_lt lb)]
      exact (hf b hb).1
  done := by
    intro X hP hw hK hc i pins s σ H E I hf st hg
    subst hP hw hK
    obtain ⟨⟨old, he⟩, hit, ne⟩ := st
    obtain ⟨xs, hq, hx⟩ := hg
    obtain ⟨its, rv, p, _⟩ := I.tuple hq
    obtain ⟨f0, f1, f2, f3, f4, f5⟩ := hf it (List.mem_cons_of_mem _ List.mem_cons_self)
    have ln := rv.length
    have hn : its.toArray[i]? = none := by
      rw [List.getElem?_toArray]
      exact List.getElem?_eq_none (by omega)
    have hT : s.TypeIs (.ref e) "enumerate" := ⟨_, he, rfl⟩
    unfold pyNext
    refine wpAny_bind (wpAny_attempt (wpAny_callSpecial?_slot (name := Str.ofString "__next__") hT F.slot_enumerate_next
      (wpAny_call_entry F.slot_enumerate_next hT F.entry_enumerate_next ?_ (F.args_enumerate_next_1 _))))
    show wpAny (model X.prog X.w) _ (field (.ref e) 2 >>= _) _ _ _
    refine wpAny_bind (wpAny_field he rfl (x := .ref it) rfl ?_)
    refine wpAny_bind (wpAny_nextOf_tuple_end (I.ok.hd hc) hit p hn fun h' x he' hx' => ?_)
    obtain ⟨o, ho, hcl⟩ := hx'
    exact wpAny_bind (wpAny_isInstance (T := "StopIteration") (b := true) ⟨o, ho, hcl⟩ isSubtype_stop (wpAny_pure ⟨rfl, I.turned (t' := s.toks) (fun b o hb q => he' b o hb q) f0 f1 f3 f4 f5⟩))
  self := fun A i s Q E st h => let ⟨⟨_, he⟩, _⟩ := st; wpAny_pyIter_enum he h
def iEnumA (K : PySem.W.Frag) (ta : TA) : TI := fun σ H R => ta σ H fun vs H1 => ∃ a xs, vs = [.ref a] ∧ ((SqL K H1 a xs ∧ R (Ite K a) H1) ∨ (SqT K H1 a xs ∧ R (Itu K a) H1))
def iSeqA (K : PySem.W.Frag) (te : TE) : TI := fun σ H R => te σ H fun x H1 => ∃ a xs, x = .ref a ∧ ((SqL K H1 a xs ∧ R (Itl K a) H1) ∨ (SqT K H1 a xs ∧ R (Itt K a) H1))
section
variable {X : Cx} {e tg : Expr} {ta : TA} {te : TE} {p pos tpos : Pos} {elts : List Expr} {kk : Nat}
theorem pi_enumA (hg : Gl X "enumerate") (hm : X.mg "enumerate" = none) (ha : PA X [e] ta) (hs : starEach [e] X.env = [(false, eval e X.env)] := by rfl) : PI X (.Tuple elts kk tpos) (.Call (.Name "enumerate" p) [e] [] pos) (iEnumA X.K ta) := by
  refine ⟨fun pins s σ H R I h => Call_ (ld_blt I hg hm boot_enumerate (PyProof.Rows.callWith_type1 (thn (ha.run pos pins s σ H _ I h) fun us s1 ⟨vs, H1, I1, r1, q1⟩ => ?_) hs rfl))⟩
  obtain ⟨a, xs, rfl, q⟩ := q1
  obtain ⟨u, rfl, rv⟩ := vals1 r1
  obtain rfl : u = Value.ref a := rv
  have near : ∀ {b : Addr}, b ∈ [s1.heap.objs.size + 1, s1.heap.objs.size] → FpOk X pins H1 b := fun {b} hb => by
    have le : s1.heap.objs.size ≤ b := by
      rcases List.mem_cons.mp hb with z | z
      · rw [z]; exact Nat.le_succ _
      · rw [List.mem_singleton.mp z]; exact Nat.le_refl _
    exact I1.fpOk le (I1.hok.fresh le)
  rcases q with ⟨hq, q⟩ | ⟨hq, q⟩
  · obtain ⟨its, rv, p', hz⟩ := I1.list hq
    refine call_enumerate_list p'.isList fun h' he hit _ hk => wpAny_pyIter_enum he ?_
    exact ⟨s1.heap.objs.size + 1, [s1.heap.objs.size + 1, s1.heap.objs.size], _, _, H1, rfl, I1.kept (t' := s1.toks) hk, turn_enum a (s1.heap.objs.size + 1) s1.heap.objs.size, ⟨⟨.none, he⟩, hit, Nat.succ_ne_self _⟩, fun b hb => near hb, q⟩
  · obtain ⟨its, rv, p', hz⟩ := I1.tuple hq
    have la : a < s1.heap.objs.size := let ⟨_, z, _⟩ := p'; Heap.lt_size z
    refine enum1 (begins_tuple a its.toArray) p' fun h' he hit _ hk => wpAny_pyIter_enum he ?_
    exact ⟨s1.heap.objs.size + 1, [s1.heap.objs.size + 1, s1.heap.objs.size], _, _, H1, rfl, I1.kept (t' := s1.toks) hk, turn_enumT a (s1.heap.objs.size + 1) s1.heap.objs.size (Nat.ne_of_lt la) (Nat.ne_of_lt (Nat.lt_succ_of_lt la)), ⟨⟨.none, he⟩, ⟨_, hit, rfl, rfl⟩, Nat.succ_ne_self _⟩, fun b hb => near hb, q⟩
theorem pi_seqA (he : PE X e te) : PI X tg e (iSeqA X.K te) := by
  refine ⟨fun pins s σ H R I h => thn (he.run pins s σ H _ I h) fun v s1 ⟨x, H1, I1, r1, q1⟩ => ?_⟩
  obtain ⟨a, xs, rfl, q⟩ := q1
  obtain rfl : v = Value.ref a := r1
  have near : ∀ {b : Addr}, b ∈ [s1.heap.objs.size] → FpOk X pins H1 b := fun {b} hb => by
    rw [List.mem_singleton.mp hb]
    exact I1.fpOk (Nat.le_refl _) (I1.hok.fresh (Nat.le_refl _))
  have J : ∀ {o : Obj}, Inv X pins σ H1 { s1 with heap := s1.heap.push o } := fun {o} => I1.kept (t' := s1.toks) fun b u z => Heap.get?_push_of_some _ z
  rcases q with ⟨hq, q⟩ | ⟨hq, q⟩
  · obtain ⟨its, rv, p', hz⟩ := I1.list hq
    exact wpAny_pyIter_list p'.isList ⟨s1.heap.objs.size, [s1.heap.objs.size], _, _, H1, rfl, J, turn_list a _, ⟨_, Heap.get?_push_size _ rfl, rfl, rfl⟩, fun b hb => near hb, q⟩
  · obtain ⟨its, rv, p', hz⟩ := I1.tuple hq
    exact wpAny_pyIter_tuple (show s1.heap.IsTuple a its.toArray from p') ⟨s1.heap.objs.size, [s1.heap.objs.size], _, _, H1, rfl, J, turn_tuple a _, ⟨_, Heap.get?_push_size _ rfl, rfl, rfl⟩, fun b hb => near hb, q⟩
end
section
variable {K : PySem.W.Frag} {a : Addr} {xs : List V}
theorem walk_enumT : Walk (Itu K a) xs.length (fun H => SqT K H a xs) (YPair (fun i => some (.int (i : Nat))) (fun i => xs[i]?)) :=
  ⟨fun i _ hi q => ⟨xs, xs[i], q, List.getElem?_eq_getElem hi⟩, fun _ q => ⟨xs, q, Nat.le_refl _⟩, fun i H v H' _ q ⟨T, x, h1, h2, h3, h4⟩ => ⟨T, .int (i : Nat), x, h1, h2, h3, rfl, h4 xs q⟩⟩
end
end Bk

namespace Bk
open PySem PySem.Spec PyProof.Rows L2
/-! ## 13. defs that refuse -/
/-- what a refusal is: a new own exception of the class at C, v its only field -/
def Refuse (C : Addr) (v : V) (H : Hp) (E : XK) : Prop := ∀ d H', H d = none → Same H H' → H' d = some (.xd [("found", v)]) → E (.ref C) (some d) H'
theorem Refuse.same {C : Addr} {v : V} {H H' : Hp} {E : XK} (r : Refuse C v H E) (s : Same H H') (n : ∀ d, H' d = none → H d = none) : Refuse C v H' E := fun d H2 hd s2 e => r d H2 (n d hd) (s.trans s2) e
def noE : XK := fun _ _ _ => False
structure CalX (P : Program) (w : World) (K : PySem.W.Frag) (mg : Str → Option Value) (base : Heap) (k : Nat) (x : Str) (sp : Sp) : Prop where
  ex : ∃ (f : Addr) (fd : FuncData) (ps : List Str), mg x = some (.ref f) ∧ PySem.W.keepIn K (.ref f) = true ∧ FnOk P w K mg base (L2.CX P w) k f fd ps sp ∧ Binds K fd ps []
theorem CalX.mk' {P : Program} {w : World} {K : PySem.W.Frag} {mg : Str → Option Value} {base : Heap} {k : Nat} {x : Str} {sp : Sp} {f : Addr} {fd : FuncData} {ps : List Str} (g : mg x = some (.ref f)) (kp : PySem.W.keepIn K (.ref f) = true) (F : FnOk P w K mg base (L2.CX P w) k f fd ps sp) (b : Binds K fd ps []) :
    CalX P w K mg base k x sp := ⟨f, fd, ps, g, kp, F, b⟩
/-- with keywords alone -/
structure CalNX (P : Program) (w : World) (K : PySem.W.Frag) (mg : Str → Option Value) (base : Heap) (k : Nat) (ks : List Str) (x : Str) (sp : Sp) (gV : List V → List V → List V) : Prop where
  ex : ∃ (f : Addr) (fd : FuncData) (ps : List Str) (g : List Value → List Value → List Value), mg x = some (.ref f) ∧ PySem.W.keepIn K (.ref f) = true ∧ FnOk P w K mg base (L2.CX P w) k f fd ps sp ∧ KBn K fd ps 0 ks g gV
theorem CalNX.mk' {P : Program} {w : World} {K : PySem.W.Frag} {mg : Str → Option Value} {base : Heap} {k : Nat} {ks : List Str} {x : Str} {sp : Sp} {gV : List V → List V → List V} {f : Addr} {fd : FuncData} {ps : List Str} {g : List Value → List Value → List Value} (a : mg x = some (.ref f)) (kp : PySem.W.keepIn K (.ref f) = true)
    (F : FnOk P w K mg base (L2.CX P w) k f fd ps sp) (b : KBn K fd ps 0 ks g gV) : CalNX P w K mg base k ks x sp gV := ⟨f, fd, ps, g, a, kp, F, b⟩
section
variable {X : Cx} {k j : Nat} {ks : List Str} {sp : Sp} {x : Str} {p pos : Pos} {e : Expr} {es : List Expr} {kws : List Keyword} {t tk : TA} {W : WX} {gV : List V → List V → List V}
/-- in a def that may let it out itself -/
theorem pe_calX {E : XK} (c : CalX X.prog X.w X.K X.mg X.base k x sp) (hr : Room j X.A) (hk : k ≤ j) (hg : Gl X x) (tk : Takes X (fun cls d _ H => E cls d H)) (ha : PA X (e :: es) t)
    (hdb : (x == ("__debug__" : Str)) = false := by decide) (he : starEach (e :: es) X.env = (false, eval e X.env) :: starEach es X.env := by rfl) (hpl : (backTo pos (starEach es X.env)).any (·.1) = false := by rfl) :
    PE X (.Call (.Name x p) (e :: es) [] pos) (tCall sp [] E t) := by
  obtain ⟨f, fd, ps, h1, h2, h3, h4⟩ := c.ex
  exact pe_call h3 (hr.mono hk) hg h1 h2 h4 .nil (passes_call tk fun _ _ _ _ h => h) ha hdb he hpl
theorem pass_no : Passes (L2.CX X.prog X.w) X noE := fun _ _ _ _ _ _ _ z => by
  obtain ⟨_, _, _, _, _, _, _, _, _, _, _, _, q⟩ := z
  exact q.elim
/-- where it is not refused -/
theorem pe_calY (c : CalX X.prog X.w X.K X.mg X.base k x sp) (hr : Room j X.A) (hk : k ≤ j) (hg : Gl X x) (ha : PA X (e :: es) t)
    (hdb : (x == ("__debug__" : Str)) = false := by decide) (he : starEach (e :: es) X.env = (false, eval e X.env) :: starEach es X.env := by rfl) (hpl : (backTo pos (starEach es X.env)).any (·.1) = false := by rfl) :
    PE X (.Call (.Name x p) (e :: es) [] pos) (tCall sp [] noE t) := by
  obtain ⟨f, fd, ps, h1, h2, h3, h4⟩ := c.ex
  exact pe_call h3 (hr.mono hk) hg h1 h2 h4 .nil pass_no ha hdb he hpl
theorem pe_calNY (c : CalNX X.prog X.w X.K X.mg X.base k ks x sp gV) (hr : Room j X.A) (hk : k ≤ j) (hg : Gl X x) (hkw : PK X kws tk)
    (hall : (backToKw pos (keywordEach kws X.env)).all (·.1.isSome) = true := by rfl) (hks : (backToKw pos (keywordEach kws X.env)).filterMap (·.1) = ks := by rfl)
    (hdb : (x == ("__debug__" : Str)) = false := by decide)
    (hpl : ((backTo pos (starEach [] X.env)).any (·.1) || (backToKw pos (keywordEach kws X.env)).any (·.1.isNone)) = false := by rfl) :
    PE X (.Call (.Name x p) [] kws pos) (tCallN 0 ks.length sp gV noE tNil tk) := by
  obtain ⟨f, fd, ps, g, h1, h2, h3, h4⟩ := c.ex
  exact pe_callN0 h3 (hr.mono hk) hg h1 h2 h4 pass_no hkw hall hks hdb hpl
/-- in a try -/
theorem pe_calT (c : CalX X.prog X.w X.K X.mg X.base k x sp) (hr : Room j X.A) (hk : k ≤ j) (hg : Gl X x) (tk : Takes X W) (ha : PA X (e :: es) t)
    (hdb : (x == ("__debug__" : Str)) = false := by decide) (he : starEach (e :: es) X.env = (false, eval e X.env) :: starEach es X.env := by rfl) (hpl : (backTo pos (starEach es X.env)).any (·.1) = false := by rfl) :
    PE X (.Call (.Name x p) (e :: es) [] pos) (tCallS sp (WE W) t) := by
  obtain ⟨f, fd, ps, h1, h2, h3, h4⟩ := c.ex
  exact pe_callS h3 (hr.mono hk) hg h1 h2 h4 (passAt tk) ha hdb he hpl
end
section
variable {K : PySem.W.Frag} {σ : L2.St} {H : Hp} {Q : VK} {D : Ends} {l : List ClA} {q : ClA} {cls : Value} {d : Option Addr}
theorem r_callS {sp : Sp} {E : L2.St → XK} {t : TA} (z : t σ H fun vs H1 => sp vs H1 Q (E σ)) : tCallS sp E t σ H Q := z
theorem r_try {tb : WX → TS} (z : tb (wAM K D l) D σ H) : (fun D τ G => tb (wAM K D l) D τ G) D σ H := z
theorem w_hit (h : PySem.W.exmOne K cls q.1 = some true) (z : ∀ a, H a = none → q.2.2 a cls d (offI q.2.1 D) (σ.set q.2.1 (some (.ref a))) H) : wAM K D (q :: l) cls d σ H := ⟨true, h, fun _ => z, fun y => absurd y.symm Bool.false_ne_true⟩
theorem w_miss (h : PySem.W.exmOne K cls q.1 = some false) (z : wAM K D l cls d σ H) : wAM K D (q :: l) cls d σ H := ⟨false, h, fun y => absurd y Bool.false_ne_true, fun _ => z⟩
theorem r_raise {t : L2.St → Hp → XK → Prop} {W : WX} (z : t σ H fun cls d H' => W cls d σ H') : (fun (_ : Ends) (τ : L2.St) (G : Hp) => t τ G fun cls d G' => W cls d τ G') D σ H := z
/-- raise C(v), C's own __init__ being this -/
def spInit (C : Addr) : Sp := fun vs H Q _ => ∃ (a : Addr) (x : V), vs = [.ref a, x] ∧ H a = some (exo a C none) ∧ ∀ dx, H dx = none → dx ≠ a → Q .non (upd (upd H dx (exd dx [("found", x)])) a (exo a C (some dx)))
theorem r_mkO {C : Addr} {v : V} {E : XK} (z : Refuse C v H E) : [v].length ≤ 1000 ∧ ∀ a, H a = none → spInit C (.ref a :: ([v] ++ [])) (upd H a (exo a C none))
    (fun u H2 => u = .non ∧ ∃ (d : Addr) (fs : List (Str × V)), H2 a = some (exo a C (some d)) ∧ H2 d = some (exd d fs) ∧ H d = none ∧ E (.ref C) (some d) (upd (del H2 a) d (.xd fs))) (fun _ _ _ => False) := by
  refine ⟨Nat.le_of_ble_eq_true rfl, fun a ha => ⟨a, v, rfl, upd_same, fun dx hd ne => ⟨rfl, dx, [("found", v)], upd_same, ?_, ?_, ?_⟩⟩⟩
  · rw [upd_ne ne, upd_same]
  · rw [upd_ne ne] at hd
    exact hd
  · rw [upd_ne ne] at hd
    refine z dx _ hd (fun b o e => ?_) upd_same
    have h1 : b ≠ a := ne_of_none e ha
    have h2 : b ≠ dx := ne_of_none e hd
    rw [upd_ne h2]
    show del _ a b = some o
    unfold del
    rw [if_neg h1, upd_ne h1, upd_ne h2, upd_ne h1]
    exact e
end
/-! ## 14. isinstance of several classes -/
def rIs2 (K : PySem.W.Frag) : List V → Hp → VK → Prop := fun xs H Q => rIsi K xs H Q ∨ rIsiT K xs H Q
theorem call_is2 {X : Cx} : CallR X (.builtin "isinstance") (rIs2 X.K) := CallR.or call_isi call_isiT
def IsB (K : PySem.W.Frag) (H : Hp) (x : V) (T U : String) (b : Bool) : Prop := ∃ t, TyX K H x t ∧ PySem.W.kitAny K t [.type T, .type U] = some b
theorem kit2 {K : PySem.W.Frag} {t : Value} {T U : String} {a b : Bool} (h : PySem.W.kitOne K t (.type T) = some a) (h2 : PySem.W.kitOne K t (.type U) = some b) : PySem.W.kitAny K t [.type T, .type U] = some (a || b) := by
  cases a with
  | true => exact kitAny_cons h (fun z => nomatch z) (fun _ => rfl)
  | false => exact kitAny_cons h (fun _ => by cases b with
      | true => exact kitAny_cons h2 (fun z => nomatch z) (fun _ => rfl)
      | false => exact kitAny_cons h2 (fun _ => kitAny_nil) (fun z => nomatch z)) (fun z => nomatch z)
section
variable {K : PySem.W.Frag} {H H' : Hp} {x : V} {T U : String} {b c : Bool} {Q : VK} {tp : Addr}
theorem r_is2 (h : IsB K H x T U b) (e : H tp = some (.tup [.ty T, .ty U])) (q : Q (.bl b) H) : rIs2 K [x, .ref tp] H Q := by
  obtain ⟨t, h1, h2⟩ := h
  exact .inr ⟨x, tp, [.ty T, .ty U], t, [.type T, .type U], b, rfl, e, .cons (.ty T) (.cons (.ty U) .nil), h1, h2, q⟩
theorem r_is1 (h : ∃ t, TyX K H x t ∧ PySem.W.kitOne K t (.type T) = some b) (q : Q (.bl b) H) : rIs2 K [x, .ty T] H Q := by
  obtain ⟨t, h1, h2⟩ := h
  exact .inl ⟨x, .ty T, t, .type T, b, rfl, .ty T, h1, h2, q⟩
end
/-! ## 15. a comprehension, by what each turn gives -/
section
variable {J : It} {n : Nat} {G : Hp → Prop} {Y : Nat → Hp → V → Hp → Prop} {g : TG} {tt : TT} {te : TE} {vs : List Nat} {σ : L2.St} {H : Hp} {D : Addr} {Q : VK}
theorem lc_by (w : Walk J n G Y) (p : Nat → Option V) (hD : H D = none) (hn : n ≤ 10000) (hG : ∀ H', Same H H' → G H')
    (hs : ∀ i x H1 H2 (Q' : VK) (R' : Hp → Prop), i < n → Same H H1 → Y i H1 x H2 → (∀ v, p i = some v → ∀ H3, Same H1 H3 → Q' v H3) → (p i = none → ∀ H3, Same H1 H3 → R' H3) →
      g x (wipe σ vs) H2 fun τ H3 => wipe τ vs = wipe σ vs ∧ tt τ H3 fun b H4 => if b = true then te τ H4 Q' else R' H4)
    (q : ∀ H', Same H H' → H' D = some (.lst ((List.range n).filterMap p)) → Q (.ref D) H') :
    ∃ W : Nat → Nat → Hp → Prop, (∃ m, W 0 m (upd H D (.lst []))) ∧ ∀ i m H, W i m H →
      (J.stop i H ∧ Q (.ref D) H) ∨ (J.go i H ∧ ∃ Nx : Hp → Prop, (∀ H', Nx H' → ∃ m', m' < m ∧ W (i + 1) m' H') ∧ ∀ x H', J.yld i H x H' → g x (wipe σ vs) H' fun σ2 H2 => wipe σ2 vs = wipe σ vs ∧ tt σ2 H2 fun b H3 =>
        if b = true then te σ2 H3 fun y H4 => ∃ acc, H4 D = some (.lst acc) ∧ acc.length < sizeLine ∧ Nx (upd H4 D (.lst (acc ++ [y]))) else Nx H3) := by
  refine lc_it w (fun i G => Same H G ∧ G D = some (.lst ((List.range i).filterMap p))) ⟨same_upd hD, by rw [upd_same]; rfl⟩ (fun i G _ z => hG G z.1) (fun i x H1 H2 hi ⟨sm, e⟩ y => ?_) fun G z => q G z.1 z.2
  refine hs i x H1 H2 _ _ hi sm y (fun v hv H3 s3 => ⟨_, s3 _ _ e, ?_, sameBut (sm.trans s3) hD, ?_⟩) fun hv H3 s3 => ⟨sm.trans s3, ?_⟩
  · have l := List.length_filterMap_le p (List.range i)
    rw [List.length_range] at l
    exact Nat.lt_of_le_of_lt (Nat.le_trans l (Nat.le_trans (Nat.le_of_lt hi) hn)) (by decide)
  · rw [upd_same, List.range_succ, List.filterMap_append]
    simp only [List.filterMap_cons, List.filterMap_nil, hv]
  · rw [s3 _ _ e, List.range_succ, List.filterMap_append]
    simp only [List.filterMap_cons, List.filterMap_nil, hv, List.append_nil]
end
end Bk

namespace Bk
open PySem PySem.Spec PyProof.Rows L2
/-! ## 8. binding with keywords -/
theorem vals_rev : ∀ {zs : List V} {ws : List Value}, Vals zs ws → Vals zs.reverse ws.reverse
  | _, _, .nil => .nil
  | _, _, .cons r t => by
    rw [List.reverse_cons, List.reverse_cons]
    exact (vals_rev t).append (.cons r .nil)
section
variable {K : PySem.W.Frag} {x qual : Str} {params : Arguments} {body : List Stmt} {scope : Scope} {kws : List (Str × V)} {f : Addr} {fd : FuncData} {ps : List Str}
theorem kbinds0 (F : FunD K x qual params body scope [] kws f fd) (n : Nat) (ks : List Str) (ms : List (Str × V)) (g : {α : Type} → List α → List α → List α → List α) (hk : kws ≠ []) (hms : ∀ q ∈ ms, q ∈ kws)
    (hrel : ∀ {vs mz zs : List V} {us mv ws : List Value}, Vals vs us → Vals mz mv → Vals zs ws → Vals (g vs mz zs) (g us mv ws))
    (h : ∀ (D : Addr) (doc pm : Value) (an : Option Addr) (cdv ct : Value) (us mv ws : List Value), us.length = n → mv.length = ms.length → ws.length = ks.length →
      KwChain D ((ms.map (·.1)).zip mv) (bindArgs (PySem.W.fnOf x qual params body scope .none (.ref D) doc pm an cdv ct) ⟨us, ks.zip ws⟩) (ps.zip (g us mv ws))) :
    ∃ mv : List Value, KBn K fd ps n ks (fun us ws => g us mv ws) (fun vs zs => g vs (ms.map (·.2)) zs) := by
  obtain ⟨oc, od, dV, kV, doc, pm, an, cdv, ct, osl, rfl, lk, hcd, hD, hK⟩ := F.ex
  rcases hD with ⟨_, rfl⟩ | ⟨e, _⟩
  · rcases hK with e | ⟨D, rfl, hq⟩
    · exact absurd e hk
    · obtain ⟨mv, hl, rk, hks⟩ := kwd_vals (ms := ms) fun q hm => hq q (hms q hm)
      refine ⟨mv, ⟨fun s us ws X l1 l2 => ?_, fun r1 r2 => hrel r1 rk r2⟩⟩
      exact BindsTo.of_looks fun M => KwChain.looks X hks (h D doc pm an cdv ct us mv ws l1 hl l2)
  · exact absurd rfl e
/-- keywords alone or beside values, no defaults -/
theorem kbPlain {st : Stmt} {f : Addr} {fd : FuncData} (F : Fun K x qual st f fd) (n : Nat) (ks : List Str) (g : {α : Type} → List α → List α → List α)
    (hrel : ∀ {vs zs : List V} {us ws : List Value}, Vals vs us → Vals zs ws → Vals (g vs zs) (g us ws))
    (h : ∀ (kV doc pm : Value) (an : Option Addr) (cdv ct : Value) (us ws : List Value), us.length = n → ws.length = ks.length → bindArgs (PySem.W.fnOf x qual (defArgs st) (defBody st) (defScope st) .none kV doc pm an cdv ct) ⟨us, ks.zip ws⟩ = pure (ps.zip (g us ws))) :
    KBn K fd ps n ks (fun us ws => g us ws) (fun vs zs => g vs zs) := by
  obtain ⟨oc, od, kV, doc, pm, an, cdv, ct, osl, rfl, lk, hcd⟩ := F.ex
  exact ⟨fun s us ws X l1 l2 => .of_eq (h kV doc pm an cdv ct us ws l1 l2), fun r1 r2 => hrel r1 r2⟩
end
theorem kit_sub {K : PySem.W.Frag} {C : Addr} {T : String} {b : Bool} (hm : PySem.W.kitMeta T = true) (h : PySem.W.subIn K (.ref C) (.type T) = some b) : PySem.W.kitOne K (.ref C) (.type T) = some b := by
  unfold PySem.W.kitOne PySem.W.kitCls
  rw [if_neg (fun z => by cases (beq_iff_eq.mp z))]
  show (if PySem.W.kitMeta T = true then PySem.W.subIn K (.ref C) (.type T) else none) = some b
  rw [if_pos hm]
  exact h
theorem CalN.mk' {P : Program} {w : World} {K : PySem.W.Frag} {mg : Str → Option Value} {base : Heap} {CX : CXT} {k n : Nat} {ks : List Str} {x : Str} {sp : Sp} {gV : List V → List V → List V} {f : Addr} {fd : FuncData} {ps : List Str} {g : List Value → List Value → List Value} (a : mg x = some (.ref f)) (kp : PySem.W.keepIn K (.ref f) = true) (F : FnOk P w K mg base CX k f fd ps sp) (b : KBn K fd ps n ks g gV) :
    CalN P w K mg base CX k n ks x sp gV := ⟨f, fd, ps, g, a, kp, F, b⟩
/-! ### within a comprehension: K by name -/
theorem call_isK {X : Cx} {K : PySem.W.Frag} (h : X.K = K) : CallR X (.builtin "isinstance") (rIs K) := by
  subst h
  exact call_is
theorem pg_tupK {X : Cx} {K : PySem.W.Frag} {es : List Expr} {k : Nat} {t : TGs} {n : Nat} {pos : Pos} (e : X.K = K) (hc : X.calm = true) (h : PGs X es t) (hn : (assignEach es X.env).length = n := by rfl) (hst : (assignEach es X.env).findIdx? (·.1) = none := by rfl) :
    PG X (.Tuple es k pos) (gTup K n t) := by
  subst e
  exact pg_tup hc h hn hst
theorem butSame {p : Addr} {H H1 H2 : Hp} (s : Same H H1) (n : H p = none) (b : But p H1 H2) : Same H H2 := fun c o e => b c o (ne_of_none e n) (s c o e)
end Bk

open PySem PySem.Spec PyProof.Rows L2 Bk
local macro_rules | `(tactic| walk_at "go1") => `(tactic| with_reducible first
  | refine r_seq ?_ | refine r_asg ?_ | refine r_name ?_ | refine r_if ?_ | refine r_ret ?_ | refine r_next ?_ | refine r_drop ?_
  | refine r_op ?_ | refine r_un ?_ | refine r_c ?_ | refine r_I0 ?_ | refine r_U ?_ | refine r_nil ?_ | refine r_cons ?_ | refine r_call ?_ | refine r_callN ?_ | refine r_for ?_ | refine r_iList ?_ | refine r_iTup ?_ | refine r_iRng1 ?_ | refine r_iRng2 ?_ | refine r_mkV ?_ | refine r_dnewK ?_ | refine r_cb ?_
  | refine r_test ?_ | refine r_tB ?_ | refine r_isb ?_ | refine r_isv ?_ | refine r_not ?_ | refine r_and ?_ | refine r_or ?_ | refine r_andV ?_ | refine r_orV ?_ | refine r_notV ?_ | refine r_chain ?_ | refine r_ifE ?_
  | refine r_lst ?_ | refine r_tup ?_ | refine r_gSub ?_ | refine r_bm ?_
  | (apply r_var; focus (with_unfolding_all rfl))
  | refine iteT ?_ | refine iteF ?_ | refine iteNF ?_ | refine iteNT ?_ | refine r_m1 ?_ | refine r_sl ?_ | refine r_noPart ?_ | refine r_part ?_ | refine r_isi ?_
  | (refine r_eq ?_ ?_; focus (with_unfolding_all (first | rfl | decide))) | (refine r_ne ?_ ?_; focus (with_unfolding_all (first | rfl | decide))))
local macro_rules | `(tactic| walk_at "go") => `(tactic| repeat (walk_at "go1"))
namespace K03
open PySem PySem.Spec PyProof.Rows L2 Bk


def topS (i : Nat) : Stmt := PySem.Challenge.pw_guestsalone_k03_sums_and_bits.main.body.getD i (.Pass ⟨0, 0, 0, 0⟩)
abbrev s_GuestError_init : Stmt := inClass (topS 1) 0
abbrev s_Missing_init : Stmt := inClass (topS 2) 0
abbrev s_Barred_init : Stmt := inClass (topS 3) 0
abbrev s_NoWord_init : Stmt := inClass (topS 4) 0
abbrev s_NoBits_init : Stmt := inClass (topS 5) 0
abbrev s_Nought_init : Stmt := inClass (topS 6) 0
abbrev s_is_whole : Stmt := topS 9
abbrev s_is_word : Stmt := topS 10
abbrev s_check_word : Stmt := topS 12
abbrev s_sum_of : Stmt := topS 15
abbrev s_difference : Stmt := topS 16
abbrev s_divided : Stmt := topS 17
abbrev s_bits_of : Stmt := topS 18
abbrev s_word_of_bits : Stmt := topS 19
abbrev s_check_words : Stmt := topS 20
abbrev s_cell_L : Stmt := topS 22
abbrev s_box_L : Stmt := topS 23
abbrev s_take_L : Stmt := topS 24
abbrev s_caught_L : Stmt := topS 25
abbrev s_same_L : Stmt := topS 26
abbrev s_word_L : Stmt := topS 27
abbrev s_bad_L : Stmt := topS 28
abbrev s_sums_right_L : Stmt := topS 29
abbrev s_named_L : Stmt := topS 30
abbrev s_bits_right_L : Stmt := topS 31
abbrev s_truths_right_L : Stmt := topS 32
abbrev s_refused_right_L : Stmt := topS 33
abbrev s_law : Stmt := topS 34
theorem sc_GuestError_init : FnScope ["self", "text"] ["self", "text"] (defScope s_GuestError_init) := ⟨rfl, rfl, rfl, by decide +kernel, rfl, by decide +kernel, by decide +kernel⟩
theorem sc_Missing_init : FnScope ["self", "text"] ["self", "text"] (defScope s_Missing_init) := ⟨rfl, rfl, rfl, by decide +kernel, rfl, by decide +kernel, by decide +kernel⟩
theorem sc_Barred_init : FnScope ["self", "text"] ["self", "text"] (defScope s_Barred_init) := ⟨rfl, rfl, rfl, by decide +kernel, rfl, by decide +kernel, by decide +kernel⟩
theorem sc_NoWord_init : FnScope ["self", "found"] ["self", "found"] (defScope s_NoWord_init) := ⟨rfl, rfl, rfl, by decide +kernel, rfl, by decide +kernel, by decide +kernel⟩
theorem sc_NoBits_init : FnScope ["self", "found"] ["self", "found"] (defScope s_NoBits_init) := ⟨rfl, rfl, rfl, by decide +kernel, rfl, by decide +kernel, by decide +kernel⟩
theorem sc_Nought_init : FnScope ["self", "found"] ["self", "found"] (defScope s_Nought_init) := ⟨rfl, rfl, rfl, by decide +kernel, rfl, by decide +kernel, by decide +kernel⟩
theorem sc_is_whole : FnScope ["thing", "low", "high"] ["thing", "low", "high"] (defScope s_is_whole) := ⟨rfl, rfl, rfl, by decide +kernel, rfl, by decide +kernel, by decide +kernel⟩
theorem sc_is_word : FnScope ["thing"] ["thing"] (defScope s_is_word) := ⟨rfl, rfl, rfl, by decide +kernel, rfl, by decide +kernel, by decide +kernel⟩
theorem sc_check_word : FnScope ["thing"] ["thing"] (defScope s_check_word) := ⟨rfl, rfl, rfl, by decide +kernel, rfl, by decide +kernel, by decide +kernel⟩
theorem sc_sum_of : FnScope ["one", "other"] ["one", "other"] (defScope s_sum_of) := ⟨rfl, rfl, rfl, by decide +kernel, rfl, by decide +kernel, by decide +kernel⟩
theorem sc_difference : FnScope ["one", "other"] ["one", "other"] (defScope s_difference) := ⟨rfl, rfl, rfl, by decide +kernel, rfl, by decide +kernel, by decide +kernel⟩
theorem sc_divided : FnScope ["one", "other"] ["one", "other"] (defScope s_divided) := ⟨rfl, rfl, rfl, by decide +kernel, rfl, by decide +kernel, by decide +kernel⟩
theorem sc_bits_of : FnScope ["word", "place"] ["word"] (defScope s_bits_of) := ⟨rfl, rfl, rfl, by decide +kernel, rfl, by decide +kernel, by decide +kernel⟩
theorem sc_word_of_bits : FnScope ["bits", "place", "bit"] ["bits"] (defScope s_word_of_bits) := ⟨rfl, rfl, rfl, by decide +kernel, rfl, by decide +kernel, by decide +kernel⟩
theorem sc_check_words : FnScope ["one", "other"] ["one", "other"] (defScope s_check_words) := ⟨rfl, rfl, rfl, by decide +kernel, rfl, by decide +kernel, by decide +kernel⟩
theorem sc_cell_L : FnScope ["_law_script", "_law_k"] ["_law_script", "_law_k"] (defScope s_cell_L) := ⟨rfl, rfl, rfl, by decide +kernel, rfl, by decide +kernel, by decide +kernel⟩
theorem sc_box_L : FnScope ["_law_cell_here"] ["_law_cell_here"] (defScope s_box_L) := ⟨rfl, rfl, rfl, by decide +kernel, rfl, by decide +kernel, by decide +kernel⟩
theorem sc_take_L : FnScope ["_law_box_here", "_law_size", "_law_digit", "_law_left", "_law_two"] ["_law_box_here", "_law_size"] (defScope s_take_L) := ⟨rfl, rfl, rfl, by decide +kernel, rfl, by decide +kernel, by decide +kernel⟩
theorem sc_caught_L : FnScope ["_law_way", "_law_left", "_law_right", "e"] ["_law_way", "_law_left", "_law_right"] (defScope s_caught_L) := ⟨rfl, rfl, rfl, by decide +kernel, rfl, by decide +kernel, by decide +kernel⟩
theorem sc_same_L : FnScope ["_law_caught_here", "_law_value", "_law_thing"] ["_law_caught_here", "_law_value", "_law_thing"] (defScope s_same_L) := ⟨rfl, rfl, rfl, by decide +kernel, rfl, by decide +kernel, by decide +kernel⟩
theorem sc_word_L : FnScope ["_law_box_here"] ["_law_box_here"] (defScope s_word_L) := ⟨rfl, rfl, rfl, by decide +kernel, rfl, by decide +kernel, by decide +kernel⟩
theorem sc_bad_L : FnScope ["_law_box_here", "_law_some"] ["_law_box_here"] (defScope s_bad_L) := ⟨rfl, rfl, rfl, by decide +kernel, rfl, by decide +kernel, by decide +kernel⟩
theorem sc_sums_right_L : FnScope ["_law_left", "_law_right", "_law_total", "_law_less", "_law_due", "_law_told", "_law_part"] ["_law_left", "_law_right"] (defScope s_sums_right_L) := ⟨rfl, rfl, rfl, by decide +kernel, rfl, by decide +kernel, by decide +kernel⟩
theorem sc_named_L : FnScope ["_law_left", "_law_right", "_law_told"] ["_law_left", "_law_right"] (defScope s_named_L) := ⟨rfl, rfl, rfl, by decide +kernel, rfl, by decide +kernel, by decide +kernel⟩
theorem sc_bits_right_L : FnScope ["_law_value", "_law_due", "_law_left", "_law_place", "_law_turn", "_law_told"] ["_law_value"] (defScope s_bits_right_L) := ⟨rfl, rfl, rfl, by decide +kernel, rfl, by decide +kernel, by decide +kernel⟩
theorem sc_truths_right_L : FnScope ["_law_box_here", "_law_place", "_law_truths", "_law_value", "_law_bit", "_law_kept", "_law_bad_here", "_law_rows", "_law_row", "_law_odd"] ["_law_box_here"] (defScope s_truths_right_L) := ⟨rfl, rfl, rfl, by decide +kernel, rfl, by decide +kernel, by decide +kernel⟩
theorem sc_refused_right_L : FnScope ["_law_box_here", "_law_way", "_law_bad_here", "_law_right", "_law_value"] ["_law_box_here", "_law_way"] (defScope s_refused_right_L) := ⟨rfl, rfl, rfl, by decide +kernel, rfl, by decide +kernel, by decide +kernel⟩
theorem sc_law : FnScope ["_law_script", "_law_k", "_law_box_here", "_law_turn", "_law_left", "_law_right", "_law_pair", "_law_way"] ["_law_script"] (defScope s_law) := ⟨rfl, rfl, rfl, by decide +kernel, rfl, by decide +kernel, by decide +kernel⟩
structure Exc (K : PySem.W.Frag) (C f : Addr) : Prop where
  ox : OexC K C
  i : PySem.W.findIn K (.ref C) "__init__" = some (some (.ref f))
  t : PySem.W.typeIn K (.ref f) = some (.type "function")
  nf : PySem.W.findIn K (.ref C) "found" = some none
  xf : XfC K C
structure Txt (K : PySem.W.Frag) (mg : Str → Option Value) (CG CW CB CN fG fW fB fN : Addr) : Prop where
  m_isinstance : mg "isinstance" = none
  m_int : mg "int" = none
  m_bool : mg "bool" = none
  m_list : mg "list" = none
  m_tuple : mg "tuple" = none
  m_len : mg "len" = none
  m_all : mg "all" = none
  m_max : mg "max" = none
  m_min : mg "min" = none
  m_range : mg "range" = none
  m_enumerate : mg "enumerate" = none
  m_reversed : mg "reversed" = none
  m_sum : mg "sum" = none
  m_repr : mg "repr" = none
  m_ValueError : mg "ValueError" = none
  c_MOST : ∃ u, mg "MOST" = some u ∧ RelV (.int 4095) u
  c_BITS : ∃ u, mg "BITS" = some u ∧ RelV (.int 12) u
  g_GuestError : mg "GuestError" = some (.ref CG)
  rd_GuestError : PySem.W.readsIn K CG (.type "type") = true
  ga_GuestError : PySem.W.specialIn K (.ref CG) "__getattribute__" = some (some (.builtin "type.__getattribute__"))
  at_GuestError : PySem.W.findCls K (.ref CG) (.type "type") "__init__" = some (.val (.ref fG))
  vV : PySem.W.findCls K (.type "ValueError") (.type "type") "__init__" = some (.val (.builtin "ValueError.__init__"))
  g_NoWord : mg "NoWord" = some (.ref CW)
  g_NoBits : mg "NoBits" = some (.ref CB)
  g_Nought : mg "Nought" = some (.ref CN)
  xW : Exc K CW fW
  xB : Exc K CB fB
  xN : Exc K CN fN
  eWW : PySem.W.exmOne K (.ref CW) (.ref CW) = some true
  eNW : PySem.W.exmOne K (.ref CN) (.ref CW) = some false
  eNN : PySem.W.exmOne K (.ref CN) (.ref CN) = some true
  eBW : PySem.W.exmOne K (.ref CB) (.ref CW) = some false
  eBN : PySem.W.exmOne K (.ref CB) (.ref CN) = some false
  eBB : PySem.W.exmOne K (.ref CB) (.ref CB) = some true
section
variable {K : PySem.W.Frag} {mg : Str → Option Value} {CG CW CB CN fG fW fB fN : Addr}
theorem Txt.ox_NoWord (T : Txt K mg CG CW CB CN fG fW fB fN) : OexC K CW := T.xW.ox
theorem Txt.i_NoWord (T : Txt K mg CG CW CB CN fG fW fB fN) : PySem.W.findIn K (.ref CW) "__init__" = some (some (.ref fW)) := T.xW.i
theorem Txt.t_NoWord (T : Txt K mg CG CW CB CN fG fW fB fN) : PySem.W.typeIn K (.ref fW) = some (.type "function") := T.xW.t
theorem Txt.nf_NoWord (T : Txt K mg CG CW CB CN fG fW fB fN) : PySem.W.findIn K (.ref CW) "found" = some none := T.xW.nf
theorem Txt.xf_NoWord (T : Txt K mg CG CW CB CN fG fW fB fN) : XfC K CW := T.xW.xf
theorem Txt.ox_NoBits (T : Txt K mg CG CW CB CN fG fW fB fN) : OexC K CB := T.xB.ox
theorem Txt.i_NoBits (T : Txt K mg CG CW CB CN fG fW fB fN) : PySem.W.findIn K (.ref CB) "__init__" = some (some (.ref fB)) := T.xB.i
theorem Txt.t_NoBits (T : Txt K mg CG CW CB CN fG fW fB fN) : PySem.W.typeIn K (.ref fB) = some (.type "function") := T.xB.t
theorem Txt.nf_NoBits (T : Txt K mg CG CW CB CN fG fW fB fN) : PySem.W.findIn K (.ref CB) "found" = some none := T.xB.nf
theorem Txt.xf_NoBits (T : Txt K mg CG CW CB CN fG fW fB fN) : XfC K CB := T.xB.xf
theorem Txt.ox_Nought (T : Txt K mg CG CW CB CN fG fW fB fN) : OexC K CN := T.xN.ox
theorem Txt.i_Nought (T : Txt K mg CG CW CB CN fG fW fB fN) : PySem.W.findIn K (.ref CN) "__init__" = some (some (.ref fN)) := T.xN.i
theorem Txt.t_Nought (T : Txt K mg CG CW CB CN fG fW fB fN) : PySem.W.typeIn K (.ref fN) = some (.type "function") := T.xN.t
theorem Txt.nf_Nought (T : Txt K mg CG CW CB CN fG fW fB fN) : PySem.W.findIn K (.ref CN) "found" = some none := T.xN.nf
theorem Txt.xf_Nought (T : Txt K mg CG CW CB CN fG fW fB fN) : XfC K CN := T.xN.xf
end
/-! ### what each def keeps -/
def spGE (K : PySem.W.Frag) : Sp := fun vs H Q _ => ∃ (a C : Addr) (x : V), vs = [.ref a, x] ∧ OexC K C ∧ H a = some (exo a C none) ∧ Q .non H
def wholeV (x : V) (lo hi : Int) : Bool := match x with
  | .int i => decide (lo ≤ i) && decide (i ≤ hi)
  | _ => false
/-- a thing of which isinstance(.., int) is known -/
def WD (K : PySem.W.Frag) (H : Hp) (x : V) : Prop := (∃ i, x = .int i) ∨ (∃ b, x = .bl b) ∨ (IsA K H x "int" false ∧ ∀ l h, wholeV x l h = false)
def spWhole (K : PySem.W.Frag) : Sp := fun vs H Q _ => ∃ (x : V) (lo hi : Int), vs = [x, .int lo, .int hi] ∧ WD K H x ∧ Q (.bl (wholeV x lo hi)) H
def wd (x : V) : Bool := wholeV x 0 4095
def spIsWord (K : PySem.W.Frag) : Sp := fun vs H Q _ => ∃ x : V, vs = [x] ∧ WD K H x ∧ Q (.bl (wd x)) H
def spCheck (K : PySem.W.Frag) (CW : Addr) : Sp := fun vs H Q E => ∃ x : V, vs = [x] ∧ WD K H x ∧ ((wd x = true ∧ Q .non H) ∨ (wd x = false ∧ Refuse CW x H E))
/-- two words, or which of two things is refused -/
def Two (K : PySem.W.Frag) (CW : Addr) (x y : V) (H : Hp) (E : XK) (A : Int → Int → Prop) : Prop := WD K H x ∧ ((wd x = false ∧ Refuse CW x H E) ∨ (∃ i, x = .int i ∧ 0 ≤ i ∧ i ≤ 4095 ∧ WD K H y ∧ ((wd y = false ∧ Refuse CW y H E) ∨ ∃ j, y = .int j ∧ 0 ≤ j ∧ j ≤ 4095 ∧ A i j)))
def spChecks (K : PySem.W.Frag) (CW : Addr) : Sp := fun vs H Q E => ∃ x y : V, vs = [x, y] ∧ Two K CW x y H E fun _ _ => Q .non H
def spSum (K : PySem.W.Frag) (CW : Addr) : Sp := fun vs H Q E => ∃ x y : V, vs = [x, y] ∧ Two K CW x y H E fun i j => Q (.int ((i + j) % 4096)) H
def spDif (K : PySem.W.Frag) (CW : Addr) : Sp := fun vs H Q E => ∃ x y : V, vs = [x, y] ∧ Two K CW x y H E fun i j => Q (.int ((i - j) % 4096)) H
def spDiv (K : PySem.W.Frag) (CW CN : Addr) : Sp := fun vs H Q E => ∃ x y : V, vs = [x, y] ∧ Two K CW x y H E fun i j => (j = 0 ∧ Refuse CN x H E) ∨ (0 < j ∧ ∀ p H', H p = none → Same H H' → H' p = some (.tup [.int (i / j), .int (i % j)]) → Q (.ref p) H')
theorem wd_int {i : Int} (h0 : 0 ≤ i) (h1 : i ≤ 4095) : wd (.int i) = true := by
  show (decide (0 ≤ i) && decide (i ≤ 4095)) = true
  rw [decide_eq_true h0, decide_eq_true h1]
  rfl
section
variable {P : Program} {w : World} {K : PySem.W.Frag} {mg : Str → Option Value} {base : Heap} {CG CW CB CN fG fW fB fN : Addr}
theorem ok_GE {f : Addr} {fd : FuncData} (F : Fun K "__init__" "GuestError.__init__" s_GuestError_init f fd) (T : Txt K mg CG CW CB CN fG fW fB fN) : FnOk P w K mg base CX0 1 f fd ["self", "text"] (spGE K) := by
  refine F.ok sc_GuestError_init (fun vs H Q E h => ?_) (fun cdv A outer s H vs Q E hr h => ⟨_, (pss_one (ps_expr (pe_veinit (by rfl) T.m_ValueError T.vV (pa_cons (pv 0) (pa_cons (pv 1) pa_nil))))), ?_⟩)
  · obtain ⟨a, C, x, rfl, _⟩ := h
    rfl
  · obtain ⟨a, C, x, rfl, hC, e, q⟩ := h
    exact ⟨_, rfl, _, rfl, a, C, [x], rfl, Nat.le_of_ble_eq_true rfl, hC, e, q⟩
theorem ok_NW {f : Addr} {fd fdG : FuncData} (F : Fun K "__init__" "NoWord.__init__" s_NoWord_init f fd) (T : Txt K mg CG CW CB CN fG fW fB fN) (c_GuestError_init : Own P w K mg base CX0 1 fG fdG ["self", "text"] (spGE K)) : FnOk P w K mg base CX0 2 f fd ["self", "found"] (spInit CW) := by
  refine F.ok sc_NoWord_init (fun vs H Q E h => ?_) (fun cdv A outer s H vs Q E hr h => ⟨_, (pss_cons (ps_expr (pe_cdef c_GuestError_init.ok hr (by rfl) T.g_GuestError T.rd_GuestError T.ga_GuestError T.at_GuestError c_GuestError_init.kp c_GuestError_init.bd .nil pass0 (pa_cons (pv 0) (pa_cons pe_str pa_nil))))
    (pss_one (ps_ost (pv 0) (pv 1)))), ?_⟩)
  · obtain ⟨a, x, rfl, _⟩ := h
    rfl
  · obtain ⟨a, x, rfl, e, q⟩ := h
    walk_at "go"
    refine ⟨a, CW, _, rfl, T.ox_NoWord, e, ?_⟩
    exact ⟨x, rfl, .ref a, rfl, a, CW, rfl, T.ox_NoWord, T.nf_NoWord, .inl ⟨e, q⟩⟩
theorem ok_NB {f : Addr} {fd fdG : FuncData} (F : Fun K "__init__" "NoBits.__init__" s_NoBits_init f fd) (T : Txt K mg CG CW CB CN fG fW fB fN) (c_GuestError_init : Own P w K mg base CX0 1 fG fdG ["self", "text"] (spGE K)) : FnOk P w K mg base CX0 2 f fd ["self", "found"] (spInit CB) := by
  refine F.ok sc_NoBits_init (fun vs H Q E h => ?_) (fun cdv A outer s H vs Q E hr h => ⟨_, (pss_cons (ps_expr (pe_cdef c_GuestError_init.ok hr (by rfl) T.g_GuestError T.rd_GuestError T.ga_GuestError T.at_GuestError c_GuestError_init.kp c_GuestError_init.bd .nil pass0 (pa_cons (pv 0) (pa_cons pe_str pa_nil))))
    (pss_one (ps_ost (pv 0) (pv 1)))), ?_⟩)
  · obtain ⟨a, x, rfl, _⟩ := h
    rfl
  · obtain ⟨a, x, rfl, e, q⟩ := h
    walk_at "go"
    refine ⟨a, CB, _, rfl, T.ox_NoBits, e, ?_⟩
    exact ⟨x, rfl, .ref a, rfl, a, CB, rfl, T.ox_NoBits, T.nf_NoBits, .inl ⟨e, q⟩⟩
theorem ok_NN {f : Addr} {fd fdG : FuncData} (F : Fun K "__init__" "Nought.__init__" s_Nought_init f fd) (T : Txt K mg CG CW CB CN fG fW fB fN) (c_GuestError_init : Own P w K mg base CX0 1 fG fdG ["self", "text"] (spGE K)) : FnOk P w K mg base CX0 2 f fd ["self", "found"] (spInit CN) := by
  refine F.ok sc_Nought_init (fun vs H Q E h => ?_) (fun cdv A outer s H vs Q E hr h => ⟨_, (pss_cons (ps_expr (pe_cdef c_GuestError_init.ok hr (by rfl) T.g_GuestError T.rd_GuestError T.ga_GuestError T.at_GuestError c_GuestError_init.kp c_GuestError_init.bd .nil pass0 (pa_cons (pv 0) (pa_cons pe_str pa_nil))))
    (pss_one (ps_ost (pv 0) (pv 1)))), ?_⟩)
  · obtain ⟨a, x, rfl, _⟩ := h
    rfl
  · obtain ⟨a, x, rfl, e, q⟩ := h
    walk_at "go"
    refine ⟨a, CN, _, rfl, T.ox_Nought, e, ?_⟩
    exact ⟨x, rfl, .ref a, rfl, a, CN, rfl, T.ox_Nought, T.nf_Nought, .inl ⟨e, q⟩⟩
theorem ok_whole {f : Addr} {fd : FuncData} (F : Fun K "is_whole" "is_whole" s_is_whole f fd) (T : Txt K mg CG CW CB CN fG fW fB fN) : FnOk P w K mg base CX0 1 f fd ["thing", "low", "high"] (spWhole K) := by
  refine F.ok sc_is_whole (fun vs H Q E h => ?_) (fun cdv A outer s H vs Q E hr h => ⟨_, (pss_one (ps_ret (pe_and (pe_callB call_is (by rfl) T.m_isinstance (by decide +kernel) (pa_cons (pv 0) (pa_cons (pe_bltn (v := .ty "int") (by rfl) T.m_int (by decide +kernel) rfl) pa_nil))) (pe_and (pe_not (pe_callB call_is (by rfl) T.m_isinstance (by decide +kernel) (pa_cons (pv 0) (pa_cons (pe_bltn (v := .ty "bool") (by rfl) T.m_bool (by decide +kernel) rfl) pa_nil)))) (pe_one (pe_chain op_le op_le (pv 1) (pv 0) (pv 2))))))), ?_⟩)
  · obtain ⟨x, lo, hi, rfl, _⟩ := h
    rfl
  · obtain ⟨x, lo, hi, rfl, hx, q⟩ := h
    walk_at "go"
    rcases hx with ⟨i, rfl⟩ | ⟨b, rfl⟩ | ⟨hx, hn⟩
    · refine r_is (isa_int (b := true)) ?_
      walk_at "go"
      refine r_is (isa_int (b := false)) ?_
      have q : Q (.bl (decide (lo ≤ i) && decide (i ≤ hi))) H := q
      walk_at "go"
      refine ite2 (fun e => ?_) (fun e => ?_)
      · walk_at "go"
        rw [e, Bool.true_and] at q
        exact q
      · rw [Bool.eq_false_iff.mpr e, Bool.false_and] at q
        exact q
    · refine r_is (isa_bl (b := true)) ?_
      walk_at "go"
      refine r_is (isa_bl (b := true)) ?_
      walk_at "go"
      exact q
    · refine r_is hx ?_
      walk_at "go"
      rw [hn] at q
      exact q
theorem ok_isword {f : Addr} {fd : FuncData} (F : Fun K "is_word" "is_word" s_is_word f fd) (T : Txt K mg CG CW CB CN fG fW fB fN) (c_is_whole : CalD P w K mg base CX0 1 "is_whole" (spWhole K) []) : FnOk P w K mg base CX0 2 f fd ["thing"] (spIsWord K) := by
  refine F.ok sc_is_word (fun vs H Q E h => ?_) (fun cdv A outer s H vs Q E hr h => ⟨_, (pss_one (ps_ret (pe_cal c_is_whole hr (by decide) (by rfl) (pa_cons (pv 0) (pa_cons pe_int (pa_cons (C8.pe_gc (by rfl) T.c_MOST) pa_nil)))))), ?_⟩)
  · obtain ⟨x, rfl, _⟩ := h
    rfl
  · obtain ⟨x, rfl, hx, q⟩ := h
    walk_at "go"
    exact ⟨x, 0, 4095, rfl, hx, q⟩
theorem ok_check {f : Addr} {fd fdW : FuncData} (F : Fun K "check_word" "check_word" s_check_word f fd) (T : Txt K mg CG CW CB CN fG fW fB fN) (c_is_word : CalD P w K mg base CX0 2 "is_word" (spIsWord K) [])
    (c_NoWord_init : Own P w K mg base CX0 2 fW fdW ["self", "found"] (spInit CW)) : FnOk P w K mg base (L2.CX P w) 4 f fd ["thing"] (spCheck K CW) := by
  refine F.okX sc_check_word (fun vs H Q E h => ?_) (fun cdv A outer s H vs Q E hr h => ⟨_, (pss_one (ps_if (pt_not (pt_val (pe_cal c_is_word hr (by decide) (by rfl) (pa_cons (pv 0) pa_nil)))) (pss_one (ps_raise rfl (takes_of rfl rfl rfl rfl) (pmk_oex T.ox_NoWord T.i_NoWord T.t_NoWord c_NoWord_init.ok (hr.mono (by decide)) c_NoWord_init.bd .nil pass0 (by rfl) T.g_NoWord (pa_cons (pv 0) pa_nil)))) pss_nil)), ?_⟩)
  · obtain ⟨x, rfl, _⟩ := h
    rfl
  · obtain ⟨x, rfl, hx, q⟩ := h
    walk_at "go"
    refine ⟨x, rfl, hx, ?_⟩
    walk_at "go"
    rcases q with ⟨e, q⟩ | ⟨e, q⟩
    · rw [e]
      walk_at "go"
      exact q
    · rw [e]
      walk_at "go"
      exact ⟨x, rfl, r_mkO q⟩
theorem ok_checks {f : Addr} {fd : FuncData} (F : Fun K "_check_words" "_check_words" s_check_words f fd) (T : Txt K mg CG CW CB CN fG fW fB fN) (c_check_word : CalX P w K mg base 4 "check_word" (spCheck K CW)) : FnOk P w K mg base (L2.CX P w) 5 f fd ["one", "other"] (spChecks K CW) := by
  refine F.okX sc_check_words (fun vs H Q E h => ?_) (fun cdv A outer s H vs Q E hr h => ⟨_, (pss_cons (ps_expr (pe_calX c_check_word hr (by decide) (by rfl) (takes_of rfl rfl rfl rfl) (pa_cons (pv 0) pa_nil)))
    (pss_one (ps_expr (pe_calX c_check_word hr (by decide) (by rfl) (takes_of rfl rfl rfl rfl) (pa_cons (pv 1) pa_nil))))), ?_⟩)
  · obtain ⟨x, y, rfl, _⟩ := h
    rfl
  · obtain ⟨x, y, rfl, hx, q⟩ := h
    walk_at "go"
    refine ⟨x, rfl, hx, ?_⟩
    rcases q with q | ⟨i, rfl, i0, i1, hy, q⟩
    · exact .inr q
    · refine .inl ⟨wd_int i0 i1, ?_⟩
      walk_at "go"
      refine ⟨y, rfl, hy, ?_⟩
      rcases q with q | ⟨j, rfl, j0, j1, q⟩
      · exact .inr q
      · exact .inl ⟨wd_int j0 j1, q⟩
theorem ok_sum {f : Addr} {fd : FuncData} (F : Fun K "sum_of" "sum_of" s_sum_of f fd) (T : Txt K mg CG CW CB CN fG fW fB fN) (c_check_words : CalX P w K mg base 5 "_check_words" (spChecks K CW)) : FnOk P w K mg base (L2.CX P w) 6 f fd ["one", "other"] (spSum K CW) := by
  refine F.okX sc_sum_of (fun vs H Q E h => ?_) (fun cdv A outer s H vs Q E hr h => ⟨_, (pss_cons (ps_expr (pe_calX c_check_words hr (by decide) (by rfl) (takes_of rfl rfl rfl rfl) (pa_cons (pv 0) (pa_cons (pv 1) pa_nil))))
    (pss_one (ps_ret (pe_op op_mod (pe_op op_add (pv 0) (pv 1)) (pe_op op_add (C8.pe_gc (by rfl) T.c_MOST) pe_int))))), ?_⟩)
  · obtain ⟨x, y, rfl, _⟩ := h
    rfl
  · obtain ⟨x, y, rfl, hx, q⟩ := h
    walk_at "go"
    refine ⟨x, y, rfl, hx, ?_⟩
    rcases q with q | ⟨i, rfl, i0, i1, hy, q⟩
    · exact .inl q
    · refine .inr ⟨i, rfl, i0, i1, hy, ?_⟩
      rcases q with q | ⟨j, rfl, j0, j1, q⟩
      · exact .inl q
      · refine .inr ⟨j, rfl, j0, j1, ?_⟩
        walk_at "go"
        exact r_I (by decide) q
theorem ok_dif {f : Addr} {fd : FuncData} (F : Fun K "difference" "difference" s_difference f fd) (T : Txt K mg CG CW CB CN fG fW fB fN) (c_check_words : CalX P w K mg base 5 "_check_words" (spChecks K CW)) : FnOk P w K mg base (L2.CX P w) 6 f fd ["one", "other"] (spDif K CW) := by
  refine F.okX sc_difference (fun vs H Q E h => ?_) (fun cdv A outer s H vs Q E hr h => ⟨_, (pss_cons (ps_expr (pe_calX c_check_words hr (by decide) (by rfl) (takes_of rfl rfl rfl rfl) (pa_cons (pv 0) (pa_cons (pv 1) pa_nil))))
    (pss_one (ps_ret (pe_op op_mod (pe_op op_sub (pv 0) (pv 1)) (pe_op op_add (C8.pe_gc (by rfl) T.c_MOST) pe_int))))), ?_⟩)
  · obtain ⟨x, y, rfl, _⟩ := h
    rfl
  · obtain ⟨x, y, rfl, hx, q⟩ := h
    walk_at "go"
    refine ⟨x, y, rfl, hx, ?_⟩
    rcases q with q | ⟨i, rfl, i0, i1, hy, q⟩
    · exact .inl q
    · refine .inr ⟨i, rfl, i0, i1, hy, ?_⟩
      rcases q with q | ⟨j, rfl, j0, j1, q⟩
      · exact .inl q
      · refine .inr ⟨j, rfl, j0, j1, ?_⟩
        walk_at "go"
        exact r_I (by decide) q
theorem ok_div {f : Addr} {fd fdN : FuncData} (F : Fun K "divided" "divided" s_divided f fd) (T : Txt K mg CG CW CB CN fG fW fB fN) (c_check_words : CalX P w K mg base 5 "_check_words" (spChecks K CW))
    (c_Nought_init : Own P w K mg base CX0 2 fN fdN ["self", "found"] (spInit CN)) : FnOk P w K mg base (L2.CX P w) 6 f fd ["one", "other"] (spDiv K CW CN) := by
  refine F.okX sc_divided (fun vs H Q E h => ?_) (fun cdv A outer s H vs Q E hr h => ⟨_, (pss_cons (ps_expr (pe_calX c_check_words hr (by decide) (by rfl) (takes_of rfl rfl rfl rfl) (pa_cons (pv 0) (pa_cons (pv 1) pa_nil))))
    (pss_cons (ps_if (pt_cmpR op_eq (pv 1) pe_int (nomark _)) (pss_one (ps_raise rfl (takes_of rfl rfl rfl rfl) (pmk_oex T.ox_Nought T.i_Nought T.t_Nought c_Nought_init.ok (hr.mono (by decide)) c_Nought_init.bd .nil pass0 (by rfl) T.g_Nought (pa_cons (pv 0) pa_nil)))) pss_nil)
    (pss_one (ps_ret (pe_tup (pa_cons (pe_op op_fdivW (pv 0) (pv 1)) (pa_cons (pe_op op_mod (pv 0) (pv 1)) pa_nil))))))), ?_⟩)
  · obtain ⟨x, y, rfl, _⟩ := h
    rfl
  · obtain ⟨x, y, rfl, hx, q⟩ := h
    walk_at "go"
    refine ⟨x, y, rfl, hx, ?_⟩
    rcases q with q | ⟨i, rfl, i0, i1, hy, q⟩
    · exact .inl q
    · refine .inr ⟨i, rfl, i0, i1, hy, ?_⟩
      rcases q with q | ⟨j, rfl, j0, j1, q⟩
      · exact .inl q
      · refine .inr ⟨j, rfl, j0, j1, ?_⟩
        walk_at "go"
        rcases q with ⟨rfl, q⟩ | ⟨jp, q⟩
        · refine iteD rfl ?_
          exact ⟨_, rfl, r_mkO q⟩
        · refine iteDn (fun z => by injection z with z; omega) ?_
          walk_at "go"
          refine r_I (cdiv jp (by omega)) ?_
          walk_at "go"
          refine r_I jp ?_
          walk_at "go"
          exact newT fun p H' np sm e => q p H' np sm e
end
end K03

namespace Bk
open PySem PySem.Spec PyProof.Rows L2
theorem seqT {K : PySem.W.Frag} {H H' : Hp} {a : Addr} {xs : List V} (s : Same H H') (h : SqT K H a xs) : SqT K H' a xs := by
  rcases h with (h | ⟨o, h⟩) | h
  · exact .inl (.inl (s _ _ h))
  · exact .inl (.inr ⟨o, s _ _ h⟩)
  · exact .inr h
theorem Refuse.on {C : Addr} {v : V} {H H' : Hp} {E : XK} (r : Refuse C v H E) (s : Same H H') : Refuse C v H' E := fun d H2 hd s2 e => r d H2 (s.free hd) (s.trans s2) e
section
variable {K : PySem.W.Frag} {H : Hp} {a : Addr} {T U : String} {b c : Bool}
theorem isb_lst {xs : List V} (e : H a = some (.lst xs)) (h : kitB "list" T = some b := by decide +kernel) (h2 : kitB "list" U = some c := by decide +kernel) : IsB K H (.ref a) T U (b || c) := ⟨.type "list", .base (.lst e), kit2 (kit_ty h) (kit_ty h2)⟩
theorem isb_tup {xs : List V} (e : H a = some (.tup xs)) (h : kitB "tuple" T = some b := by decide +kernel) (h2 : kitB "tuple" U = some c := by decide +kernel) : IsB K H (.ref a) T U (b || c) := ⟨.type "tuple", .base (.tup e), kit2 (kit_ty h) (kit_ty h2)⟩
theorem isb_dK {kvs : List (Key × V)} (e : H a = some (.dK kvs)) (h : kitB "dict" T = some b := by decide +kernel) (h2 : kitB "dict" U = some c := by decide +kernel) : IsB K H (.ref a) T U (b || c) := ⟨.type "dict", .base (.dK e), kit2 (kit_ty h) (kit_ty h2)⟩
theorem isb_int {i : Int} (h : kitB "int" T = some b := by decide +kernel) (h2 : kitB "int" U = some c := by decide +kernel) : IsB K H (.int i) T U (b || c) := ⟨.type "int", .base (.int i), kit2 (kit_ty h) (kit_ty h2)⟩
theorem isb_bl {k : Bool} (h : kitB "bool" T = some b := by decide +kernel) (h2 : kitB "bool" U = some c := by decide +kernel) : IsB K H (.bl k) T U (b || c) := ⟨.type "bool", .base (.bl k), kit2 (kit_ty h) (kit_ty h2)⟩
theorem isb_str {z : Str} (h : kitB "str" T = some b := by decide +kernel) (h2 : kitB "str" U = some c := by decide +kernel) : IsB K H (.str z) T U (b || c) := ⟨.type "str", .base (.str z), kit2 (kit_ty h) (kit_ty h2)⟩
theorem isb_non (h : kitB "NoneType" T = some b := by decide +kernel) (h2 : kitB "NoneType" U = some c := by decide +kernel) : IsB K H .non T U (b || c) := ⟨.type "NoneType", .base .non, kit2 (kit_ty h) (kit_ty h2)⟩
end
theorem r_yes {σ : L2.St} {H : Hp} {te : TE} {Q : VK} {R : Hp → Prop} (q : te σ H Q) : tYes σ H (fun b H4 => if b = true then te σ H4 Q else R H4) := by
  show if true = true then te σ H Q else R H
  exact iteT q
section
variable {K : PySem.W.Frag} {σ : L2.St} {H : Hp} {Q : VK} {i0 j j1 j2 : Nat} {vs : List Nat} {a : Addr} {xs : List V} {te : TE} {tt : TT}
/-- over a list or a tuple -/
theorem lcA (p : Nat → V) (hv : σ[i0]? = some (some (.ref a))) (hs : SqL K H a xs ∨ SqT K H a xs) (hl : xs.length ≤ 10000) (hw : ∀ x, wipe ((wipe σ vs).set j (some x)) vs = wipe σ vs)
    (ht : ∀ (i : Nat) (y : V) (H' : Hp) (Q' : VK), xs[i]? = some y → Same H H' → (∀ H2, Same H' H2 → Q' (p i) H2) → te ((wipe σ vs).set j (some y)) H' Q')
    (q : ∀ D H', H D = none → Same H H' → H' D = some (.lst ((List.range xs.length).map p)) → Q (.ref D) H') : tLc (iSeqA K (tVar i0)) (gName j) tYes te vs σ H Q := by
  have go : ∀ {J : It} {G : Hp → Prop}, Walk J xs.length G (YAt xs) → (∀ H', Same H H' → G H') → ∀ D, H D = none → _ := fun {J G} wk hG D hD =>
    lc_by (g := gName j) (tt := tYes) (te := te) (vs := vs) (σ := σ) (Q := Q) wk (fun i => some (p i)) hD hl hG (fun i y H1 H2 Q' R' hi sm ⟨e, hy⟩ h1 _ => ⟨hw _, by
      subst e
      exact r_yes (ht i y H2 Q' hy sm (h1 _ rfl))⟩) fun H' sm e => q D H' hD sm (by
      rw [e]
      show some (HO.lst (List.filterMap (some ∘ p) _)) = _
      rw [List.filterMap_eq_map])
  refine ⟨_, hv, a, xs, rfl, ?_⟩
  rcases hs with hs | hs
  · exact .inl ⟨hs, go walk_list fun H' sm => sm.seq hs⟩
  · exact .inr ⟨hs, go walk_tup fun H' sm => seqT sm hs⟩
/-- enumerate of a list or a tuple, some left out -/
theorem lcE (p : Nat → V → Option V) (hv : σ[i0]? = some (some (.ref a))) (hs : SqL K H a xs ∨ SqT K H a xs) (hl : xs.length ≤ 10000) (hw : ∀ x y, wipe (((wipe σ vs).set j1 (some x)).set j2 (some y)) vs = wipe σ vs)
    (ht : ∀ (i : Nat) (y : V) (H' : Hp) (Q' : VK) (R' : Hp → Prop), xs[i]? = some y → Same H H' → (∀ v, p i y = some v → ∀ H2, Same H' H2 → Q' v H2) → (p i y = none → ∀ H2, Same H' H2 → R' H2) →
      tt (((wipe σ vs).set j1 (some (.int i))).set j2 (some y)) H' fun b H4 => if b = true then te (((wipe σ vs).set j1 (some (.int i))).set j2 (some y)) H4 Q' else R' H4)
    (q : ∀ D H', H D = none → Same H H' → H' D = some (.lst ((List.range xs.length).filterMap fun i => xs[i]?.bind (p i))) → Q (.ref D) H') :
    tLc (iEnumA K (tCons (tVar i0) tNil)) (gTup K 2 (gCons (gName j1) (gCons (gName j2) gNil))) tt te vs σ H Q := by
  have go : ∀ {J : It} {G : Hp → Prop}, Walk J xs.length G (YPair (fun i => some (.int (i : Nat))) (fun i => xs[i]?)) → (∀ H', Same H H' → G H') → ∀ D, H D = none → _ := fun {J G} wk hG D hD =>
    lc_by (g := gTup K 2 (gCons (gName j1) (gCons (gName j2) gNil))) (tt := tt) (te := te) (vs := vs) (σ := σ) (Q := Q) wk (fun i => xs[i]?.bind (p i)) hD hl hG (fun i v H1 H2 Q' R' hi sm ⟨Tn, x, y, e1, nT, e2, hx, hy⟩ h1 h2 => by
      subst e1 e2
      injection hx with hx
      subst hx
      have sT := same_upd (o := .tup [.int (i : Nat), y]) nT
      have ey : xs[i]?.bind (p i) = p i y := by
        rw [show xs[i]? = some y from hy]
        rfl
      refine ⟨Tn, _, rfl, sqT upd_same, rfl, .int i, _, rfl, y, _, rfl, rfl, hw _ _, ?_⟩
      exact ht i y _ Q' R' hy (sm.trans sT) (fun v hv H3 s3 => h1 v (by rw [ey]; exact hv) H3 (sT.trans s3)) fun hn H3 s3 => h2 (by rw [ey]; exact hn) H3 (sT.trans s3)) fun H' sm e => q D H' hD sm e
  refine ⟨_, hv, a, xs, rfl, ?_⟩
  rcases hs with hs | hs
  · exact .inl ⟨hs, go walk_enum fun H' sm => sm.seq hs⟩
  · exact .inr ⟨hs, go walk_enumT fun H' sm => seqT sm hs⟩
end
theorem map_getD {α : Type} (f : V → α) (d : V) (xs : List V) : (List.range xs.length).map (fun i => f (xs.getD i d)) = xs.map f := by
  refine List.ext_getElem (by simp) fun i h1 h2 => ?_
  simp only [List.getElem_map, List.getElem_range]
  have h : i < xs.length := by simpa using h1
  rw [List.getD_eq_getElem?_getD, List.getElem?_eq_getElem h]
  rfl
end Bk
namespace K03
open PySem PySem.Spec PyProof.Rows L2 Bk


def bitsB (i : Int) : List Bool := (List.range 12).map fun k => decide (i / 2 ^ k % 2 = 1)
def isB (y : V) : Bool := match y with
  | .bl _ => true
  | _ => false
def numsB (bs : List Bool) : List Int := (List.range 12).filterMap fun i => if bs.getD i false = true then some (2 ^ i) else none
def valB (bs : List Bool) : Int := (numsB bs).sum
def spBits (K : PySem.W.Frag) (CW : Addr) : Sp := fun vs H Q E => ∃ x : V, vs = [x] ∧ WD K H x ∧ ((wd x = false ∧ Refuse CW x H E) ∨ ∃ i, x = .int i ∧ 0 ≤ i ∧ i ≤ 4095 ∧ ∀ p H', H p = none → Same H H' → H' p = some (.lst ((bitsB i).map V.bl)) → Q (.ref p) H')
def spWob (K : PySem.W.Frag) (CB : Addr) : Sp := fun vs H Q E => ∃ x : V, vs = [x] ∧ (((∀ H', Same H H' → IsB K H' x "list" "tuple" false) ∧ Refuse CB x H E) ∨
  ∃ a xs, x = .ref a ∧ (∀ H', Same H H' → IsB K H' x "list" "tuple" true) ∧ (SqL K H a xs ∨ SqT K H a xs) ∧ xs.length ≤ 1000 ∧ (∀ H', Same H H' → ∀ y ∈ xs, IsA K H' y "bool" (isB y)) ∧
    ((¬ (xs.length = 12 ∧ xs.all isB = true) ∧ Refuse CB x H E) ∨ ∃ bs : List Bool, xs = bs.map V.bl ∧ bs.length = 12 ∧ ∀ H', Same H H' → Q (.int (valB bs)) H'))
section
variable {P : Program} {w : World} {K : PySem.W.Frag} {mg : Str → Option Value} {base : Heap} {CG CW CB CN fG fW fB fN : Addr}
theorem ok_bits {f : Addr} {fd : FuncData} (F : Fun K "bits_of" "bits_of" s_bits_of f fd) (T : Txt K mg CG CW CB CN fG fW fB fN) (c_check_word : CalX P w K mg base 4 "check_word" (spCheck K CW)) : FnOk P w K mg base (L2.CX P w) 5 f fd ["word"] (spBits K CW) := by
  refine F.okX sc_bits_of (fun vs H Q E h => ?_) (fun cdv A outer s H vs Q E hr h => ⟨_, (pss_cons (ps_expr (pe_calX c_check_word hr (by decide) (by rfl) (takes_of rfl rfl rfl rfl) (pa_cons (pv 0) pa_nil)))
    (pss_one (ps_ret (pe_lc (own := [("place", 1)]) rfl sc_bits_of.nd (pi_range1 (by rfl) T.m_range (pa_cons (C8.pe_gc (by rfl) T.c_BITS) pa_nil)) (blkOk_by (N := ["word", "place"]) (sc := defScope s_bits_of) (by decide +kernel)) (fun _ _ _ _ _ => (pg_name (i := 1) sc_bits_of.nd rfl (.inl rfl))) (fun _ _ _ _ _ => pts_nil) (fun _ _ _ _ _ => (pe_cmpR op_eq (pe_op op_mod (pe_op op_shrN (pv 0) (pv 1)) pe_int) pe_int (nomark _))))))), ?_⟩)
  · obtain ⟨x, rfl, _⟩ := h
    rfl
  · obtain ⟨x, rfl, hx, q⟩ := h
    walk_at "go"
    refine ⟨x, rfl, hx, ?_⟩
    rcases q with q | ⟨i, rfl, i0, i1, q⟩
    · exact .inr q
    · refine .inl ⟨wd_int i0 i1, ?_⟩
      walk_at "go"
      refine ⟨12, rfl, by decide, by decide, fun D hD => lc_by walk_range (fun k => some (.bl (decide (i / 2 ^ k % 2 = 1)))) hD (by decide) (fun _ _ => trivial) (fun k x H1 H2 Q' R' hk sm y h1 _ => ?_) fun H' sm e => q D H' hD sm ?_⟩
      · obtain ⟨rfl, rfl⟩ := y
        walk_at "go"
        refine ⟨rfl, ?_⟩
        refine r_yes ?_
        refine r_op (r_op (r_op (r_var rfl (r_var rfl ⟨i, k, rfl, by show V.int (0 + (k : Int)) = V.int k; rw [Int.zero_add], ?_⟩))))
        walk_at "go"
        refine r_I (by decide) ?_
        walk_at "go"
        have z := h1 _ rfl H2 (Same.refl _)
        rw [show decide (V.int (i / 2 ^ k % 2) = V.int 1) = decide (i / 2 ^ k % 2 = 1) by simp]
        exact z
      · rw [e]
        unfold bitsB
        rw [List.map_map]
        congr 2
theorem all_isB {bs : List Bool} : (bs.map V.bl).all isB = true := by
  rw [List.all_map]
  exact List.all_eq_true.mpr fun _ _ => rfl
theorem ok_wob {f : Addr} {fd fdB : FuncData} (F : Fun K "word_of_bits" "word_of_bits" s_word_of_bits f fd) (T : Txt K mg CG CW CB CN fG fW fB fN) (c_NoBits_init : Own P w K mg base CX0 2 fB fdB ["self", "found"] (spInit CB)) :
    FnOk P w K mg base (L2.CX P w) 4 f fd ["bits"] (spWob K CB) := by
  refine F.okX sc_word_of_bits (fun vs H Q E h => ?_) (fun cdv A outer s H vs Q E hr h => ⟨_, (pss_cons (ps_if (PW.pt (pw_or (pt_not (pt_val (pe_callB call_is2 (by rfl) T.m_isinstance (by decide +kernel) (pa_cons (pv 0) (pa_cons (pe_tup (pa_cons (pe_bltn (v := .ty "list") (by rfl) T.m_list (by decide +kernel) rfl) (pa_cons (pe_bltn (v := .ty "tuple") (by rfl) T.m_tuple (by decide +kernel) rfl) pa_nil))) pa_nil))))) (pw_or1 (pt_cmpR op_ne (pe_callB call_len_seq (by rfl) T.m_len (by decide +kernel) (pa_cons (pv 0) pa_nil)) (C8.pe_gc (by rfl) T.c_BITS) (nomark _))))) (pss_one (ps_raise rfl (takes_of rfl rfl rfl rfl) (pmk_oex T.ox_NoBits T.i_NoBits T.t_NoBits c_NoBits_init.ok (hr.mono (by decide)) c_NoBits_init.bd .nil pass0 (by rfl) T.g_NoBits (pa_cons (pv 0) pa_nil)))) pss_nil)
    (pss_cons (ps_if (pt_not (pt_val (pe_callB (cr_all rfl) (by rfl) T.m_all (by decide +kernel) (pa_cons (pe_lc (own := [("bit", 2)]) rfl sc_word_of_bits.nd (pi_seqA (pv 0)) (blkOk_by (N := ["bits", "place", "bit"]) (sc := defScope s_word_of_bits) (by decide +kernel)) (fun _ _ _ _ _ => (pg_name (i := 2) sc_word_of_bits.nd rfl (.inl rfl))) (fun _ _ _ _ _ => pts_nil) (fun _ _ _ _ _ => (pe_callB (call_isK (K := K) rfl) (by rfl) T.m_isinstance (by decide +kernel) (pa_cons (pv 2) (pa_cons (pe_bltn (v := .ty "bool") (by rfl) T.m_bool (by decide +kernel) rfl) pa_nil))))) pa_nil)))) (pss_one (ps_raise rfl (takes_of rfl rfl rfl rfl) (pmk_oex T.ox_NoBits T.i_NoBits T.t_NoBits c_NoBits_init.ok (hr.mono (by decide)) c_NoBits_init.bd .nil pass0 (by rfl) T.g_NoBits (pa_cons (pv 0) pa_nil)))) pss_nil)
    (pss_one (ps_ret (pe_callB (cr_sum rfl) (by rfl) T.m_sum (by decide +kernel) (pa_cons (pe_lc (own := [("place", 1), ("bit", 2)]) rfl sc_word_of_bits.nd (pi_enumA (by rfl) T.m_enumerate (pa_cons (pv 0) pa_nil)) (blkOk_by (N := ["bits", "place", "bit"]) (sc := defScope s_word_of_bits) (by decide +kernel)) (fun _ _ _ _ _ => (pg_tupK (K := K) (n := 2) rfl rfl (pgs_cons (pg_name (i := 1) sc_word_of_bits.nd rfl (.inl rfl)) (pgs_cons (pg_name (i := 2) sc_word_of_bits.nd rfl (.inl rfl)) pgs_nil)))) (fun _ _ _ _ _ => pts_one (pt_val (pv 2))) (fun _ _ _ _ _ => (pe_op op_oneShl pe_int (pv 1)))) pa_nil)))))), ?_⟩)
  · obtain ⟨x, rfl, _⟩ := h
    rfl
  · obtain ⟨x, rfl, hx⟩ := h
    walk_at "go"
    refine newT fun tp H1 ntp s1 e1 => ?_
    walk_at "go"
    rcases hx with ⟨hb, q⟩ | ⟨a, xs, rfl, hb, hs, hl, hi, q⟩
    · refine r_is2 (hb H1 s1) e1 ?_
      walk_at "go"
      exact ⟨_, rfl, r_mkO (q.on s1)⟩
    · have hs1 : SqL K H1 a xs ∨ SqT K H1 a xs := hs.imp (fun z => s1.seq z) (fun z => seqT s1 z)
      refine r_is2 (hb H1 s1) e1 ?_
      walk_at "go"
      refine ⟨a, xs, rfl, hs1, ?_⟩
      walk_at "go"
      refine iteNC (fun h12 => ?_) (fun h12 => ?_)
      · rcases q with ⟨_, q⟩ | ⟨bs, rfl, h, _⟩
        · exact ⟨_, rfl, r_mkO (q.on s1)⟩
        · refine absurd ?_ h12
          rw [List.length_map, h]
          rfl
      · have l12 : xs.length = 12 := by
          injection h12 with z
          omega
        walk_at "go"
        refine lcA (a := a) (xs := xs) (fun i => .bl (isB (xs.getD i .non))) rfl hs1 (by omega) (fun _ => rfl) (fun i y H' Q' hy sm k => ?_) fun D H2 nD s2 e2 => ?_
        · walk_at "go"
          have k' := k H' (Same.refl _)
          rw [List.getD_eq_getElem?_getD, hy] at k'
          exact r_is (hi H' (s1.trans sm) y (List.mem_of_getElem? hy)) k'
        have s12 := s1.trans s2
        rw [map_getD (fun y => V.bl (isB y))] at e2
        walk_at "go"
        refine ⟨D, xs.map isB, rfl, sqL (by rw [e2, List.map_map]; rfl), ?_⟩
        walk_at "go"
        rw [List.all_map, show (id ∘ isB) = isB from rfl]
        rcases q with ⟨hn, q⟩ | ⟨bs, rfl, lb, q⟩
        · rw [Bool.eq_false_iff.mpr fun z => hn ⟨l12, z⟩]
          walk_at "go"
          exact ⟨_, rfl, r_mkO (q.on s12)⟩
        · rw [all_isB]
          walk_at "go"
          have hs2 : SqL K H2 a (bs.map V.bl) ∨ SqT K H2 a (bs.map V.bl) := hs1.imp (fun z => s2.seq z) (fun z => seqT s2 z)
          refine lcE (a := a) (xs := bs.map V.bl) (fun i y => if y = .bl true then some (.int (2 ^ i)) else none) rfl hs2 (by omega) (fun _ _ => rfl) (fun i y H' Q' R' hy sm k1 k2 => ?_) fun D2 H3 nD2 s3 e3 => ?_
          · obtain ⟨b, rfl⟩ : ∃ b, y = .bl b := by
              rw [List.getElem?_map] at hy
              cases hb : bs[i]? with
              | none => rw [hb] at hy; exact nomatch hy
              | some b => rw [hb] at hy; exact ⟨b, (Option.some.inj hy).symm⟩
            have hi12 : i < 12 := by
              have z := (List.getElem?_eq_some_iff.mp hy).1
              omega
            walk_at "go"
            cases b with
            | false => exact iteF (k2 rfl H' (Same.refl _))
            | true =>
              refine iteT ?_
              refine r_op (r_c (r_var rfl ⟨i, rfl, rfl, by omega, ?_⟩))
              exact k1 _ rfl H' (Same.refl _)
          · walk_at "go"
            refine ⟨D2, numsB bs, rfl, sqL ?_, ?_⟩
            · rw [e3]
              unfold numsB
              rw [l12, List.map_filterMap]
              refine congrArg some (congrArg HO.lst (congrArg (fun f => List.filterMap f (List.range 12)) (funext fun i => ?_)))
              rw [List.getElem?_map, List.getD_eq_getElem?_getD]
              cases bs[i]? with
              | none => rfl
              | some b => cases b <;> rfl
            · exact q H3 (s12.trans s3)
end
end K03

namespace Bk
open PySem PySem.Spec PyProof.Rows L2
/-! ## 16. things whose text is short -/
mutual
def smallD : PyData → Bool
  | .none | .bool _ => true
  | .int i => decide (i.natAbs < 10 ^ 38)
  | .str x => x.cps.toList.all fun c => decide (c < 16 ^ 8)
  | .list xs | .tuple xs => smallL xs
  | .dict _ => false
def smallL : List PyData → Bool
  | [] => true
  | x :: xs => smallD x && smallL xs
end
mutual
theorem small_ok : ∀ d : PyData, smallD d = true → d.showable = true ∧ d.leavesShort 40 = true
  | .none, _ => ⟨rfl, rfl⟩
  | .bool _, _ => ⟨rfl, rfl⟩
  | .int i, h => by
    have h' : i.natAbs < 10 ^ 38 := by simpa only [smallD, decide_eq_true_eq] using h
    have l1 := int_text_length_le10 (k := 38) (by decide) h'
    refine ⟨?_, ?_⟩
    · simp only [PyData.showable, decide_eq_true_eq]
      by_cases z : i.natAbs = 0
      · rw [z]; decide
      · have z2 := (Nat.log2_lt z (k := 128)).mpr (Nat.lt_of_lt_of_le h' (by decide))
        omega
    · simp only [PyData.leavesShort]
      refine decide_eq_true ?_
      have e : (PyData.shown (.int i)).length = (toString i).length := by
        simp only [PyData.shown]
        exact PySem.ofString_length _
      omega
  | .str x, h => ⟨by simp only [PyData.showable], by simpa only [smallD, PyData.leavesShort] using h⟩
  | .list xs, h => by simpa only [PyData.showable, PyData.leavesShort] using small_okL xs (by simpa only [smallD] using h)
  | .tuple xs, h => by simpa only [PyData.showable, PyData.leavesShort] using small_okL xs (by simpa only [smallD] using h)
  | .dict _, h => by simp only [smallD] at h; exact nomatch h
theorem small_okL : ∀ xs : List PyData, smallL xs = true → PyData.showableAll xs = true ∧ PyData.leavesShortAll 40 xs = true
  | [], _ => ⟨rfl, rfl⟩
  | x :: xs, h => by
    have h' : smallD x = true ∧ smallL xs = true := by simpa only [smallL, Bool.and_eq_true] using h
    obtain ⟨a, b⟩ := small_ok x h'.1
    obtain ⟨c, d⟩ := small_okL xs h'.2
    exact ⟨by simp only [PyData.showableAll, a, c, Bool.and_true], by simp only [PyData.leavesShortAll, b, d, Bool.and_true]⟩
end
section
variable {K : PySem.W.Frag} {H H' : Hp} {v : V} {a : Addr} {xs : List V}
theorem shw_of {d : PyData} (h : Dp K H v d) (s : smallD d = true) (b : d.bulk ≤ 20000) (e : d.depth ≤ 60) : Shw K H v d.shown := by
  obtain ⟨h1, h2⟩ := small_ok d s
  have h3 := PyData.shown_le_bulk 40 (by decide) d h2
  exact .inl ⟨d, h, h1, by rw [sizeLine_eq]; omega, e, rfl⟩
theorem shw_dK (e : H a = some (.dK [])) : Shw K H (.ref a) "{}" := .inr ⟨a, rfl, e, rfl⟩
/-- a thing within a list -/
def Itm (K : PySem.W.Frag) (H : Hp) (v : V) : Prop := ∃ d, Dp K H v d ∧ smallD d = true ∧ d.bulk ≤ 100 ∧ d.depth ≤ 20
theorem itm_shw (h : Itm K H v) : ∃ z, Shw K H v z := let ⟨_, h1, h2, h3, h4⟩ := h; ⟨_, shw_of h1 h2 (by omega) (by omega)⟩
theorem itms : ∀ {xs : List V}, (∀ y ∈ xs, Itm K H y) → ∃ ds, DpAll K H xs ds ∧ smallL ds = true ∧ PyData.bulkAll ds ≤ 101 * xs.length ∧ PyData.depthAll ds ≤ 20
  | [], _ => ⟨[], .nil, rfl, Nat.le_refl _, Nat.zero_le _⟩
  | y :: ys, h => by
    obtain ⟨d, h1, h2, h3, h4⟩ := h y List.mem_cons_self
    obtain ⟨ds, g1, g2, g3, g4⟩ := itms fun z hz => h z (List.mem_cons_of_mem _ hz)
    refine ⟨d :: ds, .cons h1 g1, by simp only [smallL, h2, g2, Bool.and_true], ?_, ?_⟩
    · simp only [PyData.bulkAll, List.length_cons]
      omega
    · simp only [PyData.depthAll]
      omega
theorem shw_lst (h : SqL K H a xs) (i : ∀ y ∈ xs, Itm K H y) (l : xs.length ≤ 150) : ∃ z, Shw K H (.ref a) z := by
  obtain ⟨ds, g1, g2, g3, g4⟩ := itms i
  exact ⟨_, shw_of (.lst h g1) (by simpa only [smallD] using g2) (by simp only [PyData.bulk]; omega) (by simp only [PyData.depth]; omega)⟩
theorem shw_tup (h : SqT K H a xs) (i : ∀ y ∈ xs, Itm K H y) (l : xs.length ≤ 150) : ∃ z, Shw K H (.ref a) z := by
  obtain ⟨ds, g1, g2, g3, g4⟩ := itms i
  exact ⟨_, shw_of (.tup h g1) (by simpa only [smallD] using g2) (by simp only [PyData.bulk]; omega) (by simp only [PyData.depth]; omega)⟩
/-! scalars -/
def datS : V → PyData
  | .bl b => .bool b
  | .int i => .int i
  | .str z => .str z
  | _ => .none
def smS : V → Bool
  | .non | .bl _ => true
  | .int i => decide (i.natAbs < 10 ^ 38)
  | .str z => decide (z.length ≤ 90) && z.cps.toList.all fun c => decide (c < 16 ^ 8)
  | _ => false
theorem datS_ok (h : smS v = true) : Dp K H v (datS v) ∧ smallD (datS v) = true ∧ (datS v).bulk ≤ 100 ∧ (datS v).depth = 0 := by
  cases v with
  | non => exact ⟨.non, by simp only [datS, smallD], by simp [datS, PyData.bulk], by simp only [datS, PyData.depth]⟩
  | bl b => exact ⟨.bl b, by simp only [datS, smallD], by simp [datS, PyData.bulk], by simp only [datS, PyData.depth]⟩
  | int i => exact ⟨.int i, by simpa only [datS, smallD, smS] using h, by simp [datS, PyData.bulk], by simp only [datS, PyData.depth]⟩
  | str z =>
    have h' : z.length ≤ 90 ∧ (z.cps.toList.all fun c => decide (c < 16 ^ 8)) = true := by
      have z2 := Bool.and_eq_true_iff.mp (show (decide (z.length ≤ 90) && z.cps.toList.all fun c => decide (c < 16 ^ 8)) = true from h)
      exact ⟨of_decide_eq_true z2.1, z2.2⟩
    have hz : z.cps.size ≤ 90 := h'.1
    exact ⟨.str z, by simpa only [datS, smallD] using h'.2, by simp only [datS, PyData.bulk]; omega, by simp only [datS, PyData.depth]⟩
  | _ => exact nomatch h
theorem itm_sc (h : smS v = true) : Itm K H v := let ⟨h1, h2, h3, h4⟩ := datS_ok h; ⟨_, h1, h2, h3, by omega⟩
theorem shw_sc (h : smS v = true) : Shw K H v (datS v).shown := let ⟨h1, h2, h3, h4⟩ := datS_ok h; shw_of h1 h2 (by omega) (by omega)
theorem datSs : ∀ {xs : List V}, xs.all smS = true → DpAll K H xs (xs.map datS) ∧ smallL (xs.map datS) = true ∧ PyData.bulkAll (xs.map datS) ≤ 101 * xs.length ∧ PyData.depthAll (xs.map datS) = 0
  | [], _ => ⟨.nil, rfl, Nat.le_refl _, rfl⟩
  | y :: ys, h => by
    rw [List.all_cons, Bool.and_eq_true] at h
    obtain ⟨h1, h2, h3, h4⟩ := datS_ok (K := K) (H := H) h.1
    obtain ⟨g1, g2, g3, g4⟩ := datSs h.2
    rw [List.map_cons]
    refine ⟨.cons h1 g1, by simp only [smallL, h2, g2, Bool.and_true], ?_, ?_⟩
    · simp only [PyData.bulkAll, List.length_cons]
      omega
    · simp only [PyData.depthAll, h4, g4]
      rfl
theorem shw_lsc (h : SqL K H a xs) (i : xs.all smS = true) (l : xs.length ≤ 150) : Shw K H (.ref a) (PyData.list (xs.map datS)).shown := by
  obtain ⟨g1, g2, g3, g4⟩ := datSs (K := K) (H := H) i
  exact shw_of (.lst h g1) (by simpa only [smallD] using g2) (by simp only [PyData.bulk]; omega) (by simp only [PyData.depth]; omega)
theorem shw_tsc (h : SqT K H a xs) (i : xs.all smS = true) (l : xs.length ≤ 150) : Shw K H (.ref a) (PyData.tuple (xs.map datS)).shown := by
  obtain ⟨g1, g2, g3, g4⟩ := datSs (K := K) (H := H) i
  exact shw_of (.tup h g1) (by simpa only [smallD] using g2) (by simp only [PyData.bulk]; omega) (by simp only [PyData.depth]; omega)
end
theorem smS_int {i : Int} (h : i.natAbs < 10 ^ 38) : smS (.int i) = true := decide_eq_true h
theorem smS_bls {bs : List Bool} : (bs.map V.bl).all smS = true := by
  rw [List.all_map]
  exact List.all_eq_true.mpr fun _ _ => rfl
end Bk

namespace Bk
open PySem PySem.Spec PyProof.Rows L2
/-! ## 17. comprehensions over a list, a tuple, a range -/
section
variable {K : PySem.W.Frag} {σ : L2.St} {H : Hp} {Q : VK} {i0 j : Nat} {vs : List Nat} {a : Addr} {xs : List V} {te : TE}
theorem lc_map {J : It} {n : Nat} {G : Hp → Prop} {Y : Nat → Hp → V → Hp → Prop} {D : Addr} (wk : Walk J n G Y) (hY : ∀ i H1 x H2, i < n → Y i H1 x H2 → H2 = H1) (p : Nat → V) (hl : n ≤ 10000) (hG : ∀ H', Same H H' → G H') (hw : ∀ x, wipe ((wipe σ vs).set j (some x)) vs = wipe σ vs)
    (ht : ∀ (i : Nat) (y : V) (H1 H' : Hp) (Q' : VK), i < n → Y i H1 y H' → Same H H' → (∀ H2, Same H' H2 → Q' (p i) H2) → te ((wipe σ vs).set j (some y)) H' Q')
    (q : ∀ D H', H D = none → Same H H' → H' D = some (.lst ((List.range n).map p)) → Q (.ref D) H') (hD : H D = none) : ∃ W : Nat → Nat → Hp → Prop, (∃ m, W 0 m (upd H D (.lst []))) ∧ ∀ i m H, W i m H →
      (J.stop i H ∧ Q (.ref D) H) ∨ (J.go i H ∧ ∃ Nx : Hp → Prop, (∀ H', Nx H' → ∃ m', m' < m ∧ W (i + 1) m' H') ∧ ∀ x H', J.yld i H x H' → gName j x (wipe σ vs) H' fun σ2 H2 => wipe σ2 vs = wipe σ vs ∧ tYes σ2 H2 fun b H3 =>
        if b = true then te σ2 H3 fun y H4 => ∃ acc, H4 D = some (.lst acc) ∧ acc.length < sizeLine ∧ Nx (upd H4 D (.lst (acc ++ [y]))) else Nx H3) :=
  lc_by (g := gName j) (tt := tYes) (te := te) (vs := vs) (σ := σ) (Q := Q) wk (fun i => some (p i)) hD hl hG (fun i y H1 H2 Q' R' hi sm e h1 _ => ⟨hw _, by
    obtain rfl := hY i _ _ _ hi e
    exact r_yes (ht i y H2 H2 Q' hi e sm (h1 _ rfl))⟩) fun H' sm e => q D H' hD sm (by
      rw [e]
      show some (HO.lst (List.filterMap (some ∘ p) _)) = _
      rw [List.filterMap_eq_map])
theorem lcT (p : Nat → V) (hv : σ[i0]? = some (some (.ref a))) (hs : SqT K H a xs) (hl : xs.length ≤ 10000) (hw : ∀ x, wipe ((wipe σ vs).set j (some x)) vs = wipe σ vs)
    (ht : ∀ (i : Nat) (y : V) (H' : Hp) (Q' : VK), xs[i]? = some y → Same H H' → (∀ H2, Same H' H2 → Q' (p i) H2) → te ((wipe σ vs).set j (some y)) H' Q')
    (q : ∀ D H', H D = none → Same H H' → H' D = some (.lst ((List.range xs.length).map p)) → Q (.ref D) H') : tLc (iTup K (tVar i0)) (gName j) tYes te vs σ H Q :=
  ⟨_, hv, a, rfl, ⟨xs, hs⟩, fun D hD => lc_map (j := j) walk_tup (fun _ _ _ _ _ z => z.1) p hl (fun H' sm => seqT sm hs) hw (fun i y H1 H' Q' _ e sm k => ht i y H' Q' e.2 sm k) q hD⟩
theorem lcL (p : Nat → V) (hv : σ[i0]? = some (some (.ref a))) (hs : SqL K H a xs) (hl : xs.length ≤ 10000) (hw : ∀ x, wipe ((wipe σ vs).set j (some x)) vs = wipe σ vs)
    (ht : ∀ (i : Nat) (y : V) (H' : Hp) (Q' : VK), xs[i]? = some y → Same H H' → (∀ H2, Same H' H2 → Q' (p i) H2) → te ((wipe σ vs).set j (some y)) H' Q')
    (q : ∀ D H', H D = none → Same H H' → H' D = some (.lst ((List.range xs.length).map p)) → Q (.ref D) H') : tLc (iList K (tVar i0)) (gName j) tYes te vs σ H Q :=
  ⟨_, hv, a, rfl, ⟨xs, hs⟩, fun D hD => lc_map (j := j) walk_list (fun _ _ _ _ _ z => z.1) p hl (fun H' sm => sm.seq hs) hw (fun i y H1 H' Q' _ e sm k => ht i y H' Q' e.2 sm k) q hD⟩
/-- what is drawn at each turn: the box changes -/
theorem lcDraw {n m : Nat} {bx : Addr} (p : V → Prop) (hb : Box bx m H) (hl : n ≤ 1000) (hw : ∀ x, wipe ((wipe σ vs).set j (some x)) vs = wipe σ vs)
    (ht : ∀ (i : Nat) (H' : Hp) (Q' : VK), i < n → Box bx (m + i) H' → (∀ v H2, p v → Box bx (m + i + 1) H2 → But bx H' H2 → Q' v H2) → te ((wipe σ vs).set j (some (.int i))) H' Q')
    (q : ∀ D H' xs, H D = none → But bx H H' → Box bx (m + n) H' → H' D = some (.lst xs) → xs.length = n → (∀ v ∈ xs, p v) → Q (.ref D) H') : tLc (iRng1 (tCons (tC (.int n)) tNil)) (gName j) tYes te vs σ H Q := by
  refine ⟨_, rfl, by omega, by omega, fun D hD => ?_⟩
  have nD : D ≠ bx := hb.ne hD
  rw [Int.toNat_natCast]
  refine lc_it (g := gName j) (tt := tYes) (te := te) (vs := vs) (σ := σ) (n := n) walk_range (fun i G => But bx H G ∧ Box bx (m + i) G ∧ ∃ xs, G D = some (.lst xs) ∧ xs.length = i ∧ ∀ v ∈ xs, p v)
    ⟨.of (same_upd hD), hb.same (same_upd hD), [], upd_same, rfl, fun _ z => nomatch z⟩ (fun _ _ _ _ => trivial) (fun i x H1 H2 hi ⟨bt, hB, xs, e, l, hp⟩ y => ?_) fun G ⟨bt, hB, xs, e, l, hp⟩ => q D G xs hD bt hB e l hp
  obtain ⟨rfl, rfl⟩ := y
  refine ⟨hw _, ?_⟩
  show te ((wipe σ vs).set j (some (.int (0 + (i : Int))))) _ _
  rw [Int.zero_add]
  refine ht i H2 _ hi hB fun v H3 pv hB3 b3 => ⟨xs, b3 _ _ nD e, by rw [l]; exact Nat.lt_of_lt_of_le hi (Nat.le_trans hl (by decide)), ?_, ?_, xs ++ [v], upd_same, by rw [List.length_append, l]; rfl, fun u hu => ?_⟩
  · exact fun b o ne e0 => by
      have z := b3 _ _ ne (bt _ _ ne e0)
      rw [upd_ne (ne_of_none e0 hD)]
      exact z
  · obtain ⟨x1, y1, z1, eB, r⟩ := hB3
    exact ⟨x1, y1, z1, by rw [upd_ne nD.symm]; exact eB, r⟩
  · rcases List.mem_append.mp hu with z | z
    · exact hp u z
    · rw [List.mem_singleton.mp z]; exact pv
end
end Bk

namespace K03
open PySem PySem.Spec PyProof.Rows L2 Bk


section
variable {P : Program} {w : World} {K : PySem.W.Frag} {mg : Str → Option Value} {base : Heap} {CG CW CB CN fG fW fB fN : Addr}
theorem ok_cell {f : Addr} {fd : FuncData} (F : Fun K "_law_cell" "_law_cell" s_cell_L f fd) (T : Txt K mg CG CW CB CN fG fW fB fN) : FnOk P w K mg base CX0 1 f fd ["_law_script", "_law_k"] (spCell K) := by
  refine F.ok sc_cell_L (fun vs H Q E h => ?_) (fun cdv A outer s H vs Q E hr h => ⟨_, (pss_cons (ps_if (pt_cmpR op_lt (pv 1) (pe_callB call_len_seq (by rfl) T.m_len (by decide +kernel) (pa_cons (pv 0) pa_nil)) (nomark _)) (pss_one (ps_ret (pe_ix ix_list (pv 0) (pv 1) (fun _ _ => rfl)))) pss_nil)
    (pss_one (ps_ret (pe_op op_add (pe_op op_mulW pe_int (pv 1)) pe_int)))), ?_⟩)
  · obtain ⟨a, ns, k, rfl, _⟩ := h
    rfl
  · obtain ⟨a, ns, k, rfl, hS, hk, q⟩ := h
    walk_at "go"
    refine ⟨a, _, rfl, .inl hS, ?_⟩
    walk_at "go"
    refine ite2 (fun e => ?_) (fun e => ?_)
    · walk_at "go"
      have hl : k < ns.length := by
        have z := of_decide_eq_true e
        rw [List.length_map] at z
        omega
      exact r_ixL hS (at_map hl) (q _)
    · walk_at "go"
      refine r_I (cmul (by decide) (by decide) (by omega) (by omega)) ?_
      walk_at "go"
      exact q _
theorem ok_box {f : Addr} {fd : FuncData} (F : Fun K "_law_box" "_law_box" s_box_L f fd) (T : Txt K mg CG CW CB CN fG fW fB fN) : FnOk P w K mg base CX0 1 f fd ["_law_cell_here"] spBox := by
  refine F.ok sc_box_L (fun vs H Q E h => ?_) (fun cdv A outer s H vs Q E hr h => ⟨_, (pss_one (ps_ret (pe_lst (pa_cons (pe_callB (call_max2 rfl) (by rfl) T.m_max (by decide +kernel) (pa_cons pe_int (pa_cons (pe_op op_sub (pv 0) (pe_op op_pow pe_int pe_int)) pa_nil))) (pa_cons (pe_op op_mod (pv 0) pe_int) (pa_cons pe_int pa_nil)))))), ?_⟩)
  · obtain ⟨c, rfl, _⟩ := h
    rfl
  · obtain ⟨c, rfl, q⟩ := h
    walk_at "go"
    refine r_I ⟨by decide, by decide, by decide⟩ ?_
    walk_at "go"
    refine ⟨_, _, rfl, ?_⟩
    walk_at "go"
    refine r_I (by decide) ?_
    walk_at "go"
    refine newL fun p H' np sm e => q p H' np sm ⟨_, _, _, e, ?_, ?_, ?_, ?_, ?_⟩ <;> first | omega | (split <;> omega)
theorem ok_take {f : Addr} {fd : FuncData} (F : Fun K "_law_take" "_law_take" s_take_L f fd) (T : Txt K mg CG CW CB CN fG fW fB fN) : FnOk P w K mg base CX0 1 f fd ["_law_box_here", "_law_size"] spTake := by
  refine F.ok sc_take_L (fun vs H Q E h => ?_) (fun cdv A outer s H vs Q E hr h => ⟨_, (pss_cons (ps_if (pt_cmpR op_gt (pe_ix ix_list (pv 0) pe_int (fun _ _ => rfl)) pe_int (nomark _)) (pss_cons (ps_set (i := 2) sc_take_L.nd rfl (.inl rfl) (pe_op op_mod (pe_ix ix_list (pv 0) pe_int (fun _ _ => rfl)) (pv 1)))
    (pss_cons (ps_asg (pe_op op_fdivW (pe_ix ix_list (pv 0) pe_int (fun _ _ => rfl)) (pv 1)) (pg_sub (pv 0) pe_int set_list))
    (pss_one (ps_ret (pv 2))))) pss_nil)
    (pss_cons (ps_asg (pe_op op_add (pe_ix ix_list (pv 0) pe_int (fun _ _ => rfl)) pe_int) (pg_sub (pv 0) pe_int set_list))
    (pss_cons (ps_set (i := 3) sc_take_L.nd rfl (.inl rfl) (pe_op op_mod (pe_op op_pow (pe_op op_add (pe_op op_add (pe_ix ix_list (pv 0) pe_int (fun _ _ => rfl)) (pe_op op_mulW pe_int (pe_ix ix_list (pv 0) pe_int (fun _ _ => rfl)))) pe_int) pe_int) pe_int))
    (pss_cons (ps_set (i := 4) sc_take_L.nd rfl (.inl rfl) (pe_op op_mod (pe_op op_pow (pe_op op_add (pe_op op_add (pe_op op_fdivW (pv 3) pe_int) (pe_op op_mulW pe_int (pe_ix ix_list (pv 0) pe_int (fun _ _ => rfl)))) pe_int) pe_int) pe_int))
    (pss_one (ps_ret (pe_op op_mod (pe_op op_add (pe_op op_fdivW (pv 3) pe_int) (pe_op op_mulW pe_int (pe_op op_fdivW (pv 4) pe_int))) (pv 1)))))))), ?_⟩)
  · obtain ⟨a, n, size, rfl, _⟩ := h
    rfl
  · obtain ⟨a, n, size, rfl, ⟨x, y, z, e, hx, hy, hy2, hz, hz2⟩, hn, h0, h1, q⟩ := h
    have i0 : SqL K H a [.int x, .int y, .int z] := sqL e
    walk_at "go"
    refine r_ixL i0 (v := .int x) rfl ?_
    walk_at "go"
    refine ite2 (fun hp => ?_) (fun hp => ?_)
    · walk_at "go"
      refine r_ixL i0 (v := .int x) rfl ?_
      walk_at "go"
      refine r_I h0 ?_
      walk_at "go"
      refine r_ixL i0 (v := .int x) rfl ?_
      walk_at "go"
      refine r_I (cdiv h0 h1) ?_
      walk_at "go"
      refine ⟨a, _, 0, 0, rfl, rfl, e, rfl, ?_⟩
      walk_at "go"
      exact q _ _ (Int.emod_nonneg _ (by omega)) (Int.emod_lt_of_pos _ h0) ⟨x / size, y, z, upd_same, Int.ediv_nonneg hx (by omega), hy, hy2, hz, by omega⟩ But.upd
    · walk_at "go"
      refine r_ixL i0 (v := .int z) rfl ?_
      walk_at "go"
      refine ⟨a, _, 2, 2, rfl, rfl, e, rfl, ?_⟩
      have i1 : SqL K (upd H a (.lst [.int x, .int y, .int (z + 1)])) a [.int x, .int y, .int (z + 1)] := sqL upd_same
      walk_at "go"
      refine r_ixL i1 (v := .int y) rfl ?_
      walk_at "go"
      refine r_ixL i1 (v := .int (z + 1)) rfl ?_
      refine r_I (cmul (by decide) (by decide) (by omega) (by omega)) ?_
      walk_at "go"
      have g1 : (y + 7919 * (z + 1) + 29).natAbs < 2 ^ 64 := by omega
      refine r_I ⟨by decide, by decide, g1⟩ ?_
      walk_at "go"
      refine r_I (by decide) ?_
      walk_at "go"
      generalize hone : (y + 7919 * (z + 1) + 29) ^ (Int.toNat 5) % 2147483647 = one
      have o1 : 0 ≤ one := by rw [← hone]; exact Int.emod_nonneg _ (by decide)
      have o2 : one < 2147483647 := by rw [← hone]; exact Int.emod_lt_of_pos _ (by decide)
      refine r_I (cdiv (by decide) (by decide)) ?_
      walk_at "go"
      refine r_ixL i1 (v := .int (z + 1)) rfl ?_
      refine r_I (cmul (by decide) (by decide) (by omega) (by omega)) ?_
      walk_at "go"
      have g2 : (one / 8 + 104729 * (z + 1) + 11).natAbs < 2 ^ 64 := by omega
      refine r_I ⟨by decide, by decide, g2⟩ ?_
      walk_at "go"
      refine r_I (by decide) ?_
      walk_at "go"
      generalize htwo : (one / 8 + 104729 * (z + 1) + 11) ^ (Int.toNat 3) % 2147483629 = two
      have t1 : 0 ≤ two := by rw [← htwo]; exact Int.emod_nonneg _ (by decide)
      have t2 : two < 2147483629 := by rw [← htwo]; exact Int.emod_lt_of_pos _ (by decide)
      refine r_I (cdiv (by decide) (by decide)) ?_
      walk_at "go"
      refine r_I (cdiv (by decide) (by decide)) ?_
      refine r_I (cmul (by decide) (by decide) (by omega) (by omega)) ?_
      walk_at "go"
      refine r_I h0 ?_
      exact q _ _ (Int.emod_nonneg _ (by omega)) (Int.emod_lt_of_pos _ h0) ⟨x, y, z + 1, upd_same, hx, hy, hy2, by omega, by omega⟩ But.upd
end
/-! ### things that are no words -/
inductive Odd (bx : Addr) (H0 H : Hp) : V → Prop
  | int (i : Int) (h : i < 0 ∨ 4095 < i) (b : i.natAbs ≤ 10 ^ 30) : Odd bx H0 H (.int i)
  | non : Odd bx H0 H .non
  | bl (b : Bool) : Odd bx H0 H (.bl b)
  | str : Odd bx H0 H (.str "7")
  | lst (a : Addr) (xs : List V) (e : H a = some (.lst xs)) (ne : a ≠ bx) (fr : H0 a = none) (hx : xs = [] ∨ xs = [.int 7]) : Odd bx H0 H (.ref a)
  | tup (a : Addr) (e : H a = some (.tup [.int 7])) : Odd bx H0 H (.ref a)
  | dK (a : Addr) (e : H a = some (.dK [])) : Odd bx H0 H (.ref a)
theorem Odd.but {bx : Addr} {n : Nat} {H0 H H' : Hp} {v : V} (o : Odd bx H0 H v) (hB : Box bx n H) (s : But bx H H') : Odd bx H0 H' v := by
  cases o with
  | int i h b => exact .int i h b
  | non => exact .non
  | bl b => exact .bl b
  | str => exact .str
  | lst a xs e ne fr hx => exact .lst a xs (s _ _ ne e) ne fr hx
  | tup a e => exact .tup a (s _ _ (hB.ne_tup e) e)
  | dK a e =>
    obtain ⟨x, y, z, eB, _⟩ := hB
    exact .dK a (s _ _ (fun q => by rw [q, eB] at e; exact nomatch e) e)
theorem Odd.wd {bx : Addr} {H0 H : Hp} {v : V} (o : Odd bx H0 H v) : wd v = false := by
  cases o with
  | int i h b =>
    show (decide (0 ≤ i) && decide (i ≤ 4095)) = false
    rw [Bool.and_eq_false_iff]
    rcases h with h | h
    · exact .inl (decide_eq_false (by omega))
    · exact .inr (decide_eq_false (by omega))
  | _ => rfl
theorem Odd.WD {K : PySem.W.Frag} {bx : Addr} {H0 H : Hp} {v : V} (o : Odd bx H0 H v) : WD K H v := by
  cases o with
  | int i h b => exact .inl ⟨i, rfl⟩
  | non => exact .inr (.inr ⟨isa_non, fun _ _ => rfl⟩)
  | bl b => exact .inr (.inl ⟨b, rfl⟩)
  | str => exact .inr (.inr ⟨isa_str, fun _ _ => rfl⟩)
  | lst a xs e ne fr hx => exact .inr (.inr ⟨isa_lst e, fun _ _ => rfl⟩)
  | tup a e => exact .inr (.inr ⟨isa_tup e, fun _ _ => rfl⟩)
  | dK a e => exact .inr (.inr ⟨isa_dK e, fun _ _ => rfl⟩)
def spWordL : Sp := fun vs H Q _ => ∃ (a : Addr) (n : Nat), vs = [.ref a] ∧ Box a n H ∧ n < 999000 ∧ ∀ i H', 0 ≤ i → i ≤ 4095 → Box a (n + 3) H' → But a H H' → Q (.int i) H'
def spBad : Sp := fun vs H Q _ => ∃ (a : Addr) (n : Nat), vs = [.ref a] ∧ Box a n H ∧ n < 999000 ∧ ∀ v H', Odd a H H' v → Box a (n + 2) H' → But a H H' → Q v H'
section
variable {P : Program} {w : World} {K : PySem.W.Frag} {mg : Str → Option Value} {base : Heap} {CG CW CB CN fG fW fB fN : Addr}
theorem ok_wordL {f : Addr} {fd : FuncData} (F : Fun K "_law_word" "_law_word" s_word_L f fd) (T : Txt K mg CG CW CB CN fG fW fB fN) (c_take_L : CalD P w K mg base CX0 1 "_law_take" spTake []) : FnOk P w K mg base CX0 2 f fd ["_law_box_here"] spWordL := by
  refine F.ok sc_word_L (fun vs H Q E h => ?_) (fun cdv A outer s H vs Q E hr h => ⟨_, (pss_one (ps_ret (pe_ix ix_list (pe_lst (pa_cons pe_int (pa_cons pe_int (pa_cons pe_int (pa_cons pe_int (pa_cons pe_int (pa_cons (pe_cal c_take_L hr (by decide) (by rfl) (pa_cons (pv 0) (pa_cons pe_int pa_nil))) (pa_cons (pe_cal c_take_L hr (by decide) (by rfl) (pa_cons (pv 0) (pa_cons pe_int pa_nil))) pa_nil)))))))) (pe_cal c_take_L hr (by decide) (by rfl) (pa_cons (pv 0) (pa_cons pe_int pa_nil))) (fun _ _ => rfl)))), ?_⟩)
  · obtain ⟨a, n, rfl, _⟩ := h
    rfl
  · obtain ⟨a, n, rfl, hB, hn, q⟩ := h
    walk_at "go"
    refine r_take hB fun d1 H1 d10 d11 hB1 b1 => ?_
    walk_at "go"
    refine r_take hB1 fun d2 H2 d20 d21 hB2 b2 => ?_
    walk_at "go"
    refine newL fun p H3 np s3 e3 => ?_
    walk_at "go"
    refine r_take (hB2.same s3) fun d4 H4 d40 d41 hB4 b4 => ?_
    refine r_ixLo (sqL (b4 _ _ (hB2.ne np) e3)) d40 d41 fun v hv _ => ?_
    have b : But a H H4 := ((b1.trans b2).same s3).trans b4
    simp only [List.mem_cons, List.not_mem_nil, or_false] at hv
    rcases hv with e | e | e | e | e | e | e <;> subst e <;> exact q _ H4 (by omega) (by omega) hB4 b
theorem ok_bad {f : Addr} {fd : FuncData} (F : Fun K "_law_bad" "_law_bad" s_bad_L f fd) (T : Txt K mg CG CW CB CN fG fW fB fN) (c_take_L : CalD P w K mg base CX0 1 "_law_take" spTake []) : FnOk P w K mg base CX0 2 f fd ["_law_box_here"] spBad := by
  refine F.ok sc_bad_L (fun vs H Q E h => ?_) (fun cdv A outer s H vs Q E hr h => ⟨_, (pss_cons (ps_set (i := 1) sc_bad_L.nd rfl (.inl rfl) (pe_lst (pa_cons (pe_un un_neg pe_int) (pa_cons pe_int (pa_cons (pe_op op_add pe_int (pe_cal c_take_L hr (by decide) (by rfl) (pa_cons (pv 0) (pa_cons (pe_op op_pow pe_int pe_int) pa_nil)))) (pa_cons pe_non (pa_cons pe_bl (pa_cons pe_bl (pa_cons pe_str (pa_cons (pe_lst (pa_cons pe_int pa_nil)) (pa_cons (pe_tup (pa_cons pe_int pa_nil)) (pa_cons pe_dnewK (pa_cons (pe_lst pa_nil) pa_nil)))))))))))))
    (pss_one (ps_ret (pe_ix ix_list (pv 1) (pe_cal c_take_L hr (by decide) (by rfl) (pa_cons (pv 0) (pa_cons pe_int pa_nil))) (fun _ _ => rfl))))), ?_⟩)
  · obtain ⟨a, n, rfl, _⟩ := h
    rfl
  · obtain ⟨a, n, rfl, hB, hn, q⟩ := h
    walk_at "go"
    refine r_I ⟨by decide, by decide, by decide⟩ ?_
    walk_at "go"
    refine r_take hB (fun d1 H1 d10 d11 hB1 b1 => ?_) (by omega) (by decide +kernel) (by decide +kernel)
    have d11 : d1 < 100000000000000000000000000000 := d11
    walk_at "go"
    refine newL fun p2 H2 n2 s2 e2 => ?_
    walk_at "go"
    refine newT fun p3 H3 n3 s3 e3 => ?_
    walk_at "go"
    refine newDK fun p4 H4 n4 s4 e4 => ?_
    walk_at "go"
    refine newL fun p5 H5 n5 s5 e5 => ?_
    walk_at "go"
    refine newL fun p6 H6 n6 s6 e6 => ?_
    have hB6 := ((((hB1.same s2).same s3).same s4).same s5).same s6
    walk_at "go"
    refine r_take hB6 fun d7 H7 d70 d71 hB7 b7 => ?_
    have ne2 : p2 ≠ a := hB1.ne n2
    have ne3 : p3 ≠ a := (hB1.same s2).ne n3
    have ne4 : p4 ≠ a := ((hB1.same s2).same s3).ne n4
    have ne5 : p5 ≠ a := (((hB1.same s2).same s3).same s4).ne n5
    have ne6 : p6 ≠ a := ((((hB1.same s2).same s3).same s4).same s5).ne n6
    refine r_ixLo (sqL (b7 _ _ ne6 e6)) d70 d71 fun v hv _ => ?_
    have b : But a H H7 := ((((((b1.same s2).same s3).same s4).same s5).same s6)).trans b7
    have f2 := b7 _ _ ne2 (s6 _ _ (s5 _ _ (s4 _ _ (s3 _ _ e2))))
    have f3 := b7 _ _ ne3 (s6 _ _ (s5 _ _ (s4 _ _ e3)))
    have f4 := b7 _ _ ne4 (s6 _ _ (s5 _ _ e4))
    have f5 := b7 _ _ ne5 (s6 _ _ e5)
    have nn : ∀ {c : Addr} {G : Hp}, c ≠ a → But a H G → G c = none → H c = none := fun {c G} ne bt hn => by
      cases e : H c with
      | none => rfl
      | some o => exact nomatch hn.symm.trans (bt _ _ ne e)
    refine q v H7 ?_ hB7 b
    simp only [List.mem_cons, List.not_mem_nil, or_false] at hv
    rcases hv with e | e | e | e | e | e | e | e | e | e | e <;> subst e
    · exact .int _ (.inl (by decide)) (by decide)
    · exact .int _ (.inr (by decide)) (by decide)
    · exact .int _ (.inr (by omega)) (by omega)
    · exact .non
    · exact .bl _
    · exact .bl _
    · exact .str
    · exact .lst _ _ f2 ne2 (nn ne2 b1 n2) (.inr rfl)
    · exact .tup _ f3
    · exact .dK _ f4
    · exact .lst _ _ f5 ne5 (nn ne5 (((b1.same s2).same s3).same s4) n5) (.inl rfl)
end
end K03

namespace Bk
open PySem PySem.Spec PyProof.Rows L2
/-- except C as e: return (tag, e.found) -/
theorem caught_at {K : PySem.W.Frag} {C d : Addr} {i : Nat} {σ : L2.St} {H' : Hp} {D : Ends} {l : List ClA} {v : V} {tag : Str} (e : PySem.W.exmOne K (.ref C) (.ref C) = some true) (hi : i < σ.length) (ed : H' d = some (.xd [("found", v)]))
    (q : ∀ p H2, H' p = none → Same H' H2 → H2 p = some (.tup [.str tag, v]) → D.rt (.ref p) H2) :
    wAM K D ((.ref C, i, fun a cls d => tRet (tTup (tCons (tC (.str tag)) (tCons (tXf a cls d C "found" (tVar i)) tNil)))) :: l) (.ref C) (some d) σ H' := by
  refine w_hit e fun a na => ?_
  show tRet (tTup (tCons (tC (.str tag)) (tCons (tXf a (.ref C) (some d) C "found" (tVar i)) tNil))) (offI i D) (σ.set i (some (.ref a))) H'
  refine r_ret (r_tup (r_cons (r_c (r_cons ?_))))
  refine ⟨.ref a, List.getElem?_set_self hi, rfl, rfl, d, _, v, rfl, ed, rfl, ?_⟩
  exact r_nil (newT fun p H2 np s2 e2 => q p H2 np s2 e2)
end Bk
namespace K03
open PySem PySem.Spec PyProof.Rows L2 Bk


/-- what a call refuses, told as a pair -/
def Caught (K : PySem.W.Frag) (way : Int) (x y : V) (H : Hp) (tag : Str) (v : V) : Prop :=
  (tag = "word" ∧ v = x ∧ (way = 0 ∨ way = 1 ∨ way = 2 ∨ way = 3) ∧ WD K H x ∧ wd x = false) ∨
  (tag = "word" ∧ v = y ∧ (way = 0 ∨ way = 1 ∨ way = 2) ∧ (∃ i, x = .int i ∧ 0 ≤ i ∧ i ≤ 4095) ∧ WD K H y ∧ wd y = false) ∨
  (tag = "nought" ∧ v = x ∧ way = 2 ∧ (∃ i, x = .int i ∧ 0 ≤ i ∧ i ≤ 4095) ∧ y = .int 0) ∨
  (tag = "bits" ∧ v = x ∧ way = 4 ∧ ((∀ H', Same H H' → IsB K H' x "list" "tuple" false) ∨
    ∃ a xs, x = .ref a ∧ (∀ H', Same H H' → IsB K H' x "list" "tuple" true) ∧ (SqL K H a xs ∨ SqT K H a xs) ∧ xs.length ≤ 1000 ∧ (∀ H', Same H H' → ∀ y ∈ xs, IsA K H' y "bool" (isB y)) ∧ ¬ (xs.length = 12 ∧ xs.all isB = true)))
def spCaught (K : PySem.W.Frag) : Sp := fun vs H Q _ => ∃ (way : Int) (x y : V) (tag : Str) (v : V), vs = [.int way, x, y] ∧ Caught K way x y H tag v ∧ ∀ p H', H p = none → Same H H' → H' p = some (.tup [.str tag, v]) → Q (.ref p) H'
def spSame (K : PySem.W.Frag) : Sp := fun vs H Q _ => ∃ (p : Addr) (tag : Str) (u v : V), vs = [.ref p, .str tag, v] ∧ H p = some (.tup [.str tag, u]) ∧
  ((IsA K H v "list" false ∧ (∃ z, Shw K H u z ∧ Shw K H v z) ∧ Q (.bl true) H) ∨
    ∃ a xs, v = .ref a ∧ H a = some (.lst xs) ∧ xs.length ≤ 1000 ∧ (∃ z, Shw K (upd H a (.lst (xs ++ [.str "more"]))) u z ∧ Shw K (upd H a (.lst (xs ++ [.str "more"]))) v z) ∧ Q (.bl true) (upd H a (.lst (xs ++ [.str "more"]))))
section
variable {P : Program} {w : World} {K : PySem.W.Frag} {mg : Str → Option Value} {base : Heap} {CG CW CB CN fG fW fB fN : Addr}
theorem ok_caught {f : Addr} {fd : FuncData} (F : Fun K "_law_caught" "_law_caught" s_caught_L f fd) (T : Txt K mg CG CW CB CN fG fW fB fN) (c_sum_of : CalX P w K mg base 6 "sum_of" (spSum K CW)) (c_difference : CalX P w K mg base 6 "difference" (spDif K CW))
    (c_divided : CalX P w K mg base 6 "divided" (spDiv K CW CN)) (c_bits_of : CalX P w K mg base 5 "bits_of" (spBits K CW)) (c_word_of_bits : CalX P w K mg base 4 "word_of_bits" (spWob K CB)) :
    FnOk P w K mg base CX0 7 f fd ["_law_way", "_law_left", "_law_right"] (spCaught K) := by
  refine F.ok sc_caught_L (fun vs H Q E h => ?_) (fun cdv A outer s H vs Q E hr h => ⟨_, (pss_cons (ps_try_asM rfl rfl sc_caught_L.nd (fun W pn xe tk po => (pss_one (ps_if (pt_cmpR op_eq (pv 0) pe_int (nomark _)) (pss_one (ps_expr (pe_calT c_sum_of hr (by decide) (by rfl) tk (pa_cons (pv 1) (pa_cons (pv 2) pa_nil))))) (pss_one (ps_if (pt_cmpR op_eq (pv 0) pe_int (nomark _)) (pss_one (ps_expr (pe_calT c_difference hr (by decide) (by rfl) tk (pa_cons (pv 1) (pa_cons (pv 2) pa_nil))))) (pss_one (ps_if (pt_cmpR op_eq (pv 0) pe_int (nomark _)) (pss_one (ps_expr (pe_calT c_divided hr (by decide) (by rfl) tk (pa_cons (pv 1) (pa_cons (pv 2) pa_nil))))) (pss_one (ps_if (pt_cmpR op_eq (pv 0) pe_int (nomark _)) (pss_one (ps_expr (pe_calT c_bits_of hr (by decide) (by rfl) tk (pa_cons (pv 1) pa_nil)))) (pss_one (ps_expr (pe_calT c_word_of_bits hr (by decide) (by rfl) tk (pa_cons (pv 1) pa_nil)))))))))))))
      (.more ⟨by rfl, by decide, .inl T.g_NoWord⟩ (i := 3) rfl rfl (fun a oe cls d pn hz hf => (pss_one (ps_ret (pe_tup (pa_cons pe_str (pa_cons (pe_xf T.xf_NoWord T.nf_NoWord hz hf (pv 3)) pa_nil))))))
      (.more ⟨by rfl, by decide, .inl T.g_Nought⟩ (i := 3) rfl rfl (fun a oe cls d pn hz hf => (pss_one (ps_ret (pe_tup (pa_cons pe_str (pa_cons (pe_xf T.xf_Nought T.nf_Nought hz hf (pv 3)) pa_nil))))))
      (.more ⟨by rfl, by decide, .inl T.g_NoBits⟩ (i := 3) rfl rfl (fun a oe cls d pn hz hf => (pss_one (ps_ret (pe_tup (pa_cons pe_str (pa_cons (pe_xf T.xf_NoBits T.nf_NoBits hz hf (pv 3)) pa_nil))))))
      .stop))))
    (pss_one (ps_ret (pe_tup (pa_cons pe_str (pa_cons pe_non pa_nil)))))), ?_⟩)
  · obtain ⟨way, x, y, tag, v, rfl, _⟩ := h
    rfl
  · obtain ⟨way, x, y, tag, v, rfl, hc, q⟩ := h
    walk_at "go"
    have fin : ∀ {H' H2 : Hp} {p : Addr} {u : V} {g : Str}, (∀ p H', H p = none → Same H H' → H' p = some (.tup [.str g, u]) → Q (.ref p) H') → Same H H' → H' p = none → Same H' H2 → H2 p = some (.tup [.str g, u]) → Q (.ref p) H2 := fun {H' H2 p u g} q sm np s2 e2 => q p H2 (sm.free np) (sm.trans s2) e2
    rcases hc with ⟨rfl, rfl, hw, hx, bx⟩ | ⟨rfl, rfl, hw, ⟨i, rfl, i0, i1⟩, hy, by_⟩ | ⟨rfl, rfl, rfl, ⟨i, rfl, i0, i1⟩, rfl⟩ | ⟨rfl, rfl, rfl, hb⟩
    · rcases hw with rfl | rfl | rfl | rfl
      · refine iteD rfl ?_
        exact ⟨_, rfl, _, rfl, _, _, rfl, hx, .inl ⟨bx, fun d H' hd sm e => caught_at T.eWW (Nat.le_of_ble_eq_true rfl) e fun p H2 np s2 e2 => fin q sm np s2 e2⟩⟩
      · refine iteDn (by decide) ?_
        walk_at "go"
        refine iteD rfl ?_
        exact ⟨_, rfl, _, rfl, _, _, rfl, hx, .inl ⟨bx, fun d H' hd sm e => caught_at T.eWW (Nat.le_of_ble_eq_true rfl) e fun p H2 np s2 e2 => fin q sm np s2 e2⟩⟩
      · refine iteDn (by decide) ?_
        walk_at "go"
        refine iteDn (by decide) ?_
        walk_at "go"
        refine iteD rfl ?_
        exact ⟨_, rfl, _, rfl, _, _, rfl, hx, .inl ⟨bx, fun d H' hd sm e => caught_at T.eWW (Nat.le_of_ble_eq_true rfl) e fun p H2 np s2 e2 => fin q sm np s2 e2⟩⟩
      · refine iteDn (by decide) ?_
        walk_at "go"
        refine iteDn (by decide) ?_
        walk_at "go"
        refine iteDn (by decide) ?_
        walk_at "go"
        refine iteD rfl ?_
        exact ⟨_, rfl, _, rfl, hx, .inl ⟨bx, fun d H' hd sm e => caught_at T.eWW (Nat.le_of_ble_eq_true rfl) e fun p H2 np s2 e2 => fin q sm np s2 e2⟩⟩
    · have hx : WD K H (.int i) := .inl ⟨i, rfl⟩
      rcases hw with rfl | rfl | rfl
      · refine iteD rfl ?_
        exact ⟨_, rfl, _, rfl, _, _, rfl, hx, .inr ⟨i, rfl, i0, i1, hy, .inl ⟨by_, fun d H' hd sm e => caught_at T.eWW (Nat.le_of_ble_eq_true rfl) e fun p H2 np s2 e2 => fin q sm np s2 e2⟩⟩⟩
      · refine iteDn (by decide) ?_
        walk_at "go"
        refine iteD rfl ?_
        exact ⟨_, rfl, _, rfl, _, _, rfl, hx, .inr ⟨i, rfl, i0, i1, hy, .inl ⟨by_, fun d H' hd sm e => caught_at T.eWW (Nat.le_of_ble_eq_true rfl) e fun p H2 np s2 e2 => fin q sm np s2 e2⟩⟩⟩
      · refine iteDn (by decide) ?_
        walk_at "go"
        refine iteDn (by decide) ?_
        walk_at "go"
        refine iteD rfl ?_
        exact ⟨_, rfl, _, rfl, _, _, rfl, hx, .inr ⟨i, rfl, i0, i1, hy, .inl ⟨by_, fun d H' hd sm e => caught_at T.eWW (Nat.le_of_ble_eq_true rfl) e fun p H2 np s2 e2 => fin q sm np s2 e2⟩⟩⟩
    · refine iteDn (by decide) ?_
      walk_at "go"
      refine iteDn (by decide) ?_
      walk_at "go"
      refine iteD rfl ?_
      exact ⟨_, rfl, _, rfl, _, _, rfl, .inl ⟨i, rfl⟩, .inr ⟨i, rfl, i0, i1, .inl ⟨0, rfl⟩, .inr ⟨0, rfl, by decide, by decide, .inl ⟨rfl, fun d H' hd sm e => w_miss T.eNW (caught_at T.eNN (Nat.le_of_ble_eq_true rfl) e fun p H2 np s2 e2 => fin q sm np s2 e2)⟩⟩⟩⟩
    · refine iteDn (by decide) ?_
      walk_at "go"
      refine iteDn (by decide) ?_
      walk_at "go"
      refine iteDn (by decide) ?_
      walk_at "go"
      refine iteDn (by decide) ?_
      walk_at "go"
      refine ⟨_, rfl, _, rfl, ?_⟩
      rcases hb with hb | ⟨a, xs, rfl, h1, h2, h3, h4, h5⟩
      · exact .inl ⟨hb, fun d H' hd sm e => w_miss T.eBW (w_miss T.eBN (caught_at T.eBB (Nat.le_of_ble_eq_true rfl) e fun p H2 np s2 e2 => fin q sm np s2 e2))⟩
      · exact .inr ⟨a, xs, rfl, h1, h2, h3, h4, .inl ⟨h5, fun d H' hd sm e => w_miss T.eBW (w_miss T.eBN (caught_at T.eBB (Nat.le_of_ble_eq_true rfl) e fun p H2 np s2 e2 => fin q sm np s2 e2))⟩⟩
theorem ok_same {f : Addr} {fd : FuncData} (F : Fun K "_law_same" "_law_same" s_same_L f fd) (T : Txt K mg CG CW CB CN fG fW fB fN) : FnG P w K mg base CX0 1 f fd ["_law_caught_here", "_law_value", "_law_thing"] (spSame K) := by
  refine fun_okG F sc_same_L (fun vs H Q E h => ?_) (fun cdv A outer s H vs Q E ga hr h => ⟨_, (pss_cons (ps_if (pt_val (pe_callB call_is (by rfl) T.m_isinstance (by decide +kernel) (pa_cons (pv 2) (pa_cons (pe_bltn (v := .ty "list") (by rfl) T.m_list (by decide +kernel) rfl) pa_nil)))) (pss_one (ps_expr (pe_bm PySem.F.plainAttrs_list PySem.F.slot_list_append PySem.F.type_list_append mt_append (pv 2) (pa_cons pe_str pa_nil)))) pss_nil)
    (pss_one (ps_ret (pe_and (pe_cmpR op_eq (pe_ix ix_tup (pv 0) pe_int (fun _ _ => rfl)) (pv 1) (nomark _)) (pe_one (pe_cmpR op_eq (pe_callB (call_repr_shw ga hr) (by rfl) T.m_repr (by decide +kernel) (pa_cons (pe_ix ix_tup (pv 0) pe_int (fun _ _ => rfl)) pa_nil)) (pe_callB (call_repr_shw ga hr) (by rfl) T.m_repr (by decide +kernel) (pa_cons (pv 2) pa_nil)) (nomark _))))))), ?_⟩)
  · obtain ⟨p, tag, u, v, rfl, _⟩ := h
    rfl
  · obtain ⟨p, tag, u, v, rfl, ep, hv⟩ := h
    walk_at "go"
    rcases hv with ⟨hl, ⟨z, hu, hz⟩, q⟩ | ⟨a, xs, rfl, ea, hn, ⟨z, hu, hz⟩, q⟩
    · refine r_is hl ?_
      walk_at "go"
      refine r_ixT (sqT ep) (v := .str tag) rfl ?_
      walk_at "go"
      refine iteD rfl ?_
      walk_at "go"
      refine r_ixT (sqT ep) (v := u) rfl ?_
      walk_at "go"
      refine ⟨u, z, rfl, hu, ?_⟩
      walk_at "go"
      refine ⟨v, z, rfl, hz, ?_⟩
      refine r_eq rfl ?_
      rw [decide_eq_true rfl]
      exact q
    · refine r_is (isa_lst ea (b := true)) ?_
      walk_at "go"
      have ne : p ≠ a := ne_of ep ea (by intro z; cases z)
      refine ⟨.inl ⟨rfl, xs, sqL ea⟩, a, xs, _, rfl, rfl, ea, Nat.lt_of_le_of_lt hn (by decide), ?_⟩
      have ep' : upd H a (.lst (xs ++ [.str "more"])) p = some (.tup [.str tag, u]) := by rw [upd_ne ne]; exact ep
      walk_at "go"
      refine r_ixT (sqT ep') (v := .str tag) rfl ?_
      walk_at "go"
      refine iteD rfl ?_
      walk_at "go"
      refine r_ixT (sqT ep') (v := u) rfl ?_
      walk_at "go"
      refine ⟨_, z, rfl, hu, ?_⟩
      walk_at "go"
      refine ⟨_, z, rfl, hz, ?_⟩
      refine r_eq rfl ?_
      rw [decide_eq_true rfl]
      exact q
end
end K03

namespace K03
open PySem PySem.Spec PyProof.Rows L2 Bk


def spTwo : Sp := fun vs H Q _ => ∃ i j : Int, vs = [.int i, .int j] ∧ 0 ≤ i ∧ i ≤ 4095 ∧ 0 ≤ j ∧ j ≤ 4095 ∧ ∀ H', Same H H' → Q (.bl true) H'
theorem two_ok {K : PySem.W.Frag} {CW : Addr} {H : Hp} {E : XK} {i j : Int} {A : Int → Int → Prop} (i0 : 0 ≤ i) (i1 : i ≤ 4095) (j0 : 0 ≤ j) (j1 : j ≤ 4095) (a : A i j) : Two K CW (.int i) (.int j) H E A :=
  ⟨.inl ⟨i, rfl⟩, .inr ⟨i, rfl, i0, i1, .inl ⟨j, rfl⟩, .inr ⟨j, rfl, j0, j1, a⟩⟩⟩
theorem small_int {i : Int} (h0 : -100000 ≤ i) (h1 : i ≤ 100000) : smS (.int i) = true := smS_int (Nat.lt_of_lt_of_le (show i.natAbs < 1000000 by omega) (by decide))
section
variable {P : Program} {w : World} {K : PySem.W.Frag} {mg : Str → Option Value} {base : Heap} {CG CW CB CN fG fW fB fN : Addr}
theorem ok_sums {f : Addr} {fd : FuncData} (F : Fun K "_law_sums_right" "_law_sums_right" s_sums_right_L f fd) (T : Txt K mg CG CW CB CN fG fW fB fN) (c_sum_of : CalX P w K mg base 6 "sum_of" (spSum K CW)) (c_difference : CalX P w K mg base 6 "difference" (spDif K CW))
    (c_divided : CalX P w K mg base 6 "divided" (spDiv K CW CN)) (c_caught_L : CalD P w K mg base CX0 7 "_law_caught" (spCaught K) []) (c_same_L : CalG P w K mg base CX0 1 "_law_same" (spSame K)) :
    FnG P w K mg base CX0 8 f fd ["_law_left", "_law_right"] spTwo := by
  refine fun_okG F sc_sums_right_L (fun vs H Q E h => ?_) (fun cdv A outer s H vs Q E ga hr h => ⟨_, (pss_cons (ps_set (i := 2) sc_sums_right_L.nd rfl (.inl rfl) (pe_op op_add (pv 0) (pv 1)))
    (pss_cons (ps_set (i := 3) sc_sums_right_L.nd rfl (.inl rfl) (pe_op op_sub (pv 0) (pv 1)))
    (C8.pss_cut (ps_set (i := 4) sc_sums_right_L.nd rfl (.inl rfl) (pe_lst (pa_cons (pe_ifExp (pt_cmpR op_lt (pv 2) pe_int (nomark _)) (pv 2) (pe_op op_sub (pv 2) pe_int)) (pa_cons (pe_ifExp (pt_cmpR op_ge (pv 3) pe_int (nomark _)) (pv 3) (pe_op op_add (pv 3) pe_int)) pa_nil))))
    (pss_cons (ps_if (pt_cmpR op_ne (pe_callB (call_repr_shw ga hr) (by rfl) T.m_repr (by decide +kernel) (pa_cons (pe_lst (pa_cons (pe_calY c_sum_of hr (by decide) (by rfl) (pa_cons (pv 0) (pa_cons (pv 1) pa_nil))) (pa_cons (pe_calY c_difference hr (by decide) (by rfl) (pa_cons (pv 0) (pa_cons (pv 1) pa_nil))) pa_nil))) pa_nil)) (pe_callB (call_repr_shw ga hr) (by rfl) T.m_repr (by decide +kernel) (pa_cons (pv 4) pa_nil)) (nomark _)) (pss_one (ps_ret pe_bl)) pss_nil)
    (pss_cons (ps_if (pt_cmpR op_eq (pv 1) pe_int (nomark _)) (pss_one (ps_ret (pe_calG c_same_L ga hr (by decide) (by rfl) (pa_cons (pe_cal c_caught_L hr (by decide) (by rfl) (pa_cons pe_int (pa_cons (pv 0) (pa_cons (pv 1) pa_nil)))) (pa_cons pe_str (pa_cons (pv 0) pa_nil)))))) pss_nil)
    (pss_cons (ps_set (i := 5) sc_sums_right_L.nd rfl (.inl rfl) (pe_calY c_divided hr (by decide) (by rfl) (pa_cons (pv 0) (pa_cons (pv 1) pa_nil))))
    (pss_cons (ps_if (PW.pt (pw_or (pt_not (pt_val (pe_callB call_is (by rfl) T.m_isinstance (by decide +kernel) (pa_cons (pv 5) (pa_cons (pe_bltn (v := .ty "tuple") (by rfl) T.m_tuple (by decide +kernel) rfl) pa_nil))))) (pw_or (pt_cmpR op_ne (pe_callB call_len_seq (by rfl) T.m_len (by decide +kernel) (pa_cons (pv 5) pa_nil)) pe_int (nomark _)) (pw_or1 (pt_cmpR op_in_seq pe_bl (pe_lc (own := [("_law_part", 6)]) rfl sc_sums_right_L.nd (pi_tup (pv 5)) (blkOk_by (N := ["_law_left", "_law_right", "_law_total", "_law_less", "_law_due", "_law_told", "_law_part"]) (sc := defScope s_sums_right_L) (by decide +kernel)) (fun _ _ _ _ _ => (pg_name (i := 6) sc_sums_right_L.nd rfl (.inl rfl))) (fun _ _ _ _ _ => pts_nil) (fun _ _ _ _ _ => (pe_callB (call_isK (K := K) rfl) (by rfl) T.m_isinstance (by decide +kernel) (pa_cons (pv 6) (pa_cons (pe_bltn (v := .ty "bool") (by rfl) T.m_bool (by decide +kernel) rfl) pa_nil))))) (by rfl)))))) (pss_one (ps_ret pe_bl)) pss_nil)
    (pss_one (ps_ret (pe_and (pe_chain op_le op_lt pe_int (pe_ix ix_tup (pv 5) pe_int (fun _ _ => rfl)) (pv 1)) (pe_and (pe_cmpR op_ge (pe_ix ix_tup (pv 5) pe_int (fun _ _ => rfl)) pe_int (nomark _)) (pe_one (pe_cmpR op_eq (pe_op op_add (pe_op op_mulW (pe_ix ix_tup (pv 5) pe_int (fun _ _ => rfl)) (pv 1)) (pe_ix ix_tup (pv 5) pe_int (fun _ _ => rfl))) (pv 0) (nomark _)))))))))))))), ?_⟩)
  · obtain ⟨i, j, rfl, _⟩ := h
    rfl
  · obtain ⟨i, j, rfl, i0, i1, j0, j1, q⟩ := h
    walk_at "go"
    refine r_cut (fun σ H' => ∃ p, σ = [some (.int i), some (.int j), some (.int (i + j)), some (.int (i - j)), some (.ref p), none, none] ∧ Same H H' ∧ H' p = some (.lst [.int ((i + j) % 4096), .int ((i - j) % 4096)])) ?_ ?_
    · have fin : ∀ {u v : Int}, u = (i + j) % 4096 → v = (i - j) % 4096 → NewL [.int u, .int v] H (fun x H1 => gName 4 x [some (.int i), some (.int j), some (.int (i + j)), some (.int (i - j)), none, none, none] H1 fun σ H' => ∃ p, σ = [some (.int i), some (.int j), some (.int (i + j)), some (.int (i - j)), some (.ref p), none, none] ∧ Same H H' ∧ H' p = some (.lst [.int ((i + j) % 4096), .int ((i - j) % 4096)])) := fun {u v} hu hv => by
        subst hu hv
        exact newL fun p H' np sm e => ⟨p, rfl, sm, e⟩
      walk_at "go"
      refine iteC (fun h1 => ?_) (fun h1 => ?_)
      · walk_at "go"
        refine iteC (fun h2 => ?_) (fun h2 => ?_)
        · walk_at "go"
          exact fin (by omega) (by omega)
        · walk_at "go"
          exact fin (by omega) (by omega)
      · walk_at "go"
        refine iteC (fun h2 => ?_) (fun h2 => ?_)
        · walk_at "go"
          exact fin (by omega) (by omega)
        · walk_at "go"
          exact fin (by omega) (by omega)
    · rintro σ H1 ⟨p, rfl, s1, e1⟩
      walk_at "go"
      refine ⟨_, _, rfl, two_ok i0 i1 j0 j1 ?_⟩
      walk_at "go"
      refine ⟨_, _, rfl, two_ok i0 i1 j0 j1 ?_⟩
      walk_at "go"
      refine newL fun p2 H2 n2 s2 e2 => ?_
      walk_at "go"
      have sm : [V.int ((i + j) % 4096), .int ((i - j) % 4096)].all smS = true := by
        simp only [List.all_cons, List.all_nil, Bool.and_true, Bool.and_eq_true]
        exact ⟨small_int (by omega) (by omega), small_int (by omega) (by omega)⟩
      refine ⟨_, _, rfl, shw_lsc (sqL e2) sm (Nat.le_of_ble_eq_true rfl), ?_⟩
      walk_at "go"
      refine ⟨_, _, rfl, shw_lsc (sqL (s2 _ _ e1)) sm (Nat.le_of_ble_eq_true rfl), ?_⟩
      refine r_ne rfl ?_
      rw [decide_eq_true rfl]
      walk_at "go"
      have s12 := s1.trans s2
      refine iteC (fun h0 => ?_) (fun h0 => ?_)
      · injection h0 with h0
        subst h0
        walk_at "go"
        refine ⟨2, .int i, .int 0, "nought", .int i, rfl, .inr (.inr (.inl ⟨rfl, rfl, rfl, ⟨i, rfl, i0, i1⟩, rfl⟩)), fun p3 H3 n3 s3 e3 => ?_⟩
        walk_at "go"
        exact ⟨p3, "nought", .int i, .int i, rfl, e3, .inl ⟨isa_int, ⟨_, shw_sc (small_int (by omega) (by omega)), shw_sc (small_int (by omega) (by omega))⟩, q _ (s12.trans s3)⟩⟩
      · have jp : 0 < j := by
          rcases Int.lt_or_eq_of_le j0 with z | z
          · exact z
          · exact absurd (by rw [← z]) h0
        walk_at "go"
        refine ⟨_, _, rfl, two_ok i0 i1 j0 j1 (.inr ⟨jp, fun p3 H3 n3 s3 e3 => ?_⟩)⟩
        walk_at "go"
        refine r_is (isa_tup e3 (b := true)) ?_
        walk_at "go"
        refine ⟨p3, _, rfl, .inr (sqT e3), ?_⟩
        walk_at "go"
        refine iteND rfl ?_
        walk_at "go"
        refine lcT (a := p3) (xs := [.int (i / j), .int (i % j)]) (fun _ => .bl false) rfl (sqT e3) (Nat.le_of_ble_eq_true rfl) (fun _ => rfl) (fun k y H4 Q' hy s4 k1 => ?_) fun D H4 nD s4 e4 => ?_
        · have hx2 : ∃ z, y = .int z := by
            rcases k with _ | _ | k
            · exact ⟨_, (Option.some.inj hy).symm⟩
            · exact ⟨_, (Option.some.inj hy).symm⟩
            · exact nomatch hy
          obtain ⟨z, rfl⟩ := hx2
          walk_at "go"
          exact r_is (isa_int (b := false)) (k1 _ (Same.refl _))
        · refine ⟨D, _, rfl, .inl (sqL e4), rfl, rfl, ?_⟩
          have nin : inV (.bl true) ((List.range [V.int (i / j), V.int (i % j)].length).map fun _ => V.bl false) = false := by
            show inV (.bl true) ((List.range 2).map fun _ => V.bl false) = false
            decide +kernel
          rw [nin]
          walk_at "go"
          refine iteF ?_
          walk_at "go"
          have e3' := s4 _ _ e3
          refine r_ixT (sqT e3') (v := .int (i % j)) rfl ?_
          walk_at "go"
          refine iteD (Int.emod_nonneg _ (by omega)) ?_
          walk_at "go"
          refine iteD (Int.emod_lt_of_pos _ jp) ?_
          walk_at "go"
          refine r_ixT (sqT e3') (v := .int (i / j)) rfl ?_
          walk_at "go"
          refine iteD (Int.ediv_nonneg i0 j0) ?_
          walk_at "go"
          refine r_ixT (sqT e3') (v := .int (i / j)) rfl ?_
          walk_at "go"
          have d1 : 0 ≤ i / j := Int.ediv_nonneg i0 j0
          have d2 : i / j ≤ 4095 := Int.le_trans (Int.ediv_le_self j i0) i1
          refine r_I (cmul (by omega) (by omega) (by omega) (by omega)) ?_
          walk_at "go"
          refine r_ixT (sqT e3') (v := .int (i % j)) rfl ?_
          walk_at "go"
          have em : i / j * j + i % j = i := by rw [Int.mul_comm]; exact Int.mul_ediv_add_emod i j
          rw [em, decide_eq_true rfl]
          exact q _ ((s12.trans s3).trans s4)
end
end K03

namespace Bk
open PySem PySem.Spec PyProof.Rows L2
theorem fm_congr {α β : Type} {f g : α → Option β} : ∀ {l : List α}, (∀ x ∈ l, f x = g x) → l.filterMap f = l.filterMap g
  | [], _ => rfl
  | x :: l, h => by
    rw [List.filterMap_cons, List.filterMap_cons, h x List.mem_cons_self, fm_congr fun y hy => h y (List.mem_cons_of_mem _ hy)]
section
variable {K : PySem.W.Frag} {H : Hp} {x y : V} {Q : VK}
theorem r_neSame {d : PyData} (h1 : Dp K H x d) (h2 : Dp K H y d) (s : SeqAt.shaped d = true) (q : Q (.bl false) H) : rNeD K x y H Q :=
  ⟨d, d, h1, h2, s, s, by rw [SeqAt.eqv_refl d (SeqAt.canLay_of_shaped s)]; exact q⟩
end
end Bk
namespace K03
open PySem PySem.Spec PyProof.Rows L2 Bk


theorem bits_get {i : Int} {k : Nat} (h : k < 12) : (bitsB i).getD k false = decide (i / 2 ^ k % 2 = 1) := by
  unfold bitsB
  rw [List.getD_eq_getElem?_getD, List.getElem?_map, List.getElem?_range h]
  rfl
theorem sum_bits (m : Nat) : ∀ n : Nat, ((List.range n).filterMap fun k => if decide ((m : Int) / 2 ^ k % 2 = 1) = true then some ((2 : Int) ^ k) else none).sum = ((m % 2 ^ n : Nat) : Int)
  | 0 => by
    rw [Nat.pow_zero, Nat.mod_one]
    rfl
  | n + 1 => by
    rw [List.range_succ, List.filterMap_append, List.sum_append, sum_bits m n, Nat.mod_pow_succ]
    have e : ((m : Int) / 2 ^ n % 2) = ((m / 2 ^ n % 2 : Nat) : Int) := by
      rw [Int.natCast_emod, Int.natCast_ediv, Int.natCast_pow]
      rfl
    rw [List.filterMap_cons, List.filterMap_nil, e]
    have l : m / 2 ^ n % 2 < 2 := Nat.mod_lt _ (by decide)
    rcases (by omega : m / 2 ^ n % 2 = 0 ∨ m / 2 ^ n % 2 = 1) with z | z
    · rw [z]
      simp
    · rw [z]
      simp
theorem valB_bits {i : Int} (h0 : 0 ≤ i) (h1 : i ≤ 4095) : valB (bitsB i) = i := by
  obtain ⟨m, rfl⟩ := Int.eq_ofNat_of_zero_le h0
  unfold valB numsB
  rw [fm_congr (g := fun k => if decide ((m : Int) / 2 ^ k % 2 = 1) = true then some ((2 : Int) ^ k) else none) fun k hk => by rw [bits_get (List.mem_range.mp hk)], sum_bits]
  rw [Nat.mod_eq_of_lt (by omega)]
theorem bits_len {i : Int} : (bitsB i).length = 12 := by
  unfold bitsB
  rw [List.length_map, List.length_range]
def spOne : Sp := fun vs H Q _ => ∃ i : Int, vs = [.int i] ∧ 0 ≤ i ∧ i ≤ 4095 ∧ ∀ H', Same H H' → Q (.bl true) H'
/-- word_of_bits of a list or a tuple of truths -/
theorem wob_ok {K : PySem.W.Frag} {CB a : Addr} {H : Hp} {Q : VK} {E : XK} {bs : List Bool} (h : H a = some (.lst (bs.map V.bl)) ∨ H a = some (.tup (bs.map V.bl))) (l : bs.length = 12) (q : ∀ H', Same H H' → Q (.int (valB bs)) H') : spWob K CB [.ref a] H Q E := by
  refine ⟨.ref a, rfl, .inr ⟨a, _, rfl, fun H' s => ?_, h.imp sqL sqT, by rw [List.length_map, l]; decide, fun H' s y hy => ?_, .inr ⟨bs, rfl, l, q⟩⟩⟩
  · rcases h with h | h
    · exact isb_lst (s _ _ h) (b := true) (c := false)
    · exact isb_tup (s _ _ h) (b := false) (c := true)
  · obtain ⟨b, _, rfl⟩ := List.mem_map.mp hy
    exact isa_bl (b := true)
theorem bits_ok {K : PySem.W.Frag} {CW : Addr} {H : Hp} {Q : VK} {E : XK} {i : Int} (i0 : 0 ≤ i) (i1 : i ≤ 4095) (q : ∀ p H', H p = none → Same H H' → H' p = some (.lst ((bitsB i).map V.bl)) → Q (.ref p) H') : spBits K CW [.int i] H Q E :=
  ⟨.int i, rfl, .inl ⟨i, rfl⟩, .inr ⟨i, rfl, i0, i1, q⟩⟩
section
variable {P : Program} {w : World} {K : PySem.W.Frag} {mg : Str → Option Value} {base : Heap} {CG CW CB CN fG fW fB fN : Addr}
theorem ok_named {f : Addr} {fd : FuncData} (F : Fun K "_law_named" "_law_named" s_named_L f fd) (T : Txt K mg CG CW CB CN fG fW fB fN) (c_sum_of : CalX P w K mg base 6 "sum_of" (spSum K CW)) (c_difference : CalX P w K mg base 6 "difference" (spDif K CW))
    (c_divided : CalX P w K mg base 6 "divided" (spDiv K CW CN)) (k_sum_of_other_one : CalNX P w K mg base 6 ["other", "one"] "sum_of" (spSum K CW) (fun _ zs => zs.reverse)) (k_difference_other_one : CalNX P w K mg base 6 ["other", "one"] "difference" (spDif K CW) (fun _ zs => zs.reverse))
    (k_divided_other_one : CalNX P w K mg base 6 ["other", "one"] "divided" (spDiv K CW CN) (fun _ zs => zs.reverse)) (k_bits_of_word : CalNX P w K mg base 5 ["word"] "bits_of" (spBits K CW) (fun _ zs => zs)) (k_word_of_bits_bits : CalNX P w K mg base 4 ["bits"] "word_of_bits" (spWob K CB) (fun _ zs => zs)) :
    FnOk P w K mg base CX0 7 f fd ["_law_left", "_law_right"] spTwo := by
  refine F.ok sc_named_L (fun vs H Q E h => ?_) (fun cdv A outer s H vs Q E hr h => have hu64 := hr.units; ⟨_, (pss_cons (ps_set (i := 2) sc_named_L.nd rfl (.inl rfl) (pe_lst (pa_cons (pe_calNY k_sum_of_other_one hr (by decide) (by rfl) (pk_cons (pv 1) (pk_cons (pv 0) pk_nil))) (pa_cons (pe_calNY k_difference_other_one hr (by decide) (by rfl) (pk_cons (pv 1) (pk_cons (pv 0) pk_nil))) pa_nil))))
    (pss_cons (ps_if (pt_cmpR (op_neD hu64) (pv 2) (pe_lst (pa_cons (pe_calY c_sum_of hr (by decide) (by rfl) (pa_cons (pv 0) (pa_cons (pv 1) pa_nil))) (pa_cons (pe_calY c_difference hr (by decide) (by rfl) (pa_cons (pv 0) (pa_cons (pv 1) pa_nil))) pa_nil))) (nomark _)) (pss_one (ps_ret pe_bl)) pss_nil)
    (pss_cons (ps_if (PW.pt (pw_and (pt_cmpR op_gt (pv 1) pe_int (nomark _)) (pw_and1 (pt_cmpR (op_neD hu64) (pe_calNY k_divided_other_one hr (by decide) (by rfl) (pk_cons (pv 1) (pk_cons (pv 0) pk_nil))) (pe_calY c_divided hr (by decide) (by rfl) (pa_cons (pv 0) (pa_cons (pv 1) pa_nil))) (nomark _))))) (pss_one (ps_ret pe_bl)) pss_nil)
    (pss_one (ps_ret (pe_cmpR op_eq (pe_calNY k_word_of_bits_bits hr (by decide) (by rfl) (pk_cons (pe_calNY k_bits_of_word hr (by decide) (by rfl) (pk_cons (pv 0) pk_nil)) pk_nil)) (pv 0) (nomark _))))))), ?_⟩)
  · obtain ⟨i, j, rfl, _⟩ := h
    rfl
  · obtain ⟨i, j, rfl, i0, i1, j0, j1, q⟩ := h
    walk_at "go"
    refine ⟨rfl, rfl, _, _, rfl, two_ok i0 i1 j0 j1 ?_⟩
    walk_at "go"
    refine ⟨rfl, rfl, _, _, rfl, two_ok i0 i1 j0 j1 ?_⟩
    walk_at "go"
    refine newL fun p1 H1 n1 s1 e1 => ?_
    walk_at "go"
    refine ⟨_, _, rfl, two_ok i0 i1 j0 j1 ?_⟩
    walk_at "go"
    refine ⟨_, _, rfl, two_ok i0 i1 j0 j1 ?_⟩
    walk_at "go"
    refine newL fun p2 H2 n2 s2 e2 => ?_
    refine r_neSame (d := .list [.int ((i + j) % 4096), .int ((i - j) % 4096)]) (.lst (sqL (s2 _ _ e1)) (.cons (.int _) (.cons (.int _) .nil))) (.lst (sqL e2) (.cons (.int _) (.cons (.int _) .nil))) rfl ?_
    walk_at "go"
    have s12 := s1.trans s2
    refine iteC (fun jp => ?_) (fun jp => ?_)
    · walk_at "go"
      refine ⟨rfl, rfl, _, _, rfl, two_ok i0 i1 j0 j1 (.inr ⟨jp, fun p3 H3 n3 s3 e3 => ?_⟩)⟩
      walk_at "go"
      refine ⟨_, _, rfl, two_ok i0 i1 j0 j1 (.inr ⟨jp, fun p4 H4 n4 s4 e4 => ?_⟩)⟩
      refine r_neSame (d := .tuple [.int (i / j), .int (i % j)]) (.tup (sqT (s4 _ _ e3)) (.cons (.int _) (.cons (.int _) .nil))) (.tup (sqT e4) (.cons (.int _) (.cons (.int _) .nil))) rfl ?_
      walk_at "go"
      refine ⟨rfl, rfl, bits_ok i0 i1 fun p5 H5 n5 s5 e5 => ?_⟩
      walk_at "go"
      refine ⟨rfl, rfl, wob_ok (.inl e5) bits_len fun H6 s6 => ?_⟩
      walk_at "go"
      rw [valB_bits i0 i1]
      rw [decide_eq_true rfl]
      exact q H6 (((s12.trans (s3.trans s4)).trans s5).trans s6)
    · walk_at "go"
      refine ⟨rfl, rfl, bits_ok i0 i1 fun p5 H5 n5 s5 e5 => ?_⟩
      walk_at "go"
      refine ⟨rfl, rfl, wob_ok (.inl e5) bits_len fun H6 s6 => ?_⟩
      walk_at "go"
      rw [valB_bits i0 i1]
      rw [decide_eq_true rfl]
      exact q H6 ((s12.trans s5).trans s6)
theorem half {i : Int} (h0 : 0 ≤ i) (k : Nat) : i / 2 ^ k / 2 = i / 2 ^ (k + 1) := by
  obtain ⟨m, rfl⟩ := Int.eq_ofNat_of_zero_le h0
  have e : ((m / 2 ^ k / 2 : Nat) : Int) = ((m / 2 ^ (k + 1) : Nat) : Int) := by rw [Nat.div_div_eq_div_mul, ← Nat.pow_succ]
  rw [Int.natCast_ediv, Int.natCast_ediv, Int.natCast_ediv, Int.natCast_pow, Int.natCast_pow] at e
  exact e
theorem ok_bitsR {f : Addr} {fd : FuncData} (F : Fun K "_law_bits_right" "_law_bits_right" s_bits_right_L f fd) (T : Txt K mg CG CW CB CN fG fW fB fN) (c_bits_of : CalX P w K mg base 5 "bits_of" (spBits K CW)) (c_word_of_bits : CalX P w K mg base 4 "word_of_bits" (spWob K CB)) :
    FnG P w K mg base CX0 6 f fd ["_law_value"] spOne := by
  refine fun_okG F sc_bits_right_L (fun vs H Q E h => ?_) (fun cdv A outer s H vs Q E ga hr h => ⟨_, (pss_cons (ps_set (i := 1) sc_bits_right_L.nd rfl (.inl rfl) (pe_lst pa_nil))
    (pss_cons (ps_set (i := 2) sc_bits_right_L.nd rfl (.inl rfl) (pv 0))
    (pss_cons (ps_for PassesOwn.never rfl (pi_range1 (by rfl) T.m_range (pa_cons pe_int pa_nil)) (pg_name (i := 3) sc_bits_right_L.nd rfl (.inl rfl))
      (pss_cons (ps_expr (pe_bm PySem.F.plainAttrs_list PySem.F.slot_list_append PySem.F.type_list_append mt_append (pv 1) (pa_cons (pe_cmpR op_eq (pe_op op_mod (pv 2) pe_int) pe_int (nomark _)) pa_nil)))
    (pss_one (ps_set (i := 2) sc_bits_right_L.nd rfl (.inl rfl) (pe_op op_fdivW (pv 2) pe_int)))))
    (pss_cons (ps_for PassesOwn.never rfl (pi_range1 (by rfl) T.m_range (pa_cons pe_int pa_nil)) (pg_name (i := 4) sc_bits_right_L.nd rfl (.inl rfl))
      (pss_cons (ps_set (i := 5) sc_bits_right_L.nd rfl (.inl rfl) (pe_calY c_bits_of hr (by decide) (by rfl) (pa_cons (pv 0) pa_nil)))
    (pss_cons (ps_if (pt_cmpR op_ne (pe_callB (call_repr_shw ga hr) (by rfl) T.m_repr (by decide +kernel) (pa_cons (pv 5) pa_nil)) (pe_callB (call_repr_shw ga hr) (by rfl) T.m_repr (by decide +kernel) (pa_cons (pv 1) pa_nil)) (nomark _)) (pss_one (ps_ret pe_bl)) pss_nil)
    (pss_cons (ps_expr (pe_bm PySem.F.plainAttrs_list PySem.F.slot_list_append PySem.F.type_list_append mt_append (pv 5) (pa_cons pe_bl pa_nil)))
    (pss_one (ps_expr (pe_bm0 PySem.F.plainAttrs_list PySem.F.slot_list_reverse PySem.F.type_list_reverse mt_reverse (pv 5))))))))
    (pss_one (ps_ret (pe_cmpR op_eq (pe_callB (call_repr_shw ga hr) (by rfl) T.m_repr (by decide +kernel) (pa_cons (pe_lst (pa_cons (pe_calY c_word_of_bits hr (by decide) (by rfl) (pa_cons (pv 1) pa_nil)) (pa_cons (pe_calY c_word_of_bits hr (by decide) (by rfl) (pa_cons (pe_callTy call_tuple_of (by rfl) T.m_tuple (by decide +kernel) (pa_cons (pv 1) pa_nil)) pa_nil)) pa_nil))) pa_nil)) (pe_callB (call_repr_shw ga hr) (by rfl) T.m_repr (by decide +kernel) (pa_cons (pe_lst (pa_cons (pv 0) (pa_cons (pv 0) pa_nil))) pa_nil)) (nomark _)))))))), ?_⟩)
  · obtain ⟨i, rfl, _⟩ := h
    rfl
  · obtain ⟨i, rfl, i0, i1, q⟩ := h
    walk_at "go"
    refine newL fun p H1 np s1 e1 => ?_
    walk_at "go"
    refine ⟨12, rfl, by decide, by decide, ?_⟩
    refine for_range (fun k σ H' => (∃ x3, σ = [some (.int i), some (.ref p), some (.int (i / 2 ^ k)), x3, none, none]) ∧ But p H1 H' ∧ H' p = some (.lst ((List.range k).map fun t => .bl (decide (i / 2 ^ t % 2 = 1))))) ⟨⟨none, by rw [Int.pow_zero, Int.ediv_one]; rfl⟩, But.refl, e1⟩ ?_ ?_
    · rintro k σ H2 hk ⟨⟨x3, rfl⟩, b2, e2⟩
      walk_at "go"
      refine ⟨.inl ⟨rfl, _, sqL e2⟩, ?_⟩
      walk_at "go"
      refine r_I (by decide) ?_
      walk_at "go"
      refine ⟨p, _, _, rfl, rfl, e2, ?_, ?_⟩
      · rw [List.length_map, List.length_range]
        exact Nat.lt_of_lt_of_le hk (by decide)
      walk_at "go"
      refine r_I (cdiv (by decide) (by decide)) ?_
      walk_at "go"
      refine ⟨⟨_, by rw [half i0 k]; rfl⟩, b2.trans But.upd, ?_⟩
      rw [upd_same, List.range_succ, List.map_append]
      simp only [V.int.injEq]
      rfl
    rintro σ H2 ⟨⟨x3, rfl⟩, b2, e2⟩
    have e2 : H2 p = some (.lst ((bitsB i).map V.bl)) := by
      rw [e2]
      unfold bitsB
      rw [List.map_map]
      rfl
    have s2 := butSame s1 np b2
    walk_at "go"
    refine ⟨2, rfl, by decide, by decide, ?_⟩
    refine for_range (fun k σ H' => (∃ x4 x5, σ = [some (.int i), some (.ref p), some (.int (i / 2 ^ 12)), x3, x4, x5]) ∧ Same H2 H') ⟨⟨none, none, rfl⟩, Same.refl _⟩ ?_ ?_
    · rintro k σ H3 hk ⟨⟨x4, x5, rfl⟩, s3⟩
      walk_at "go"
      refine bits_ok i0 i1 fun p4 H4 n4 s4 e4 => ?_
      walk_at "go"
      refine ⟨_, _, rfl, shw_lsc (sqL e4) smS_bls (by rw [List.length_map, bits_len]; decide), ?_⟩
      walk_at "go"
      refine ⟨_, _, rfl, shw_lsc (sqL (s4 _ _ (s3 _ _ e2))) smS_bls (by rw [List.length_map, bits_len]; decide), ?_⟩
      refine r_ne rfl ?_
      rw [decide_eq_true rfl]
      walk_at "go"
      refine ⟨.inl ⟨rfl, _, sqL e4⟩, ?_⟩
      walk_at "go"
      refine ⟨p4, _, _, rfl, rfl, e4, by rw [List.length_map, bits_len]; decide, ?_⟩
      walk_at "go"
      refine ⟨_, rfl, .inl ⟨rfl, _, sqL upd_same⟩, ?_⟩
      refine ⟨p4, _, rfl, rfl, upd_same, ?_⟩
      walk_at "go"
      exact ⟨⟨_, _, rfl⟩, s3.trans (butSame s4 n4 (But.upd.trans But.upd))⟩
    · rintro σ H3 ⟨⟨x4, x5, rfl⟩, s3⟩
      walk_at "go"
      refine wob_ok (.inl (s3 _ _ e2)) bits_len fun H4 s4 => ?_
      walk_at "go"
      refine ⟨p, _, rfl, .inl ⟨sqL (s4 _ _ (s3 _ _ e2)), fun p5 n5 => ?_⟩⟩
      have s5 := same_upd (o := .tup ((bitsB i).map V.bl)) n5
      walk_at "go"
      refine wob_ok (.inr upd_same) bits_len fun H6 s6 => ?_
      walk_at "go"
      refine newL fun p7 H7 n7 s7 e7 => ?_
      rw [valB_bits i0 i1] at e7
      walk_at "go"
      have sm : [V.int i, .int i].all smS = true := by
        simp only [List.all_cons, List.all_nil, Bool.and_true, Bool.and_self]
        exact small_int (by omega) (by omega)
      refine ⟨_, _, rfl, shw_lsc (sqL e7) sm (Nat.le_of_ble_eq_true rfl), ?_⟩
      walk_at "go"
      refine newL fun p8 H8 n8 s8 e8 => ?_
      walk_at "go"
      refine ⟨_, _, rfl, shw_lsc (sqL e8) sm (Nat.le_of_ble_eq_true rfl), ?_⟩
      refine r_eq rfl ?_
      rw [decide_eq_true rfl]
      exact q H8 ((((((s2.trans s3).trans s4).trans s5).trans s6).trans s7).trans s8)
end
end K03

namespace K03
open PySem PySem.Spec PyProof.Rows L2 Bk


theorem box_upd {bx a : Addr} {n : Nat} {H : Hp} {o : HO} (h : Box bx n H) (ne : a ≠ bx) : Box bx n (upd H a o) := by
  obtain ⟨x, y, z, e, r⟩ := h
  exact ⟨x, y, z, by rw [upd_ne ne.symm]; exact e, r⟩
theorem but_upd {bx a : Addr} {H0 H : Hp} {o : HO} (b : But bx H0 H) (fr : H0 a = none) : But bx H0 (upd H a o) := fun c u ne e => by
  rw [upd_ne (ne_of_none e fr)]
  exact b c u ne e
theorem odd_same {K : PySem.W.Frag} {bx p : Addr} {n : Nat} {H0 H : Hp} {tag : Str} {v : V} {Q : VK} {E : XK} (o : Odd bx H0 H v) (hB : Box bx n H) (b : But bx H0 H) (ep : H p = some (.tup [.str tag, v])) (q : ∀ H', Box bx n H' → But bx H0 H' → Q (.bl true) H') :
    spSame K [.ref p, .str tag, v] H Q E := by
  refine ⟨p, tag, v, v, rfl, ep, ?_⟩
  cases o with
  | int i h hb =>
    have sm : smS (.int i) = true := smS_int (Nat.lt_of_le_of_lt hb (by decide))
    exact .inl ⟨isa_int, ⟨_, shw_sc sm, shw_sc sm⟩, q _ hB b⟩
  | non => exact .inl ⟨isa_non, ⟨_, shw_sc rfl, shw_sc rfl⟩, q _ hB b⟩
  | bl c => exact .inl ⟨isa_bl, ⟨_, shw_sc rfl, shw_sc rfl⟩, q _ hB b⟩
  | str => exact .inl ⟨isa_str, ⟨_, shw_sc (by decide +kernel), shw_sc (by decide +kernel)⟩, q _ hB b⟩
  | lst a xs e ne fr hx =>
    have sm : (xs ++ [V.str "more"]).all smS = true := by
      rcases hx with rfl | rfl <;> decide +kernel
    have hl : xs.length ≤ 1 := by rcases hx with rfl | rfl <;> decide
    have sh : Shw K (upd H a (.lst (xs ++ [.str "more"]))) (.ref a) _ := shw_lsc (sqL upd_same) sm (by rw [List.length_append]; exact Nat.le_trans (Nat.add_le_add_right hl 1) (by decide))
    exact .inr ⟨a, xs, rfl, e, Nat.le_trans hl (by decide), ⟨_, sh, sh⟩, q _ (box_upd hB ne) (but_upd b fr)⟩
  | tup a e =>
    have sh : Shw K H (.ref a) _ := shw_tsc (sqT e) (by decide +kernel) (by decide)
    exact .inl ⟨isa_tup e, ⟨_, sh, sh⟩, q _ hB b⟩
  | dK a e => exact .inl ⟨isa_dK e, ⟨_, shw_dK e, shw_dK e⟩, q _ hB b⟩
def spRef : Sp := fun vs H Q _ => ∃ (a : Addr) (n : Nat) (way : Int), vs = [.ref a, .int way] ∧ Box a n H ∧ n < 900000 ∧ (way = 0 ∨ way = 1 ∨ way = 2 ∨ way = 3) ∧ ∀ H', Box a (n + 20) H' → But a H H' → Q (.bl true) H'
def spTru : Sp := fun vs H Q _ => ∃ (a : Addr) (n : Nat), vs = [.ref a] ∧ Box a n H ∧ n < 900000 ∧ ∀ H', Box a (n + 20) H' → But a H H' → Q (.bl true) H'
def spLaw (K : PySem.W.Frag) : Sp := fun vs H Q _ => ∃ (a : Addr) (ns : List Int), vs = [.ref a] ∧ SqL K H a (ns.map V.int) ∧ ns.length ≤ 63 ∧ ∀ H', Q (.bl true) H'
section
variable {P : Program} {w : World} {K : PySem.W.Frag} {mg : Str → Option Value} {base : Heap} {CG CW CB CN fG fW fB fN : Addr}
theorem ok_refused {f : Addr} {fd : FuncData} (F : Fun K "_law_refused_right" "_law_refused_right" s_refused_right_L f fd) (T : Txt K mg CG CW CB CN fG fW fB fN) (c_take_L : CalD P w K mg base CX0 1 "_law_take" spTake []) (c_bad_L : CalD P w K mg base CX0 2 "_law_bad" spBad [])
    (c_word_L : CalD P w K mg base CX0 2 "_law_word" spWordL []) (c_caught_L : CalD P w K mg base CX0 7 "_law_caught" (spCaught K) []) (c_same_L : CalG P w K mg base CX0 1 "_law_same" (spSame K)) : FnG P w K mg base CX0 8 f fd ["_law_box_here", "_law_way"] spRef := by
  refine fun_okG F sc_refused_right_L (fun vs H Q E h => ?_) (fun cdv A outer s H vs Q E ga hr h => ⟨_, (pss_cons (ps_set (i := 2) sc_refused_right_L.nd rfl (.inl rfl) (pe_cal c_bad_L hr (by decide) (by rfl) (pa_cons (pv 0) pa_nil)))
    (pss_cons (ps_set (i := 3) sc_refused_right_L.nd rfl (.inl rfl) (pe_ix ix_list (pe_lst (pa_cons pe_int (pa_cons pe_non (pa_cons pe_int pa_nil)))) (pe_cal c_take_L hr (by decide) (by rfl) (pa_cons (pv 0) (pa_cons pe_int pa_nil))) (fun _ _ => rfl)))
    (pss_cons (ps_if (pt_not (pt_val (pe_calG c_same_L ga hr (by decide) (by rfl) (pa_cons (pe_cal c_caught_L hr (by decide) (by rfl) (pa_cons (pv 1) (pa_cons (pv 2) (pa_cons (pv 3) pa_nil)))) (pa_cons pe_str (pa_cons (pv 2) pa_nil)))))) (pss_one (ps_ret pe_bl)) pss_nil)
    (pss_cons (ps_set (i := 2) sc_refused_right_L.nd rfl (.inl rfl) (pe_cal c_bad_L hr (by decide) (by rfl) (pa_cons (pv 0) pa_nil)))
    (pss_cons (ps_set (i := 4) sc_refused_right_L.nd rfl (.inl rfl) (pe_cal c_word_L hr (by decide) (by rfl) (pa_cons (pv 0) pa_nil)))
    (pss_one (ps_ret (pe_or (pe_cmpR op_eq (pv 1) pe_int (nomark _)) (pe_one (pe_calG c_same_L ga hr (by decide) (by rfl) (pa_cons (pe_cal c_caught_L hr (by decide) (by rfl) (pa_cons (pv 1) (pa_cons (pv 4) (pa_cons (pv 2) pa_nil)))) (pa_cons pe_str (pa_cons (pv 2) pa_nil))))))))))))), ?_⟩)
  · obtain ⟨a, n, way, rfl, _⟩ := h
    rfl
  · obtain ⟨a, n, way, rfl, hB, hn, hw, q⟩ := h
    walk_at "go"
    refine ⟨a, n, rfl, hB, by omega, fun v H1 o1 hB1 b1 => ?_⟩
    walk_at "go"
    refine newL fun p2 H2 n2 s2 e2 => ?_
    walk_at "go"
    refine r_take (hB1.same s2) fun d3 H3 d30 d31 hB3 b3 => ?_
    refine r_ixLo (sqL (b3 _ _ (hB1.ne n2) e2)) d30 d31 fun y _ _ => ?_
    have o3 := (o1.but hB1 (.of s2)).but (hB1.same s2) b3
    have b03 : But a H H3 := (b1.same s2).trans b3
    walk_at "go"
    refine ⟨way, v, y, "word", v, rfl, .inl ⟨rfl, rfl, hw, o3.WD, o3.wd⟩, fun p4 H4 n4 s4 e4 => ?_⟩
    walk_at "go"
    refine odd_same (o3.but hB3 (.of s4)) (hB3.same s4) (b03.same s4) e4 fun H5 hB5 b5 => ?_
    walk_at "go"
    refine ⟨a, _, rfl, hB5, by omega, fun v2 H6 o6 hB6 b6 => ?_⟩
    walk_at "go"
    refine ⟨a, _, rfl, hB6, by omega, fun i H7 i0 i1 hB7 b7 => ?_⟩
    walk_at "go"
    have o7 := o6.but hB6 b7
    have b57 := b6.trans b7
    refine iteC (fun h3 => ?_) (fun h3 => ?_)
    · exact q _ (hB7.mono (by omega)) (b5.trans b57)
    · walk_at "go"
      have hw3 : way = 0 ∨ way = 1 ∨ way = 2 := by
        rcases hw with z | z | z | z
        · exact .inl z
        · exact .inr (.inl z)
        · exact .inr (.inr z)
        · exact absurd (by rw [z]) h3
      refine ⟨way, .int i, v2, "word", v2, rfl, .inr (.inl ⟨rfl, rfl, hw3, ⟨i, rfl, i0, i1⟩, o7.WD, o7.wd⟩), fun p8 H8 n8 s8 e8 => ?_⟩
      walk_at "go"
      refine odd_same (o7.but hB7 (.of s8)) (hB7.same s8) (b57.same s8) e8 fun H9 hB9 b9 => ?_
      exact q _ (hB9.mono (by omega)) (b5.trans b9)
end
end K03

namespace K03
open PySem PySem.Spec PyProof.Rows L2 Bk


def hv : List Bool → Int
  | [] => 0
  | b :: bs => (if b then 1 else 0) + 2 * hv bs
theorem hv_nn : ∀ bs, 0 ≤ hv bs
  | [] => by decide
  | b :: bs => by
    have h := hv_nn bs
    show 0 ≤ (if b then (1 : Int) else 0) + 2 * hv bs
    split <;> omega
theorem hv_lt : ∀ bs : List Bool, hv bs < 2 ^ bs.length
  | [] => by decide
  | b :: bs => by
    have h := hv_lt bs
    show (if b then (1 : Int) else 0) + 2 * hv bs < 2 ^ (bs.length + 1)
    rw [Int.pow_succ]
    split <;> omega
theorem hv_bit : ∀ (bs : List Bool) (k : Nat), k < bs.length → decide (hv bs / 2 ^ k % 2 = 1) = bs.getD k false
  | b :: bs, 0, _ => by
    show decide (((if b then (1 : Int) else 0) + 2 * hv bs) / 2 ^ 0 % 2 = 1) = b
    rw [Int.pow_zero, Int.ediv_one]
    cases b
    · exact decide_eq_false (by simp)
    · exact decide_eq_true (by simp <;> omega)
  | b :: bs, k + 1, h => by
    have e : hv (b :: bs) / 2 ^ (k + 1) = hv bs / 2 ^ k := by
      have z : hv (b :: bs) / 2 = hv bs := by
        show ((if b then (1 : Int) else 0) + 2 * hv bs) / 2 = hv bs
        split <;> omega
      obtain ⟨m, hm⟩ := Int.eq_ofNat_of_zero_le (hv_nn (b :: bs))
      rw [← z, hm]
      have e : ((m / 2 / 2 ^ k : Nat) : Int) = ((m / 2 ^ (k + 1) : Nat) : Int) := by rw [Nat.div_div_eq_div_mul, Nat.pow_succ, Nat.mul_comm]
      rw [Int.natCast_ediv, Int.natCast_ediv, Int.natCast_ediv, Int.natCast_pow, Int.natCast_pow] at e
      exact e.symm
    rw [e, hv_bit bs k (Nat.lt_of_succ_lt_succ h)]
    rfl
theorem getD_all (bs : List Bool) : (List.range bs.length).map (fun k => bs.getD k false) = bs := by
  refine List.ext_getElem (by simp) fun k h1 h2 => ?_
  rw [List.getElem_map, List.getElem_range, List.getD_eq_getElem?_getD, List.getElem?_eq_getElem h2]
  rfl
theorem bits_hv {bs : List Bool} (l : bs.length = 12) : bitsB (hv bs) = bs := by
  have e : bitsB (hv bs) = (List.range 12).map fun k => bs.getD k false := List.map_congr_left fun k hk => hv_bit bs k (by rw [l]; exact List.mem_range.mp hk)
  rw [e, ← l]
  exact getD_all bs
theorem hv_top {bs : List Bool} (l : bs.length = 12) : hv bs ≤ 4095 := by
  have h := hv_lt bs
  rw [l] at h
  have e : (2 : Int) ^ 12 = 4096 := by decide
  omega
theorem valB_hv {bs : List Bool} (l : bs.length = 12) : valB bs = hv bs := by
  have h := valB_bits (hv_nn bs) (hv_top l)
  rw [bits_hv l] at h
  exact h
theorem bl_list : ∀ {xs : List V}, (∀ v ∈ xs, ∃ b, v = V.bl b) → ∃ bs : List Bool, xs = bs.map V.bl
  | [], _ => ⟨[], rfl⟩
  | x :: xs, h => by
    obtain ⟨b, rfl⟩ := h x List.mem_cons_self
    obtain ⟨bs, rfl⟩ := bl_list fun v hv => h v (List.mem_cons_of_mem _ hv)
    exact ⟨b :: bs, rfl⟩
theorem cut_to {xs : List V} {m : Nat} (h : m ≤ xs.length) : cutV xs none (some (m : Int)) = xs.take m := by
  unfold cutV
  rw [HT.sIx_none, HT.sIx_nat, Nat.min_eq_left h, List.drop_zero, Nat.sub_zero]
theorem cut_from {xs : List V} {m : Nat} (h : m ≤ xs.length) : cutV xs (some (m : Int)) none = xs.drop m := by
  unfold cutV
  rw [HT.sIx_none, HT.sIx_nat, Nat.min_eq_left h]
  exact List.take_of_length_le (by rw [List.length_drop]; exact Nat.le_refl _)
/-- what may stand in a row -/
def Rit (H : Hp) (y : V) : Prop := smS y = true ∨ (∃ a, y = .ref a ∧ H a = some (.lst [.bl true])) ∨ ∃ a, y = .ref a ∧ H a = some (.tup [])
theorem Rit.isa {K : PySem.W.Frag} {H : Hp} {y : V} (h : Rit H y) : IsA K H y "bool" (isB y) := by
  rcases h with h | ⟨a, rfl, e⟩ | ⟨a, rfl, e⟩
  · cases y with
    | non => exact isa_non (b := false)
    | bl b => exact isa_bl (b := true)
    | int i => exact isa_int (b := false)
    | str z => exact isa_str (b := false)
    | _ => exact nomatch h
  · exact isa_lst e (b := false)
  · exact isa_tup e (b := false)
theorem Rit.itm {K : PySem.W.Frag} {H : Hp} {y : V} (h : Rit H y) : Itm K H y := by
  rcases h with h | ⟨a, rfl, e⟩ | ⟨a, rfl, e⟩
  · exact itm_sc h
  · exact ⟨.list [.bool true], .lst (sqL e) (.cons (.bl true) .nil), by decide +kernel, by decide +kernel, by decide +kernel⟩
  · exact ⟨.tuple [], .tup (sqT e) .nil, by decide +kernel, by decide +kernel, by decide +kernel⟩
theorem Rit.same {H H' : Hp} {y : V} (h : Rit H y) (s : Same H H') : Rit H' y := by
  rcases h with h | ⟨a, rfl, e⟩ | ⟨a, rfl, e⟩
  · exact .inl h
  · exact .inr (.inl ⟨a, rfl, s _ _ e⟩)
  · exact .inr (.inr ⟨a, rfl, s _ _ e⟩)
/-- a row that is no list of twelve truths -/
structure Row (H : Hp) (xs : List V) : Prop where
  it : ∀ y ∈ xs, Rit H y
  len : xs.length ≤ 100
  bad : ¬ (xs.length = 12 ∧ xs.all isB = true)
theorem Row.same {H H' : Hp} {xs : List V} (h : Row H xs) (s : Same H H') : Row H' xs := ⟨fun y hy => (h.it y hy).same s, h.len, h.bad⟩
theorem Row.caught {K : PySem.W.Frag} {H : Hp} {xs : List V} {a : Addr} {y : V} (h : Row H xs) (e : H a = some (.lst xs) ∨ H a = some (.tup xs)) : Caught K 4 (.ref a) y H "bits" (.ref a) :=
  .inr (.inr (.inr ⟨rfl, rfl, rfl, .inr ⟨a, xs, rfl, fun H' s => by
    rcases e with e | e
    · exact isb_lst (s _ _ e) (b := true) (c := false)
    · exact isb_tup (s _ _ e) (b := false) (c := true), e.imp sqL sqT, Nat.le_trans h.len (by decide), fun H' s y hy => ((h.it y hy).same s).isa, h.bad⟩⟩))
end K03

namespace K03
open PySem PySem.Spec PyProof.Rows L2 Bk


theorem lay_bls : ∀ bs : List Bool, PyData.canLayAll0 ((bs.map V.bl).map datS) = true
  | [] => rfl
  | b :: bs => by
    rw [List.map_cons, List.map_cons]
    simp only [PyData.canLayAll0, datS, PyData.canLay0, lay_bls bs, Bool.and_self]
theorem sh_bls (bs : List Bool) : SeqAt.shaped (.list ((bs.map V.bl).map datS)) = true := by
  have h : PyData.depthAll ((bs.map V.bl).map datS) = 0 := (datSs (K := []) (H := fun _ => none) (smS_bls (bs := bs))).2.2.2
  unfold SeqAt.shaped
  simp only [PyData.canLay0, lay_bls bs, PyData.depth, h]
  decide
theorem dp_bls {K : PySem.W.Frag} {p : Addr} {G : Hp} {bs : List Bool} (e : G p = some (.lst (bs.map V.bl))) : Dp K G (.ref p) (.list ((bs.map V.bl).map datS)) := .lst (sqL e) (datSs smS_bls).1
section
variable {H : Hp} {Q : VK} {a b : Addr} {xs ys : List V} {lo hi : Option Int}
theorem r_slL {K : PySem.W.Frag} (h : SqL K H a xs) (e : cutV xs lo hi = ys) (q : ∀ p H', H p = none → Same H H' → H' p = some (.lst ys) → Q (.ref p) H') : rSlL K (.ref a) lo hi H Q :=
  ⟨a, xs, rfl, h, fun p n => q p _ n (same_upd n) (by rw [upd_same, e])⟩
theorem r_cat (h1 : H a = some (.lst xs)) (h2 : H b = some (.lst ys)) (q : ∀ p H', H p = none → Same H H' → H' p = some (.lst (xs ++ ys)) → Q (.ref p) H') (l : xs.length + ys.length ≤ 10000 := by omega) : rCat (.ref a) (.ref b) H Q :=
  ⟨a, b, xs, ys, rfl, rfl, h1, h2, Nat.le_trans l (by decide), fun p n => q p _ n (same_upd n) upd_same⟩
end
theorem shw_tup2 {K : PySem.W.Frag} {H : Hp} {a b : Addr} {xs : List V} (h : SqT K H a xs) (h2 : SqT K H b xs) (i : ∀ y ∈ xs, Itm K H y) (l : xs.length ≤ 150) : ∃ z, Shw K H (.ref a) z ∧ Shw K H (.ref b) z := by
  obtain ⟨ds, g1, g2, g3, g4⟩ := itms i
  exact ⟨_, shw_of (.tup h g1) (by simpa only [smallD] using g2) (by simp only [PyData.bulk]; omega) (by simp only [PyData.depth]; omega),
    shw_of (.tup h2 g1) (by simpa only [smallD] using g2) (by simp only [PyData.bulk]; omega) (by simp only [PyData.depth]; omega)⟩
theorem but_none {a c : Addr} {H G : Hp} (b : But a H G) (ne : c ≠ a) (h : G c = none) : H c = none := by
  cases e : H c with
  | none => rfl
  | some o => exact nomatch h.symm.trans (b _ _ ne e)
section
variable {P : Program} {w : World} {K : PySem.W.Frag} {mg : Str → Option Value} {base : Heap} {CG CW CB CN fG fW fB fN : Addr}
theorem ok_truths {f : Addr} {fd : FuncData} (F : Fun K "_law_truths_right" "_law_truths_right" s_truths_right_L f fd) (T : Txt K mg CG CW CB CN fG fW fB fN) (c_take_L : CalD P w K mg base CX0 1 "_law_take" spTake [])
    (c_bits_of : CalX P w K mg base 5 "bits_of" (spBits K CW)) (c_word_of_bits : CalX P w K mg base 4 "word_of_bits" (spWob K CB)) (c_caught_L : CalD P w K mg base CX0 7 "_law_caught" (spCaught K) []) (c_same_L : CalG P w K mg base CX0 1 "_law_same" (spSame K)) :
    FnG P w K mg base CX0 8 f fd ["_law_box_here"] spTru := by
  refine fun_okG F sc_truths_right_L (fun vs H Q E h => ?_) (fun cdv A outer s H vs Q E ga hr h => have hu64 := hr.units; ⟨_, (pss_cons (ps_setLc (i := 2) (own := [("_law_place", 1)]) rfl sc_truths_right_L.nd rfl rfl (sw_true rfl rfl rfl (by decide +kernel)) (pi_range1 (by rfl) T.m_range (pa_cons pe_int pa_nil)) (blkOk_by (N := ["_law_box_here", "_law_place", "_law_truths", "_law_value", "_law_bit", "_law_kept", "_law_bad_here", "_law_rows", "_law_row", "_law_odd"]) (sc := defScope s_truths_right_L) (by decide +kernel)) (fun _ _ _ _ _ => (pg_name (i := 1) sc_truths_right_L.nd rfl (.inl rfl))) (fun _ _ _ _ _ => pts_nil) (fun _ _ _ _ _ => (pe_cmpR op_eq (pe_cal c_take_L hr (by decide) (by rfl) (pa_cons (pv 0) (pa_cons pe_int pa_nil))) pe_int (nomark _))))
    (pss_cons (ps_set (i := 3) sc_truths_right_L.nd rfl (.inl rfl) pe_int)
    (pss_cons (ps_for PassesOwn.never rfl (pi_reversed (by rfl) T.m_reversed (pa_cons (pv 2) pa_nil)) (pg_name (i := 4) sc_truths_right_L.nd rfl (.inl rfl))
      (pss_one (ps_set (i := 3) sc_truths_right_L.nd rfl (.inl rfl) (pe_op op_add (pe_op op_mulW (pv 3) pe_int) (pe_callTy call_int1 (by rfl) T.m_int (by decide +kernel) (pa_cons (pv 4) pa_nil))))))
    (pss_cons (ps_set (i := 5) sc_truths_right_L.nd rfl (.inl rfl) (pe_callTy call_list_of (by rfl) T.m_list (by decide +kernel) (pa_cons (pv 2) pa_nil)))
    (pss_cons (ps_if (PW.pt (pw_or (pt_cmpR op_ne (pe_callB (call_repr_shw ga hr) (by rfl) T.m_repr (by decide +kernel) (pa_cons (pe_calY c_word_of_bits hr (by decide) (by rfl) (pa_cons (pv 2) pa_nil)) pa_nil)) (pe_callB (call_repr_shw ga hr) (by rfl) T.m_repr (by decide +kernel) (pa_cons (pv 3) pa_nil)) (nomark _)) (pw_or (pt_cmpR (op_neD hu64) (pv 2) (pv 5) (nomark _)) (pw_or1 (pt_cmpR (op_neD hu64) (pe_calY c_bits_of hr (by decide) (by rfl) (pa_cons (pv 3) pa_nil)) (pv 5) (nomark _)))))) (pss_one (ps_ret pe_bl)) pss_nil)
    (pss_cons (ps_set (i := 1) sc_truths_right_L.nd rfl (.inl rfl) (pe_cal c_take_L hr (by decide) (by rfl) (pa_cons (pv 0) (pa_cons pe_int pa_nil))))
    (pss_cons (ps_set (i := 6) sc_truths_right_L.nd rfl (.inl rfl) (pe_ix ix_list (pe_lst (pa_cons pe_int (pa_cons pe_int (pa_cons pe_non (pa_cons pe_str (pa_cons (pe_lst (pa_cons pe_bl pa_nil)) (pa_cons (pe_un un_neg pe_int) (pa_cons (pe_tup pa_nil) pa_nil)))))))) (pe_cal c_take_L hr (by decide) (by rfl) (pa_cons (pv 0) (pa_cons pe_int pa_nil))) (fun _ _ => rfl)))
    (pss_cons (ps_set (i := 7) sc_truths_right_L.nd rfl (.inl rfl) (pe_lst (pa_cons (pe_op op_cat (pe_slice sl_list (pv 2) po_none (po_some (pv 1))) (pe_slice sl_list (pv 2) (po_some (pe_op op_add (pv 1) pe_int)) po_none)) (pa_cons (pe_op op_cat (pe_op op_cat (pe_slice sl_list (pv 2) po_none (po_some (pv 1))) (pe_lst (pa_cons pe_bl pa_nil))) (pe_slice sl_list (pv 2) (po_some (pv 1)) po_none)) pa_nil))))
    (pss_cons (ps_expr (pe_bm PySem.F.plainAttrs_list PySem.F.slot_list_append PySem.F.type_list_append mt_append (pv 7) (pa_cons (pe_op op_cat (pe_op op_cat (pe_slice sl_list (pv 2) po_none (po_some (pv 1))) (pe_lst (pa_cons (pv 6) pa_nil))) (pe_slice sl_list (pv 2) (po_some (pe_op op_add (pv 1) pe_int)) po_none)) pa_nil)))
    (pss_cons (ps_expr (pe_bm PySem.F.plainAttrs_list PySem.F.slot_list_append PySem.F.type_list_append mt_append (pv 7) (pa_cons (pe_lc (own := [("_law_bit", 4)]) rfl sc_truths_right_L.nd (pi_list (pv 2)) (blkOk_by (N := ["_law_box_here", "_law_place", "_law_truths", "_law_value", "_law_bit", "_law_kept", "_law_bad_here", "_law_rows", "_law_row", "_law_odd"]) (sc := defScope s_truths_right_L) (by decide +kernel)) (fun _ _ _ _ _ => (pg_name (i := 4) sc_truths_right_L.nd rfl (.inl rfl))) (fun _ _ _ _ _ => pts_nil) (fun _ _ _ _ _ => (pe_callTy call_int1 (by rfl) T.m_int (by decide +kernel) (pa_cons (pv 4) pa_nil)))) pa_nil)))
    (pss_cons (ps_for PassesOwn.never rfl (pi_list (pv 7)) (pg_name (i := 8) sc_truths_right_L.nd rfl (.inl rfl))
      (pss_cons (ps_if (pt_not (pt_val (pe_calG c_same_L ga hr (by decide) (by rfl) (pa_cons (pe_cal c_caught_L hr (by decide) (by rfl) (pa_cons pe_int (pa_cons (pe_callTy call_tuple_of (by rfl) T.m_tuple (by decide +kernel) (pa_cons (pv 8) pa_nil)) (pa_cons pe_int pa_nil)))) (pa_cons pe_str (pa_cons (pe_callTy call_tuple_of (by rfl) T.m_tuple (by decide +kernel) (pa_cons (pv 8) pa_nil)) pa_nil)))))) (pss_one (ps_ret pe_bl)) pss_nil)
    (pss_one (ps_if (pt_not (pt_val (pe_calG c_same_L ga hr (by decide) (by rfl) (pa_cons (pe_cal c_caught_L hr (by decide) (by rfl) (pa_cons pe_int (pa_cons (pv 8) (pa_cons pe_int pa_nil)))) (pa_cons pe_str (pa_cons (pv 8) pa_nil)))))) (pss_one (ps_ret pe_bl)) pss_nil))))
    (pss_cons (ps_set (i := 9) sc_truths_right_L.nd rfl (.inl rfl) (pe_ix ix_list (pe_lst (pa_cons pe_non (pa_cons pe_int (pa_cons pe_bl (pa_cons pe_str (pa_cons pe_str (pa_cons pe_dnewK (pa_cons (pv 3) (pa_cons (pe_lst pa_nil) (pa_cons (pe_tup pa_nil) pa_nil)))))))))) (pe_cal c_take_L hr (by decide) (by rfl) (pa_cons (pv 0) (pa_cons pe_int pa_nil))) (fun _ _ => rfl)))
    (pss_one (ps_ret (pe_calG c_same_L ga hr (by decide) (by rfl) (pa_cons (pe_cal c_caught_L hr (by decide) (by rfl) (pa_cons pe_int (pa_cons (pv 9) (pa_cons pe_int pa_nil)))) (pa_cons pe_str (pa_cons (pv 9) pa_nil)))))))))))))))))), ?_⟩)
  · obtain ⟨a, n, rfl, _⟩ := h
    rfl
  · obtain ⟨a, n, rfl, hB, hn, q⟩ := h
    walk_at "go"
    refine lcDraw (n := 12) (m := n) (bx := a) (fun v => ∃ b, v = .bl b) hB (by decide) (fun _ => rfl) (fun k H1 Q' hk hB1 kk => ?_) fun D H1 xs nD b1 hB1 e1 l1 p1 => ?_
    · walk_at "go"
      refine r_take hB1 fun d H2 d0 d1 hB2 b2 => ?_
      walk_at "go"
      exact kk _ H2 ⟨_, rfl⟩ hB2 b2
    obtain ⟨bs, rfl⟩ := bl_list p1
    rw [List.length_map] at l1
    have lm : (bs.map V.bl).length = 12 := by rw [List.length_map, l1]
    walk_at "go"
    refine ⟨_, rfl, _, _, rfl, sqL e1, ?_⟩
    refine for_it walk_rev (fun i σ H' => (∃ x4, σ = [some (.ref a), none, some (.ref D), some (.int (hv (bs.drop (12 - i)))), x4, none, none, none, none, none]) ∧ H' = H1) ⟨⟨none, by rw [List.drop_eq_nil_of_le (by omega)]; rfl⟩, rfl⟩ (fun i σ H' _ h => by rw [h.2]; exact sqL e1) ?_ ?_
    · rintro i x σ H2 H3 hi ⟨⟨x4, rfl⟩, rfl⟩ ⟨rfl, hx⟩
      have hi12 : i < 12 := by omega
      have hk : 11 - i < bs.length := by omega
      obtain rfl : x = .bl bs[11 - i] := by
        rw [lm, show 12 - 1 - i = 11 - i by omega, List.getElem?_map, List.getElem?_eq_getElem hk] at hx
        exact (Option.some.inj hx).symm
      have hd : hv (bs.drop (12 - (i + 1))) = (if bs[11 - i] then (1 : Int) else 0) + 2 * hv (bs.drop (12 - i)) := by
        rw [show 12 - (i + 1) = 11 - i by omega, List.drop_eq_getElem_cons hk, show 11 - i + 1 = 12 - i by omega]
        rfl
      have v0 := hv_nn (bs.drop (12 - i))
      have v1 := hv_lt (bs.drop (12 - i))
      have v2 : hv (bs.drop (12 - i)) < 4096 := Int.lt_of_lt_of_le v1 (by
        rw [List.length_drop]
        exact_mod_cast Nat.pow_le_pow_right (n := 2) (by decide) (by omega : bs.length - (12 - i) ≤ 12))
      walk_at "go"
      refine r_I (cmul (by omega) (by omega) (by decide) (by decide)) ?_
      walk_at "go"
      refine .inr ⟨_, rfl, ?_⟩
      walk_at "go"
      refine ⟨⟨some (.bl bs[11 - i]), ?_⟩, rfl⟩
      rw [hd, Int.mul_comm, Int.add_comm]
      rfl
    rintro σ H2 ⟨⟨x4, rfl⟩, rfl⟩
    rw [lm, Nat.sub_self, List.drop_zero]
    have v0 := hv_nn bs
    have v1 := hv_top l1
    walk_at "go"
    refine ⟨D, _, rfl, .inl (sqL e1), fun p3 n3 => ?_⟩
    have s3 := same_upd (o := .lst (bs.map V.bl)) n3
    have e3 : upd H2 p3 (.lst (bs.map V.bl)) p3 = some (.lst (bs.map V.bl)) := upd_same
    generalize upd H2 p3 (.lst (bs.map V.bl)) = H3 at s3 e3 ⊢
    walk_at "go"
    refine wob_ok (.inl (s3 _ _ e1)) l1 fun H4 s4 => ?_
    rw [valB_hv l1]
    walk_at "go"
    refine ⟨_, _, rfl, shw_sc (small_int (by omega) (by omega)), ?_⟩
    walk_at "go"
    refine ⟨_, _, rfl, shw_sc (small_int (by omega) (by omega)), ?_⟩
    refine r_ne rfl ?_
    rw [decide_eq_true rfl]
    walk_at "go"
    refine r_neSame (dp_bls (s4 _ _ (s3 _ _ e1))) (dp_bls (s4 _ _ e3)) (sh_bls bs) ?_
    walk_at "go"
    refine bits_ok v0 v1 fun p5 H5 n5 s5 e5 => ?_
    rw [bits_hv l1] at e5
    walk_at "go"
    refine r_neSame (dp_bls e5) (dp_bls (s5 _ _ (s4 _ _ e3))) (sh_bls bs) ?_
    walk_at "go"
    have s25 := (s3.trans s4).trans s5
    have hB5 := hB1.same s25
    have b5 : But a H H5 := b1.same s25
    have e15 := s25 _ _ e1
    have nDa : D ≠ a := hB.ne nD
    clear s3 s4 s5 s25 e3 n3 e5 n5 e1 hB1 b1
    refine r_take hB5 fun d6 H6 d60 d61 hB6 b6 => ?_
    obtain ⟨m, rfl⟩ := Int.eq_ofNat_of_zero_le d60
    have hm : m < 12 := by omega
    have e16 := b6 _ _ nDa e15
    walk_at "go"
    refine newL fun pl H7 n7 s7 e7 => ?_
    walk_at "go"
    refine newT fun pt H8 n8 s8 e8 => ?_
    walk_at "go"
    refine newL fun pb H9 n9 s9 e9 => ?_
    walk_at "go"
    have hB9 := ((hB6.same s7).same s8).same s9
    have b9 : But a H H9 := (((b5.trans b6).same s7).same s8).same s9
    refine r_take hB9 fun d10 H10 d100 d101 hB10 b10 => ?_
    have na7 : pl ≠ a := hB6.ne n7
    have na8 : pt ≠ a := (hB6.same s7).ne n8
    have na9 : pb ≠ a := ((hB6.same s7).same s8).ne n9
    have eD : H10 D = some (.lst (bs.map V.bl)) := b10 _ _ nDa (s9 _ _ (s8 _ _ (s7 _ _ e16)))
    have el : H10 pl = some (.lst [.bl true]) := b10 _ _ na7 (s9 _ _ (s8 _ _ e7))
    have et : H10 pt = some (.tup []) := b10 _ _ na8 (s9 _ _ e8)
    refine r_ixLo (sqL (b10 _ _ na9 e9)) d100 d101 fun v hv _ => ?_
    have rv : Rit H10 v ∧ isB v = false := by
      simp only [List.mem_cons, List.not_mem_nil, or_false] at hv
      rcases hv with e | e | e | e | e | e | e <;> subst e
      · exact ⟨.inl rfl, rfl⟩
      · exact ⟨.inl rfl, rfl⟩
      · exact ⟨.inl rfl, rfl⟩
      · exact ⟨.inl (by decide +kernel), rfl⟩
      · exact ⟨.inr (.inl ⟨_, rfl, el⟩), rfl⟩
      · exact ⟨.inl rfl, rfl⟩
      · exact ⟨.inr (.inr ⟨_, rfl, et⟩), rfl⟩
    have b010 : But a H H10 := b9.trans b10
    clear s7 s8 s9 b10 e7 e8 e9 hB9 b9 b5 b6 e16 e15 n7 n8 n9
    walk_at "go"
    have lA : (bs.map V.bl).length = 12 := lm
    have i1 : ((m : Int) + 1) = ((m + 1 : Nat) : Int) := rfl
    have lt : ((bs.map V.bl).take m).length = m := by rw [List.length_take, lA]; omega
    have ld : ((bs.map V.bl).drop m).length = 12 - m := by rw [List.length_drop, lA]
    have ld1 : ((bs.map V.bl).drop (m + 1)).length = 12 - (m + 1) := by rw [List.length_drop, lA]
    refine r_slL (sqL eD) (cut_to (by omega)) fun pA H11 n11 s11 e11 => ?_
    walk_at "go"
    refine r_slL (sqL (s11 _ _ eD)) (ys := (bs.map V.bl).drop (m + 1)) (cut_from (m := m + 1) (by omega)) fun pB H12 n12 s12 e12 => ?_
    refine r_cat (s12 _ _ e11) e12 (fun r1 H13 n13 s13 e13 => ?_)
    walk_at "go"
    have s1013 := (s11.trans s12).trans s13
    have eD3 := s1013 _ _ eD
    refine r_slL (sqL eD3) (cut_to (by omega)) fun pC H14 n14 s14 e14 => ?_
    walk_at "go"
    refine newL fun pD H15 n15 s15 e15 => ?_
    refine r_cat (s15 _ _ e14) e15 (fun pE H16 n16 s16 e16 => ?_) (by rw [lt]; exact Nat.le_trans (Nat.add_le_add_right (Nat.le_of_lt hm) 1) (by decide))
    walk_at "go"
    have s1316 := (s14.trans s15).trans s16
    refine r_slL (sqL (s1316 _ _ eD3)) (cut_from (by omega)) fun pF H17 n17 s17 e17 => ?_
    refine r_cat (s17 _ _ e16) e17 (fun r2 H18 n18 s18 e18 => ?_) (by rw [List.length_append, lt, ld]; exact Nat.le_trans (m := 100) (by show m + 1 + (12 - m) ≤ 100; omega) (by decide))
    walk_at "go"
    have s1318 := (s1316.trans s17).trans s18
    have er1 := s1318 _ _ e13
    have eD8 := s1318 _ _ eD3
    have ne12 : r1 ≠ r2 := ne_of_none ((s1316.trans s17) _ _ e13) n18
    refine newL fun R H19 n19 s19 e19 => ?_
    walk_at "go"
    refine ⟨.inl ⟨rfl, _, sqL e19⟩, ?_⟩
    walk_at "go"
    refine r_slL (sqL (s19 _ _ eD8)) (cut_to (by omega)) fun pG H20 n20 s20 e20 => ?_
    walk_at "go"
    refine newL fun pH H21 n21 s21 e21 => ?_
    refine r_cat (s21 _ _ e20) e21 (fun pI H22 n22 s22 e22 => ?_) (by rw [lt]; exact Nat.le_trans (Nat.add_le_add_right (Nat.le_of_lt hm) 1) (by decide))
    walk_at "go"
    have s1922 := (s20.trans s21).trans s22
    refine r_slL (sqL (s1922 _ _ (s19 _ _ eD8))) (ys := (bs.map V.bl).drop (m + 1)) (cut_from (m := m + 1) (by omega)) fun pJ H23 n23 s23 e23 => ?_
    refine r_cat (s23 _ _ e22) e23 (fun r3 H24 n24 s24 e24 => ?_) (by rw [List.length_append, lt, ld1]; exact Nat.le_trans (m := 100) (by show m + 1 + (12 - (m + 1)) ≤ 100; omega) (by decide))
    walk_at "go"
    have s1923 := s1922.trans s23
    have s1924 := s1923.trans s24
    refine ⟨R, _, _, rfl, rfl, s1924 _ _ e19, Nat.lt_of_lt_of_le (m := 100) (Nat.le_of_ble_eq_true rfl) (by decide), ?_⟩
    have eR25 : upd H24 R (.lst ([V.ref r1, .ref r2] ++ [.ref r3])) R = some (.lst [.ref r1, .ref r2, .ref r3]) := upd_same
    have k25 : But R H24 (upd H24 R (.lst ([V.ref r1, .ref r2] ++ [.ref r3]))) := But.upd
    generalize upd H24 R (.lst ([V.ref r1, .ref r2] ++ [.ref r3])) = H25 at eR25 k25 ⊢
    walk_at "go"
    refine ⟨.inl ⟨rfl, _, sqL eR25⟩, ?_⟩
    walk_at "go"
    have fR : ∀ {c : Addr} {o : HO}, H18 c = some o → c ≠ R := fun e => ne_of_none e n19
    have t24 : ∀ {c : Addr} {o : HO}, H18 c = some o → H25 c = some o := fun {c o} e => k25 _ _ (fR e) (s1924 _ _ (s19 _ _ e))
    refine lcL (a := D) (xs := bs.map V.bl) (fun k => .int (if bs.getD k false then 1 else 0)) rfl (sqL (t24 eD8)) (by omega) (fun _ => rfl) (fun k y H' Q' hy s k1 => ?_) fun r4 H26 n26 s26 e26 => ?_
    · obtain ⟨b, rfl, hb⟩ : ∃ b, y = .bl b ∧ bs.getD k false = b := by
        rw [List.getElem?_map] at hy
        cases hb : bs[k]? with
        | none => rw [hb] at hy; exact nomatch hy
        | some b => rw [hb] at hy; exact ⟨b, (Option.some.inj hy).symm, by rw [List.getD_eq_getElem?_getD, hb]; rfl⟩
      walk_at "go"
      refine .inr ⟨b, rfl, ?_⟩
      have z := k1 H' (Same.refl _)
      rw [hb] at z
      exact z
    walk_at "go"
    refine ⟨R, _, _, rfl, rfl, s26 _ _ eR25, Nat.lt_of_lt_of_le (m := 100) (Nat.le_of_ble_eq_true rfl) (by decide), ?_⟩
    have eR : upd H26 R (.lst ([V.ref r1, .ref r2, .ref r3] ++ [.ref r4])) R = some (.lst [.ref r1, .ref r2, .ref r3, .ref r4]) := upd_same
    have k27 : But R H26 (upd H26 R (.lst ([V.ref r1, .ref r2, .ref r3] ++ [.ref r4]))) := But.upd
    generalize upd H26 R (.lst ([V.ref r1, .ref r2, .ref r3] ++ [.ref r4])) = H27 at eR k27 ⊢
    walk_at "go"
    have neR3 : r3 ≠ R := (ne_of_none (s1923 _ _ e19) n24).symm
    have neR4 : r4 ≠ R := (ne_of_none eR25 n26).symm
    have t27 : ∀ {c : Addr} {o : HO}, H18 c = some o → H27 c = some o := fun {c o} e => k27 _ _ (fR e) (s26 _ _ (t24 e))
    have g1 := t27 er1
    have g2 := t27 e18
    have g3 : H27 r3 = _ := k27 _ _ neR3 (s26 _ _ (k25 _ _ neR3 e24))
    have g4 : H27 r4 = _ := k27 _ _ neR4 e26
    have sm : Same H10 H27 := fun c o e => t27 (s1318 _ _ (s1013 _ _ e))
    have apart : ∀ {c : Addr} {o : HO}, H10 c = some o → c ≠ r1 ∧ c ≠ r2 ∧ c ≠ r3 ∧ c ≠ r4 := fun {c o} e =>
      ⟨ne_of_none (s12 _ _ (s11 _ _ e)) n13, ne_of_none (s17 _ _ (s1316 _ _ (s1013 _ _ e))) n18, ne_of_none (s1923 _ _ (s19 _ _ (s1318 _ _ (s1013 _ _ e)))) n24, ne_of_none (t24 (s1318 _ _ (s1013 _ _ e))) n26⟩
    have ne13 : r1 ≠ r3 := ne_of_none (s1923 _ _ (s19 _ _ er1)) n24
    have ne23 : r2 ≠ r3 := ne_of_none (s1923 _ _ (s19 _ _ e18)) n24
    have ne14 : r1 ≠ r4 := ne_of_none (t24 er1) n26
    have ne24 : r2 ≠ r4 := ne_of_none (t24 e18) n26
    have ne34 : r3 ≠ r4 := ne_of_none (k25 _ _ neR3 e24) n26
    have w1 : Row H10 ((bs.map V.bl).take m ++ (bs.map V.bl).drop (m + 1)) := by
      refine ⟨fun y hy => ?_, by rw [List.length_append, lt, ld1]; omega, fun z => ?_⟩
      · have hy' : y ∈ bs.map V.bl := by
          rcases List.mem_append.mp hy with z | z
          · exact List.mem_of_mem_take z
          · exact List.mem_of_mem_drop z
        obtain ⟨b, _, rfl⟩ := List.mem_map.mp hy'
        exact .inl rfl
      · have z1 := z.1
        rw [List.length_append, lt, ld1] at z1
        omega
    have w2 : Row H10 ((bs.map V.bl).take m ++ [.bl true] ++ (bs.map V.bl).drop m) := by
      refine ⟨fun y hy => ?_, by rw [List.length_append, List.length_append, lt, ld]; show m + 1 + (12 - m) ≤ 100; omega, fun z => ?_⟩
      · rcases List.mem_append.mp hy with z | z
        · rcases List.mem_append.mp z with z | z
          · obtain ⟨b, _, rfl⟩ := List.mem_map.mp (List.mem_of_mem_take z)
            exact .inl rfl
          · rw [List.mem_singleton.mp z]
            exact .inl rfl
        · obtain ⟨b, _, rfl⟩ := List.mem_map.mp (List.mem_of_mem_drop z)
          exact .inl rfl
      · have z1 := z.1
        rw [List.length_append, List.length_append, lt, ld] at z1
        have z2 : m + 1 + (12 - m) = 12 := z1
        omega
    have w3 : Row H10 ((bs.map V.bl).take m ++ [v] ++ (bs.map V.bl).drop (m + 1)) := by
      refine ⟨fun y hy => ?_, by rw [List.length_append, List.length_append, lt, ld1]; show m + 1 + (12 - (m + 1)) ≤ 100; omega, fun z => ?_⟩
      · rcases List.mem_append.mp hy with z | z
        · rcases List.mem_append.mp z with z | z
          · obtain ⟨b, _, rfl⟩ := List.mem_map.mp (List.mem_of_mem_take z)
            exact .inl rfl
          · rw [List.mem_singleton.mp z]
            exact rv.1
        · obtain ⟨b, _, rfl⟩ := List.mem_map.mp (List.mem_of_mem_drop z)
          exact .inl rfl
      · have z1 := List.all_eq_true.mp z.2 v (List.mem_append_left _ (List.mem_append_right _ List.mem_cons_self))
        rw [rv.2] at z1
        exact Bool.false_ne_true z1
    have w4 : Row H10 ((List.range (bs.map V.bl).length).map fun k => V.int (if bs.getD k false then 1 else 0)) := by
      refine ⟨fun y hy => ?_, by rw [List.length_map, List.length_range, lm]; decide, fun z => ?_⟩
      · obtain ⟨k, _, rfl⟩ := List.mem_map.mp hy
        refine .inl (small_int ?_ ?_) <;> (split <;> decide)
      · have z1 := List.all_eq_true.mp z.2 (V.int (if bs.getD 0 false then 1 else 0)) (List.mem_map.mpr ⟨0, List.mem_range.mpr (by rw [lm]; decide), rfl⟩)
        exact Bool.false_ne_true z1
    obtain ⟨L, hL⟩ : ∃ L : List (Addr × List V), L = [(r1, (bs.map V.bl).take m ++ (bs.map V.bl).drop (m + 1)), (r2, (bs.map V.bl).take m ++ [.bl true] ++ (bs.map V.bl).drop m), (r3, (bs.map V.bl).take m ++ [v] ++ (bs.map V.bl).drop (m + 1)), (r4, (List.range (bs.map V.bl).length).map fun k => V.int (if bs.getD k false then 1 else 0))] := ⟨_, rfl⟩
    have LX : [V.ref r1, .ref r2, .ref r3, .ref r4] = L.map fun q => V.ref q.1 := by rw [hL]; rfl
    have Lnd : (L.map (·.1)).Nodup := by
      rw [hL]
      simp only [List.map_cons, List.map_nil, List.nodup_cons, List.mem_cons, List.not_mem_nil, or_false, not_or, List.nodup_nil, and_true, not_false_eq_true]
      exact ⟨⟨ne12, ne13, ne14⟩, ⟨ne23, ne24⟩, ne34⟩
    have Lin : ∀ q ∈ L, Row H10 q.2 ∧ H27 q.1 = some (.lst q.2) ∧ (q.1 = r1 ∨ q.1 = r2 ∨ q.1 = r3 ∨ q.1 = r4) := fun q hq => by
      rw [hL] at hq
      simp only [List.mem_cons, List.not_mem_nil, or_false] at hq
      rcases hq with rfl | rfl | rfl | rfl
      · exact ⟨w1, g1, .inl rfl⟩
      · exact ⟨w2, g2, .inr (.inl rfl)⟩
      · exact ⟨w3, g3, .inr (.inr (.inl rfl))⟩
      · exact ⟨w4, g4, .inr (.inr (.inr rfl))⟩
    have bH : But a H H27 := fun c o ne e => sm _ _ (b010 _ _ ne e)
    have hB27 : Box a (n + 20) H27 := (hB10.same sm).mono (by omega)
    have hBa : ∃ o, H10 a = some o := let ⟨_, _, _, e, _⟩ := hB10; ⟨_, e⟩
    have eR' : SqL K H27 R [V.ref r1, .ref r2, .ref r3, .ref r4] := sqL eR
    have nRr : R ≠ r1 ∧ R ≠ r2 ∧ R ≠ r3 ∧ R ≠ r4 := ⟨(fR er1).symm, (fR e18).symm, neR3.symm, neR4.symm⟩
    clear w1 w2 w3 w4 g1 g2 g3 g4 hL ne12 ne13 ne14 ne23 ne24 ne34 t27 t24 eR25 k25 k27 s26 e26 n26 e24 n24 s24 s1924 s1923 s23 e23 s1922 s22 e22 s21 e21 s20 e20 n19 e19 s19 er1 eD8 s1318 s18 e18 n18 s17 e17 s1316 s16 e16 s15 e15 s14 e14 eD3 s1013 s13 e13 n13 s12 e12 s11 e11 fR neR3 neR4
    refine ⟨R, rfl, ⟨_, eR'⟩, ?_⟩
    refine for_list (xs := [V.ref r1, .ref r2, .ref r3, .ref r4]) (fun i σ H' => (∃ x8, σ = [some (.ref a), some (.int m), some (.ref D), some (.int (K03.hv bs)), x4, some (.ref p3), some v, some (.ref R), x8, none]) ∧ (∀ b o, b ≠ r1 → b ≠ r2 → b ≠ r3 → b ≠ r4 → H27 b = some o → H' b = some o) ∧ ∀ q ∈ L.drop i, H' q.1 = some (.lst q.2))
      ⟨⟨none, rfl⟩, fun _ _ _ _ _ _ e => e, fun q hq => (Lin q hq).2.1⟩ (fun i σ H' _ h => sqL (h.2.1 R _ nRr.1 nRr.2.1 nRr.2.2.1 nRr.2.2.2 eR)) ?_ ?_
    · rintro i x σ G0 hx ⟨⟨x8, rfl⟩, keep, rest⟩
      rw [LX, List.getElem?_map] at hx
      obtain ⟨q0, hq0, rfl⟩ : ∃ q0, L[i]? = some q0 ∧ x = .ref q0.1 := by
        cases hq : L[i]? with
        | none => rw [hq] at hx; exact nomatch hx
        | some q0 => rw [hq] at hx; exact ⟨q0, rfl, (Option.some.inj hx).symm⟩
      obtain ⟨hi, hq1⟩ := List.getElem?_eq_some_iff.mp hq0
      have dr : L.drop i = q0 :: L.drop (i + 1) := by rw [List.drop_eq_getElem_cons hi, hq1]
      obtain ⟨rw0, _, rin⟩ := Lin q0 (List.mem_of_getElem? hq0)
      have eq0 := rest q0 (by rw [dr]; exact List.mem_cons_self)
      have nx : ∀ q' ∈ L.drop (i + 1), q'.1 ≠ q0.1 := fun q' hq' e => by
        have nd : ((L.drop i).map (·.1)).Nodup := Lnd.sublist ((List.drop_sublist i L).map _)
        rw [dr, List.map_cons, List.nodup_cons] at nd
        exact nd.1 (List.mem_map.mpr ⟨q', hq', e⟩)
      have s10 : Same H10 G0 := fun c o e => let z := apart e; keep c o z.1 z.2.1 z.2.2.1 z.2.2.2 (sm c o e)
      walk_at "go"
      refine ⟨q0.1, q0.2, rfl, .inl ⟨sqL eq0, fun t1 nt1 => ?_⟩⟩
      have st1 := same_upd (o := .tup q0.2) nt1
      have et1 : upd G0 t1 (.tup q0.2) t1 = some (.tup q0.2) := upd_same
      generalize upd G0 t1 (.tup q0.2) = G1 at st1 et1 ⊢
      walk_at "go"
      have r1' := rw0.same (s10.trans st1)
      refine ⟨4, .ref t1, .int 0, "bits", .ref t1, rfl, r1'.caught (.inr et1), fun pc G2 npc sc ec => ?_⟩
      walk_at "go"
      refine ⟨q0.1, q0.2, rfl, .inl ⟨sqL (sc _ _ (st1 _ _ eq0)), fun t2 nt2 => ?_⟩⟩
      have st2 := same_upd (o := .tup q0.2) nt2
      have et2 : upd G2 t2 (.tup q0.2) t2 = some (.tup q0.2) := upd_same
      generalize upd G2 t2 (.tup q0.2) = G3 at st2 et2 ⊢
      walk_at "go"
      have s03 := (st1.trans sc).trans st2
      have r3' := rw0.same (s10.trans s03)
      obtain ⟨z, z1, z2⟩ := shw_tup2 (K := K) (sqT (st2 _ _ (sc _ _ et1))) (sqT et2) (fun y hy => (r3'.it y hy).itm) (Nat.le_trans r3'.len (by decide))
      refine ⟨pc, "bits", .ref t1, .ref t2, rfl, st2 _ _ ec, .inl ⟨isa_tup et2, ⟨z, z1, z2⟩, ?_⟩⟩
      walk_at "go"
      refine ⟨4, .ref q0.1, .int 0, "bits", .ref q0.1, rfl, r3'.caught (.inl (s03 _ _ eq0)), fun pd G4 npd sd ed => ?_⟩
      walk_at "go"
      have s04 := s03.trans sd
      have eq4 := s04 _ _ eq0
      have s1u : Same H10 (upd G4 q0.1 (.lst (q0.2 ++ [.str "more"]))) := fun c o e => by
        have z := apart e
        have ne : c ≠ q0.1 := by
          rcases rin with e1 | e1 | e1 | e1 <;> rw [e1]
          · exact z.1
          · exact z.2.1
          · exact z.2.2.1
          · exact z.2.2.2
        rw [upd_ne ne]
        exact s04 _ _ (s10 _ _ e)
      obtain ⟨z3, z4⟩ := shw_lst (K := K) (sqL (upd_same (H := G4) (a := q0.1) (o := .lst (q0.2 ++ [.str "more"])))) (fun y hy => by
        rcases List.mem_append.mp hy with hy | hy
        · exact ((rw0.it y hy).same s1u).itm
        · rw [List.mem_singleton.mp hy]
          exact itm_sc (by decide +kernel)) (by rw [List.length_append]; exact Nat.le_trans (Nat.add_le_add_right rw0.len 1) (by decide))
      refine ⟨pd, "bits", .ref q0.1, .ref q0.1, rfl, ed, .inr ⟨q0.1, q0.2, rfl, eq4, Nat.le_trans rw0.len (by decide), ⟨z3, z4, z4⟩, ?_⟩⟩
      walk_at "go"
      refine ⟨⟨_, rfl⟩, fun b o n1 n2 n3 n4 e => ?_, fun q' hq' => ?_⟩
      · have ne : b ≠ q0.1 := by
          rcases rin with e1 | e1 | e1 | e1 <;> rw [e1]
          · exact n1
          · exact n2
          · exact n3
          · exact n4
        rw [upd_ne ne]
        exact s04 _ _ (keep b o n1 n2 n3 n4 e)
      · rw [upd_ne (nx q' hq')]
        exact s04 _ _ (rest q' (by rw [dr]; exact List.mem_cons_of_mem _ hq'))
    · rintro σ G0 ⟨⟨x8, rfl⟩, keep, _⟩
      have s10 : Same H10 G0 := fun c o e => let z := apart e; keep c o z.1 z.2.1 z.2.2.1 z.2.2.2 (sm c o e)
      have hB0 : Box a (n + 14) G0 := (hB10.same s10).mono (by omega)
      have b0 : But a H G0 := fun c o ne e => s10 _ _ (b010 _ _ ne e)
      walk_at "go"
      refine newDK fun qd G1 nd1 sd1 ed1 => ?_
      walk_at "go"
      refine newL fun ql G2 nl2 sl2 el2 => ?_
      walk_at "go"
      refine newT fun qt G3 nt3 st3 et3 => ?_
      walk_at "go"
      refine newL fun qb G4 nb4 sb4 eb4 => ?_
      walk_at "go"
      have s4 := ((sd1.trans sl2).trans st3).trans sb4
      have hB4 := hB0.same s4
      refine r_take hB4 fun d5 G5 d50 d51 hB5 b5 => ?_
      have nqd : qd ≠ a := hB0.ne nd1
      have nql : ql ≠ a := (hB0.same sd1).ne nl2
      have nqt : qt ≠ a := ((hB0.same sd1).same sl2).ne nt3
      have nqb : qb ≠ a := (((hB0.same sd1).same sl2).same st3).ne nb4
      have fd5 := b5 _ _ nqd (sb4 _ _ (st3 _ _ (sl2 _ _ ed1)))
      have fl5 := b5 _ _ nql (sb4 _ _ (st3 _ _ el2))
      have ft5 := b5 _ _ nqt (sb4 _ _ et3)
      have b05 : But a H G5 := (b0.same s4).trans b5
      have frl : H ql = none := but_none (b0.same sd1) nql nl2
      refine r_ixLo (sqL (b5 _ _ nqb eb4)) d50 d51 fun u hu _ => ?_
      walk_at "go"
      have scal : ∀ {u : V}, smS u = true → (∀ G, IsB K G u "list" "tuple" false) → (∀ G, IsA K G u "list" false) → ∀ R : VK, (∀ x G, spSame K [x, .str "bits", u] G Q E0 → R x G) → spCaught K [.int 4, u, .int 0] G5 R E0 := fun {u} h1 h2 h3 R k =>
        ⟨4, u, .int 0, "bits", u, rfl, .inr (.inr (.inr ⟨rfl, rfl, rfl, .inl fun _ _ => h2 _⟩)), fun pc G6 npc sc ec => k _ _ ⟨pc, "bits", u, u, rfl, ec, .inl ⟨h3 _, ⟨_, shw_sc h1, shw_sc h1⟩, q _ ((hB5.same sc).mono (by omega)) (b05.same sc)⟩⟩⟩
      have all : ∀ R : VK, (∀ x G, spSame K [x, .str "bits", u] G Q E0 → R x G) → spCaught K [.int 4, u, .int 0] G5 R E0 := by
        intro R k
        simp only [List.mem_cons, List.not_mem_nil, or_false] at hu
        rcases hu with e | e | e | e | e | e | e | e | e <;> subst e
        · exact scal rfl (fun _ => isb_non (b := false) (c := false)) (fun _ => isa_non) R k
        · exact scal rfl (fun _ => isb_int (b := false) (c := false)) (fun _ => isa_int) R k
        · exact scal rfl (fun _ => isb_bl (b := false) (c := false)) (fun _ => isa_bl) R k
        · exact scal (by decide +kernel) (fun _ => isb_str (b := false) (c := false)) (fun _ => isa_str) R k
        · exact scal (by decide +kernel) (fun _ => isb_str (b := false) (c := false)) (fun _ => isa_str) R k
        · exact ⟨4, .ref qd, .int 0, "bits", .ref qd, rfl, .inr (.inr (.inr ⟨rfl, rfl, rfl, .inl fun _ s => isb_dK (s _ _ fd5) (b := false) (c := false)⟩)), fun pc G6 npc sc ec => k _ _
            ⟨pc, "bits", .ref qd, .ref qd, rfl, ec, .inl ⟨isa_dK (sc _ _ fd5), ⟨_, shw_dK (sc _ _ fd5), shw_dK (sc _ _ fd5)⟩, q _ ((hB5.same sc).mono (by omega)) (b05.same sc)⟩⟩⟩
        · exact scal (small_int (by omega) (by omega)) (fun _ => isb_int (b := false) (c := false)) (fun _ => isa_int) R k
        · have rw0 : Row G5 [] := ⟨(fun y hy => nomatch hy), (by decide), (fun z => absurd z.1 (by decide))⟩
          exact ⟨4, .ref ql, .int 0, "bits", .ref ql, rfl, rw0.caught (.inl fl5), fun pc G6 npc sc ec => k _ _
            ⟨pc, "bits", .ref ql, .ref ql, rfl, ec, .inr ⟨ql, [], rfl, sc _ _ fl5, by decide, ⟨_, shw_lsc (sqL upd_same) (by decide +kernel) (by decide), shw_lsc (sqL upd_same) (by decide +kernel) (by decide)⟩, q _ ((box_upd (hB5.same sc) nql).mono (by omega)) (but_upd (b05.same sc) frl)⟩⟩⟩
        · have rw0 : Row G5 [] := ⟨(fun y hy => nomatch hy), (by decide), (fun z => absurd z.1 (by decide))⟩
          exact ⟨4, .ref qt, .int 0, "bits", .ref qt, rfl, rw0.caught (.inr ft5), fun pc G6 npc sc ec => k _ _
            ⟨pc, "bits", .ref qt, .ref qt, rfl, ec, .inl ⟨isa_tup (sc _ _ ft5), ⟨_, shw_tsc (sqT (sc _ _ ft5)) rfl (by decide), shw_tsc (sqT (sc _ _ ft5)) rfl (by decide)⟩, q _ ((hB5.same sc).mono (by omega)) (b05.same sc)⟩⟩⟩
      exact all _ fun x G z => ⟨u, rfl, z⟩
end
end K03

namespace K03
open PySem PySem.Spec PyProof.Rows L2 Bk


theorem r_par {i j : Nat} {ta : TA} {D : Ends} {σ : L2.St} {H : Hp} (q : ta σ H fun vs H1 => ∃ v w, vs = [v, w] ∧ D.nx ((σ.set i (some v)).set j (some w)) H1) : tPar i j ta D σ H := q
section
variable {P : Program} {w : World} {K : PySem.W.Frag} {mg : Str → Option Value} {base : Heap} {CG CW CB CN fG fW fB fN : Addr}
theorem ok_law {f : Addr} {fd : FuncData} (F : Fun K "law" "law" s_law f fd) (T : Txt K mg CG CW CB CN fG fW fB fN) (c_cell_L : CalD P w K mg base CX0 1 "_law_cell" (spCell K) []) (c_box_L : CalD P w K mg base CX0 1 "_law_box" spBox []) (c_word_L : CalD P w K mg base CX0 2 "_law_word" spWordL [])
    (c_sums_right_L : CalG P w K mg base CX0 8 "_law_sums_right" spTwo) (c_named_L : CalD P w K mg base CX0 7 "_law_named" spTwo []) (c_bits_right_L : CalG P w K mg base CX0 6 "_law_bits_right" spOne) (c_truths_right_L : CalG P w K mg base CX0 8 "_law_truths_right" spTru)
    (c_refused_right_L : CalG P w K mg base CX0 8 "_law_refused_right" spRef) : FnG P w K mg base CX0 9 f fd ["_law_script"] (spLaw K) := by
  refine fun_okG F sc_law (fun vs H Q E h => ?_) (fun cdv A outer s H vs Q E ga hr h => ⟨_, (pss_cons (ps_for PassesOwn.never rfl (pi_range1 (by rfl) T.m_range (pa_cons (pe_callB (call_max2 rfl) (by rfl) T.m_max (by decide +kernel) (pa_cons pe_int (pa_cons (pe_callB (call_min2 rfl) (by rfl) T.m_min (by decide +kernel) (pa_cons pe_int (pa_cons (pe_callB call_len_seq (by rfl) T.m_len (by decide +kernel) (pa_cons (pv 0) pa_nil)) pa_nil))) pa_nil))) pa_nil)) (pg_name (i := 1) sc_law.nd rfl (.inl rfl))
      (pss_cons (ps_set (i := 2) sc_law.nd rfl (.inl rfl) (pe_cal c_box_L hr (by decide) (by rfl) (pa_cons (pe_cal c_cell_L hr (by decide) (by rfl) (pa_cons (pv 0) (pa_cons (pv 1) pa_nil))) pa_nil)))
    (pss_cons (ps_for PassesOwn.never rfl (pi_range1 (by rfl) T.m_range (pa_cons pe_int pa_nil)) (pg_name (i := 3) sc_law.nd rfl (.inl rfl))
      (pss_cons (ps_par (i := 4) (j := 5) rfl sc_law.nd rfl rfl (by decide) rfl rfl (pa_cons (pe_cal c_word_L hr (by decide) (by rfl) (pa_cons (pv 2) pa_nil)) (pa_cons (pe_cal c_word_L hr (by decide) (by rfl) (pa_cons (pv 2) pa_nil)) pa_nil)) (by rfl))
    (pss_cons (ps_for PassesOwn.never rfl (pi_list (pe_lst (pa_cons (pe_tup (pa_cons (pv 4) (pa_cons (pv 5) pa_nil))) (pa_cons (pe_tup (pa_cons (pv 5) (pa_cons (pv 4) pa_nil))) (pa_cons (pe_tup (pa_cons (pv 4) (pa_cons (pv 4) pa_nil))) pa_nil))))) (pg_name (i := 6) sc_law.nd rfl (.inl rfl))
      (pss_one (ps_if (PW.pt (pw_or (pt_not (pt_val (pe_calG c_sums_right_L ga hr (by decide) (by rfl) (pa_cons (pe_ix ix_tup (pv 6) pe_int (fun _ _ => rfl)) (pa_cons (pe_ix ix_tup (pv 6) pe_int (fun _ _ => rfl)) pa_nil))))) (pw_or1 (pt_not (pt_val (pe_cal c_named_L hr (by decide) (by rfl) (pa_cons (pe_ix ix_tup (pv 6) pe_int (fun _ _ => rfl)) (pa_cons (pe_ix ix_tup (pv 6) pe_int (fun _ _ => rfl)) pa_nil)))))))) (pss_one (ps_ret pe_bl)) pss_nil)))
    (pss_one (ps_if (PW.pt (pw_or (pt_not (pt_val (pe_calG c_bits_right_L ga hr (by decide) (by rfl) (pa_cons (pv 4) pa_nil)))) (pw_or1 (pt_not (pt_val (pe_calG c_truths_right_L ga hr (by decide) (by rfl) (pa_cons (pv 2) pa_nil))))))) (pss_one (ps_ret pe_bl)) pss_nil)))))
    (pss_one (ps_for PassesOwn.never rfl (pi_range1 (by rfl) T.m_range (pa_cons pe_int pa_nil)) (pg_name (i := 7) sc_law.nd rfl (.inl rfl))
      (pss_one (ps_if (pt_not (pt_val (pe_calG c_refused_right_L ga hr (by decide) (by rfl) (pa_cons (pv 2) (pa_cons (pv 7) pa_nil))))) (pss_one (ps_ret pe_bl)) pss_nil)))))))
    (pss_one (ps_ret pe_bl))), ?_⟩)
  · obtain ⟨a, ns, rfl, _⟩ := h
    rfl
  · obtain ⟨a, ns, rfl, hS, hl, q⟩ := h
    walk_at "go"
    refine ⟨a, _, rfl, .inl hS, ?_⟩
    walk_at "go"
    refine ⟨_, _, rfl, ?_⟩
    walk_at "go"
    refine ⟨_, _, rfl, ?_⟩
    walk_at "go"
    have hlm : ((ns.map V.int).length : Int) = ns.length := by rw [List.length_map]
    rw [hlm]
    refine ⟨_, rfl, by split <;> split <;> omega, by split <;> split <;> omega, ?_⟩
    generalize hN : (if (if (ns.length : Int) < 40 then (ns.length : Int) else 40) > 2 then (if (ns.length : Int) < 40 then (ns.length : Int) else 40) else 2) = N
    have hN2 : N ≤ 40 := by rw [← hN]; split <;> split <;> omega
    refine for_range (fun i σ H' => Same H H' ∧ ∃ x1 x2 x3 x4 x5 x6 x7, σ = [some (.ref a), x1, x2, x3, x4, x5, x6, x7]) ⟨Same.refl _, none, none, none, none, none, none, none, rfl⟩ ?_ ?_
    · rintro i σ H0 hi ⟨sm0, x1, x2, x3, x4, x5, x6, x7, rfl⟩
      rw [Int.zero_add]
      walk_at "go"
      refine ⟨a, ns, i, rfl, sm0.seq hS, by omega, fun c => ?_⟩
      walk_at "go"
      refine ⟨c, rfl, fun p H1 np s1 hB1 => ?_⟩
      walk_at "go"
      refine ⟨3, rfl, by decide, by decide, ?_⟩
      refine for_range (fun j σ H' => (∃ x3 x4 x5 x6, σ = [some (.ref a), some (.int i), some (.ref p), x3, x4, x5, x6, x7]) ∧ Box p (30 * j) H' ∧ But p H1 H') ⟨⟨x3, x4, x5, x6, rfl⟩, hB1, But.refl⟩ ?_ ?_
      · rintro j σ H2 hj ⟨⟨x3, x4, x5, x6, rfl⟩, hB2, b2⟩
        have hj3 : j < 3 := by omega
        walk_at "go"
        refine r_par ?_
        walk_at "go"
        refine ⟨p, _, rfl, hB2, by omega, fun u H3 u0 u1 hB3 b3 => ?_⟩
        walk_at "go"
        refine ⟨p, _, rfl, hB3, by omega, fun v H4 v0 v1 hB4 b4 => ?_⟩
        walk_at "go"
        refine ⟨.int u, .int v, rfl, ?_⟩
        walk_at "go"
        refine newT fun t1 G1 m1 c1 d1 => ?_
        walk_at "go"
        refine newT fun t2 G2 m2 c2 d2 => ?_
        walk_at "go"
        refine newT fun t3 G3 m3 c3 d3 => ?_
        walk_at "go"
        refine newL fun tl G4 m4 c4 d4 => ?_
        have f1 := c4 _ _ (c3 _ _ (c2 _ _ d1))
        have f2 := c4 _ _ (c3 _ _ d2)
        have f3 := c4 _ _ d3
        have c14 := ((c1.trans c2).trans c3).trans c4
        have hB5 := hB4.same c14
        refine ⟨tl, rfl, ⟨_, sqL d4⟩, ?_⟩
        have pr : ∀ {k : Nat} {x : V}, [V.ref t1, .ref t2, .ref t3][k]? = some x → ∃ (t : Addr) (y z : Int), x = .ref t ∧ G4 t = some (.tup [.int y, .int z]) ∧ 0 ≤ y ∧ y ≤ 4095 ∧ 0 ≤ z ∧ z ≤ 4095 := fun {k x} hx => by
          rcases k with _ | _ | _ | k
          · exact ⟨t1, u, v, (Option.some.inj hx).symm, f1, u0, u1, v0, v1⟩
          · exact ⟨t2, v, u, (Option.some.inj hx).symm, f2, v0, v1, u0, u1⟩
          · exact ⟨t3, u, u, (Option.some.inj hx).symm, f3, u0, u1, u0, u1⟩
          · exact nomatch hx
        refine for_list (xs := [V.ref t1, .ref t2, .ref t3]) (fun k σ H' => Same G4 H' ∧ ∃ x6, σ = [some (.ref a), some (.int i), some (.ref p), some (.int (0 + (j : Int))), some (.int u), some (.int v), x6, x7]) ⟨Same.refl _, x6, rfl⟩ (fun k σ H' _ h => sqL (h.1 _ _ d4)) ?_ ?_
        · rintro k x σ H5 hx ⟨s5, x6, rfl⟩
          obtain ⟨t, y, z, rfl, et, y0, y1, z0, z1⟩ := pr hx
          have et := s5 _ _ et
          walk_at "go"
          refine r_ixT (sqT et) (v := .int y) rfl ?_
          walk_at "go"
          refine r_ixT (sqT et) (v := .int z) rfl ?_
          walk_at "go"
          refine ⟨y, z, rfl, y0, y1, z0, z1, fun H6 s6 => ?_⟩
          walk_at "go"
          refine r_ixT (sqT (s6 _ _ et)) (v := .int y) rfl ?_
          walk_at "go"
          refine r_ixT (sqT (s6 _ _ et)) (v := .int z) rfl ?_
          walk_at "go"
          refine ⟨y, z, rfl, y0, y1, z0, z1, fun H7 s7 => ?_⟩
          walk_at "go"
          exact ⟨(s5.trans s6).trans s7, _, rfl⟩
        · rintro σ H5 ⟨s5, x6, rfl⟩
          walk_at "go"
          refine ⟨u, rfl, u0, u1, fun H6 s6 => ?_⟩
          walk_at "go"
          have hB6 := (hB5.same s5).same s6
          refine ⟨p, _, rfl, hB6, by omega, fun H7 hB7 b7 => ?_⟩
          walk_at "go"
          refine ⟨⟨_, _, _, _, rfl⟩, hB7.mono (by omega), ?_⟩
          exact ((((b2.trans b3).trans b4).same c14).same (s5.trans s6)).trans b7
      · rintro σ H2 ⟨⟨x3, x4, x5, x6, rfl⟩, hB2, b2⟩
        walk_at "go"
        refine ⟨4, rfl, by decide, by decide, ?_⟩
        refine for_range (fun j σ H' => (∃ x7, σ = [some (.ref a), some (.int i), some (.ref p), x3, x4, x5, x6, x7]) ∧ Box p (200 + 20 * j) H' ∧ But p H1 H') ⟨⟨x7, rfl⟩, hB2.mono (by decide), b2⟩ ?_ ?_
        · rintro j σ H3 hj ⟨⟨x7, rfl⟩, hB3, b3⟩
          have hj4 : j < 4 := by omega
          walk_at "go"
          refine ⟨p, _, _, rfl, hB3, by omega, by omega, fun H4 hB4 b4 => ?_⟩
          walk_at "go"
          exact ⟨⟨_, rfl⟩, hB4.mono (by omega), b3.trans b4⟩
        · rintro σ H3 ⟨⟨x7, rfl⟩, hB3, b3⟩
          exact ⟨sm0.trans (butSame s1 np b3), _, _, _, _, _, _, _, rfl⟩
    · rintro σ H0 ⟨sm0, x1, x2, x3, x4, x5, x6, x7, rfl⟩
      walk_at "go"
      exact q H0
end
end K03

namespace K03
open PySem PySem.Spec PyProof.Rows L2 Bk
theorem all_mk {l : PySem.W.OpenLaw} {w : World} {K : PySem.W.Frag} {h : Heap} {mg : Str → Option Value} {fa C_GuestError C_Missing C_Barred C_NoWord C_NoBits C_Nought f_GuestError_init f_Missing_init f_Barred_init f_NoWord_init f_NoBits_init f_Nought_init f_is_whole f_is_word f_check_word f_sum_of f_difference f_divided f_bits_of f_word_of_bits f_check_words f_cell_L f_box_L f_take_L f_caught_L f_same_L f_word_L f_bad_L f_sums_right_L f_named_L f_bits_right_L f_truths_right_L f_refused_right_L f_law : Addr} (X : K.In h) (G : h.Ns mainGlobals mg) (hfa : mg "law" = some (.ref fa))
    {od_GuestError_init an_GuestError_init : Option Addr} {sl_GuestError_init : Array (Option Value)} {oc_GuestError_init kV_GuestError_init dc_GuestError_init pm_GuestError_init cd_GuestError_init ct_GuestError_init : Value}
    {od_Missing_init an_Missing_init : Option Addr} {sl_Missing_init : Array (Option Value)} {oc_Missing_init kV_Missing_init dc_Missing_init pm_Missing_init cd_Missing_init ct_Missing_init : Value}
    {od_Barred_init an_Barred_init : Option Addr} {sl_Barred_init : Array (Option Value)} {oc_Barred_init kV_Barred_init dc_Barred_init pm_Barred_init cd_Barred_init ct_Barred_init : Value}
    {od_NoWord_init an_NoWord_init : Option Addr} {sl_NoWord_init : Array (Option Value)} {oc_NoWord_init kV_NoWord_init dc_NoWord_init pm_NoWord_init cd_NoWord_init ct_NoWord_init : Value}
    {od_NoBits_init an_NoBits_init : Option Addr} {sl_NoBits_init : Array (Option Value)} {oc_NoBits_init kV_NoBits_init dc_NoBits_init pm_NoBits_init cd_NoBits_init ct_NoBits_init : Value}
    {od_Nought_init an_Nought_init : Option Addr} {sl_Nought_init : Array (Option Value)} {oc_Nought_init kV_Nought_init dc_Nought_init pm_Nought_init cd_Nought_init ct_Nought_init : Value}
    {od_is_whole an_is_whole : Option Addr} {sl_is_whole : Array (Option Value)} {oc_is_whole kV_is_whole dc_is_whole pm_is_whole cd_is_whole ct_is_whole : Value}
    {od_is_word an_is_word : Option Addr} {sl_is_word : Array (Option Value)} {oc_is_word kV_is_word dc_is_word pm_is_word cd_is_word ct_is_word : Value}
    {od_check_word an_check_word : Option Addr} {sl_check_word : Array (Option Value)} {oc_check_word kV_check_word dc_check_word pm_check_word cd_check_word ct_check_word : Value}
    {od_sum_of an_sum_of : Option Addr} {sl_sum_of : Array (Option Value)} {oc_sum_of kV_sum_of dc_sum_of pm_sum_of cd_sum_of ct_sum_of : Value}
    {od_difference an_difference : Option Addr} {sl_difference : Array (Option Value)} {oc_difference kV_difference dc_difference pm_difference cd_difference ct_difference : Value}
    {od_divided an_divided : Option Addr} {sl_divided : Array (Option Value)} {oc_divided kV_divided dc_divided pm_divided cd_divided ct_divided : Value}
    {od_bits_of an_bits_of : Option Addr} {sl_bits_of : Array (Option Value)} {oc_bits_of kV_bits_of dc_bits_of pm_bits_of cd_bits_of ct_bits_of : Value}
    {od_word_of_bits an_word_of_bits : Option Addr} {sl_word_of_bits : Array (Option Value)} {oc_word_of_bits kV_word_of_bits dc_word_of_bits pm_word_of_bits cd_word_of_bits ct_word_of_bits : Value}
    {od_check_words an_check_words : Option Addr} {sl_check_words : Array (Option Value)} {oc_check_words kV_check_words dc_check_words pm_check_words cd_check_words ct_check_words : Value}
    {od_cell_L an_cell_L : Option Addr} {sl_cell_L : Array (Option Value)} {oc_cell_L kV_cell_L dc_cell_L pm_cell_L cd_cell_L ct_cell_L : Value}
    {od_box_L an_box_L : Option Addr} {sl_box_L : Array (Option Value)} {oc_box_L kV_box_L dc_box_L pm_box_L cd_box_L ct_box_L : Value}
    {od_take_L an_take_L : Option Addr} {sl_take_L : Array (Option Value)} {oc_take_L kV_take_L dc_take_L pm_take_L cd_take_L ct_take_L : Value}
    {od_caught_L an_caught_L : Option Addr} {sl_caught_L : Array (Option Value)} {oc_caught_L kV_caught_L dc_caught_L pm_caught_L cd_caught_L ct_caught_L : Value}
    {od_same_L an_same_L : Option Addr} {sl_same_L : Array (Option Value)} {oc_same_L kV_same_L dc_same_L pm_same_L cd_same_L ct_same_L : Value}
    {od_word_L an_word_L : Option Addr} {sl_word_L : Array (Option Value)} {oc_word_L kV_word_L dc_word_L pm_word_L cd_word_L ct_word_L : Value}
    {od_bad_L an_bad_L : Option Addr} {sl_bad_L : Array (Option Value)} {oc_bad_L kV_bad_L dc_bad_L pm_bad_L cd_bad_L ct_bad_L : Value}
    {od_sums_right_L an_sums_right_L : Option Addr} {sl_sums_right_L : Array (Option Value)} {oc_sums_right_L kV_sums_right_L dc_sums_right_L pm_sums_right_L cd_sums_right_L ct_sums_right_L : Value}
    {od_named_L an_named_L : Option Addr} {sl_named_L : Array (Option Value)} {oc_named_L kV_named_L dc_named_L pm_named_L cd_named_L ct_named_L : Value}
    {od_bits_right_L an_bits_right_L : Option Addr} {sl_bits_right_L : Array (Option Value)} {oc_bits_right_L kV_bits_right_L dc_bits_right_L pm_bits_right_L cd_bits_right_L ct_bits_right_L : Value}
    {od_truths_right_L an_truths_right_L : Option Addr} {sl_truths_right_L : Array (Option Value)} {oc_truths_right_L kV_truths_right_L dc_truths_right_L pm_truths_right_L cd_truths_right_L ct_truths_right_L : Value}
    {od_refused_right_L an_refused_right_L : Option Addr} {sl_refused_right_L : Array (Option Value)} {oc_refused_right_L kV_refused_right_L dc_refused_right_L pm_refused_right_L cd_refused_right_L ct_refused_right_L : Value}
    {od_law an_law : Option Addr} {sl_law : Array (Option Value)} {oc_law kV_law dc_law pm_law cd_law ct_law : Value}
    {t_most t_bits : Tok}
    {nmW qW : Str} {NW : Addr} {bsW : List Value} {snW : List Str} {subW : List Value} {abW : Bool} {colW : Option Bool} {ddW : Option Addr} {wW0 wW1 wW2 wW3 wW5 : Option Value}
    {nmB qB : Str} {NB : Addr} {bsB : List Value} {snB : List Str} {subB : List Value} {abB : Bool} {colB : Option Bool} {ddB : Option Addr} {wB0 wB1 wB2 wB3 wB5 : Option Value}
    {nmN qN : Str} {NN : Addr} {bsN : List Value} {snN : List Str} {subN : List Value} {abN : Bool} {colN : Option Bool} {ddN : Option Addr} {wN0 wN1 wN2 wN3 wN5 : Option Value}
    (aC_GuestError : PySem.W.nsIn K mainGlobals "GuestError" = some (some (.ref C_GuestError)))
    (aC_Missing : PySem.W.nsIn K mainGlobals "Missing" = some (some (.ref C_Missing)))
    (aC_Barred : PySem.W.nsIn K mainGlobals "Barred" = some (some (.ref C_Barred)))
    (aC_NoWord : PySem.W.nsIn K mainGlobals "NoWord" = some (some (.ref C_NoWord)))
    (aC_NoBits : PySem.W.nsIn K mainGlobals "NoBits" = some (some (.ref C_NoBits)))
    (aC_Nought : PySem.W.nsIn K mainGlobals "Nought" = some (some (.ref C_Nought)))
    (a_GuestError_init : PySem.W.findIn K (.ref C_GuestError) "__init__" = some (some (.ref f_GuestError_init)))
    (l_GuestError_init : K.lookup f_GuestError_init = some ⟨oc_GuestError_init, od_GuestError_init, .func (PySem.W.fnOf "__init__" "GuestError.__init__" (defArgs s_GuestError_init) (defBody s_GuestError_init) (defScope s_GuestError_init) .none kV_GuestError_init dc_GuestError_init pm_GuestError_init an_GuestError_init cd_GuestError_init ct_GuestError_init), sl_GuestError_init⟩)
    (c_GuestError_init : PySem.W.codeIn K cd_GuestError_init "GuestError.__init__" = true)
    (k_GuestError_init : PySem.W.keepIn K (.ref f_GuestError_init) = true)
    (a_Missing_init : PySem.W.findIn K (.ref C_Missing) "__init__" = some (some (.ref f_Missing_init)))
    (l_Missing_init : K.lookup f_Missing_init = some ⟨oc_Missing_init, od_Missing_init, .func (PySem.W.fnOf "__init__" "Missing.__init__" (defArgs s_Missing_init) (defBody s_Missing_init) (defScope s_Missing_init) .none kV_Missing_init dc_Missing_init pm_Missing_init an_Missing_init cd_Missing_init ct_Missing_init), sl_Missing_init⟩)
    (c_Missing_init : PySem.W.codeIn K cd_Missing_init "Missing.__init__" = true)
    (k_Missing_init : PySem.W.keepIn K (.ref f_Missing_init) = true)
    (a_Barred_init : PySem.W.findIn K (.ref C_Barred) "__init__" = some (some (.ref f_Barred_init)))
    (l_Barred_init : K.lookup f_Barred_init = some ⟨oc_Barred_init, od_Barred_init, .func (PySem.W.fnOf "__init__" "Barred.__init__" (defArgs s_Barred_init) (defBody s_Barred_init) (defScope s_Barred_init) .none kV_Barred_init dc_Barred_init pm_Barred_init an_Barred_init cd_Barred_init ct_Barred_init), sl_Barred_init⟩)
    (c_Barred_init : PySem.W.codeIn K cd_Barred_init "Barred.__init__" = true)
    (k_Barred_init : PySem.W.keepIn K (.ref f_Barred_init) = true)
    (a_NoWord_init : PySem.W.findIn K (.ref C_NoWord) "__init__" = some (some (.ref f_NoWord_init)))
    (l_NoWord_init : K.lookup f_NoWord_init = some ⟨oc_NoWord_init, od_NoWord_init, .func (PySem.W.fnOf "__init__" "NoWord.__init__" (defArgs s_NoWord_init) (defBody s_NoWord_init) (defScope s_NoWord_init) .none kV_NoWord_init dc_NoWord_init pm_NoWord_init an_NoWord_init cd_NoWord_init ct_NoWord_init), sl_NoWord_init⟩)
    (c_NoWord_init : PySem.W.codeIn K cd_NoWord_init "NoWord.__init__" = true)
    (k_NoWord_init : PySem.W.keepIn K (.ref f_NoWord_init) = true)
    (a_NoBits_init : PySem.W.findIn K (.ref C_NoBits) "__init__" = some (some (.ref f_NoBits_init)))
    (l_NoBits_init : K.lookup f_NoBits_init = some ⟨oc_NoBits_init, od_NoBits_init, .func (PySem.W.fnOf "__init__" "NoBits.__init__" (defArgs s_NoBits_init) (defBody s_NoBits_init) (defScope s_NoBits_init) .none kV_NoBits_init dc_NoBits_init pm_NoBits_init an_NoBits_init cd_NoBits_init ct_NoBits_init), sl_NoBits_init⟩)
    (c_NoBits_init : PySem.W.codeIn K cd_NoBits_init "NoBits.__init__" = true)
    (k_NoBits_init : PySem.W.keepIn K (.ref f_NoBits_init) = true)
    (a_Nought_init : PySem.W.findIn K (.ref C_Nought) "__init__" = some (some (.ref f_Nought_init)))
    (l_Nought_init : K.lookup f_Nought_init = some ⟨oc_Nought_init, od_Nought_init, .func (PySem.W.fnOf "__init__" "Nought.__init__" (defArgs s_Nought_init) (defBody s_Nought_init) (defScope s_Nought_init) .none kV_Nought_init dc_Nought_init pm_Nought_init an_Nought_init cd_Nought_init ct_Nought_init), sl_Nought_init⟩)
    (c_Nought_init : PySem.W.codeIn K cd_Nought_init "Nought.__init__" = true)
    (k_Nought_init : PySem.W.keepIn K (.ref f_Nought_init) = true)
    (a_is_whole : PySem.W.nsIn K mainGlobals "is_whole" = some (some (.ref f_is_whole)))
    (l_is_whole : K.lookup f_is_whole = some ⟨oc_is_whole, od_is_whole, .func (PySem.W.fnOf "is_whole" "is_whole" (defArgs s_is_whole) (defBody s_is_whole) (defScope s_is_whole) .none kV_is_whole dc_is_whole pm_is_whole an_is_whole cd_is_whole ct_is_whole), sl_is_whole⟩)
    (c_is_whole : PySem.W.codeIn K cd_is_whole "is_whole" = true)
    (k_is_whole : PySem.W.keepIn K (.ref f_is_whole) = true)
    (a_is_word : PySem.W.nsIn K mainGlobals "is_word" = some (some (.ref f_is_word)))
    (l_is_word : K.lookup f_is_word = some ⟨oc_is_word, od_is_word, .func (PySem.W.fnOf "is_word" "is_word" (defArgs s_is_word) (defBody s_is_word) (defScope s_is_word) .none kV_is_word dc_is_word pm_is_word an_is_word cd_is_word ct_is_word), sl_is_word⟩)
    (c_is_word : PySem.W.codeIn K cd_is_word "is_word" = true)
    (k_is_word : PySem.W.keepIn K (.ref f_is_word) = true)
    (a_check_word : PySem.W.nsIn K mainGlobals "check_word" = some (some (.ref f_check_word)))
    (l_check_word : K.lookup f_check_word = some ⟨oc_check_word, od_check_word, .func (PySem.W.fnOf "check_word" "check_word" (defArgs s_check_word) (defBody s_check_word) (defScope s_check_word) .none kV_check_word dc_check_word pm_check_word an_check_word cd_check_word ct_check_word), sl_check_word⟩)
    (c_check_word : PySem.W.codeIn K cd_check_word "check_word" = true)
    (k_check_word : PySem.W.keepIn K (.ref f_check_word) = true)
    (a_sum_of : PySem.W.nsIn K mainGlobals "sum_of" = some (some (.ref f_sum_of)))
    (l_sum_of : K.lookup f_sum_of = some ⟨oc_sum_of, od_sum_of, .func (PySem.W.fnOf "sum_of" "sum_of" (defArgs s_sum_of) (defBody s_sum_of) (defScope s_sum_of) .none kV_sum_of dc_sum_of pm_sum_of an_sum_of cd_sum_of ct_sum_of), sl_sum_of⟩)
    (c_sum_of : PySem.W.codeIn K cd_sum_of "sum_of" = true)
    (k_sum_of : PySem.W.keepIn K (.ref f_sum_of) = true)
    (a_difference : PySem.W.nsIn K mainGlobals "difference" = some (some (.ref f_difference)))
    (l_difference : K.lookup f_difference = some ⟨oc_difference, od_difference, .func (PySem.W.fnOf "difference" "difference" (defArgs s_difference) (defBody s_difference) (defScope s_difference) .none kV_difference dc_difference pm_difference an_difference cd_difference ct_difference), sl_difference⟩)
    (c_difference : PySem.W.codeIn K cd_difference "difference" = true)
    (k_difference : PySem.W.keepIn K (.ref f_difference) = true)
    (a_divided : PySem.W.nsIn K mainGlobals "divided" = some (some (.ref f_divided)))
    (l_divided : K.lookup f_divided = some ⟨oc_divided, od_divided, .func (PySem.W.fnOf "divided" "divided" (defArgs s_divided) (defBody s_divided) (defScope s_divided) .none kV_divided dc_divided pm_divided an_divided cd_divided ct_divided), sl_divided⟩)
    (c_divided : PySem.W.codeIn K cd_divided "divided" = true)
    (k_divided : PySem.W.keepIn K (.ref f_divided) = true)
    (a_bits_of : PySem.W.nsIn K mainGlobals "bits_of" = some (some (.ref f_bits_of)))
    (l_bits_of : K.lookup f_bits_of = some ⟨oc_bits_of, od_bits_of, .func (PySem.W.fnOf "bits_of" "bits_of" (defArgs s_bits_of) (defBody s_bits_of) (defScope s_bits_of) .none kV_bits_of dc_bits_of pm_bits_of an_bits_of cd_bits_of ct_bits_of), sl_bits_of⟩)
    (c_bits_of : PySem.W.codeIn K cd_bits_of "bits_of" = true)
    (k_bits_of : PySem.W.keepIn K (.ref f_bits_of) = true)
    (a_word_of_bits : PySem.W.nsIn K mainGlobals "word_of_bits" = some (some (.ref f_word_of_bits)))
    (l_word_of_bits : K.lookup f_word_of_bits = some ⟨oc_word_of_bits, od_word_of_bits, .func (PySem.W.fnOf "word_of_bits" "word_of_bits" (defArgs s_word_of_bits) (defBody s_word_of_bits) (defScope s_word_of_bits) .none kV_word_of_bits dc_word_of_bits pm_word_of_bits an_word_of_bits cd_word_of_bits ct_word_of_bits), sl_word_of_bits⟩)
    (c_word_of_bits : PySem.W.codeIn K cd_word_of_bits "word_of_bits" = true)
    (k_word_of_bits : PySem.W.keepIn K (.ref f_word_of_bits) = true)
    (a_check_words : PySem.W.nsIn K mainGlobals "_check_words" = some (some (.ref f_check_words)))
    (l_check_words : K.lookup f_check_words = some ⟨oc_check_words, od_check_words, .func (PySem.W.fnOf "_check_words" "_check_words" (defArgs s_check_words) (defBody s_check_words) (defScope s_check_words) .none kV_check_words dc_check_words pm_check_words an_check_words cd_check_words ct_check_words), sl_check_words⟩)
    (c_check_words : PySem.W.codeIn K cd_check_words "_check_words" = true)
    (k_check_words : PySem.W.keepIn K (.ref f_check_words) = true)
    (a_cell_L : PySem.W.nsIn K mainGlobals "_law_cell" = some (some (.ref f_cell_L)))
    (l_cell_L : K.lookup f_cell_L = some ⟨oc_cell_L, od_cell_L, .func (PySem.W.fnOf "_law_cell" "_law_cell" (defArgs s_cell_L) (defBody s_cell_L) (defScope s_cell_L) .none kV_cell_L dc_cell_L pm_cell_L an_cell_L cd_cell_L ct_cell_L), sl_cell_L⟩)
    (c_cell_L : PySem.W.codeIn K cd_cell_L "_law_cell" = true)
    (k_cell_L : PySem.W.keepIn K (.ref f_cell_L) = true)
    (a_box_L : PySem.W.nsIn K mainGlobals "_law_box" = some (some (.ref f_box_L)))
    (l_box_L : K.lookup f_box_L = some ⟨oc_box_L, od_box_L, .func (PySem.W.fnOf "_law_box" "_law_box" (defArgs s_box_L) (defBody s_box_L) (defScope s_box_L) .none kV_box_L dc_box_L pm_box_L an_box_L cd_box_L ct_box_L), sl_box_L⟩)
    (c_box_L : PySem.W.codeIn K cd_box_L "_law_box" = true)
    (k_box_L : PySem.W.keepIn K (.ref f_box_L) = true)
    (a_take_L : PySem.W.nsIn K mainGlobals "_law_take" = some (some (.ref f_take_L)))
    (l_take_L : K.lookup f_take_L = some ⟨oc_take_L, od_take_L, .func (PySem.W.fnOf "_law_take" "_law_take" (defArgs s_take_L) (defBody s_take_L) (defScope s_take_L) .none kV_take_L dc_take_L pm_take_L an_take_L cd_take_L ct_take_L), sl_take_L⟩)
    (c_take_L : PySem.W.codeIn K cd_take_L "_law_take" = true)
    (k_take_L : PySem.W.keepIn K (.ref f_take_L) = true)
    (a_caught_L : PySem.W.nsIn K mainGlobals "_law_caught" = some (some (.ref f_caught_L)))
    (l_caught_L : K.lookup f_caught_L = some ⟨oc_caught_L, od_caught_L, .func (PySem.W.fnOf "_law_caught" "_law_caught" (defArgs s_caught_L) (defBody s_caught_L) (defScope s_caught_L) .none kV_caught_L dc_caught_L pm_caught_L an_caught_L cd_caught_L ct_caught_L), sl_caught_L⟩)
    (c_caught_L : PySem.W.codeIn K cd_caught_L "_law_caught" = true)
    (k_caught_L : PySem.W.keepIn K (.ref f_caught_L) = true)
    (a_same_L : PySem.W.nsIn K mainGlobals "_law_same" = some (some (.ref f_same_L)))
    (l_same_L : K.lookup f_same_L = some ⟨oc_same_L, od_same_L, .func (PySem.W.fnOf "_law_same" "_law_same" (defArgs s_same_L) (defBody s_same_L) (defScope s_same_L) .none kV_same_L dc_same_L pm_same_L an_same_L cd_same_L ct_same_L), sl_same_L⟩)
    (c_same_L : PySem.W.codeIn K cd_same_L "_law_same" = true)
    (k_same_L : PySem.W.keepIn K (.ref f_same_L) = true)
    (a_word_L : PySem.W.nsIn K mainGlobals "_law_word" = some (some (.ref f_word_L)))
    (l_word_L : K.lookup f_word_L = some ⟨oc_word_L, od_word_L, .func (PySem.W.fnOf "_law_word" "_law_word" (defArgs s_word_L) (defBody s_word_L) (defScope s_word_L) .none kV_word_L dc_word_L pm_word_L an_word_L cd_word_L ct_word_L), sl_word_L⟩)
    (c_word_L : PySem.W.codeIn K cd_word_L "_law_word" = true)
    (k_word_L : PySem.W.keepIn K (.ref f_word_L) = true)
    (a_bad_L : PySem.W.nsIn K mainGlobals "_law_bad" = some (some (.ref f_bad_L)))
    (l_bad_L : K.lookup f_bad_L = some ⟨oc_bad_L, od_bad_L, .func (PySem.W.fnOf "_law_bad" "_law_bad" (defArgs s_bad_L) (defBody s_bad_L) (defScope s_bad_L) .none kV_bad_L dc_bad_L pm_bad_L an_bad_L cd_bad_L ct_bad_L), sl_bad_L⟩)
    (c_bad_L : PySem.W.codeIn K cd_bad_L "_law_bad" = true)
    (k_bad_L : PySem.W.keepIn K (.ref f_bad_L) = true)
    (a_sums_right_L : PySem.W.nsIn K mainGlobals "_law_sums_right" = some (some (.ref f_sums_right_L)))
    (l_sums_right_L : K.lookup f_sums_right_L = some ⟨oc_sums_right_L, od_sums_right_L, .func (PySem.W.fnOf "_law_sums_right" "_law_sums_right" (defArgs s_sums_right_L) (defBody s_sums_right_L) (defScope s_sums_right_L) .none kV_sums_right_L dc_sums_right_L pm_sums_right_L an_sums_right_L cd_sums_right_L ct_sums_right_L), sl_sums_right_L⟩)
    (c_sums_right_L : PySem.W.codeIn K cd_sums_right_L "_law_sums_right" = true)
    (k_sums_right_L : PySem.W.keepIn K (.ref f_sums_right_L) = true)
    (a_named_L : PySem.W.nsIn K mainGlobals "_law_named" = some (some (.ref f_named_L)))
    (l_named_L : K.lookup f_named_L = some ⟨oc_named_L, od_named_L, .func (PySem.W.fnOf "_law_named" "_law_named" (defArgs s_named_L) (defBody s_named_L) (defScope s_named_L) .none kV_named_L dc_named_L pm_named_L an_named_L cd_named_L ct_named_L), sl_named_L⟩)
    (c_named_L : PySem.W.codeIn K cd_named_L "_law_named" = true)
    (k_named_L : PySem.W.keepIn K (.ref f_named_L) = true)
    (a_bits_right_L : PySem.W.nsIn K mainGlobals "_law_bits_right" = some (some (.ref f_bits_right_L)))
    (l_bits_right_L : K.lookup f_bits_right_L = some ⟨oc_bits_right_L, od_bits_right_L, .func (PySem.W.fnOf "_law_bits_right" "_law_bits_right" (defArgs s_bits_right_L) (defBody s_bits_right_L) (defScope s_bits_right_L) .none kV_bits_right_L dc_bits_right_L pm_bits_right_L an_bits_right_L cd_bits_right_L ct_bits_right_L), sl_bits_right_L⟩)
    (c_bits_right_L : PySem.W.codeIn K cd_bits_right_L "_law_bits_right" = true)
    (k_bits_right_L : PySem.W.keepIn K (.ref f_bits_right_L) = true)
    (a_truths_right_L : PySem.W.nsIn K mainGlobals "_law_truths_right" = some (some (.ref f_truths_right_L)))
    (l_truths_right_L : K.lookup f_truths_right_L = some ⟨oc_truths_right_L, od_truths_right_L, .func (PySem.W.fnOf "_law_truths_right" "_law_truths_right" (defArgs s_truths_right_L) (defBody s_truths_right_L) (defScope s_truths_right_L) .none kV_truths_right_L dc_truths_right_L pm_truths_right_L an_truths_right_L cd_truths_right_L ct_truths_right_L), sl_truths_right_L⟩)
    (c_truths_right_L : PySem.W.codeIn K cd_truths_right_L "_law_truths_right" = true)
    (k_truths_right_L : PySem.W.keepIn K (.ref f_truths_right_L) = true)
    (a_refused_right_L : PySem.W.nsIn K mainGlobals "_law_refused_right" = some (some (.ref f_refused_right_L)))
    (l_refused_right_L : K.lookup f_refused_right_L = some ⟨oc_refused_right_L, od_refused_right_L, .func (PySem.W.fnOf "_law_refused_right" "_law_refused_right" (defArgs s_refused_right_L) (defBody s_refused_right_L) (defScope s_refused_right_L) .none kV_refused_right_L dc_refused_right_L pm_refused_right_L an_refused_right_L cd_refused_right_L ct_refused_right_L), sl_refused_right_L⟩)
    (c_refused_right_L : PySem.W.codeIn K cd_refused_right_L "_law_refused_right" = true)
    (k_refused_right_L : PySem.W.keepIn K (.ref f_refused_right_L) = true)
    (a_law : PySem.W.nsIn K mainGlobals "law" = some (some (.ref f_law)))
    (l_law : K.lookup f_law = some ⟨oc_law, od_law, .func (PySem.W.fnOf "law" "law" (defArgs s_law) (defBody s_law) (defScope s_law) .none kV_law dc_law pm_law an_law cd_law ct_law), sl_law⟩)
    (c_law : PySem.W.codeIn K cd_law "law" = true)
    (k_law : PySem.W.keepIn K (.ref f_law) = true)
    (cMOST : PySem.W.nsIn K mainGlobals "MOST" = some (some (.int 4095 t_most)))
    (cBITS : PySem.W.nsIn K mainGlobals "BITS" = some (some (.int 12 t_bits)))
    (rd_G : PySem.W.readsIn K C_GuestError (.type "type") = true)
    (ga_G : PySem.W.specialIn K (.ref C_GuestError) "__getattribute__" = some (some (.builtin "type.__getattribute__")))
    (at_G : PySem.W.findCls K (.ref C_GuestError) (.type "type") "__init__" = some (.val (.ref f_GuestError_init)))
    (vV : PySem.W.findCls K (.type "ValueError") (.type "type") "__init__" = some (.val (.builtin "ValueError.__init__")))
    (xL_W : K.lookup C_NoWord = some (excClassObj nmW qW C_NoWord NW bsW [.ref C_GuestError, .type "ValueError", .type "Exception", .type "BaseException", .type "object"] true snW subW abW colW ddW wW0 wW1 wW2 wW3 wW5 "ValueError.__new__"))
    (sa_W : PySem.W.findIn K (.ref C_NoWord) "__setattr__" = some (some (.builtin "object.__setattr__")))
    (ex_W : PySem.W.subIn K (.ref C_NoWord) (.type "BaseException") = some true)
    (ty_W : PySem.W.typeIn K (.ref C_NoWord) = some (.type "type"))
    (kp_W : PySem.W.keepIn K (.ref C_NoWord) = true)
    (tf_W : PySem.W.typeIn K (.ref f_NoWord_init) = some (.type "function"))
    (nf_W : PySem.W.findIn K (.ref C_NoWord) "found" = some none)
    (hg_W : PySem.W.findIn K (.ref C_NoWord) "__getattribute__" = some (some (.builtin "BaseException.__getattribute__")))
    (hk_W : PySem.W.findIn K (.ref C_NoWord) "__getattr__" = some none)
    (hd_W : PySem.W.hasDictIn K C_NoWord = true)
    (xL_B : K.lookup C_NoBits = some (excClassObj nmB qB C_NoBits NB bsB [.ref C_GuestError, .type "ValueError", .type "Exception", .type "BaseException", .type "object"] true snB subB abB colB ddB wB0 wB1 wB2 wB3 wB5 "ValueError.__new__"))
    (sa_B : PySem.W.findIn K (.ref C_NoBits) "__setattr__" = some (some (.builtin "object.__setattr__")))
    (ex_B : PySem.W.subIn K (.ref C_NoBits) (.type "BaseException") = some true)
    (ty_B : PySem.W.typeIn K (.ref C_NoBits) = some (.type "type"))
    (kp_B : PySem.W.keepIn K (.ref C_NoBits) = true)
    (tf_B : PySem.W.typeIn K (.ref f_NoBits_init) = some (.type "function"))
    (nf_B : PySem.W.findIn K (.ref C_NoBits) "found" = some none)
    (hg_B : PySem.W.findIn K (.ref C_NoBits) "__getattribute__" = some (some (.builtin "BaseException.__getattribute__")))
    (hk_B : PySem.W.findIn K (.ref C_NoBits) "__getattr__" = some none)
    (hd_B : PySem.W.hasDictIn K C_NoBits = true)
    (xL_N : K.lookup C_Nought = some (excClassObj nmN qN C_Nought NN bsN [.ref C_GuestError, .type "ValueError", .type "Exception", .type "BaseException", .type "object"] true snN subN abN colN ddN wN0 wN1 wN2 wN3 wN5 "ValueError.__new__"))
    (sa_N : PySem.W.findIn K (.ref C_Nought) "__setattr__" = some (some (.builtin "object.__setattr__")))
    (ex_N : PySem.W.subIn K (.ref C_Nought) (.type "BaseException") = some true)
    (ty_N : PySem.W.typeIn K (.ref C_Nought) = some (.type "type"))
    (kp_N : PySem.W.keepIn K (.ref C_Nought) = true)
    (tf_N : PySem.W.typeIn K (.ref f_Nought_init) = some (.type "function"))
    (nf_N : PySem.W.findIn K (.ref C_Nought) "found" = some none)
    (hg_N : PySem.W.findIn K (.ref C_Nought) "__getattribute__" = some (some (.builtin "BaseException.__getattribute__")))
    (hk_N : PySem.W.findIn K (.ref C_Nought) "__getattr__" = some none)
    (hd_N : PySem.W.hasDictIn K C_Nought = true)
    (s_NoWord_NoWord : PySem.W.subIn K (.ref C_NoWord) (.ref C_NoWord) = some true)
    (s_Nought_NoWord : PySem.W.subIn K (.ref C_Nought) (.ref C_NoWord) = some false)
    (s_Nought_Nought : PySem.W.subIn K (.ref C_Nought) (.ref C_Nought) = some true)
    (s_NoBits_NoWord : PySem.W.subIn K (.ref C_NoBits) (.ref C_NoWord) = some false)
    (s_NoBits_Nought : PySem.W.subIn K (.ref C_NoBits) (.ref C_Nought) = some false)
    (s_NoBits_NoBits : PySem.W.subIn K (.ref C_NoBits) (.ref C_NoBits) = some true)
    (z_isinstance : PySem.W.nsIn K mainGlobals "isinstance" = some none)
    (z_int : PySem.W.nsIn K mainGlobals "int" = some none)
    (z_bool : PySem.W.nsIn K mainGlobals "bool" = some none)
    (z_list : PySem.W.nsIn K mainGlobals "list" = some none)
    (z_tuple : PySem.W.nsIn K mainGlobals "tuple" = some none)
    (z_len : PySem.W.nsIn K mainGlobals "len" = some none)
    (z_all : PySem.W.nsIn K mainGlobals "all" = some none)
    (z_max : PySem.W.nsIn K mainGlobals "max" = some none)
    (z_min : PySem.W.nsIn K mainGlobals "min" = some none)
    (z_range : PySem.W.nsIn K mainGlobals "range" = some none)
    (z_enumerate : PySem.W.nsIn K mainGlobals "enumerate" = some none)
    (z_reversed : PySem.W.nsIn K mainGlobals "reversed" = some none)
    (z_sum : PySem.W.nsIn K mainGlobals "sum" = some none)
    (z_repr : PySem.W.nsIn K mainGlobals "repr" = some none)
    (z_ValueError : PySem.W.nsIn K mainGlobals "ValueError" = some none) :
    ∃ fd : FuncData, (∀ (s : Shared) (v : Value), BindsTo s fd ⟨[v], []⟩ [("_law_script", v)]) ∧ ∀ base : Heap, K.In base → base.Ns mainGlobals mg → FnG l.prog w K mg base CX0 9 fa fd ["_law_script"] (spLaw K) := by
  have e := hfa.symm.trans (PySem.W.mg_of X G a_law)
  cases e
  have mo : ∀ {x : Str} {u : Value}, PySem.W.nsIn K mainGlobals x = some (some u) → mg x = some u := fun q => PySem.W.mg_of X G q
  have mz : ∀ {x : Str}, PySem.W.nsIn K mainGlobals x = some none → mg x = none := fun q => PySem.W.mg_none_of X G q
  have F_GuestError_init := fun_mk (st := s_GuestError_init) l_GuestError_init c_GuestError_init k_GuestError_init
  have b_GuestError_init := F_GuestError_init.binds (ps := ["self", "text"]) fun _ _ _ _ _ _ us hl => match us, hl with | [_, _], _ => rfl
  have F_Missing_init := fun_mk (st := s_Missing_init) l_Missing_init c_Missing_init k_Missing_init
  have b_Missing_init := F_Missing_init.binds (ps := ["self", "text"]) fun _ _ _ _ _ _ us hl => match us, hl with | [_, _], _ => rfl
  have F_Barred_init := fun_mk (st := s_Barred_init) l_Barred_init c_Barred_init k_Barred_init
  have b_Barred_init := F_Barred_init.binds (ps := ["self", "text"]) fun _ _ _ _ _ _ us hl => match us, hl with | [_, _], _ => rfl
  have F_NoWord_init := fun_mk (st := s_NoWord_init) l_NoWord_init c_NoWord_init k_NoWord_init
  have b_NoWord_init := F_NoWord_init.binds (ps := ["self", "found"]) fun _ _ _ _ _ _ us hl => match us, hl with | [_, _], _ => rfl
  have F_NoBits_init := fun_mk (st := s_NoBits_init) l_NoBits_init c_NoBits_init k_NoBits_init
  have b_NoBits_init := F_NoBits_init.binds (ps := ["self", "found"]) fun _ _ _ _ _ _ us hl => match us, hl with | [_, _], _ => rfl
  have F_Nought_init := fun_mk (st := s_Nought_init) l_Nought_init c_Nought_init k_Nought_init
  have b_Nought_init := F_Nought_init.binds (ps := ["self", "found"]) fun _ _ _ _ _ _ us hl => match us, hl with | [_, _], _ => rfl
  have F_is_whole := fun_mk (st := s_is_whole) l_is_whole c_is_whole k_is_whole
  have b_is_whole := F_is_whole.binds (ps := ["thing", "low", "high"]) fun _ _ _ _ _ _ us hl => match us, hl with | [_, _, _], _ => rfl
  have F_is_word := fun_mk (st := s_is_word) l_is_word c_is_word k_is_word
  have b_is_word := F_is_word.binds (ps := ["thing"]) fun _ _ _ _ _ _ us hl => match us, hl with | [_], _ => rfl
  have F_check_word := fun_mk (st := s_check_word) l_check_word c_check_word k_check_word
  have b_check_word := F_check_word.binds (ps := ["thing"]) fun _ _ _ _ _ _ us hl => match us, hl with | [_], _ => rfl
  have F_sum_of := fun_mk (st := s_sum_of) l_sum_of c_sum_of k_sum_of
  have b_sum_of := F_sum_of.binds (ps := ["one", "other"]) fun _ _ _ _ _ _ us hl => match us, hl with | [_, _], _ => rfl
  have F_difference := fun_mk (st := s_difference) l_difference c_difference k_difference
  have b_difference := F_difference.binds (ps := ["one", "other"]) fun _ _ _ _ _ _ us hl => match us, hl with | [_, _], _ => rfl
  have F_divided := fun_mk (st := s_divided) l_divided c_divided k_divided
  have b_divided := F_divided.binds (ps := ["one", "other"]) fun _ _ _ _ _ _ us hl => match us, hl with | [_, _], _ => rfl
  have F_bits_of := fun_mk (st := s_bits_of) l_bits_of c_bits_of k_bits_of
  have b_bits_of := F_bits_of.binds (ps := ["word"]) fun _ _ _ _ _ _ us hl => match us, hl with | [_], _ => rfl
  have F_word_of_bits := fun_mk (st := s_word_of_bits) l_word_of_bits c_word_of_bits k_word_of_bits
  have b_word_of_bits := F_word_of_bits.binds (ps := ["bits"]) fun _ _ _ _ _ _ us hl => match us, hl with | [_], _ => rfl
  have F_check_words := fun_mk (st := s_check_words) l_check_words c_check_words k_check_words
  have b_check_words := F_check_words.binds (ps := ["one", "other"]) fun _ _ _ _ _ _ us hl => match us, hl with | [_, _], _ => rfl
  have F_cell_L := fun_mk (st := s_cell_L) l_cell_L c_cell_L k_cell_L
  have b_cell_L := F_cell_L.binds (ps := ["_law_script", "_law_k"]) fun _ _ _ _ _ _ us hl => match us, hl with | [_, _], _ => rfl
  have F_box_L := fun_mk (st := s_box_L) l_box_L c_box_L k_box_L
  have b_box_L := F_box_L.binds (ps := ["_law_cell_here"]) fun _ _ _ _ _ _ us hl => match us, hl with | [_], _ => rfl
  have F_take_L := fun_mk (st := s_take_L) l_take_L c_take_L k_take_L
  have b_take_L := F_take_L.binds (ps := ["_law_box_here", "_law_size"]) fun _ _ _ _ _ _ us hl => match us, hl with | [_, _], _ => rfl
  have F_caught_L := fun_mk (st := s_caught_L) l_caught_L c_caught_L k_caught_L
  have b_caught_L := F_caught_L.binds (ps := ["_law_way", "_law_left", "_law_right"]) fun _ _ _ _ _ _ us hl => match us, hl with | [_, _, _], _ => rfl
  have F_same_L := fun_mk (st := s_same_L) l_same_L c_same_L k_same_L
  have b_same_L := F_same_L.binds (ps := ["_law_caught_here", "_law_value", "_law_thing"]) fun _ _ _ _ _ _ us hl => match us, hl with | [_, _, _], _ => rfl
  have F_word_L := fun_mk (st := s_word_L) l_word_L c_word_L k_word_L
  have b_word_L := F_word_L.binds (ps := ["_law_box_here"]) fun _ _ _ _ _ _ us hl => match us, hl with | [_], _ => rfl
  have F_bad_L := fun_mk (st := s_bad_L) l_bad_L c_bad_L k_bad_L
  have b_bad_L := F_bad_L.binds (ps := ["_law_box_here"]) fun _ _ _ _ _ _ us hl => match us, hl with | [_], _ => rfl
  have F_sums_right_L := fun_mk (st := s_sums_right_L) l_sums_right_L c_sums_right_L k_sums_right_L
  have b_sums_right_L := F_sums_right_L.binds (ps := ["_law_left", "_law_right"]) fun _ _ _ _ _ _ us hl => match us, hl with | [_, _], _ => rfl
  have F_named_L := fun_mk (st := s_named_L) l_named_L c_named_L k_named_L
  have b_named_L := F_named_L.binds (ps := ["_law_left", "_law_right"]) fun _ _ _ _ _ _ us hl => match us, hl with | [_, _], _ => rfl
  have F_bits_right_L := fun_mk (st := s_bits_right_L) l_bits_right_L c_bits_right_L k_bits_right_L
  have b_bits_right_L := F_bits_right_L.binds (ps := ["_law_value"]) fun _ _ _ _ _ _ us hl => match us, hl with | [_], _ => rfl
  have F_truths_right_L := fun_mk (st := s_truths_right_L) l_truths_right_L c_truths_right_L k_truths_right_L
  have b_truths_right_L := F_truths_right_L.binds (ps := ["_law_box_here"]) fun _ _ _ _ _ _ us hl => match us, hl with | [_], _ => rfl
  have F_refused_right_L := fun_mk (st := s_refused_right_L) l_refused_right_L c_refused_right_L k_refused_right_L
  have b_refused_right_L := F_refused_right_L.binds (ps := ["_law_box_here", "_law_way"]) fun _ _ _ _ _ _ us hl => match us, hl with | [_, _], _ => rfl
  have F_law := fun_mk (st := s_law) l_law c_law k_law
  have oex : ∀ {C : Addr} {nm q : Str} {N : Addr} {bs : List Value} {sn : List Str} {sub : List Value} {ab : Bool} {col : Option Bool} {dd : Option Addr} {k0 k1 k2 k3 k5 : Option Value}, K.lookup C = some (excClassObj nm q C N bs [.ref C_GuestError, .type "ValueError", .type "Exception", .type "BaseException", .type "object"] true sn sub ab col dd k0 k1 k2 k3 k5 "ValueError.__new__") →
      PySem.W.findIn K (.ref C) "__setattr__" = some (some (.builtin "object.__setattr__")) → PySem.W.subIn K (.ref C) (.type "BaseException") = some true → PySem.W.typeIn K (.ref C) = some (.type "type") → PySem.W.keepIn K (.ref C) = true → OexC K C :=
    fun l a b c d => ⟨⟨_, _, _, _, _, _, _, _, _, _, _, _, _, _, _, l, (by show PySem.HandSPX.refsVE [.type "ValueError", .type "Exception", .type "BaseException", .type "object"] = true; decide +kernel)⟩, a, b, c, d⟩
  have T : Txt K mg C_GuestError C_NoWord C_NoBits C_Nought f_GuestError_init f_NoWord_init f_NoBits_init f_Nought_init :=
    { m_isinstance := mz z_isinstance, m_int := mz z_int, m_bool := mz z_bool, m_list := mz z_list, m_tuple := mz z_tuple, m_len := mz z_len, m_all := mz z_all, m_max := mz z_max, m_min := mz z_min, m_range := mz z_range, m_enumerate := mz z_enumerate, m_reversed := mz z_reversed, m_sum := mz z_sum, m_repr := mz z_repr, m_ValueError := mz z_ValueError,
      c_MOST := ⟨_, mo cMOST, ⟨_, rfl⟩⟩, c_BITS := ⟨_, mo cBITS, ⟨_, rfl⟩⟩, g_GuestError := mo aC_GuestError, rd_GuestError := rd_G, ga_GuestError := ga_G, at_GuestError := at_G, vV := vV, g_NoWord := mo aC_NoWord, g_NoBits := mo aC_NoBits, g_Nought := mo aC_Nought,
      xW := ⟨oex xL_W sa_W ex_W ty_W kp_W, a_NoWord_init, tf_W, nf_W, ⟨hg_W, hk_W, ex_W, hd_W⟩⟩,
      xB := ⟨oex xL_B sa_B ex_B ty_B kp_B, a_NoBits_init, tf_B, nf_B, ⟨hg_B, hk_B, ex_B, hd_B⟩⟩,
      xN := ⟨oex xL_N sa_N ex_N ty_N kp_N, a_Nought_init, tf_N, nf_N, ⟨hg_N, hk_N, ex_N, hd_N⟩⟩,
      eWW := PySem.W.exm_ref ex_W hd_W ty_W s_NoWord_NoWord, eNW := PySem.W.exm_ref ex_W hd_W ty_W s_Nought_NoWord, eNN := PySem.W.exm_ref ex_N hd_N ty_N s_Nought_Nought,
      eBW := PySem.W.exm_ref ex_W hd_W ty_W s_NoBits_NoWord, eBN := PySem.W.exm_ref ex_N hd_N ty_N s_NoBits_Nought, eBB := PySem.W.exm_ref ex_B hd_B ty_B s_NoBits_NoBits }
  refine ⟨PySem.W.fnOf "law" "law" (defArgs s_law) (defBody s_law) (defScope s_law) .none kV_law dc_law pm_law an_law cd_law ct_law, fun s v => .of_eq rfl, fun base _ _ => ?_⟩
  have c_cell := CalD.mk' (P := l.prog) (w := w) (base := base) (mo a_cell_L) k_cell_L (ok_cell F_cell_L T) b_cell_L
  have c_box := CalD.mk' (P := l.prog) (w := w) (base := base) (mo a_box_L) k_box_L (ok_box F_box_L T) b_box_L
  have c_take := CalD.mk' (P := l.prog) (w := w) (base := base) (mo a_take_L) k_take_L (ok_take F_take_L T) b_take_L
  have o_GE : Own l.prog w K mg base CX0 1 f_GuestError_init _ ["self", "text"] (spGE K) := ⟨ok_GE F_GuestError_init T, b_GuestError_init, k_GuestError_init⟩
  have o_NW : Own l.prog w K mg base CX0 2 f_NoWord_init _ ["self", "found"] (spInit C_NoWord) := ⟨ok_NW F_NoWord_init T o_GE, b_NoWord_init, k_NoWord_init⟩
  have o_NB : Own l.prog w K mg base CX0 2 f_NoBits_init _ ["self", "found"] (spInit C_NoBits) := ⟨ok_NB F_NoBits_init T o_GE, b_NoBits_init, k_NoBits_init⟩
  have o_NN : Own l.prog w K mg base CX0 2 f_Nought_init _ ["self", "found"] (spInit C_Nought) := ⟨ok_NN F_Nought_init T o_GE, b_Nought_init, k_Nought_init⟩
  have c_wh := CalD.mk' (P := l.prog) (w := w) (base := base) (mo a_is_whole) k_is_whole (ok_whole F_is_whole T) b_is_whole
  have c_iw := CalD.mk' (P := l.prog) (w := w) (base := base) (mo a_is_word) k_is_word (ok_isword F_is_word T c_wh) b_is_word
  have c_ck := CalX.mk' (P := l.prog) (w := w) (base := base) (mo a_check_word) k_check_word (ok_check F_check_word T c_iw o_NW) b_check_word
  have c_cs := CalX.mk' (P := l.prog) (w := w) (base := base) (mo a_check_words) k_check_words (ok_checks F_check_words T c_ck) b_check_words
  have f_su := ok_sum F_sum_of T c_cs
  have f_df := ok_dif F_difference T c_cs
  have f_dv := ok_div F_divided T c_cs o_NN
  have f_bi := ok_bits F_bits_of T c_ck
  have f_wb := ok_wob (P := l.prog) (w := w) (base := base) F_word_of_bits T o_NB
  have c_su := CalX.mk' (mo a_sum_of) k_sum_of f_su b_sum_of
  have c_df := CalX.mk' (mo a_difference) k_difference f_df b_difference
  have c_dv := CalX.mk' (mo a_divided) k_divided f_dv b_divided
  have c_bi := CalX.mk' (mo a_bits_of) k_bits_of f_bi b_bits_of
  have c_wb := CalX.mk' (mo a_word_of_bits) k_word_of_bits f_wb b_word_of_bits
  have n_su : CalNX l.prog w K mg base 6 ["other", "one"] "sum_of" (spSum K C_NoWord) (fun _ zs => zs.reverse) := CalNX.mk' (mo a_sum_of) k_sum_of f_su (kbPlain F_sum_of 0 ["other", "one"] (fun _ zs => zs.reverse) (fun _ r => vals_rev r) (fun _ _ _ _ _ _ us ws h1 h2 => match us, ws, h1, h2 with | [], [_, _], _, _ => rfl))
  have n_df : CalNX l.prog w K mg base 6 ["other", "one"] "difference" (spDif K C_NoWord) (fun _ zs => zs.reverse) := CalNX.mk' (mo a_difference) k_difference f_df (kbPlain F_difference 0 ["other", "one"] (fun _ zs => zs.reverse) (fun _ r => vals_rev r) (fun _ _ _ _ _ _ us ws h1 h2 => match us, ws, h1, h2 with | [], [_, _], _, _ => rfl))
  have n_dv : CalNX l.prog w K mg base 6 ["other", "one"] "divided" (spDiv K C_NoWord C_Nought) (fun _ zs => zs.reverse) := CalNX.mk' (mo a_divided) k_divided f_dv (kbPlain F_divided 0 ["other", "one"] (fun _ zs => zs.reverse) (fun _ r => vals_rev r) (fun _ _ _ _ _ _ us ws h1 h2 => match us, ws, h1, h2 with | [], [_, _], _, _ => rfl))
  have n_bi : CalNX l.prog w K mg base 5 ["word"] "bits_of" (spBits K C_NoWord) (fun _ zs => zs) := CalNX.mk' (mo a_bits_of) k_bits_of f_bi (kbPlain F_bits_of 0 ["word"] (fun _ zs => zs) (fun _ r => r) (fun _ _ _ _ _ _ us ws h1 h2 => match us, ws, h1, h2 with | [], [_], _, _ => rfl))
  have n_wb : CalNX l.prog w K mg base 4 ["bits"] "word_of_bits" (spWob K C_NoBits) (fun _ zs => zs) := CalNX.mk' (mo a_word_of_bits) k_word_of_bits f_wb (kbPlain F_word_of_bits 0 ["bits"] (fun _ zs => zs) (fun _ r => r) (fun _ _ _ _ _ _ us ws h1 h2 => match us, ws, h1, h2 with | [], [_], _, _ => rfl))
  have c_ca := CalD.mk' (mo a_caught_L) k_caught_L (ok_caught F_caught_L T c_su c_df c_dv c_bi c_wb) b_caught_L
  have c_sa := CalG.mk' (P := l.prog) (w := w) (base := base) (mo a_same_L) k_same_L (ok_same F_same_L T) b_same_L
  have c_wl := CalD.mk' (mo a_word_L) k_word_L (ok_wordL F_word_L T c_take) b_word_L
  have c_bd := CalD.mk' (mo a_bad_L) k_bad_L (ok_bad F_bad_L T c_take) b_bad_L
  have c_sr := CalG.mk' (mo a_sums_right_L) k_sums_right_L (ok_sums F_sums_right_L T c_su c_df c_dv c_ca c_sa) b_sums_right_L
  have c_na := CalD.mk' (mo a_named_L) k_named_L (ok_named F_named_L T c_su c_df c_dv n_su n_df n_dv n_bi n_wb) b_named_L
  have c_br := CalG.mk' (mo a_bits_right_L) k_bits_right_L (ok_bitsR F_bits_right_L T c_bi c_wb) b_bits_right_L
  have c_tr := CalG.mk' (mo a_truths_right_L) k_truths_right_L (ok_truths F_truths_right_L T c_take c_bi c_wb c_ca c_sa) b_truths_right_L
  have c_rr := CalG.mk' (mo a_refused_right_L) k_refused_right_L (ok_refused F_refused_right_L T c_take c_bd c_wl c_ca c_sa) b_refused_right_L
  exact ok_law F_law T c_cell c_box c_wl c_sr c_na c_br c_tr c_rr
end K03
open PySem PySem.W PyProof.Rows
set_option maxHeartbeats 0 in
theorem PySem.Challenge.cw_guestsalone_k03_sums_and_bits_holds : PySem.Challenge.rw_guestsalone_k03_sums_and_bits.Holds := by
  w_on; o_law; k_head; (case hw => w_witness2)
  k_fill
  refine Bk.walk_ofG (l := PySem.Challenge.rw_guestsalone_k03_sums_and_bits) (n := 63) (k := 9) (x := "_law_script") (sp := fun w => K03.spLaw _) rfl (by decide) rfl ⟨rfl, by decide, by decide⟩ (fun w h Y => PySem.W.kIn_of Y) ?F (fun _ _ a ns hl _ hS => ⟨a, ns, rfl, hS, hl, fun _ => rfl⟩)
  case F =>
    intro w mg fa h KX G hmg
    refine' K03.all_mk KX G hmg ?aC_GuestError ?aC_Missing ?aC_Barred ?aC_NoWord ?aC_NoBits ?aC_Nought ?a_GuestError_init ?l_GuestError_init ?c_GuestError_init ?k_GuestError_init ?a_Missing_init ?l_Missing_init ?c_Missing_init ?k_Missing_init ?a_Barred_init ?l_Barred_init ?c_Barred_init ?k_Barred_init ?a_NoWord_init ?l_NoWord_init ?c_NoWord_init ?k_NoWord_init ?a_NoBits_init ?l_NoBits_init ?c_NoBits_init ?k_NoBits_init ?a_Nought_init ?l_Nought_init ?c_Nought_init ?k_Nought_init ?a_is_whole ?l_is_whole ?c_is_whole ?k_is_whole ?a_is_word ?l_is_word ?c_is_word ?k_is_word ?a_check_word ?l_check_word ?c_check_word ?k_check_word ?a_sum_of ?l_sum_of ?c_sum_of ?k_sum_of ?a_difference ?l_difference ?c_difference ?k_difference ?a_divided ?l_divided ?c_divided ?k_divided ?a_bits_of ?l_bits_of ?c_bits_of ?k_bits_of ?a_word_of_bits ?l_word_of_bits ?c_word_of_bits ?k_word_of_bits ?a_check_words ?l_check_words ?c_check_words ?k_check_words ?a_cell_L ?l_cell_L ?c_cell_L ?k_cell_L ?a_box_L ?l_box_L ?c_box_L ?k_box_L ?a_take_L ?l_take_L ?c_take_L ?k_take_L ?a_caught_L ?l_caught_L ?c_caught_L ?k_caught_L ?a_same_L ?l_same_L ?c_same_L ?k_same_L ?a_word_L ?l_word_L ?c_word_L ?k_word_L ?a_bad_L ?l_bad_L ?c_bad_L ?k_bad_L ?a_sums_right_L ?l_sums_right_L ?c_sums_right_L ?k_sums_right_L ?a_named_L ?l_named_L ?c_named_L ?k_named_L ?a_bits_right_L ?l_bits_right_L ?c_bits_right_L ?k_bits_right_L ?a_truths_right_L ?l_truths_right_L ?c_truths_right_L ?k_truths_right_L ?a_refused_right_L ?l_refused_right_L ?c_refused_right_L ?k_refused_right_L ?a_law ?l_law ?c_law ?k_law ?cMOST ?cBITS ?rd_G ?ga_G ?at_G ?vV ?xL_W ?sa_W ?ex_W ?ty_W ?kp_W ?tf_W ?nf_W ?hg_W ?hk_W ?hd_W ?xL_B ?sa_B ?ex_B ?ty_B ?kp_B ?tf_B ?nf_B ?hg_B ?hk_B ?hd_B ?xL_N ?sa_N ?ex_N ?ty_N ?kp_N ?tf_N ?nf_N ?hg_N ?hk_N ?hd_N ?s_NoWord_NoWord ?s_Nought_NoWord ?s_Nought_Nought ?s_NoBits_NoWord ?s_NoBits_Nought ?s_NoBits_NoBits ?z_isinstance ?z_int ?z_bool ?z_list ?z_tuple ?z_len ?z_all ?z_max ?z_min ?z_range ?z_enumerate ?z_reversed ?z_sum ?z_repr ?z_ValueError
    (case aC_GuestError => k_is)
    (case aC_Missing => k_is)
    (case aC_Barred => k_is)
    (case aC_NoWord => k_is)
    (case aC_NoBits => k_is)
    (case aC_Nought => k_is)
    (case a_GuestError_init => k_is)
    (case l_GuestError_init => k_is)
    (case c_GuestError_init => k_is)
    (case k_GuestError_init => k_is)
    (case a_Missing_init => k_is)
    (case l_Missing_init => k_is)
    (case c_Missing_init => k_is)
    (case k_Missing_init => k_is)
    (case a_Barred_init => k_is)
    (case l_Barred_init => k_is)
    (case c_Barred_init => k_is)
    (case k_Barred_init => k_is)
    (case a_NoWord_init => k_is)
    (case l_NoWord_init => k_is)
    (case c_NoWord_init => k_is)
    (case k_NoWord_init => k_is)
    (case a_NoBits_init => k_is)
    (case l_NoBits_init => k_is)
    (case c_NoBits_init => k_is)
    (case k_NoBits_init => k_is)
    (case a_Nought_init => k_is)
    (case l_Nought_init => k_is)
    (case c_Nought_init => k_is)
    (case k_Nought_init => k_is)
    (case a_is_whole => k_is)
    (case l_is_whole => k_is)
    (case c_is_whole => k_is)
    (case k_is_whole => k_is)
    (case a_is_word => k_is)
    (case l_is_word => k_is)
    (case c_is_word => k_is)
    (case k_is_word => k_is)
    (case a_check_word => k_is)
    (case l_check_word => k_is)
    (case c_check_word => k_is)
    (case k_check_word => k_is)
    (case a_sum_of => k_is)
    (case l_sum_of => k_is)
    (case c_sum_of => k_is)
    (case k_sum_of => k_is)
    (case a_difference => k_is)
    (case l_difference => k_is)
    (case c_difference => k_is)
    (case k_difference => k_is)
    (case a_divided => k_is)
    (case l_divided => k_is)
    (case c_divided => k_is)
    (case k_divided => k_is)
    (case a_bits_of => k_is)
    (case l_bits_of => k_is)
    (case c_bits_of => k_is)
    (case k_bits_of => k_is)
    (case a_word_of_bits => k_is)
    (case l_word_of_bits => k_is)
    (case c_word_of_bits => k_is)
    (case k_word_of_bits => k_is)
    (case a_check_words => k_is)
    (case l_check_words => k_is)
    (case c_check_words => k_is)
    (case k_check_words => k_is)
    (case a_cell_L => k_is)
    (case l_cell_L => k_is)
    (case c_cell_L => k_is)
    (case k_cell_L => k_is)
    (case a_box_L => k_is)
    (case l_box_L => k_is)
    (case c_box_L => k_is)
    (case k_box_L => k_is)
    (case a_take_L => k_is)
    (case l_take_L => k_is)
    (case c_take_L => k_is)
    (case k_take_L => k_is)
    (case a_caught_L => k_is)
    (case l_caught_L => k_is)
    (case c_caught_L => k_is)
    (case k_caught_L => k_is)
    (case a_same_L => k_is)
    (case l_same_L => k_is)
    (case c_same_L => k_is)
    (case k_same_L => k_is)
    (case a_word_L => k_is)
    (case l_word_L => k_is)
    (case c_word_L => k_is)
    (case k_word_L => k_is)
    (case a_bad_L => k_is)
    (case l_bad_L => k_is)
    (case c_bad_L => k_is)
    (case k_bad_L => k_is)
    (case a_sums_right_L => k_is)
    (case l_sums_right_L => k_is)
    (case c_sums_right_L => k_is)
    (case k_sums_right_L => k_is)
    (case a_named_L => k_is)
    (case l_named_L => k_is)
    (case c_named_L => k_is)
    (case k_named_L => k_is)
    (case a_bits_right_L => k_is)
    (case l_bits_right_L => k_is)
    (case c_bits_right_L => k_is)
    (case k_bits_right_L => k_is)
    (case a_truths_right_L => k_is)
    (case l_truths_right_L => k_is)
    (case c_truths_right_L => k_is)
    (case k_truths_right_L => k_is)
    (case a_refused_right_L => k_is)
    (case l_refused_right_L => k_is)
    (case c_refused_right_L => k_is)
    (case k_refused_right_L => k_is)
    (case a_law => k_is)
    (case l_law => k_is)
    (case c_law => k_is)
    (case k_law => k_is)
    (case cMOST => k_is)
    (case cBITS => k_is)
    (case rd_G => k_is)
    (case ga_G => k_is)
    (case at_G => k_is)
    (case vV => k_is)
    (case xL_W => k_is)
    (case sa_W => k_is)
    (case ex_W => k_is)
    (case ty_W => k_is)
    (case kp_W => k_is)
    (case tf_W => k_is)
    (case nf_W => k_is)
    (case hg_W => k_is)
    (case hk_W => k_is)
    (case hd_W => k_is)
    (case xL_B => k_is)
    (case sa_B => k_is)
    (case ex_B => k_is)
    (case ty_B => k_is)
    (case kp_B => k_is)
    (case tf_B => k_is)
    (case nf_B => k_is)
    (case hg_B => k_is)
    (case hk_B => k_is)
    (case hd_B => k_is)
    (case xL_N => k_is)
    (case sa_N => k_is)
    (case ex_N => k_is)
    (case ty_N => k_is)
    (case kp_N => k_is)
    (case tf_N => k_is)
    (case nf_N => k_is)
    (case hg_N => k_is)
    (case hk_N => k_is)
    (case hd_N => k_is)
    (case s_NoWord_NoWord => k_is)
    (case s_Nought_NoWord => k_is)
    (case s_Nought_Nought => k_is)
    (case s_NoBits_NoWord => k_is)
    (case s_NoBits_Nought => k_is)
    (case s_NoBits_NoBits => k_is)
    (case z_isinstance => k_is)
    (case z_int => k_is)
    (case z_bool => k_is)
    (case z_list => k_is)
    (case z_tuple => k_is)
    (case z_len => k_is)
    (case z_all => k_is)
    (case z_max => k_is)
    (case z_min => k_is)
    (case z_range => k_is)
    (case z_enumerate => k_is)
    (case z_reversed => k_is)
    (case z_sum => k_is)
    (case z_repr => k_is)
    (case z_ValueError => k_is)
