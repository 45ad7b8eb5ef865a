import PyProof.Rows.All
import Wide.All
import OpenK.AllK
import Wide.FinOn
import HandS.ForMost
import HandS.Codes
import HandS.Evl
import HandS.IsInst
import HandS.Style
import HandS.Conv
import HandS.Iter
import HandS.Zip
import HandS.NoneIn
import HandS.ClsMeth
import KE.GoesZip
import KE.GoesMore
import KE.GoesEnum
import KE.GoesNew
import HandS.OwnEq
import HandS.FStr
import HandS.Sort
import HandS.Flow
import HandS.StrMore
import HandS.Replace
import HandS.Defaults
import HandS.SortInts
import HandS.FStrTup
import HandS.RaiseMore
import HandS.ExcInit
import HandS.TryOnly
import HandS.ExcField
import HandS.ExcIs
import HandS.Deep
import HandS.Star
import HandS.Walk
import HandS.TupMul
import HandS.TupAny
import HandS.Finally
import KE.DataFind
import KE.KExcIs
import PyProof.InstEq
import PyProof.ReprRoads
import PyProof.ReprLen
import KE.KEqSeq
import PySem.Challenge.RW_sitout_k03_rules_refused
set_option Elab.async false
set_option maxRecDepth 100000
set_option maxHeartbeats 4000000
set_option linter.all false
namespace Sit
open PySem L2 Evl

/-! ### a source of draws, and what is known besides it -/
abbrev kGreat : Key := .inr "great"
abbrev kNow : Key := .inr "now"
abbrev kMixed : Key := .inr "mixed"
abbrev kTurn : Key := .inr "turn"
structure DkO (l : Addr) (kvs : List (Key × V)) : Prop where
  len : kvs.length ≤ 4
  g : valV kvs kGreat = some (.ref l)
  n : ∃ a : Int, valV kvs kNow = some (.int a)
  m : ∃ a : Int, valV kvs kMixed = some (.int a)
  t : ∃ a : Int, valV kvs kTurn = some (.int a)
def Dk (d l : Addr) (H : Hp) : Prop := ∃ (kvs : List (Key × V)) (ns : List Int), H d = some (.dK kvs) ∧ DkO l kvs ∧ H l = some (.lst (ns.map V.int))
/-- Kn is known and stays; the source at d and its list at l stand beside it -/
structure In (d l : Addr) (Kn H : Hp) : Prop where
  ex : Ex Kn H
  dn : Kn d = none
  ln : Kn l = none
  dk : Dk d l H
theorem putK_len {kvs : List (Key × V)} {k : Key} {x : V} (v : V) (h : valV kvs k = some x) : (putK kvs k v).length = kvs.length := by
  unfold putK
  rw [valV_any, h]
  simp
theorem Dk.ex {d l : Addr} {H H' : Hp} (h : Dk d l H) (e : Ex H H') : Dk d l H' := by
  obtain ⟨kvs, ns, h1, h2, h3⟩ := h
  exact ⟨kvs, ns, e _ _ h1, h2, e _ _ h3⟩
theorem Dk.ne {d l : Addr} {H : Hp} (h : Dk d l H) : d ≠ l := by
  obtain ⟨kvs, ns, h1, h2, h3⟩ := h
  exact ne_of h1 h3 (by intro z; cases z)
theorem In.to {d l : Addr} {Kn H H' : Hp} (h : In d l Kn H) (e : Ex H H') : In d l Kn H' := ⟨h.ex.trans e, h.dn, h.ln, h.dk.ex e⟩
/-- less is known -/
theorem In.less {d l : Addr} {K0 Kn H : Hp} (h : In d l Kn H) (e : Ex K0 Kn) : In d l K0 H := ⟨e.trans h.ex, fresh_back e h.dn, fresh_back e h.ln, h.dk⟩
/-- more is known: an object that stands in the heap, none of the source's two -/
theorem In.more {d l : Addr} {Kn H : Hp} {p : Addr} {o : HO} (h : In d l Kn H) (hp : H p = some o) (hk : Kn p = none) (nd : p ≠ d) (nl : p ≠ l) : In d l (upd Kn p o) H := by
  refine ⟨fun a u e => ?_, by rw [upd_ne nd.symm]; exact h.dn, by rw [upd_ne nl.symm]; exact h.ln, h.dk⟩
  by_cases q : a = p
  · subst q
    rw [upd_same] at e
    rw [hp, ← e]
  · rw [upd_ne q] at e
    exact h.ex a u e
/-- a new object is known -/
theorem In.new {d l : Addr} {Kn H H1 : Hp} {p : Addr} {o : HO} (h : In d l Kn H) (np : H p = none) (e : Ex H H1) (hp : H1 p = some o) : In d l (upd Kn p o) H1 ∧ Ex Kn (upd Kn p o) := by
  obtain ⟨kvs, ns, h1, h2, h3⟩ := id h.dk
  have kp : Kn p = none := fresh_back h.ex np
  exact ⟨(h.to e).more hp kp (fun q => by subst q; rw [h1] at np; cases np) (fun q => by subst q; rw [h3] at np; cases np), Ex.new kp⟩
/-- an expression over what is known -/
theorem In.ev {d l : Addr} {Kn H : Hp} {te : TE} {σ : L2.St} {v : V} {Q : VK} (h : In d l Kn H) (e : Ev te σ Kn v) (k : ∀ H', In d l Kn H' → Q v H') : te σ H Q :=
  e H h.ex Q fun H2 e2 => k H2 (h.to e2)
theorem In.evT {d l : Addr} {Kn H : Hp} {t : TT} {σ : L2.St} {b : Bool} {Q : Bool → Hp → Prop} (h : In d l Kn H) (e : EvT t σ Kn b) (k : ∀ H', In d l Kn H' → Q b H') : t σ H Q :=
  e H h.ex Q fun H2 e2 => k H2 (h.to e2)
theorem In.evL {d l : Addr} {Kn H : Hp} {te : TE} {σ : L2.St} {xs : List V} {Q : VK} (h : In d l Kn H) (e : EvL te σ Kn xs) (k : ∀ p K1 H', Ex Kn K1 → K1 p = some (.lst xs) → In d l K1 H' → Q (.ref p) H') : te σ H Q :=
  e H h.ex Q fun p H2 np e2 hp => k p _ H2 (h.new np e2 hp).2 upd_same (h.new np e2 hp).1
theorem In.evU {d l : Addr} {Kn H : Hp} {te : TE} {σ : L2.St} {xs : List V} {Q : VK} (h : In d l Kn H) (e : EvU te σ Kn xs) (k : ∀ p K1 H', Ex Kn K1 → K1 p = some (.tup xs) → In d l K1 H' → Q (.ref p) H') : te σ H Q :=
  e H h.ex Q fun p H2 np e2 hp => k p _ H2 (h.new np e2 hp).2 upd_same (h.new np e2 hp).1

/-! ### promises -/
/-- a def that changes nothing: a value that R tells of the arguments -/
def spP (R : Hp → List V → V → Prop) : Sp := fun vs H Q _ => ∃ v, R H vs v ∧ ∀ H', Ex H H' → Q v H'
def Mono (R : Hp → List V → V → Prop) : Prop := ∀ H H' vs v, Ex H H' → R H vs v → R H' vs v
theorem spv {R : Hp → List V → V → Prop} {vs : List V} {H : Hp} {v : V} (m : Mono R) (h : R H vs v) : SpV (spP R) vs H v := fun H1 e _ q _ => ⟨v, m _ _ _ _ e h, q⟩
/-- a draw -/
def spDraw : Sp := fun vs H Q _ => ∃ (d l : Addr) (m : Int) (Kn : Hp), vs = [.ref d, .int m] ∧ 0 < m ∧ m < 1073741824 ∧ In d l Kn H ∧ ∀ v H', 0 ≤ v → v < m → In d l Kn H' → Q (.int v) H'
/-- one of some things -/
def spPick (K : PySem.W.Frag) : Sp := fun vs H Q _ => ∃ (d l p : Addr) (xs : List V) (Kn : Hp), vs = [.ref d, .ref p] ∧ SqL K Kn p xs ∧ 0 < xs.length ∧ xs.length < 1000000 ∧ In d l Kn H ∧ ∀ v H', v ∈ xs → In d l Kn H' → Q v H'
/-- the source made of the script -/
def spDeal (K : PySem.W.Frag) : Sp := fun vs H Q _ => ∃ (a : Addr) (b : Int) (ns : List Int), vs = [.ref a, .int b] ∧ SqL K H a (ns.map V.int) ∧ ns.length ≤ 63 ∧ 0 ≤ b ∧ b ≤ 100 ∧
  ∀ d l H', H d = none → H l = none → Ex H H' → Dk d l H' → Q (.ref d) H'

/-! ### expressions -/
section
variable {K : PySem.W.Frag} {σ : L2.St} {H : Hp} {ta tb : TE} {x y z v : V}
theorem rc_int1 {i : Int} : RC (fun xs H Q => (∃ i, xs = [V.int i] ∧ Q (.int i) H) ∨ ∃ k, xs = [V.bl k] ∧ Q (.int (if k then 1 else 0)) H) [.int i] H (.int i) := fun H1 _ _ q => .inl ⟨i, rfl, q H1 (Ex.refl H1)⟩
theorem rc_intB {b : Bool} : RC (fun xs H Q => (∃ i, xs = [V.int i] ∧ Q (.int i) H) ∨ ∃ k, xs = [V.bl k] ∧ Q (.int (if k then 1 else 0)) H) [.bl b] H (.int (if b = true then 1 else 0)) := fun H1 _ _ q => .inr ⟨b, rfl, q H1 (Ex.refl H1)⟩
theorem rc_abs {i : Int} : RC (fun xs H Q => ∃ i, xs = [V.int i] ∧ Q (.int (if i < 0 then -i else i)) H) [.int i] H (.int (if i < 0 then -i else i)) := fun H1 _ _ q => ⟨i, rfl, q H1 (Ex.refl H1)⟩
theorem rc_min {i j : Int} : RC (fun xs H Q => ∃ i j, xs = [V.int i, V.int j] ∧ Q (.int (if j < i then j else i)) H) [.int i, .int j] H (.int (if j < i then j else i)) := fun H1 _ _ q => ⟨i, j, rfl, q H1 (Ex.refl H1)⟩
theorem rc_max {i j : Int} : RC (fun xs H Q => ∃ i j, xs = [V.int i, V.int j] ∧ Q (.int (if j > i then j else i)) H) [.int i, .int j] H (.int (if j > i then j else i)) := fun H1 _ _ q => ⟨i, j, rfl, q H1 (Ex.refl H1)⟩
theorem rc_lenL {p : Addr} {xs : List V} (h : SqL K H p xs) : RC (fun xs H Q => ∃ p ys, xs = [V.ref p] ∧ (SqL K H p ys ∨ SqT K H p ys) ∧ Q (.int ys.length) H) [.ref p] H (.int xs.length) := fun H1 e _ q => ⟨p, xs, rfl, .inl (ex_l e h), q H1 (Ex.refl H1)⟩
theorem rc_isi {x c : V} {t u : Value} {b : Bool} (hc : ClsV c u) (ht : ∀ H1, Ex H H1 → TyX K H1 x t) (hk : PySem.W.kitOne K t u = some b) : RC (rIsi K) [x, c] H (.bl b) := fun H1 e _ q => ⟨x, c, t, u, b, rfl, hc, ht H1 e, hk, q H1 (Ex.refl H1)⟩
theorem rv_isN : RV (fun x y H Q => y = V.non ∧ Q (.bl (decide (x = V.non))) H) x .non H (.bl (decide (x = .non))) := fun H1 _ _ q => ⟨rfl, q H1 (Ex.refl H1)⟩
theorem rv_notN : RV (fun x y H Q => y = V.non ∧ Q (.bl (!decide (x = V.non))) H) x .non H (.bl (!decide (x = .non))) := fun H1 _ _ q => ⟨rfl, q H1 (Ex.refl H1)⟩
theorem ev_fld {a C dx : Addr} {fs : List (Str × V)} {f : Str} (ha : Ev ta σ H (.ref a)) (ho : H a = some (.ins C dx fs)) (hc : Cls K C) (hn : NoAttr K C f) (hl : fs.lookup f = some v) : Ev (tFld K ta f) σ H v := fun H1 e _ q =>
  ha H1 e _ fun H2 e2 => ⟨a, C, dx, fs, v, rfl, (e.trans e2) _ _ ho, hc, hn, hl, q H2 e2⟩
theorem ev_and {a b : Bool} (h1 : Ev ta σ H (.bl a)) (h2 : Ev tb σ H (.bl b)) : Ev (tAndV ta tb) σ H (.bl (a && b)) := ev_andV h1 fun _ => h2
theorem et_and2 {t u : TT} {a b : Bool} (h1 : EvT t σ H a) (h2 : EvT u σ H b) : EvT (tAnd t u) σ H (a && b) := et_and h1 fun _ => h2
theorem et_or2 {t u : TT} {a b : Bool} (h1 : EvT t σ H a) (h2 : EvT u σ H b) : EvT (tOr t u) σ H (a || b) := et_or h1 fun _ => h2
/-- a method of an own object that changes nothing -/
theorem ev_meth {a C dx : Addr} {fs : List (Str × V)} {m : Str} {sp : Sp} {E : XK} {t : TA} {vs : List V} (ha : Ev ta σ H (.ref a)) (ho : H a = some (.ins C dx fs)) (hl : fs.lookup m = none) (ht : EvA t σ H vs) (hs : SpV sp (.ref a :: (vs ++ [])) H z) :
    Ev (tMeth C m sp [] E ta t) σ H z := fun H1 e _ q =>
  ha H1 e _ fun H2 e2 => ⟨a, dx, fs, rfl, (e.trans e2) _ _ ho, hl, ht H2 (e.trans e2) _ fun H3 e3 => hs H3 ((e.trans e2).trans e3) _ (fun H4 e4 => q H4 ((e2.trans e3).trans e4)) E⟩
end

/-! ### statements, with a word M of the heap that lasts -/
structure Md (Kn : Hp) (M : Hp → Prop) : Prop where
  ex : ∀ H, M H → Ex Kn H
  up : ∀ H H', M H → Ex H H' → M H'
theorem mdE (Kn : Hp) : Md Kn (Ex Kn) := ⟨fun _ h => h, fun _ _ h e => h.trans e⟩
theorem mdI (d l : Addr) (Kn : Hp) : Md Kn (In d l Kn) := ⟨fun _ h => h.ex, fun _ _ h e => h.to e⟩
section
variable {K : PySem.W.Frag} {σ : L2.St} {Kn H : Hp} {M : Hp → Prop} {ta tb te : TE} {t : TT} {tu tw tz : TS} {D : Ends} {v : V} {b : Bool} {i : Nat}
theorem m_ev {Q : VK} (md : Md Kn M) (m : M H) (h : Ev te σ Kn v) (k : ∀ H1, M H1 → Q v H1) : te σ H Q := h H (md.ex _ m) _ fun H1 e => k H1 (md.up _ _ m e)
theorem m_evT {Q : Bool → Hp → Prop} (md : Md Kn M) (m : M H) (h : EvT t σ Kn b) (k : ∀ H1, M H1 → Q b H1) : t σ H Q := h H (md.ex _ m) _ fun H1 e => k H1 (md.up _ _ m e)
theorem g_no (md : Md Kn M) (m : M H) (h : EvT t σ Kn false) (k : ∀ H1, M H1 → tz D σ H1) : tSeq (tIfS t tu tNext) tz D σ H := q_when (h.mono (md.ex _ m)) (fun q => Bool.noConfusion q) fun _ H1 e => k H1 (md.up _ _ m e)
theorem g_no1 (md : Md Kn M) (m : M H) (h : EvT t σ Kn false) (k : ∀ H1, M H1 → D.nx σ H1) : tIfS t tu tNext D σ H := s_when (h.mono (md.ex _ m)) (fun q => Bool.noConfusion q) fun _ H1 e => k H1 (md.up _ _ m e)
theorem g_yes (md : Md Kn M) (m : M H) (h : EvT t σ Kn true) (k : ∀ H1, M H1 → tu { D with nx := tz D } σ H1) : tSeq (tIfS t tu tNext) tz D σ H := q_when (h.mono (md.ex _ m)) (fun _ H1 e => k H1 (md.up _ _ m e)) (fun q => Bool.noConfusion q)
theorem g_if (md : Md Kn M) (m : M H) (h : EvT t σ Kn b) (h1 : b = true → ∀ H1, M H1 → tu { D with nx := tz D } σ H1) (h2 : b = false → ∀ H1, M H1 → tw { D with nx := tz D } σ H1) : tSeq (tIfS t tu tw) tz D σ H :=
  q_if (h.mono (md.ex _ m)) (fun q H1 e => h1 q H1 (md.up _ _ m e)) (fun q H1 e => h2 q H1 (md.up _ _ m e))
theorem g_asg (md : Md Kn M) (m : M H) (h : Ev te σ Kn v) (k : ∀ H1, M H1 → tz D (σ.set i (some v)) H1) : tSeq (tAsg te (gName i)) tz D σ H := q_asg (h.mono (md.ex _ m)) fun H1 e => k H1 (md.up _ _ m e)
theorem g_asg1 (md : Md Kn M) (m : M H) (h : Ev te σ Kn v) (k : ∀ H1, M H1 → D.nx (σ.set i (some v)) H1) : tAsg te (gName i) D σ H := s_asg (h.mono (md.ex _ m)) fun H1 e => k H1 (md.up _ _ m e)
theorem g_ret (md : Md Kn M) (m : M H) (h : Ev te σ Kn v) (k : ∀ H1, M H1 → D.rt v H1) : tRet te D σ H := s_ret (h.mono (md.ex _ m)) fun H1 e => k H1 (md.up _ _ m e)
/-- an object at p that is being made, H0 ahead of it -/
structure Mi (H0 : Hp) (p C dx : Addr) (fs : List (Str × V)) (H : Hp) : Prop where
  ex : Ex H0 H
  np : H0 p = none
  at_ : H p = some (.ins C dx fs)
theorem mdM (H0 : Hp) (p C dx : Addr) (fs : List (Str × V)) : Md H0 (Mi H0 p C dx fs) := ⟨fun _ h => h.ex, fun _ _ h e => ⟨h.ex.trans e, h.np, e _ _ h.at_⟩⟩
theorem g_fld {H0 : Hp} {p C dx : Addr} {fs : List (Str × V)} {f : Str} (m : Mi H0 p C dx fs H) (hv : Ev te σ H0 v) (hp : Ev ta σ H0 (.ref p)) (hc : Cls K C) (hn : NoAttr K C f) (hl : fs.length < 1000)
    (k : ∀ H1, Mi H0 p C dx (putF f v fs) H1 → tz D σ H1) : tSeq (sFld K ta te f) tz D σ H :=
  m_ev (mdM H0 p C dx fs) m hv fun H1 m1 => m_ev (mdM H0 p C dx fs) m1 hp fun H2 m2 => ⟨p, C, dx, fs, rfl, m2.at_, hc, hn, hl, k _ ⟨Ex.mut m2.ex m2.np, m2.np, upd_same⟩⟩
theorem g_fld1 {H0 : Hp} {p C dx : Addr} {fs : List (Str × V)} {f : Str} (m : Mi H0 p C dx fs H) (hv : Ev te σ H0 v) (hp : Ev ta σ H0 (.ref p)) (hc : Cls K C) (hn : NoAttr K C f) (hl : fs.length < 1000)
    (k : ∀ H1, Mi H0 p C dx (putF f v fs) H1 → D.nx σ H1) : sFld K ta te f D σ H :=
  m_ev (mdM H0 p C dx fs) m hv fun H1 m1 => m_ev (mdM H0 p C dx fs) m1 hp fun H2 m2 => ⟨p, C, dx, fs, rfl, m2.at_, hc, hn, hl, k _ ⟨Ex.mut m2.ex m2.np, m2.np, upd_same⟩⟩
end

/-! ### new objects -/
def EvN (te : TE) (σ : L2.St) (H : Hp) (Pn : HO → Prop) : Prop := ∀ H1, Ex H H1 → ∀ Q : VK, (∀ p H2 o, H1 p = none → Ex H1 H2 → H2 p = some o → Pn o → Q (.ref p) H2) → te σ H1 Q
theorem EvN.mono {te : TE} {σ : L2.St} {H H' : Hp} {Pn : HO → Prop} (e : Ex H H') (h : EvN te σ H Pn) : EvN te σ H' Pn := fun H1 a Q q => h H1 (e.trans a) Q q
def spN (R : Hp → List V → (HO → Prop) → Prop) : Sp := fun vs H Q _ => ∃ Pn, R H vs Pn ∧ ∀ p H' o, H p = none → Ex H H' → H' p = some o → Pn o → Q (.ref p) H'
def MonoN (R : Hp → List V → (HO → Prop) → Prop) : Prop := ∀ H H' vs v, Ex H H' → R H vs v → R H' vs v
theorem evN_call {σ : L2.St} {H : Hp} {R : Hp → List V → (HO → Prop) → Prop} {dvs vs : List V} {E : XK} {ta : TA} {Pn : HO → Prop} (m : MonoN R) (h : EvA ta σ H vs) (hr : R H (vs ++ dvs) Pn) : EvN (tCall (spN R) dvs E ta) σ H Pn := fun H1 e Q q =>
  h H1 e _ fun H2 e2 => ⟨Pn, m _ _ _ _ (e.trans e2) hr, fun p H' o np e3 hp ho => q p H' o (fresh_back e2 np) (e2.trans e3) hp ho⟩
theorem In.evN {d l : Addr} {Kn H : Hp} {te : TE} {σ : L2.St} {Pn : HO → Prop} {Q : VK} (h : In d l Kn H) (e : EvN te σ Kn Pn) (k : ∀ p K1 H' o, Ex Kn K1 → K1 p = some o → Pn o → In d l K1 H' → Q (.ref p) H') : te σ H Q :=
  e H h.ex Q fun p H2 o np e2 hp ho => k p _ H2 o (h.new np e2 hp).2 upd_same ho (h.new np e2 hp).1

/-! ### more comprehensions, comparisons of data -/
section
variable {K : PySem.W.Frag} {σ : L2.St} {H H' : Hp} {ta tb te tx : TE} {t u : TT} {x y z : V}
theorem el_lcR2 {ta : TA} {j : Nat} {vs : List Nat} {lo n : Int} (f : Nat → Bool) (v : Nat → V) (h : EvA ta σ H [.int lo, .int n]) (hn : 0 ≤ lo ∧ lo ≤ 40000 ∧ -40000 ≤ n ∧ n ≤ 40000) (hw : ∀ x, wipe ((wipe σ vs).set j (some x)) vs = wipe σ vs)
    (ht : ∀ (i : Nat) H1, Ex H H1 → lo + (i : Int) < n → EvT t ((wipe σ vs).set j (some (.int (lo + (i : Int))))) H1 (f i)) (he : ∀ (i : Nat) H1, Ex H H1 → lo + (i : Int) < n → f i = true → Ev te ((wipe σ vs).set j (some (.int (lo + (i : Int))))) H1 (v i)) :
    EvL (tLc (iRng2 ta) (gName j) t te vs) σ H (given (n - lo).toNat f v) := fun H0 e Q q => h H0 e _ fun H1 e1 => ⟨lo, n, rfl, ⟨by omega, by omega, by omega, by omega⟩, fun Dl hD =>
  lc_range (lo := lo) (n := (n - lo).toNat) (Cw H1 f v Dl) ⟨hD, Ex.new hD, upd_same⟩ (fun i H' hi p =>
    ⟨hw _, cw_turn p (by omega) (ht i H1 (e.trans e1) (by omega)) (fun hf => he i H1 (e.trans e1) (by omega) hf)⟩) (fun H' p => q Dl H' (fresh_back e1 p.1) (e1.trans p.2.1) p.2.2)⟩
/-- over a new tuple -/
theorem el_lcNU {xs : List V} {tl : TE} {j : Nat} {vs : List Nat} (f : Nat → Bool) (v : Nat → V) (h : EvU tl σ H xs) (hz : xs.length ≤ 40000) (hw : ∀ x, wipe ((wipe σ vs).set j (some x)) vs = wipe σ vs)
    (ht : ∀ (i : Nat) (x : V) H1, Ex H H1 → xs[i]? = some x → EvT t ((wipe σ vs).set j (some x)) H1 (f i)) (he : ∀ (i : Nat) (x : V) H1, Ex H H1 → xs[i]? = some x → f i = true → Ev te ((wipe σ vs).set j (some x)) H1 (v i)) :
    EvL (tLc (iTup K tl) (gName j) t te vs) σ H (given xs.length f v) := fun H0 e Q q => h H0 e _ fun a H1 ha e1 hx => ⟨a, rfl, ⟨xs, st_of hx⟩, fun Dl hD =>
  lc_tup (xs := xs) (Cw H1 f v Dl) ⟨hD, Ex.new hD, upd_same⟩ (fun i H' _ p => st_of (p.2.1 a _ hx)) (fun i x H' hi p => ⟨hw x, cw_turn p (by have := (List.getElem?_eq_some_iff.mp hi).1; omega) (ht i x H1 (e.trans e1) hi) (fun hf => he i x H1 (e.trans e1) hi hf)⟩)
    (fun H' p => q Dl H' (fresh_back e1 p.1) (e1.trans p.2.1) p.2.2)⟩
theorem given_none {n : Nat} {f : Nat → Bool} {v : Nat → V} (h : ∀ i, i < n → f i = false) : given n f v = [] := by
  unfold given
  rw [List.filter_eq_nil_iff.mpr (fun i hi => by rw [h i (List.mem_range.mp hi)]; exact Bool.false_ne_true)]
  rfl
theorem el_is {xs ys : List V} (h : EvL te σ H xs) (e : xs = ys) : EvL te σ H ys := by
  rw [← e]
  exact h
theorem dp_up {x : V} : ∀ {d : PyData}, Ex H H' → Dp K H x d → Dp K H' x d := by
  intro d e h
  exact Dp.rec (motive_1 := fun v d _ => Dp K H' v d) (motive_2 := fun vs ds _ => DpAll K H' vs ds) .non .bl .int .str (fun h _ q => .lst (ex_l e h) q) (fun h _ q => .tup (ex_t e h) q) .nil (fun _ _ p q => .cons p q) h
theorem rv_eqD {d e : PyData} (hx : Dp K H x d) (hy : Dp K H y e) (sd : SeqAt.shaped d = true) (se : SeqAt.shaped e = true) : RV (rEqD K) x y H (.bl (PyData.eqv d e)) := fun H1 ex _ q => ⟨d, e, dp_up ex hx, dp_up ex hy, sd, se, q H1 (Ex.refl H1)⟩
theorem rv_neD {d e : PyData} (hx : Dp K H x d) (hy : Dp K H y e) (sd : SeqAt.shaped d = true) (se : SeqAt.shaped e = true) : RV (rNeD K) x y H (.bl (!PyData.eqv d e)) := fun H1 ex _ q => ⟨d, e, dp_up ex hx, dp_up ex hy, sd, se, q H1 (Ex.refl H1)⟩
/-- a new list that is empty, and [] -/
theorem et_neNil (h : EvL ta σ H []) : EvT (tTest (tOp (rNeD K) ta (tLst tNil))) σ H false :=
  et_test (ev_opLL h (el_lst ea_nil (by decide)) fun _ _ _ hp hq _ => rv_neD (.lst (sq_of hp) .nil) (.lst (sq_of hq) .nil) (by rfl) (by rfl))
theorem s_retN {D : Ends} {Pn : HO → Prop} (h : EvN te σ H Pn) (k : ∀ p H1 o, H p = none → Ex H H1 → H1 p = some o → Pn o → D.rt (.ref p) H1) : tRet te D σ H := h H (Ex.refl H) _ k
end

/-! ### chains, ranges as values -/
section
variable {K : PySem.W.Frag} {σ : L2.St} {H H' : Hp} {ta tb tc te tx : TE} {x y z : V}
theorem op_notin_rng {X : Cx} : OpR X (compareOp .NotIn) (fun x y H Q => ∃ i a lo hi, x = V.int i ∧ y = V.ref a ∧ H a = some (.rng lo hi) ∧ Q (.bl (!decide (lo ≤ i ∧ i < hi))) H) := by
  intro pins s σ H x y v u Q I rx ry h
  obtain ⟨i, a, lo, hi, rfl, rfl, ha, q⟩ := h
  obtain ⟨k, rfl⟩ := rx
  obtain rfl : u = Value.ref a := ry
  obtain ⟨t1, t2, t3, ho⟩ := I.hok a _ ha
  show wpAny _ _ (do return Value.bool (!(← contains (Value.ref a) (Value.int i k)))) _ _ s
  refine wpAny_bind (wpAny_contains_slot (T := "range") ⟨_, ho, rfl⟩ PySem.F.slot_range_contains (PySem.call_meets PySem.F.slot_range_contains ⟨_, ho, rfl⟩ PySem.F.entry_range_contains (PySem.F.args_range_contains_2 _ _) (q_contains a lo hi i t1 t2 t3 k)
    ⟨ho, wpAny_truthy_bool (wpAny_pure ⟨.bl _, H, I, rfl, ?_⟩)⟩))
  rw [place1]
  exact q
theorem ev_inRg {lo hi i : Int} {tr : TE} {r : R2} {b : Bool → Bool} (ha : Ev ta σ H (.int i)) (hb : ∀ H1, Ex H H1 → ∀ Q : VK, (∀ p H2, Ex H1 H2 → H2 p = some (.rng lo hi) → Q (.ref p) H2) → tr σ H1 Q)
    (hr : ∀ p H1 (Q : VK), H1 p = some (.rng lo hi) → Q (.bl (b (decide (lo ≤ i ∧ i < hi)))) H1 → r (.int i) (.ref p) H1 Q) : Ev (tOp r ta tr) σ H (.bl (b (decide (lo ≤ i ∧ i < hi)))) := fun H1 e Q q =>
  ha H1 e _ fun H2 e2 => hb H2 (e.trans e2) _ fun p H3 e3 hp => hr p H3 Q hp (q H3 (e2.trans e3))
theorem ev_range2 {lo hi : Int} {ta : TA} (h : EvA ta σ H [.int lo, .int hi]) : ∀ H1, Ex H H1 → ∀ Q : VK, (∀ p H2, Ex H1 H2 → H2 p = some (.rng lo hi) → Q (.ref p) H2) →
    tCB (fun vs H Q => ∃ i j, vs = [V.int i, V.int j] ∧ ∀ p, H p = none → Q (.ref p) (upd H p (.rng i j))) ta σ H1 Q := fun H1 e Q q =>
  h H1 e _ fun H2 e2 => ⟨lo, hi, rfl, fun p np => q p _ (e2.trans (Ex.new np)) upd_same⟩
theorem et_chain {r r' : R2} {a b : Bool} (ha : Ev ta σ H x) (hb : Ev tb σ H y) (hr : RV r x y H (.bl a)) (hc : Ev tc σ H z) (hr' : RV r' y z H (.bl b)) : EvT (tTest (tChain r r' ta tb tc)) σ H (a && b) := fun H1 e Q q =>
  ha H1 e _ fun H2 e2 => hb H2 (e.trans e2) _ fun H3 e3 => hr H3 ((e.trans e2).trans e3) _ fun H4 e4 => ⟨a, rfl, by
    have e14 := (e2.trans e3).trans e4
    cases a with
    | true =>
      refine iteT ?_
      exact hc H4 (e.trans e14) _ fun H5 e5 => hr' H5 ((e.trans e14).trans e5) _ fun H6 e6 => ⟨b, rfl, q H6 ((e14.trans e5).trans e6)⟩
    | false =>
      refine iteF ?_
      exact ⟨false, rfl, q H4 e14⟩⟩
theorem ev_ifE {t : TT} {b : Bool} {v w : V} (h : EvT t σ H b) (h1 : Ev ta σ H v) (h2 : Ev tb σ H w) : Ev (tIf t ta tb) σ H (if b = true then v else w) := by
  refine ev_if h (fun e => ?_) (fun e => ?_)
  · rw [if_pos e]; exact h1
  · rw [e, if_neg Bool.false_ne_true]; exact h2
end

/-! ### str(x), x == y by own methods that change nothing -/
/-- a method that is found by its class -/
structure OwnM (P : Program) (w : World) (K : PySem.W.Frag) (mg : Str → Option Value) (base : Heap) (k : Nat) (C : Addr) (m : Str) (R : Hp → List V → V → Prop) : Prop where
  ex : ∃ (f : Addr) (fd : FuncData) (ps : List Str), FnOk P w K mg base C8.CX0 k f fd ps (spP R) ∧ PySem.W.findIn K (.ref C) m = some (some (.ref f)) ∧ PySem.W.isFn K (.ref f) = true ∧ Binds K fd ps []
section
variable {X : Cx} {k j : Nat} {C : Addr} {R : Hp → List V → V → Prop}
def rStrO (C : Addr) (R : Hp → List V → V → Prop) : List V → Hp → VK → Prop := fun xs H Q => ∃ (a dx : Addr) (fs : List (Str × V)) (z : Str), xs = [.ref a] ∧ H a = some (.ins C dx fs) ∧ R H [.ref a] (.str z) ∧ ∀ H', Ex H H' → Q (.str z) H'
theorem call_strO (M : OwnM X.prog X.w X.K X.mg X.base k C "__str__" R) (hr : Room j X.A) (hk : k + 2 ≤ j) : CallR X (.type "str") (rStrO C R) := by
  intro pins s σ H xs us Q I rx h
  obtain ⟨f, fd, ps, F, hs, hf, hb⟩ := M.ex
  obtain ⟨a, dx, fs, z, rfl, ha, hR, q⟩ := h
  obtain ⟨u, rfl, ru⟩ := Vals.one rx
  obtain rfl : u = Value.ref a := ru
  obtain ⟨mA, J, _⟩ := ins_get I.hok ha
  obtain ⟨od, J, _⟩ := J.look
  have r2 : Room k X.A.in1.in1 := ((hr.mono hk).in1).in1
  refine PySem.W.kso_call r2.units0 I.kIn J hs hf ?_
  have hsp : spP R [.ref a] H (fun v H' => v = .str z ∧ Ex H H') C8.E0 := ⟨.str z, hR, fun H' e => ⟨rfl, e⟩⟩
  have e0 : Env0 X.prog X.w X.K X.mg X.base X.A.in1.in1 X.stack s H := by
    have e := I.env0
    exact ⟨e.frames, e.mod, e.bs, e.bsz, e.funs, e.frf, e.hok, e.bare⟩
  have hl := F.len _ _ _ _ hsp
  refine wpAny_call (codeAny_mono (F.run X.A.in1.in1 X.stack s H ⟨[.ref a], []⟩ [.ref a] [.ref a] _ C8.E0 r2 e0 (by
    have := hb s [.ref a] I.kIn (by simpa using hl)
    simpa using this) (.cons rfl .nil) hsp) fun r s' hq => ?_)
  cases r with
  | error e => exact False.elim hq
  | ok fl =>
    cases fl with
    | ret w =>
      obtain ⟨z', H', I', rz, ez, ex⟩ := I.after hq
      subst ez
      obtain ⟨t, rfl⟩ := rz
      exact ⟨.str z, H', I', ⟨t, rfl⟩, q H' ex⟩
    | next => exact False.elim hq
    | brk => exact False.elim hq
    | cont => exact False.elim hq
def rEqO (C : Addr) (R : Hp → List V → V → Prop) : R2 := fun x y H Q => ∃ (a b dx dy : Addr) (fs gs : List (Str × V)) (k : Bool), x = .ref a ∧ y = .ref b ∧ H a = some (.ins C dx fs) ∧ H b = some (.ins C dy gs) ∧ R H [.ref a, .ref b] (.bl k) ∧ ∀ H', Ex H H' → Q (.bl k) H'
theorem op_eqO (M : OwnM X.prog X.w X.K X.mg X.base k C "__eq__" R) (hr : Room j X.A) (hk : k ≤ j) : OpR X (compareOp .Eq) (rEqO C R) := by
  intro pins s σ H x y v u Q I rx ry h
  obtain ⟨f, fd, ps, F, hs, hf, hb⟩ := M.ex
  obtain ⟨a, b, dx, dy, fs, gs, k, rfl, rfl, ha, hb', hR, q⟩ := h
  cases rx
  cases ry
  obtain ⟨mA, J, _⟩ := ins_get I.hok ha
  obtain ⟨mB, J', _⟩ := ins_get I.hok hb'
  obtain ⟨od, J, _⟩ := J.look
  obtain ⟨od', J', _⟩ := J'.look
  obtain ⟨m, hF⟩ := I.fr
  have r2 := hr.mono hk
  show wpAny (model X.prog X.w) X.A (richCompare .Eq (.ref a) (.ref b)) (EP X pins σ Q) X.xe s
  refine PySem.W.cmp_K (op := .Eq) (tb := .ref C) r2.units0 hF I.ok.mod.kin J J'.type (by simp [PySem.W.notFirst]) hs hf ?_
  have hsp : spP R [.ref a, .ref b] H (fun v H' => v = .bl k ∧ Ex H H') C8.E0 := ⟨.bl k, hR, fun H' e => ⟨rfl, e⟩⟩
  have e0 : Env0 X.prog X.w X.K X.mg X.base X.A X.stack s H := by
    have e := I.env0
    exact ⟨e.frames, e.mod, e.bs, e.bsz, e.funs, e.frf, e.hok, e.bare⟩
  have hl := F.len _ _ _ _ hsp
  refine wpAny_call (codeAny_mono (F.run X.A X.stack s H ⟨[.ref a, .ref b], []⟩ [.ref a, .ref b] [.ref a, .ref b] _ C8.E0 r2 e0 (by
    have := hb s [.ref a, .ref b] I.kIn (by simpa using hl)
    simpa using this) (.cons rfl (.cons rfl .nil)) hsp) fun r s' hq => ?_)
  cases r with
  | error e => exact False.elim hq
  | ok fl =>
    cases fl with
    | ret w =>
      obtain ⟨z, H', I', rz, ez, ex⟩ := I.after hq
      subst ez
      cases rz
      exact ⟨.bl k, H', I', rfl, q H' ex⟩
    | next => exact False.elim hq
    | brk => exact False.elim hq
    | cont => exact False.elim hq
end
section
variable {K : PySem.W.Frag} {σ : L2.St} {H : Hp} {ta tb : TE} {C : Addr} {R : Hp → List V → V → Prop}
theorem rc_strO (m : Mono R) {a dx : Addr} {fs : List (Str × V)} {z : Str} (h : H a = some (.ins C dx fs)) (hR : R H [.ref a] (.str z)) : RC (rStrO C R) [.ref a] H (.str z) := fun H1 e _ q => ⟨a, dx, fs, z, rfl, e _ _ h, m _ _ _ _ e hR, q⟩
theorem rv_eqO (m : Mono R) {a b dx dy : Addr} {fs gs : List (Str × V)} {k : Bool} (h : H a = some (.ins C dx fs)) (h' : H b = some (.ins C dy gs)) (hR : R H [.ref a, .ref b] (.bl k)) : RV (rEqO C R) (.ref a) (.ref b) H (.bl k) :=
  fun H1 e _ q => ⟨a, b, dx, dy, fs, gs, k, rfl, rfl, e _ _ h, e _ _ h', m _ _ _ _ e hR, q⟩
/-- f-strings -/
theorem ev_fmtS {z : Str} (h : Ev ta σ H (.str z)) (hz : z.length ≤ 100000) : Ev (tFmt ta) σ H (.str z) := fun H1 e Q q => h H1 e _ fun H2 e2 => .inl ⟨z, rfl, Nat.le_trans hz (by decide), q H2 e2⟩
theorem ev_fmtI {i : Int} (h : Ev ta σ H (.int i)) (hz : i.natAbs.log2 < 1920) : Ev (tFmt ta) σ H (.str (toString i)) := fun H1 e Q q => h H1 e _ fun H2 e2 => .inr ⟨i, rfl, hz, q H2 e2⟩
/-- parts of an f-string: acc ahead, out in the end -/
def EvJ (ts : List TE) (acc : Str) (σ : L2.St) (H : Hp) (out : Str) : Prop := ∀ H1, Ex H H1 → ∀ Q : Str → Hp → Prop, (∀ H2, Ex H1 H2 → Q out H2) → tJs ts acc σ H1 Q
theorem ej_nil {acc : Str} : EvJ [] acc σ H acc := fun H1 _ _ q => q H1 (Ex.refl H1)
theorem ej_cons {ts : List TE} {acc y out : Str} (h : Ev ta σ H (.str y)) (hz : (acc ++ y).length ≤ 100000) (r : EvJ ts (acc ++ y) σ H out) : EvJ (ta :: ts) acc σ H out := fun H1 e Q q =>
  h H1 e _ fun H2 e2 => ⟨y, rfl, Nat.le_trans hz (by decide), r H2 (e.trans e2) Q fun H3 e3 => q H3 (e2.trans e3)⟩
theorem ev_joined {ts : List TE} {out : Str} (h : EvJ ts Str.empty σ H out) : Ev (fun σ H Q => tJs ts Str.empty σ H fun out H1 => Q (.str out) H1) σ H (.str out) := fun H1 e Q q => h H1 e _ q
end

/-! ### lists of ints, made and compared -/
section
variable {K : PySem.W.Frag} {σ : L2.St} {H H' : Hp} {ta tb te tl : TE} {x y z : V}
theorem et_yes0 : EvT tYes σ H true := fun H1 _ _ q => q H1 (Ex.refl H1)
theorem given_all (n : Nat) (g : Nat → Int) : given n (fun _ => true) (fun i => V.int (g i)) = ((List.range n).map g).map V.int := by
  unfold given
  rw [List.filter_eq_self.mpr (fun _ _ => rfl), List.map_map]
  rfl
theorem el_mapR1 {ta : TA} {j : Nat} {vs : List Nat} {n : Int} (g : Int → Int) (h : EvA ta σ H [.int n]) (hn : 0 ≤ n ∧ n ≤ 40000) (hw : ∀ x, wipe ((wipe σ vs).set j (some x)) vs = wipe σ vs)
    (he : ∀ (z : Int) H1, Ex H H1 → 0 ≤ z → z < n → Ev te ((wipe σ vs).set j (some (.int z))) H1 (.int (g z))) : EvL (tLc (iRng1 ta) (gName j) tYes te vs) σ H (((List.range n.toNat).map fun (i : Nat) => g (i : Int)).map V.int) :=
  el_is (el_lcR1 (fun _ => true) (fun i => .int (g i)) h hn hw (fun _ _ _ _ => et_yes0) (fun i H1 e hi _ => he i H1 e (by omega) hi)) (given_all _ _)
theorem el_mapU {j : Nat} {vs : List Nat} {zs : List Int} (g : Int → Int) (h : EvU tl σ H (zs.map V.int)) (hz : zs.length ≤ 40000) (hw : ∀ x, wipe ((wipe σ vs).set j (some x)) vs = wipe σ vs)
    (he : ∀ (z : Int) H1, Ex H H1 → z ∈ zs → Ev te ((wipe σ vs).set j (some (.int z))) H1 (.int (g z))) : EvL (tLc (iTup K tl) (gName j) tYes te vs) σ H ((zs.map g).map V.int) := by
  refine el_is (el_lcNU (fun _ => true) (fun i => .int (g (zs.getD i 0))) h (by rw [List.length_map]; exact hz) hw (fun _ _ _ _ _ => et_yes0) (fun i x H1 e hx _ => ?_)) ?_
  · rw [List.getElem?_map] at hx
    cases e1 : zs[i]? with
    | none => rw [e1] at hx; cases hx
    | some q =>
      rw [e1] at hx
      obtain rfl := (Option.some.inj hx).symm
      have : zs.getD i 0 = q := by rw [List.getD_eq_getElem?_getD, e1]; rfl
      rw [this]
      exact he q H1 e (List.mem_of_getElem? e1)
  · rw [given_all, List.length_map]
    congr 1
    refine List.ext_getElem? fun i => ?_
    rw [List.getElem?_map, List.getElem?_map]
    by_cases h1 : i < zs.length
    · rw [List.getElem?_eq_getElem h1, List.getElem?_range h1]
      show some (g (zs.getD i 0)) = some (g zs[i])
      rw [List.getD_eq_getElem?_getD, List.getElem?_eq_getElem h1]
      rfl
    · rw [List.getElem?_eq_none (show zs.length ≤ i by omega), List.getElem?_eq_none (show (List.range zs.length).length ≤ i by rw [List.length_range]; omega)]
      rfl
theorem dp_ints : ∀ zs : List Int, DpAll K H (zs.map V.int) (zs.map PyData.int)
  | [] => .nil
  | _ :: zs => .cons (.int _) (dp_ints zs)
theorem et_neSame {zs : List Int} (h1 : EvL ta σ H (zs.map V.int)) (h2 : EvL tb σ H (zs.map V.int)) (sh : SeqAt.shaped (.list (zs.map PyData.int)) = true) : EvT (tTest (tOp (rNeD K) ta tb)) σ H false := by
  refine et_test (ev_is (ev_opLL h1 h2 fun _ _ _ hp hq _ => rv_neD (.lst (sq_of hp) (dp_ints zs)) (.lst (sq_of hq) (dp_ints zs)) sh sh) ?_)
  rw [SeqAt.eqv_refl _ (SeqAt.canLay_of_shaped sh)]
  rfl
theorem el_rep {xs : List V} {k : Int} (h : EvL ta σ H xs) (hk : Ev tb σ H (.int k)) (k0 : 0 ≤ k) (hz : xs.length * k.toNat ≤ 100000) (k1 : k ≤ 100000) : EvL (tOp rRep ta tb) σ H (List.replicate k.toNat xs).flatten := fun H1 e _ q =>
  h H1 e _ fun p H2 _ e2 hp => hk H2 (e.trans e2) _ fun H3 e3 => ⟨p, k, xs, rfl, rfl, e3 _ _ hp, by omega, by omega, Nat.le_trans hz (by decide), fun r nr => q r _ (fresh_back (e2.trans e3) nr) ((e2.trans e3).trans (Ex.new nr)) upd_same⟩
end
open PyProof.Rows
def top (i : Nat) : Stmt := PySem.Challenge.pw_sitout_k03_rules_refused.main.body.getD i (.Pass ⟨0, 0, 0, 0⟩)
abbrev st_is_integer : Stmt := top 2
theorem sc_is_integer : FnScope ["value"] ["value"] (C8.fnScope st_is_integer) := C8.fnScope_by (by decide +kernel)
abbrev st_is_from : Stmt := top 3
theorem sc_is_from : FnScope ["value", "least"] ["value", "least"] (C8.fnScope st_is_from) := C8.fnScope_by (by decide +kernel)
abbrev st_wrong_count : Stmt := top 16
theorem sc_wrong_count : FnScope ["need", "of", "base", "more", "most", "calm"] ["need", "of", "base", "more", "most", "calm"] (C8.fnScope st_wrong_count) := C8.fnScope_by (by decide +kernel)
abbrev st_wrong_manner : Stmt := top 17
theorem sc_wrong_manner : FnScope ["back", "top", "under", "up", "hears"] ["back", "top", "under", "up", "hears"] (C8.fnScope st_wrong_manner) := C8.fnScope_by (by decide +kernel)
abbrev st_least_last : Stmt := top 18
theorem sc_least_last : FnScope ["base", "more", "most"] ["base", "more", "most"] (C8.fnScope st_least_last) := C8.fnScope_by (by decide +kernel)
abbrev st_Rule___init__ : Stmt := inClass (top 15) 0
theorem sc_Rule___init__ : FnScope ["self", "need", "of", "base", "more", "most", "calm", "back", "top", "under", "up", "hears", "word"] ["self", "need", "of", "base", "more", "most", "calm", "back", "top", "under", "up", "hears"] (C8.fnScope st_Rule___init__) := C8.fnScope_by (by decide +kernel)
abbrev st_law_draw : Stmt := top 23
theorem sc_law_draw : FnScope ["_law_deal_here", "_law_many", "_law_digit", "_law_first", "_law_second"] ["_law_deal_here", "_law_many"] (C8.fnScope st_law_draw) := C8.fnScope_by (by decide +kernel)
abbrev st_law_pick : Stmt := top 24
theorem sc_law_pick : FnScope ["_law_deal_here", "_law_some"] ["_law_deal_here", "_law_some"] (C8.fnScope st_law_pick) := C8.fnScope_by (by decide +kernel)
abbrev st_law_deal : Stmt := top 22
theorem sc_law_deal : FnScope ["_law_script", "_law_base", "_law_cells", "_law_cell", "_law_mixed", "_law_great"] ["_law_script", "_law_base"] (C8.fnScope st_law_deal) := C8.fnScope_by (by decide +kernel)
abbrev st_law_drawn_rule : Stmt := top 26
theorem sc_law_drawn_rule : FnScope ["_law_deal_here", "_law_window", "_law_base", "_law_under", "_law_first", "_law_top", "_law_back", "_law_hears"] ["_law_deal_here"] (C8.fnScope st_law_drawn_rule) := C8.fnScope_by (by decide +kernel)
abbrev st_side : Stmt := top 19
theorem sc_side : FnScope ["up"] ["up"] (C8.fnScope st_side) := C8.fnScope_by (by decide +kernel)
abbrev st_Rule___str__ : Stmt := inClass (top 15) 2
theorem sc_Rule___str__ : FnScope ["self"] ["self"] (C8.fnScope st_Rule___str__) := C8.fnScope_by (by decide +kernel)
abbrev st_Rule___eq__ : Stmt := inClass (top 15) 1
theorem sc_Rule___eq__ : FnScope ["self", "other"] ["self", "other"] (C8.fnScope st_Rule___eq__) := C8.fnScope_by (by decide +kernel)
abbrev st_law_value : Stmt := top 25
theorem sc_law_value : FnScope ["_law_deal_here", "_law_deep", "_law_form", "_law_some", "_law_k"] ["_law_deal_here", "_law_deep"] (C8.fnScope st_law_value) := C8.fnScope_by (by decide +kernel)
abbrev st_InvalidRule___init__ : Stmt := inClass (top 7) 0
theorem sc_InvalidRule___init__ : FnScope ["self", "word"] ["self", "word"] (C8.fnScope st_InvalidRule___init__) := C8.fnScope_by (by decide +kernel)
abbrev st_law_made : Stmt := top 27
theorem sc_law_made : FnScope ["_law_one"] ["_law_one"] (C8.fnScope st_law_made) := C8.fnScope_by (by decide +kernel)
abbrev st_law_told : Stmt := top 31
theorem sc_law_told : FnScope ["_law_one", "_law_found", "e"] ["_law_one"] (C8.fnScope st_law_told) := C8.fnScope_by (by decide +kernel)
abbrev st_law_from : Stmt := top 28
theorem sc_law_from : FnScope ["_law_value_here", "_law_least"] ["_law_value_here", "_law_least"] (C8.fnScope st_law_from) := C8.fnScope_by (by decide +kernel)
abbrev st_law_one_of : Stmt := top 29
theorem sc_law_one_of : FnScope ["_law_value_here", "_law_some"] ["_law_value_here", "_law_some"] (C8.fnScope st_law_one_of) := C8.fnScope_by (by decide +kernel)
abbrev st_law_wrong : Stmt := top 30
theorem sc_law_wrong : FnScope ["_law_one", "_law_need", "_law_window", "_law_base", "_law_more", "_law_most", "_law_calm", "_law_back", "_law_top", "_law_under", "_law_up", "_law_hears"] ["_law_one"] (C8.fnScope st_law_wrong) := C8.fnScope_by (by decide +kernel)
abbrev st_law : Stmt := top 32
theorem sc_law : FnScope ["_law_script", "_law_deal_here", "_law_odd", "_law_turn", "_law_one", "_law_more"] ["_law_script"] (C8.fnScope st_law) := C8.fnScope_by (by decide +kernel)
local macro_rules | `(tactic| walk_at "sit side") => `(tactic| first | decide | omega | assumption | exact Or.inl ⟨by omega, by omega⟩ | exact Or.inr ⟨by omega, by omega⟩ | exact ⟨by omega, by omega⟩ | exact ⟨by decide, by decide⟩)
local macro_rules | `(tactic| walk_at "sit ev") => `(tactic| first
  | exact ev_c
  | exact ev_var rfl
  | exact ea_nil
  | ((with_reducible apply ea_cons) <;> walk_at "sit ev")
  | exact rv_I0
  | ((with_reducible apply rv_I); walk_at "sit side")
  | exact rv_eq rfl
  | exact rv_ne rfl
  | exact rc_int1
  | exact rc_abs
  | exact rc_min
  | exact rc_max
  | exact rc_isi (b := true) (ClsV.ty _) (fun _ _ => TyX.base (TyOf.int _)) (kit_ty (by decide +kernel))
  | exact rc_isi (b := false) (ClsV.ty _) (fun _ _ => TyX.base (TyOf.int _)) (kit_ty (by decide +kernel))
  | exact rc_isi (b := true) (ClsV.ty _) (fun _ _ => TyX.base (TyOf.bl _)) (kit_ty (by decide +kernel))
  | exact rc_isi (b := false) (ClsV.ty _) (fun _ _ => TyX.base (TyOf.bl _)) (kit_ty (by decide +kernel))
  | ((with_reducible apply ev_op) <;> walk_at "sit ev")
  | ((with_reducible apply ev_un) <;> walk_at "sit ev")
  | ((with_reducible apply ev_cb) <;> walk_at "sit ev")
  | ((with_reducible apply ev_and) <;> walk_at "sit ev")
  | ((with_reducible apply ev_notV) <;> walk_at "sit ev")
  | ((with_reducible apply et_test) <;> walk_at "sit ev")
  | ((with_reducible apply et_B) <;> walk_at "sit ev")
  | ((with_reducible apply et_not) <;> walk_at "sit ev")
  | ((with_reducible apply et_and2) <;> walk_at "sit ev")
  | ((with_reducible apply et_or2) <;> walk_at "sit ev"))

/-! ### what the top has -/
structure Tb (K : PySem.W.Frag) (mg : Str → Option Value) (CR : Addr) (aB aH : Addr) : Prop where
  bi_isinstance : mg "isinstance" = none
  bi_int : mg "int" = none
  bi_bool : mg "bool" = none
  bi_max : mg "max" = none
  bi_min : mg "min" = none
  bi_len : mg "len" = none
  bi_abs : mg "abs" = none
  bi_range : mg "range" = none
  bi_list : mg "list" = none
  bi_str : mg "str" = none
  bi_repr : mg "repr" = none
  bi_sorted : mg "sorted" = none
  bi_dict : mg "dict" = none
  bi_tuple : mg "tuple" = none
  bi_zip : mg "zip" = none
  bi_enumerate : mg "enumerate" = none
  gc_BACKS : ∃ u, mg "_BACKS" = some u ∧ RelV (.ref aB) u
  gc_HEARINGS : ∃ u, mg "_HEARINGS" = some u ∧ RelV (.ref aH) u
  sB : ∀ H, SqT K H aB [.str "half", .str "open", .str "trial"]
  sH : ∀ H, SqT K H aH [.str "fault", .str "no", .str "out"]
  cl : Cls K CR
  n_need : NoAttr K CR "need"
  n_of : NoAttr K CR "of"
  n_base : NoAttr K CR "base"
  n_more : NoAttr K CR "more"
  n_most : NoAttr K CR "most"
  n_calm : NoAttr K CR "calm"
  n_back : NoAttr K CR "back"
  n_top : NoAttr K CR "top"
  n_under : NoAttr K CR "under"
  n_up : NoAttr K CR "up"
  n_hears : NoAttr K CR "hears"
  n_cap : NoAttr K CR "cap"
  gc_Rule : ∃ u, mg "Rule" = some u ∧ RelV (.ref CR) u
  cA : PySem.W.findIn K (.ref CR) "__class__" = some (some (.builtin "object.__class__"))
  cG : PySem.W.specialIn K (.builtin "object.__class__") "__get__" = some (some (.builtin "getset_descriptor.__get__"))
  cT : PySem.W.takesIn K (.builtin "object.__class__") = some true
  cO : PySem.W.mroIn K CR (.type "object") = some true

section
variable {P : Program} {w : World} {K : PySem.W.Frag} {mg : Str → Option Value} {base : Heap} {CR aB aH : Addr}

def rInteger : Hp → List V → V → Prop := fun _ vs v => ∃ i : Int, vs = [.int i] ∧ v = .bl true
theorem mono_integer : Mono rInteger := fun _ _ _ _ _ h => h
theorem ok_is_integer {f : Addr} {fd : FuncData} (D : C8.Def K mg "is_integer" st_is_integer f fd) (b : Binds K fd ["value"] []) (T : Tb K mg CR aB aH) : C8.Cal P w K mg base 1 "is_integer" (spP rInteger) [] := by
  refine C8.cal0 D b .nil sc_is_integer (fun vs H Q E h => ?_) (fun cdv A outer s H vs Q E hr h => ?_)
  · obtain ⟨v, ⟨i, rfl, _⟩, _⟩ := h
    rfl
  · obtain ⟨v, ⟨i, rfl, rfl⟩, k⟩ := h
    refine ⟨_, pss_one (ps_ret (pe_and (pe_callB call_isi (by rfl) T.bi_isinstance boot_isinstance (pa_cons (pv 0) (pa_cons (pe_bltn (v := .ty "int") (by rfl) T.bi_int boot_int rfl) (pa_nil)))) (pe_one (pe_not (pe_callB call_isi (by rfl) T.bi_isinstance boot_isinstance (pa_cons (pv 0) (pa_cons (pe_bltn (v := .ty "bool") (by rfl) T.bi_bool boot_bool rfl) (pa_nil)))))))), ?_⟩
    refine' s_ret (ev_is ?h ?e) (fun H1 e => k H1 e)
    case h => walk_at "sit ev"
    case e => simp
def rFrom : Hp → List V → V → Prop := fun _ vs v => ∃ i j : Int, vs = [.int i, .int j] ∧ v = .bl (decide (j ≤ i))
theorem mono_from : Mono rFrom := fun _ _ _ _ _ h => h
theorem ok_is_from {f : Addr} {fd : FuncData} (D : C8.Def K mg "is_from" st_is_from f fd) (b : Binds K fd ["value", "least"] []) (c_is_integer : C8.Cal P w K mg base 1 "is_integer" (spP rInteger) []) : C8.Cal P w K mg base 2 "is_from" (spP rFrom) [] := by
  refine C8.cal0 D b .nil sc_is_from (fun vs H Q E h => ?_) (fun cdv A outer s H vs Q E hr h => ?_)
  · obtain ⟨v, ⟨i, j, rfl, _⟩, _⟩ := h
    rfl
  · obtain ⟨v, ⟨i, j, rfl, rfl⟩, k⟩ := h
    refine ⟨_, pss_one (ps_ret (pe_and (C8.pe_c c_is_integer hr (by decide) (by rfl) (pa_cons (pv 0) (pa_nil))) (pe_one (pe_cmpR (op_ge) (pv 0) (pv 1) (nomark _))))), ?_⟩
    exact s_ret (ev_is (ev_andV (b := decide (j ≤ i)) (ev_call (ea_cons (ev_var rfl) ea_nil) (spv mono_integer ⟨i, rfl, rfl⟩)) (fun _ => ev_op (ev_var rfl) (ev_var rfl) rv_I0)) (by simp)) (fun H1 e => k H1 e)

/-! ### a rule's arguments -/
structure RuleD where
  need : Int
  of : Int
  base : Int
  more : Int
  most : Int
  calm : Int
  back : Str
  top : Int
  under : Int
  up : Bool
  hears : Str
def RuleD.vals (r : RuleD) : List V := [.int r.need, .int r.of, .int r.base, .int r.more, .int r.most, .int r.calm, .str r.back, .int r.top, .int r.under, .bl r.up, .str r.hears]
structure RuleD.ok (r : RuleD) : Prop where
  need : 1 ≤ r.need
  of : r.need ≤ r.of
  base : 1 ≤ r.base
  more : 0 ≤ r.more
  most : r.base ≤ r.most
  calm : 0 ≤ r.calm
  back : r.back = "half" ∨ r.back = "open" ∨ r.back = "trial"
  top : 0 ≤ r.top
  under : 1 ≤ r.under
  topu : r.top ≤ r.under
  hears : r.hears = "fault" ∨ r.hears = "no" ∨ r.hears = "out"
  moreB : r.more < 1000000
  underB : r.under < 1000000
theorem okOf {need of base more most calm top under : Int} {back hears : Str} {up : Bool} (h : 1 ≤ need ∧ need ≤ of ∧ 1 ≤ base ∧ 0 ≤ more ∧ base ≤ most ∧ 0 ≤ calm ∧ 0 ≤ top ∧ 1 ≤ under ∧ top ≤ under ∧ more < 1000000 ∧ under < 1000000)
    (hb : back = "half" ∨ back = "open" ∨ back = "trial") (hh : hears = "fault" ∨ hears = "no" ∨ hears = "out") : RuleD.ok ⟨need, of, base, more, most, calm, back, top, under, up, hears⟩ :=
  ⟨h.1, h.2.1, h.2.2.1, h.2.2.2.1, h.2.2.2.2.1, h.2.2.2.2.2.1, hb, h.2.2.2.2.2.2.1, h.2.2.2.2.2.2.2.1, h.2.2.2.2.2.2.2.2.1, hh, h.2.2.2.2.2.2.2.2.2.1, h.2.2.2.2.2.2.2.2.2.2⟩
def capOf (base more most : Int) : Int := if more = 0 then 1 else 1 + (most - base + more - 1) / more
def flds (r : RuleD) : List (Str × V) := putF "cap" (.int (capOf r.base r.more r.most)) (putF "hears" (.str r.hears) (putF "up" (.bl r.up) (putF "under" (.int r.under) (putF "top" (.int r.top) (putF "back" (.str r.back)
  (putF "calm" (.int r.calm) (putF "most" (.int r.most) (putF "more" (.int r.more) (putF "base" (.int r.base) (putF "of" (.int r.of) (putF "need" (.int r.need) [])))))))))))
theorem fl_ne {f g : Str} {v : V} {fs : List (Str × V)} {o : Option V} (h : (g = f) = False) (k : fs.lookup g = o) : (putF f v fs).lookup g = o := by
  rw [lookup_putF, if_neg (by rw [h]; exact id)]
  exact k
theorem fl_eq {f : Str} {v : V} {fs : List (Str × V)} : (putF f v fs).lookup f = some v := by
  rw [lookup_putF, if_pos rfl]
theorem ne_F {f g : Str} (h : decide (g = f) = false) : (g = f) = False := eq_false (of_decide_eq_false h)
local macro_rules | `(tactic| walk_at "sit fl") => `(tactic| (unfold flds; repeat (first | (with_reducible exact fl_eq) | refine fl_ne (ne_F (by decide +kernel)) ?_ | rfl)))
theorem fl_need (r : RuleD) : (flds r).lookup ("need" : Str) = some (V.int r.need) := by walk_at "sit fl"
theorem fl_of (r : RuleD) : (flds r).lookup ("of" : Str) = some (V.int r.of) := by walk_at "sit fl"
theorem fl_base (r : RuleD) : (flds r).lookup ("base" : Str) = some (V.int r.base) := by walk_at "sit fl"
theorem fl_more (r : RuleD) : (flds r).lookup ("more" : Str) = some (V.int r.more) := by walk_at "sit fl"
theorem fl_most (r : RuleD) : (flds r).lookup ("most" : Str) = some (V.int r.most) := by walk_at "sit fl"
theorem fl_calm (r : RuleD) : (flds r).lookup ("calm" : Str) = some (V.int r.calm) := by walk_at "sit fl"
theorem fl_back (r : RuleD) : (flds r).lookup ("back" : Str) = some (V.str r.back) := by walk_at "sit fl"
theorem fl_top (r : RuleD) : (flds r).lookup ("top" : Str) = some (V.int r.top) := by walk_at "sit fl"
theorem fl_under (r : RuleD) : (flds r).lookup ("under" : Str) = some (V.int r.under) := by walk_at "sit fl"
theorem fl_up (r : RuleD) : (flds r).lookup ("up" : Str) = some (V.bl r.up) := by walk_at "sit fl"
theorem fl_hears (r : RuleD) : (flds r).lookup ("hears" : Str) = some (V.str r.hears) := by walk_at "sit fl"
theorem fl_cap (r : RuleD) : (flds r).lookup ("cap" : Str) = some (V.int (capOf r.base r.more r.most)) := by walk_at "sit fl"
theorem fl_time (r : RuleD) : (flds r).lookup ("time" : Str) = none := by walk_at "sit fl"
theorem fl_limit (r : RuleD) : (flds r).lookup ("limit" : Str) = none := by walk_at "sit fl"
theorem in_backs {b : Str} (h : b = "half" ∨ b = "open" ∨ b = "trial") : inV (.str b) [.str "half", .str "open", .str "trial"] = true := by
  rcases h with rfl | rfl | rfl <;> decide +kernel
theorem in_hears {b : Str} (h : b = "fault" ∨ b = "no" ∨ b = "out") : inV (.str b) [.str "fault", .str "no", .str "out"] = true := by
  rcases h with rfl | rfl | rfl <;> decide +kernel

local macro_rules | `(tactic| walk_at "sit ev") => `(tactic| first
  | exact spv mono_from ⟨_, _, rfl, rfl⟩
  | exact rv_niT (by assumption) rfl rfl
  | exact rv_isT (by assumption) rfl rfl
  | exact rv_isN
  | exact rv_notN
  | ((with_reducible apply ev_call) <;> walk_at "sit ev"))
local macro_rules | `(tactic| walk_at "sit b") => `(tactic| first | rfl | (simp; done) | (simp; omega) | (simp [*]; done))
/-- a guard that is not taken -/
local macro_rules | `(tactic| walk_at "sit no") => `(tactic| (refine' g_no (by assumption) (by assumption) (et_is ?h ?e) (fun H1 m => ?_); (case h => walk_at "sit ev"); (case e => walk_at "sit b")))
local macro_rules | `(tactic| walk_at "sit ret") => `(tactic| (refine' g_ret (by assumption) (by assumption) (ev_is ?h ?e) ?k; (case h => walk_at "sit ev"); (case e => walk_at "sit b")))

def rWc : Hp → List V → V → Prop := fun _ vs v => ∃ need of base more most calm : Int, vs = [.int need, .int of, .int base, .int more, .int most, .int calm] ∧ (1 ≤ need ∧ need ≤ of ∧ 1 ≤ base ∧ 0 ≤ more ∧ base ≤ most ∧ 0 ≤ calm) ∧ v = .non
theorem mono_wc : Mono rWc := fun _ _ _ _ _ h => h
theorem ok_wc {f : Addr} {fd : FuncData} (D : C8.Def K mg "_wrong_count" st_wrong_count f fd) (b : Binds K fd ["need", "of", "base", "more", "most", "calm"] []) (c_is_from : C8.Cal P w K mg base 2 "is_from" (spP rFrom) []) :
    C8.Cal P w K mg base 3 "_wrong_count" (spP rWc) [] := by
  refine C8.cal0 D b .nil sc_wrong_count (fun vs H Q E h => ?_) (fun cdv A outer s H vs Q E hr h => ?_)
  · obtain ⟨v, ⟨_, _, _, _, _, _, rfl, _⟩, _⟩ := h
    rfl
  · obtain ⟨v, ⟨need, of, base, more, most, calm, rfl, ⟨h1, h2, h3, h4, h5, h6⟩, rfl⟩, k⟩ := h
    refine ⟨_, pss_cons (ps_if (pt_not (pt_val (C8.pe_c c_is_from hr (by decide) (by rfl) (pa_cons (pv 0) (pa_cons (pe_int) (pa_nil)))))) (pss_one (ps_ret (pe_str))) (pss_nil))
      (pss_cons (ps_if (pt_not (pt_val (C8.pe_c c_is_from hr (by decide) (by rfl) (pa_cons (pv 1) (pa_cons (pv 0) (pa_nil)))))) (pss_one (ps_ret (pe_str))) (pss_nil))
      (pss_cons (ps_if (pt_not (pt_val (C8.pe_c c_is_from hr (by decide) (by rfl) (pa_cons (pv 2) (pa_cons (pe_int) (pa_nil)))))) (pss_one (ps_ret (pe_str))) (pss_nil))
      (pss_cons (ps_if (pt_not (pt_val (C8.pe_c c_is_from hr (by decide) (by rfl) (pa_cons (pv 3) (pa_cons (pe_int) (pa_nil)))))) (pss_one (ps_ret (pe_str))) (pss_nil))
      (pss_cons (ps_if (pt_not (pt_val (C8.pe_c c_is_from hr (by decide) (by rfl) (pa_cons (pv 4) (pa_cons (pv 2) (pa_nil)))))) (pss_one (ps_ret (pe_str))) (pss_nil))
      (pss_cons (ps_if (pt_not (pt_val (C8.pe_c c_is_from hr (by decide) (by rfl) (pa_cons (pv 5) (pa_cons (pe_int) (pa_nil)))))) (pss_one (ps_ret (pe_str))) (pss_nil))
      (pss_one (ps_ret (pe_non)))))))), ?_⟩
    have md := mdE H
    have m := Ex.refl H
    walk_at "sit no"
    walk_at "sit no"
    walk_at "sit no"
    walk_at "sit no"
    walk_at "sit no"
    walk_at "sit no"
    walk_at "sit ret"
    exact k
def rWm : Hp → List V → V → Prop := fun _ vs v => ∃ (back hears : Str) (top under : Int) (up : Bool), vs = [.str back, .int top, .int under, .bl up, .str hears] ∧
  ((back = "half" ∨ back = "open" ∨ back = "trial") ∧ 0 ≤ top ∧ 1 ≤ under ∧ top ≤ under ∧ (hears = "fault" ∨ hears = "no" ∨ hears = "out")) ∧ v = .non
theorem mono_wm : Mono rWm := fun _ _ _ _ _ h => h
theorem ok_wm {f : Addr} {fd : FuncData} (D : C8.Def K mg "_wrong_manner" st_wrong_manner f fd) (b : Binds K fd ["back", "top", "under", "up", "hears"] []) (T : Tb K mg CR aB aH) (c_is_from : C8.Cal P w K mg base 2 "is_from" (spP rFrom) []) :
    C8.Cal P w K mg base 3 "_wrong_manner" (spP rWm) [] := by
  refine C8.cal0 D b .nil sc_wrong_manner (fun vs H Q E h => ?_) (fun cdv A outer s H vs Q E hr h => ?_)
  · obtain ⟨v, ⟨_, _, _, _, _, rfl, _⟩, _⟩ := h
    rfl
  · obtain ⟨v, ⟨back, hears, top, under, up, rfl, ⟨h1, h2, h3, h4, h5⟩, rfl⟩, k⟩ := h
    refine ⟨_, pss_cons (ps_if (pt_cmpR (op_notIn_seq) (pv 0) (C8.pe_gc (by rfl) T.gc_BACKS) (by rfl)) (pss_one (ps_ret (pe_str))) (pss_nil))
      (pss_cons (ps_if (pt_not (pt_val (C8.pe_c c_is_from hr (by decide) (by rfl) (pa_cons (pv 1) (pa_cons (pe_int) (pa_nil)))))) (pss_one (ps_ret (pe_str))) (pss_nil))
      (pss_cons (ps_if (pt_not (pt_val (C8.pe_c c_is_from hr (by decide) (by rfl) (pa_cons (pv 2) (pa_cons (pe_callB (call_max2 rfl) (by rfl) T.bi_max boot_max (pa_cons (pe_int) (pa_cons (pv 1) (pa_nil)))) (pa_nil)))))) (pss_one (ps_ret (pe_str))) (pss_nil))
      (pss_cons (ps_if (pt_not (pt_val (pe_callB call_isi (by rfl) T.bi_isinstance boot_isinstance (pa_cons (pv 3) (pa_cons (pe_bltn (v := .ty "bool") (by rfl) T.bi_bool boot_bool rfl) (pa_nil)))))) (pss_one (ps_ret (pe_str))) (pss_nil))
      (pss_cons (ps_if (pt_cmpR (op_notIn_seq) (pv 4) (C8.pe_gc (by rfl) T.gc_HEARINGS) (by rfl)) (pss_one (ps_ret (pe_str))) (pss_nil))
      (pss_one (ps_ret (pe_non))))))), ?_⟩
    have md := mdE H
    have m := Ex.refl H
    have sB := T.sB H
    have sH := T.sH H
    have i1 := in_backs h1
    have i2 := in_hears h5
    walk_at "sit no"
    walk_at "sit no"
    refine' g_no (by assumption) (by assumption) (et_is ?h ?e) (fun H1 m => ?_)
    case h => walk_at "sit ev"
    case e =>
      simp
      split <;> omega
    walk_at "sit no"
    walk_at "sit no"
    walk_at "sit ret"
    exact k
def rLl : Hp → List V → V → Prop := fun _ vs v => ∃ base more most : Int, vs = [.int base, .int more, .int most] ∧ (0 ≤ more ∧ more < 1000000) ∧ v = .int (capOf base more most)
theorem mono_ll : Mono rLl := fun _ _ _ _ _ h => h
theorem ok_ll {f : Addr} {fd : FuncData} (D : C8.Def K mg "_least_last" st_least_last f fd) (b : Binds K fd ["base", "more", "most"] []) : C8.Cal P w K mg base 2 "_least_last" (spP rLl) [] := by
  refine C8.cal0 D b .nil sc_least_last (fun vs H Q E h => ?_) (fun cdv A outer s H vs Q E hr h => ?_)
  · obtain ⟨v, ⟨_, _, _, rfl, _⟩, _⟩ := h
    rfl
  · obtain ⟨v, ⟨base, more, most, rfl, ⟨h1, h2⟩, rfl⟩, k⟩ := h
    refine ⟨_, pss_cons (ps_if (pt_cmpR (op_eq) (pv 1) (pe_int) (nomark _)) (pss_one (ps_ret (pe_int))) (pss_nil))
      (pss_one (ps_ret (pe_op op_add (pe_int) (pe_op op_fdiv (pe_op op_sub (pe_op op_add (pe_op op_sub (pv 2) (pv 0)) (pv 1)) (pe_int)) (pv 1))))), ?_⟩
    have md := mdE H
    have m := Ex.refl H
    by_cases h0 : more = 0
    · refine' g_yes md m (et_is ?h ?e) (fun H1 m => ?_)
      case h => walk_at "sit ev"
      case e => simp [h0]
      walk_at "sit ret"
      unfold capOf at k
      rw [if_pos h0] at k
      exact k
    · walk_at "sit no"
      refine' g_ret md (by assumption) ?h ?k
      case h =>
        refine ev_op ev_c (ev_op (ev_op (ev_op (ev_op (ev_var rfl) (ev_var rfl) rv_I0) (ev_var rfl) rv_I0) ev_c rv_I0) (ev_var rfl) (rv_I ⟨by omega, by omega⟩)) rv_I0
      unfold capOf at k
      rw [if_neg h0] at k
      exact k
end

section
variable {P : Program} {w : World} {K : PySem.W.Frag} {mg : Str → Option Value} {base : Heap} {CR aB aH : Addr}
/-! ### a rule is made -/
def spInit (CR : Addr) : Sp := fun vs H Q _ => ∃ (H0 : Hp) (p dx : Addr) (r : RuleD), vs = .ref p :: r.vals ∧ r.ok ∧ H0 p = none ∧ Ex H0 H ∧ H p = some (.ins CR dx []) ∧
  ∀ H', Ex H0 H' → H' p = some (.ins CR dx (flds r)) → Q .non H'
theorem pl {f : Str} {v : V} {fs : List (Str × V)} {n : Nat} (h : fs.length ≤ n) : (putF f v fs).length ≤ n + 1 := Nat.le_trans (length_putF f v fs) (Nat.succ_le_succ h)
theorem ok_init {f : Addr} {fd : FuncData} (D : C8.Fun K "__init__" "Rule.__init__" st_Rule___init__ f fd) (b : Binds K fd ["self", "need", "of", "base", "more", "most", "calm", "back", "top", "under", "up", "hears"] []) (M : Mk K CR f) (mC : mg "Rule" = some (.ref CR)) (T : Tb K mg CR aB aH)
    (c_wrong_count : C8.Cal P w K mg base 3 "_wrong_count" (spP rWc) []) (c_wrong_manner : C8.Cal P w K mg base 3 "_wrong_manner" (spP rWm) []) (c_least_last : C8.Cal P w K mg base 2 "_least_last" (spP rLl) []) : C8.Mak P w K mg base 4 "Rule" CR (spInit CR) [] := by
  refine C8.mak0 M mC D b .nil sc_Rule___init__ (fun vs H Q E h => ?_) (fun cdv A outer s H vs Q E hr h => ?_)
  · obtain ⟨H0, p, dx, r, rfl, _⟩ := h
    rfl
  · obtain ⟨H0, p, dx, r, rfl, ok, np, e0, hp, k⟩ := h
    refine ⟨_, pss_cons (ps_set (i := 12) sc_Rule___init__.nd rfl (Or.inl rfl) (C8.pe_c c_wrong_count hr (by decide) (by rfl) (pa_cons (pv 1) (pa_cons (pv 2) (pa_cons (pv 3) (pa_cons (pv 4) (pa_cons (pv 5) (pa_cons (pv 6) (pa_nil)))))))))
      (pss_cons (ps_if (pt_cmpR (op_isN) (pv 12) (pe_non) (nomark _)) (pss_one (ps_set (i := 12) sc_Rule___init__.nd rfl (Or.inl rfl) (C8.pe_c c_wrong_manner hr (by decide) (by rfl) (pa_cons (pv 7) (pa_cons (pv 8) (pa_cons (pv 9) (pa_cons (pv 10) (pa_cons (pv 11) (pa_nil))))))))) (pss_nil))
      (pss_cons (ps_if (pt_cmpR (op_notN) (pv 12) (pe_non) (nomark _)) (pss_never) (pss_nil))
      (pss_cons (ps_fld (pv 0) (pv 1) rfl)
      (pss_cons (ps_fld (pv 0) (pv 2) rfl)
      (pss_cons (ps_fld (pv 0) (pv 3) rfl)
      (pss_cons (ps_fld (pv 0) (pv 4) rfl)
      (pss_cons (ps_fld (pv 0) (pv 5) rfl)
      (pss_cons (ps_fld (pv 0) (pv 6) rfl)
      (pss_cons (ps_fld (pv 0) (pv 7) rfl)
      (pss_cons (ps_fld (pv 0) (pv 8) rfl)
      (pss_cons (ps_fld (pv 0) (pv 9) rfl)
      (pss_cons (ps_fld (pv 0) (pv 10) rfl)
      (pss_cons (ps_fld (pv 0) (pv 11) rfl)
      (pss_one (ps_fld (pv 0) (C8.pe_c c_least_last hr (by decide) (by rfl) (pa_cons (pv 3) (pa_cons (pv 4) (pa_cons (pv 5) (pa_nil))))) rfl))))))))))))))), ?_⟩
    have md := mdM H0 p CR dx []
    have m : Mi H0 p CR dx [] H := ⟨e0, np, hp⟩
    refine g_asg md m (ev_call (ea_cons (ev_var rfl) (ea_cons (ev_var rfl) (ea_cons (ev_var rfl) (ea_cons (ev_var rfl) (ea_cons (ev_var rfl) (ea_cons (ev_var rfl) ea_nil))))))
      (spv mono_wc ⟨r.need, r.of, r.base, r.more, r.most, r.calm, rfl, ⟨ok.need, ok.of, ok.base, ok.more, ok.most, ok.calm⟩, rfl⟩)) fun H1 m => ?_
    refine g_yes md m (et_is (et_test (ev_op (ev_var rfl) ev_c rv_isN)) (by rfl)) fun H2 m => ?_
    refine g_asg1 md m (ev_call (ea_cons (ev_var rfl) (ea_cons (ev_var rfl) (ea_cons (ev_var rfl) (ea_cons (ev_var rfl) (ea_cons (ev_var rfl) ea_nil)))))
      (spv mono_wm ⟨r.back, r.hears, r.top, r.under, r.up, rfl, ⟨ok.back, ok.top, ok.under, ok.topu, ok.hears⟩, rfl⟩)) fun H3 m => ?_
    refine g_no md m (et_is (et_test (ev_op (ev_var rfl) ev_c rv_notN)) (by rfl)) fun H4 m => ?_
    refine g_fld m (ev_var rfl) (ev_var rfl) T.cl T.n_need (by decide) fun _ m => ?_
    refine g_fld m (ev_var rfl) (ev_var rfl) T.cl T.n_of (Nat.lt_of_le_of_lt (pl (Nat.le_refl 0)) (by decide)) fun _ m => ?_
    refine g_fld m (ev_var rfl) (ev_var rfl) T.cl T.n_base (Nat.lt_of_le_of_lt (pl (pl (Nat.le_refl 0))) (by decide)) fun _ m => ?_
    refine g_fld m (ev_var rfl) (ev_var rfl) T.cl T.n_more (Nat.lt_of_le_of_lt (pl (pl (pl (Nat.le_refl 0)))) (by decide)) fun _ m => ?_
    refine g_fld m (ev_var rfl) (ev_var rfl) T.cl T.n_most (Nat.lt_of_le_of_lt (pl (pl (pl (pl (Nat.le_refl 0))))) (by decide)) fun _ m => ?_
    refine g_fld m (ev_var rfl) (ev_var rfl) T.cl T.n_calm (Nat.lt_of_le_of_lt (pl (pl (pl (pl (pl (Nat.le_refl 0)))))) (by decide)) fun _ m => ?_
    refine g_fld m (ev_var rfl) (ev_var rfl) T.cl T.n_back (Nat.lt_of_le_of_lt (pl (pl (pl (pl (pl (pl (Nat.le_refl 0))))))) (by decide)) fun _ m => ?_
    refine g_fld m (ev_var rfl) (ev_var rfl) T.cl T.n_top (Nat.lt_of_le_of_lt (pl (pl (pl (pl (pl (pl (pl (Nat.le_refl 0)))))))) (by decide)) fun _ m => ?_
    refine g_fld m (ev_var rfl) (ev_var rfl) T.cl T.n_under (Nat.lt_of_le_of_lt (pl (pl (pl (pl (pl (pl (pl (pl (Nat.le_refl 0))))))))) (by decide)) fun _ m => ?_
    refine g_fld m (ev_var rfl) (ev_var rfl) T.cl T.n_up (Nat.lt_of_le_of_lt (pl (pl (pl (pl (pl (pl (pl (pl (pl (Nat.le_refl 0)))))))))) (by decide)) fun _ m => ?_
    refine g_fld m (ev_var rfl) (ev_var rfl) T.cl T.n_hears (Nat.lt_of_le_of_lt (pl (pl (pl (pl (pl (pl (pl (pl (pl (pl (Nat.le_refl 0))))))))))) (by decide)) fun _ m => ?_
    refine g_fld1 m (ev_call (ea_cons (ev_var rfl) (ea_cons (ev_var rfl) (ea_cons (ev_var rfl) ea_nil))) (spv mono_ll ⟨r.base, r.more, r.most, rfl, ⟨ok.more, ok.moreB⟩, rfl⟩)) (ev_var rfl) T.cl T.n_cap
      (Nat.lt_of_le_of_lt (pl (pl (pl (pl (pl (pl (pl (pl (pl (pl (pl (Nat.le_refl 0)))))))))))) (by decide)) fun H5 m => ?_
    exact k H5 m.ex m.at_
/-- what stands at p is the rule r -/
def RuleAt (CR : Addr) (r : RuleD) : HO → Prop := fun o => ∃ dx, o = .ins CR dx (flds r)
theorem evN_rule {σ : L2.St} {H : Hp} {E : XK} {ta : TA} {vs : List V} {r : RuleD} (h : EvA ta σ H vs) (e : vs = r.vals) (ok : r.ok) : EvN (tMake CR (spInit CR) [] E ta) σ H (RuleAt CR r) := fun H1 e1 Q q =>
  h H1 e1 _ fun H2 e2 x dx nx ndx nex => by
    subst e
    refine ⟨H2, x, dx, r, rfl, ok, nx, fun b o hb => ?_, upd_same, fun H' e3 h3 => ⟨rfl, q x H' _ (fresh_back e2 nx) (e2.trans e3) h3 ⟨dx, rfl⟩⟩⟩
    rw [upd_ne (ne_of_none hb nx), upd_ne (ne_of_none hb ndx)]
    exact hb
end

/-! ### draws -/
structure Dw (d l : Addr) (Kn : Hp) (kvs : List (Key × V)) (ns : List Int) (H : Hp) : Prop where
  ex : Ex Kn H
  dn : Kn d = none
  ln : Kn l = none
  hd : H d = some (.dK kvs)
  ok : DkO l kvs
  hl : H l = some (.lst (ns.map V.int))
section
variable {d l : Addr} {Kn H H' : Hp} {kvs : List (Key × V)} {ns : List Int}
theorem Dw.of (h : In d l Kn H) : ∃ kvs ns, Dw d l Kn kvs ns H := by
  obtain ⟨kvs, ns, h1, h2, h3⟩ := h.dk
  exact ⟨kvs, ns, h.ex, h.dn, h.ln, h1, h2, h3⟩
theorem Dw.in_ (h : Dw d l Kn kvs ns H) : In d l Kn H := ⟨h.ex, h.dn, h.ln, kvs, ns, h.hd, h.ok, h.hl⟩
theorem Dw.up (h : Dw d l Kn kvs ns H) (e : Ex H H') : Dw d l Kn kvs ns H' := ⟨h.ex.trans e, h.dn, h.ln, e _ _ h.hd, h.ok, e _ _ h.hl⟩
theorem Dw.ne (h : Dw d l Kn kvs ns H) : d ≠ l := ne_of h.hd h.hl (by intro z; cases z)
theorem DkO.put {k : Key} (h : DkO l kvs) (hk : k = kNow ∨ k = kMixed ∨ k = kTurn) (z : Int) : DkO l (putK kvs k (.int z)) := by
  obtain ⟨h0, hg, ⟨a, ha⟩, ⟨b, hb⟩, ⟨c, hc⟩⟩ := h
  have e : ∃ x, valV kvs k = some x := by
    rcases hk with rfl | rfl | rfl
    · exact ⟨_, ha⟩
    · exact ⟨_, hb⟩
    · exact ⟨_, hc⟩
  obtain ⟨x, hx⟩ := e
  have gk : ¬ kGreat = k := by rcases hk with rfl | rfl | rfl <;> decide +kernel
  refine ⟨by rw [putK_len _ hx]; exact h0, by rw [valV_put, if_neg gk]; exact hg, ?_, ?_, ?_⟩
  · rw [valV_put]; split
    · exact ⟨_, rfl⟩
    · exact ⟨_, ha⟩
  · rw [valV_put]; split
    · exact ⟨_, rfl⟩
    · exact ⟨_, hb⟩
  · rw [valV_put]; split
    · exact ⟨_, rfl⟩
    · exact ⟨_, hc⟩
theorem Dw.put {k : Key} (h : Dw d l Kn kvs ns H) (hk : k = kNow ∨ k = kMixed ∨ k = kTurn) (z : Int) : Dw d l Kn (putK kvs k (.int z)) ns (upd H d (.dK (putK kvs k (.int z)))) :=
  ⟨Ex.mut h.ex h.dn, h.dn, h.ln, upd_same, h.ok.put hk z, by rw [upd_ne h.ne.symm]; exact h.hl⟩
theorem Dw.len (h : Dw d l Kn kvs ns H) : kvs.length < sizeLine := Nat.lt_of_le_of_lt h.ok.len (by decide)
theorem ev_dget {σ : L2.St} {td ty : TE} {k : Key} {v : V} (h1 : Ev td σ H (.ref d)) (h2 : Ev ty σ H (kV k)) (hd : H d = some (.dK kvs)) (hv : valV kvs k = some v) : Ev (tDGet td ty) σ H v := fun H1 e _ q =>
  h1 H1 e _ fun H2 e2 => h2 H2 (e.trans e2) _ fun H3 e3 => ⟨d, v, rfl, by rw [← hv]; exact DGet.k (((e.trans e2).trans e3) _ _ hd), q H3 (e2.trans e3)⟩
theorem q_dput {σ : L2.St} {D : Ends} {tz : TS} {td ty tv : TE} {k : Key} {z : Int} (h : Dw d l Kn kvs ns H) (hk : k = kNow ∨ k = kMixed ∨ k = kTurn) (hv : Ev tv σ H (.int z)) (h1 : Ev td σ H (.ref d)) (h2 : Ev ty σ H (kV k))
    (q : ∀ H', Dw d l Kn (putK kvs k (.int z)) ns H' → tz D σ H') : tSeq (sDPut td ty tv) tz D σ H :=
  hv H (Ex.refl H) _ fun H1 e1 => h1 H1 e1 _ fun H2 e2 => h2 H2 (e1.trans e2) _ fun H3 e3 => by
    have h3 := h.up ((e1.trans e2).trans e3)
    exact ⟨d, _, rfl, DPut.k h3.hd h3.len, q _ (h3.put hk z)⟩
end
section
variable {P : Program} {w : World} {K : PySem.W.Frag} {mg : Str → Option Value} {base : Heap} {CR aB aH : Addr}
theorem ok_draw {f : Addr} {fd : FuncData} (D : C8.Def K mg "_law_draw" st_law_draw f fd) (b : Binds K fd ["_law_deal_here", "_law_many"] []) (T : Tb K mg CR aB aH) : C8.Cal P w K mg base 2 "_law_draw" spDraw [] := by
  refine C8.cal0 D b .nil sc_law_draw (fun vs H Q E h => ?_) (fun cdv A outer s H vs Q E hr h => ?_)
  · obtain ⟨d, l, m, Kn, rfl, _⟩ := h
    rfl
  · obtain ⟨d, l, m, Kn, rfl, m0, m1, I, k⟩ := h
    have hu := hu_of hr
    refine ⟨_, pss_cons (ps_while PassesOwn.never (PW.pt (pw_and (pt_cmpR (op_eq) (pe_dget hu (pv 0) (pe_str) (fun _ _ => rfl)) (pe_int) (nomark _)) (pw_and1 (pt_cmpR (op_gt) (pe_callB call_len_seq (by rfl) T.bi_len boot_len (pa_cons (pe_dget hu (pv 0) (pe_str) (fun _ _ => rfl)) (pa_nil))) (pe_int) (nomark _))))) (pss_one (ps_dput hu (pv 0) (pe_str) (pe_bm0 PySem.F.plainAttrs_list PySem.F.slot_list_pop PySem.F.type_list_pop mt_pop (pe_dget hu (pv 0) (pe_str) (fun _ _ => rfl))) rfl)))
      (pss_cons (ps_if (pt_cmpR (op_gt) (pe_dget hu (pv 0) (pe_str) (fun _ _ => rfl)) (pe_int) (nomark _)) (pss_cons (ps_set (i := 2) sc_law_draw.nd rfl (Or.inl rfl) (pe_op op_mod (pe_callTy call_int1 (by rfl) T.bi_int boot_int (pa_cons (pe_dget hu (pv 0) (pe_str) (fun _ _ => rfl)) (pa_nil))) (pv 1)))
        (pss_cons (ps_dput hu (pv 0) (pe_str) (pe_op op_fdiv (pe_dget hu (pv 0) (pe_str) (fun _ _ => rfl)) (pv 1)) rfl)
        (pss_one (ps_ret (pv 2))))) (pss_nil))
      (pss_cons (ps_dput hu (pv 0) (pe_str) (pe_op op_add (pe_dget hu (pv 0) (pe_str) (fun _ _ => rfl)) (pe_int)) rfl)
      (pss_cons (ps_set (i := 3) sc_law_draw.nd rfl (Or.inl rfl) (pe_op op_mod (pe_callTy call_int1 (by rfl) T.bi_int boot_int (pa_cons (pe_op op_add (pe_op op_mul (pe_dget hu (pv 0) (pe_str) (fun _ _ => rfl)) (pe_int)) (pe_op op_mul (pe_dget hu (pv 0) (pe_str) (fun _ _ => rfl)) (pe_int))) (pa_nil))) (pe_int)))
      (pss_cons (ps_set (i := 4) sc_law_draw.nd rfl (Or.inl rfl) (pe_op op_mod (pe_callTy call_int1 (by rfl) T.bi_int boot_int (pa_cons (pe_op op_add (pe_op op_mul (pv 3) (pv 3)) (pe_op op_mul (pe_dget hu (pv 0) (pe_str) (fun _ _ => rfl)) (pe_int))) (pa_nil))) (pe_int)))
      (pss_cons (ps_dput hu (pv 0) (pe_str) (pe_op op_add (pe_op op_mod (pe_callTy call_int1 (by rfl) T.bi_int boot_int (pa_cons (pe_op op_add (pe_op op_mul (pv 4) (pe_int)) (pv 3)) (pa_nil))) (pe_int)) (pe_int)) rfl)
      (pss_one (ps_ret (pe_op op_mod (pe_callTy call_int1 (by rfl) T.bi_int boot_int (pa_cons (pe_op op_add (pe_op op_fdiv (pv 4) (pe_int)) (pv 3)) (pa_nil))) (pv 1))))))))), ?_⟩
    obtain ⟨kvs, ns, I⟩ := Dw.of I
    refine q_while (fun n σ' H' => σ' = [some (.ref d), some (.int m), none, none, none] ∧ ∃ kvs ns, Dw d l Kn kvs ns H' ∧ ns.length = n) ns.length ⟨rfl, kvs, ns, I, rfl⟩ ?_
    rintro n σ' H' ⟨rfl, kvs, ns, I, rfl⟩
    obtain ⟨a, ha⟩ := I.ok.n
    refine ⟨decide (V.int a = V.int 0) && decide ((0 : Int) < ((ns.map V.int).length : Int)), et_and2 (et_test (ev_op (ev_dget (k := kNow) (ev_var rfl) ev_c I.hd ha) ev_c (rv_eq rfl)))
      (et_test (ev_op (ev_cb (ea_cons (ev_dget (k := kGreat) (ev_var rfl) ev_c I.hd I.ok.g) ea_nil) (rc_lenL (K := K) (sq_of I.hl))) ev_c rv_I0)), fun hb H1 e1 => ?_, fun hb H1 e1 => ?_⟩
    · have hn : 0 < ns.length := by
        rw [Bool.and_eq_true, decide_eq_true_eq, decide_eq_true_eq, List.length_map] at hb
        omega
      have I1 := I.up e1
      refine ⟨fun σ2 H2 => σ2 = [some (.ref d), some (.int m), none, none, none] ∧ ∃ kvs ns', Dw d l Kn kvs ns' H2 ∧ ns'.length < ns.length, fun σ2 H2 ⟨e, kvs, ns', I2, hl⟩ => ⟨ns'.length, hl, e, kvs, ns', I2, rfl⟩, ?_⟩
      refine ev_dget (k := kGreat) (ev_var rfl) ev_c I1.hd I1.ok.g H1 (Ex.refl H1) _ fun H2 e2 => ?_
      have I2 := I1.up e2
      obtain ⟨y, hy⟩ : ∃ y, ns[ns.length - 1]? = some y := ⟨ns[ns.length - 1]'(by omega), List.getElem?_eq_getElem (by omega)⟩
      refine ⟨Or.inl ⟨rfl, _, sq_of I2.hl⟩, l, _, .int y, rfl, rfl, I2.hl, by rw [List.length_map, List.getElem?_map, hy]; rfl, ?_⟩
      have hd : (upd H2 l (.lst (ns.map V.int).dropLast)) d = some (.dK kvs) := by
        rw [upd_ne I2.ne]
        exact I2.hd
      have I3 : Dw d l Kn kvs ns.dropLast (upd H2 l (.lst (ns.map V.int).dropLast)) := ⟨Ex.mut I2.ex I2.ln, I2.dn, I2.ln, hd, I2.ok, by rw [List.map_dropLast]; exact upd_same⟩
      refine ⟨_, rfl, d, _, rfl, DPut.k (k := kNow) hd I2.len, rfl, _, ns.dropLast, I3.put (Or.inl rfl) y, ?_⟩
      rw [List.length_dropLast]
      omega
    · have I1 := I.up e1
      refine q_when (b := decide (0 < a)) (et_test (ev_op (ev_dget (k := kNow) (ev_var rfl) ev_c I1.hd ha) ev_c rv_I0)) (fun hb H2 e2 => ?_) (fun hb H2 e2 => ?_)
      · have I2 := I1.up e2
        refine q_asg (ev_op (ev_cb (ea_cons (ev_dget (k := kNow) (ev_var rfl) ev_c I2.hd ha) ea_nil) rc_int1) (ev_var rfl) (rv_I m0)) fun H3 e3 => ?_
        have I3 := I2.up e3
        refine q_dput (k := kNow) I3 (Or.inl rfl) (ev_op (ev_dget (k := kNow) (ev_var rfl) ev_c I3.hd ha) (ev_var rfl) (rv_I ⟨m0, m1⟩)) (ev_var rfl) ev_c fun H4 I4 => ?_
        exact s_ret (ev_var rfl) fun H5 e5 => k _ _ (Int.emod_nonneg _ (by omega)) (Int.emod_lt_of_pos _ m0) (I4.up e5).in_
      · have I2 := I1.up e2
        obtain ⟨t, ht⟩ := I2.ok.t
        refine q_dput (k := kTurn) I2 (Or.inr (Or.inr rfl)) (ev_op (ev_dget (k := kTurn) (ev_var rfl) ev_c I2.hd ht) ev_c rv_I0) (ev_var rfl) ev_c fun H3 I3 => ?_
        obtain ⟨t3, ht3⟩ := I3.ok.t
        obtain ⟨x3, hx3⟩ := I3.ok.m
        refine q_asg (ev_op (ev_cb (ea_cons (ev_op (ev_op (ev_dget (k := kMixed) (ev_var rfl) ev_c I3.hd hx3) ev_c (rv_I (Or.inr ⟨by decide, by decide⟩))) (ev_op (ev_dget (k := kTurn) (ev_var rfl) ev_c I3.hd ht3) ev_c (rv_I (Or.inr ⟨by decide, by decide⟩))) rv_I0) ea_nil) rc_int1) ev_c (rv_I (by decide))) fun H4 e4 => ?_
        have I4 := I3.up e4
        generalize hf : (x3 * 48271 + t3 * 69621) % 2147483629 = first
        have f0 : 0 ≤ first := by rw [← hf]; exact Int.emod_nonneg _ (by decide)
        have f1 : first < 2147483629 := by rw [← hf]; exact Int.emod_lt_of_pos _ (by decide)
        refine q_asg (ev_op (ev_cb (ea_cons (ev_op (ev_op (ev_var rfl) (ev_var rfl) (rv_I (Or.inl ⟨by omega, by omega⟩))) (ev_op (ev_dget (k := kTurn) (ev_var rfl) ev_c I4.hd ht3) ev_c (rv_I (Or.inr ⟨by decide, by decide⟩))) rv_I0) ea_nil) rc_int1) ev_c (rv_I (by decide))) fun H5 e5 => ?_
        have I5 := I4.up e5
        refine q_dput (k := kMixed) I5 (Or.inr (Or.inl rfl)) (ev_op (ev_op (ev_cb (ea_cons (ev_op (ev_op (ev_var rfl) ev_c (rv_I (Or.inr ⟨by decide, by decide⟩))) (ev_var rfl) rv_I0) ea_nil) rc_int1) ev_c (rv_I (by decide))) ev_c rv_I0) (ev_var rfl) ev_c fun H6 I6 => ?_
        exact s_ret (ev_op (ev_cb (ea_cons (ev_op (ev_op (ev_var rfl) ev_c (rv_I ⟨by decide, by decide⟩)) (ev_var rfl) rv_I0) ea_nil) rc_int1) (ev_var rfl) (rv_I m0)) fun H7 e7 => k _ _ (Int.emod_nonneg _ (by omega)) (Int.emod_lt_of_pos _ m0) (I6.up e7).in_
theorem x_add {i j : Int} {H : Hp} {Q : VK} (q : Q (.int (i + j)) H) : (rI0 fun i j => V.int (i + j)) (.int i) (.int j) H Q := ⟨i, j, rfl, rfl, q⟩
theorem x_ret {te : TE} {D : Ends} {σ : L2.St} {H : Hp} (h : te σ H D.rt) : tRet te D σ H := h
theorem x_op {r : R2} {ta tb : TE} {σ : L2.St} {H : Hp} {Q : VK} (h : ta σ H fun x H1 => tb σ H1 fun y H2 => r x y H2 Q) : tOp r ta tb σ H Q := h
theorem x_asg {te : TE} {tz : TS} {i : Nat} {D : Ends} {σ : L2.St} {H : Hp} (h : te σ H fun v H1 => tz D (σ.set i (some v)) H1) : tSeq (tAsg te (gName i)) tz D σ H := h
theorem x_tup {ta : TA} {σ : L2.St} {H : Hp} {Q : VK} (h : ta σ H fun xs H1 => xs.length ≤ sizeLine ∧ ∀ p, H1 p = none → Q (.ref p) (upd H1 p (.tup xs))) : tTup ta σ H Q := h
theorem x_lst {ta : TA} {σ : L2.St} {H : Hp} {Q : VK} (h : ta σ H fun xs H1 => xs.length ≤ sizeLine ∧ ∀ p, H1 p = none → Q (.ref p) (upd H1 p (.lst xs))) : tLst ta σ H Q := h
theorem x_cons {te : TE} {tr : TA} {σ : L2.St} {H : Hp} {Q : List V → Hp → Prop} (h : te σ H fun x H1 => tr σ H1 fun xs H2 => Q (x :: xs) H2) : tCons te tr σ H Q := h
theorem x_nil {σ : L2.St} {H : Hp} {Q : List V → Hp → Prop} (h : Q [] H) : tNil σ H Q := h
theorem x_par {i j : Nat} {ta tb : TE} {tz : TS} {D : Ends} {σ : L2.St} {H : Hp} (h : ta σ H fun x H1 => tb σ H1 fun y H2 => tz D ((σ.set i (some x)).set j (some y)) H2) : tSeq (tPar i j (tCons ta (tCons tb tNil))) tz D σ H := by
  show tCons ta (tCons tb tNil) σ H fun vs H1 => ∃ v w, vs = [v, w] ∧ tz D ((σ.set i (some v)).set j (some w)) H1
  refine x_cons ?_
  exact cast (congrArg (fun q => ta σ H q) (funext fun x => funext fun H1 => by
    show (tb σ H1 fun y H2 => tz D ((σ.set i (some x)).set j (some y)) H2) = (tb σ H1 fun y H2 => ∃ v w, [x, y] = [v, w] ∧ tz D ((σ.set i (some v)).set j (some w)) H2)
    refine congrArg (fun q => tb σ H1 q) (funext fun y => funext fun H2 => propext ⟨fun h => ⟨x, y, rfl, h⟩, fun ⟨v, w, e, h⟩ => by cases e; exact h⟩))) h
/-- a draw in an expression -/
theorem x_draw {σ : L2.St} {d l : Addr} {Kn H : Hp} {E : XK} {ta : TA} {m : Int} {Q : VK} (I : In d l Kn H) (m0 : 0 < m) (m1 : m < 1073741824) (h : EvA ta σ Kn [.ref d, .int m]) (k : ∀ v H', 0 ≤ v → v < m → In d l Kn H' → Q (.int v) H') : tCall spDraw [] E ta σ H Q :=
  h H I.ex _ fun H2 e2 => ⟨d, l, m, Kn, rfl, m0, m1, I.to e2, k⟩
theorem ok_pick {f : Addr} {fd : FuncData} (D : C8.Def K mg "_law_pick" st_law_pick f fd) (b : Binds K fd ["_law_deal_here", "_law_some"] []) (T : Tb K mg CR aB aH) (c_law_draw : C8.Cal P w K mg base 2 "_law_draw" spDraw []) : C8.Cal P w K mg base 3 "_law_pick" (spPick K) [] := by
  refine C8.cal0 D b .nil sc_law_pick (fun vs H Q E h => ?_) (fun cdv A outer s H vs Q E hr h => ?_)
  · obtain ⟨d, l, p, xs, Kn, rfl, _⟩ := h
    rfl
  · obtain ⟨d, l, p, xs, Kn, rfl, hp, h0, h1, I, k⟩ := h
    refine ⟨_, pss_one (ps_ret (pe_ix ix_list (pv 1) (C8.pe_c c_law_draw hr (by decide) (by rfl) (pa_cons (pv 0) (pa_cons (pe_callB call_len_seq (by rfl) T.bi_len boot_len (pa_cons (pv 1) (pa_nil))) (pa_nil)))) (fun _ _ => rfl))), ?_⟩
    refine x_ret (x_op (I.ev (ev_var rfl) fun H1 I1 => ?_))
    refine x_draw (m := (xs.length : Int)) I1 (by omega) (by omega) (ea_cons (ev_var rfl) (ea_cons (ev_cb (ea_cons (ev_var rfl) ea_nil) (rc_lenL hp)) ea_nil)) fun v H2 v0 v1 I2 => ?_
    obtain ⟨n, rfl⟩ : ∃ n : Nat, v = (n : Int) := ⟨v.toNat, by omega⟩
    have hv : n < xs.length := by omega
    exact ⟨p, xs, (n : Int), xs[n], rfl, rfl, ex_l I2.ex hp, atI_nat (List.getElem?_eq_getElem hv), k _ _ (List.getElem_mem hv) I2⟩
theorem x_pick {σ : L2.St} {d l p : Addr} {Kn H : Hp} {E : XK} {ta : TA} {xs : List V} {Q : VK} (I : In d l Kn H) (hp : SqL K Kn p xs) (h0 : 0 < xs.length) (h1 : xs.length < 1000000) (h : EvA ta σ Kn [.ref d, .ref p]) (k : ∀ v H', v ∈ xs → In d l Kn H' → Q v H') : tCall (spPick K) [] E ta σ H Q :=
  h H I.ex _ fun H2 e2 => ⟨d, l, p, xs, Kn, rfl, hp, h0, h1, I.to e2, k⟩
theorem x_call {sp : Sp} {dvs : List V} {E : XK} {t : TA} {σ : L2.St} {H : Hp} {Q : VK} (h : t σ H fun vs H1 => sp (vs ++ dvs) H1 Q E) : tCall sp dvs E t σ H Q := h
theorem In.lay {d l : Addr} {Kn H : Hp} {p : Addr} {o : HO} (h : In d l Kn H) (np : H p = none) : In d l (upd Kn p o) (upd H p o) ∧ Ex Kn (upd Kn p o) := h.new np (Ex.new np) upd_same
theorem In.apart {d l L : Addr} {Kn H : Hp} (I : In d l Kn H) (h : H L = none) : L ≠ d ∧ L ≠ l := by
  obtain ⟨kvs, ms, g1, _, g3⟩ := I.dk
  exact ⟨fun z => (by subst z; rw [g1] at h; cases h), fun z => (by subst z; rw [g3] at h; cases h)⟩
theorem x_catT {d l a b : Addr} {Kn H : Hp} {xs ys : List V} {Q : VK} (I : In d l Kn H) (hx : SqT K Kn a xs) (hy : SqT K Kn b ys) (x0 : xs ≠ []) (y0 : ys ≠ []) (z : xs.length + ys.length ≤ 1000)
    (k : ∀ p K1 H1, Ex Kn K1 → K1 p = some (.tup (xs ++ ys)) → In d l K1 H1 → Q (.ref p) H1) : rCatT K (.ref a) (.ref b) H Q :=
  ⟨a, b, xs, ys, rfl, rfl, ex_t I.ex hx, ex_t I.ex hy, x0, Nat.le_trans z (by decide), fun e => (y0 e).elim, fun _ p np => k p _ _ (I.lay np).2 upd_same (I.lay np).1⟩
end

/-! ### the source made of a script -/
section
variable {P : Program} {w : World} {K : PySem.W.Frag} {mg : Str → Option Value} {base : Heap} {CR aB aH : Addr}
theorem et_yes {σ : L2.St} {H : Hp} : EvT tYes σ H true := fun H1 _ _ q => q H1 (Ex.refl H1)
theorem given_int (n : Nat) (f : Nat → Bool) (g : Nat → Int) : given n f (fun i => V.int (g i)) = (((List.range n).filter f).map g).map V.int := by
  unfold given
  rw [List.map_map]
  rfl
theorem given_int_len (n : Nat) (f : Nat → Bool) (g : Nat → Int) : (((List.range n).filter f).map g).length ≤ n := by
  rw [List.length_map]
  have h := List.length_filter_le f (List.range n)
  rw [List.length_range] at h
  exact h
theorem cut_int (ns : List Int) (lo hi : Option Int) : ∃ ms : List Int, cutV (ns.map V.int) lo hi = ms.map V.int ∧ ms.length ≤ ns.length := by
  refine ⟨(ns.drop (HT.sIx (ns.map V.int).length 0 lo)).take (HT.sIx (ns.map V.int).length (ns.map V.int).length hi - HT.sIx (ns.map V.int).length 0 lo), ?_, ?_⟩
  · unfold cutV
    rw [List.map_take, List.map_drop]
  · rw [List.length_take, List.length_drop]
    omega
theorem at_int {ns : List Int} {i : Nat} {x : V} (h : (ns.map V.int)[i]? = some x) : x = .int (ns.getD i 0) ∧ i < ns.length := by
  rw [List.getElem?_map] at h
  cases e : ns[i]? with
  | none =>
    rw [e] at h
    cases h
  | some z =>
    rw [e] at h
    rw [List.getD_eq_getElem?_getD, e]
    exact ⟨(Option.some.inj h).symm, (List.getElem?_eq_some_iff.mp e).1⟩
theorem ok_deal {f : Addr} {fd : FuncData} (D : C8.Def K mg "_law_deal" st_law_deal f fd) (b : Binds K fd ["_law_script", "_law_base"] []) (T : Tb K mg CR aB aH) : C8.Cal P w K mg base 2 "_law_deal" (spDeal K) [] := by
  refine C8.cal0 D b .nil sc_law_deal (fun vs H Q E h => ?_) (fun cdv A outer s H vs Q E hr h => ?_)
  · obtain ⟨a, b, ns, rfl, _⟩ := h
    rfl
  · obtain ⟨a, b, ns, rfl, hs, hn, b0, b1, k⟩ := h
    refine ⟨_, pss_cons (ps_setLc (i := 2) (own := [("_law_cell", 3)]) (g := gName 3) (tt := tYes) (by rfl) sc_law_deal.nd rfl rfl (sw_true rfl rfl rfl (by decide +kernel)) (pi_list (pe_slice sl_list (pv 0) (po_some (pv 1)) (po_some (pe_int)))) (blkOk_by (own := [("_law_cell", 3)]) (N := ["_law_script", "_law_base", "_law_cells", "_law_cell", "_law_mixed", "_law_great"]) (sc := C8.fnScope st_law_deal) (by decide +kernel)) (fun _ _ _ _ _ => pg_name (i := 3) sc_law_deal.nd rfl (Or.inl rfl)) (fun _ _ _ _ _ => pts_nil) (fun _ _ _ _ _ => pe_callB call_abs (by rfl) T.bi_abs boot_abs (pa_cons (pv 3) (pa_nil))))
      (pss_cons (ps_set (i := 4) sc_law_deal.nd rfl (Or.inl rfl) (pe_op op_add (pe_int) (pv 1)))
      (pss_cons (ps_for PassesOwn.never rfl (pi_list (pv 2)) (pg_name (i := 3) sc_law_deal.nd rfl (Or.inl rfl)) (pss_one (ps_set (i := 4) sc_law_deal.nd rfl (Or.inl rfl) (pe_op op_mod (pe_callTy call_int1 (by rfl) T.bi_int boot_int (pa_cons (pe_op op_add (pe_op op_mul (pv 4) (pe_int)) (pv 3)) (pa_nil))) (pe_int)))))
      (pss_cons (ps_setLc (i := 5) (own := [("_law_cell", 3)]) (g := gName 3) (by rfl) sc_law_deal.nd rfl rfl (sw_true rfl rfl rfl (by decide +kernel)) (pi_list (pv 2)) (blkOk_by (own := [("_law_cell", 3)]) (N := ["_law_script", "_law_base", "_law_cells", "_law_cell", "_law_mixed", "_law_great"]) (sc := C8.fnScope st_law_deal) (by decide +kernel)) (fun _ _ _ _ _ => pg_name (i := 3) sc_law_deal.nd rfl (Or.inl rfl)) (fun _ _ _ _ _ => pts_one (pt_cmpR (op_ge) (pv 3) (pe_op op_pow (pe_int) (pe_int)) (nomark _))) (fun _ _ _ _ _ => pv 3))
      (pss_one (ps_ret (pe_disp (pps_cons (pe_str) (pe_revL (pv 5)) (pps_cons (pe_str) (pe_int) (pps_cons (pe_str) (pe_op op_add (pv 4) (pe_int)) (pps_cons (pe_str) (pe_int) (pps_nil))))) (by rfl) (by rfl) (fun z => by cases z) (by decide))))))), ?_⟩
    obtain ⟨ms, hm, hml⟩ := cut_int ns (some b) (some 63)
    refine q_asgL (el_lcNL (fun _ => true) (fun i => .int (if ms.getD i 0 < 0 then -(ms.getD i 0) else ms.getD i 0)) (el_sl (ev_var rfl) (eo_some (ev_var rfl)) (eo_some ev_c) hs) (Nat.le_trans (cutV_length _ _ _) (by rw [List.length_map]; omega)) (fun _ => rfl)
      (fun i x H1 _ _ => et_yes) (fun i x H1 _ hx _ => ?_)) ?_
    · rw [hm] at hx
      obtain ⟨rfl, _⟩ := at_int hx
      exact ev_cb (ea_cons (ev_var rfl) ea_nil) rc_abs
    rw [given_int]
    generalize hcs : (((List.range (cutV (ns.map V.int) (some b) (some 63)).length).filter fun _ => true).map fun i => if ms.getD i 0 < 0 then -(ms.getD i 0) else ms.getD i 0) = cs
    have hcl : cs.length ≤ 63 := by
      rw [← hcs]
      refine Nat.le_trans (given_int_len _ _ _) (Nat.le_trans (cutV_length _ _ _) ?_)
      rw [List.length_map]
      exact hn
    intro pc H1 _ e1 hc
    refine q_asg (ev_op ev_c (ev_var rfl) rv_I0) fun H2 e2 => ?_
    have hc2 := e2 _ _ hc
    refine q_forLn (K := K) (xs := cs.map V.int) (ev_var rfl) (sq_of hc2) (fun i σ' H' => ∃ (x : Int) (c : Option V), σ' = [some (.ref a), some (.int b), some (.ref pc), c, some (.int x), none] ∧ Ex H2 H') (fun H3 e3 => ⟨_, _, rfl, e3⟩)
      (fun i σ' H' _ ⟨_, _, _, e⟩ => sq_of (e _ _ hc2)) ?_ ?_
    · rintro i x σ' H' hx ⟨z, c, rfl, e⟩
      obtain ⟨rfl, _⟩ := at_int hx
      exact s_asg (ev_op (ev_cb (ea_cons (ev_op (ev_op (ev_var rfl) ev_c (rv_I (Or.inr ⟨by decide, by decide⟩))) (ev_var rfl) rv_I0) ea_nil) rc_int1) ev_c (rv_I (by decide))) fun H4 e4 => ⟨_, _, rfl, e.trans e4⟩
    · rintro σ' H3 ⟨z, c, rfl, e3⟩
      have hc3 := e3 _ _ hc2
      refine q_asgL (el_lcL (K := K) (fun i => decide ((10 : Int) ^ (18 : Int).toNat ≤ cs.getD i 0)) (fun i => .int (cs.getD i 0)) (ev_var rfl) (sq_of hc3) (by rw [List.length_map]; omega) (fun _ => rfl) (fun i x H4 _ hx => ?_) (fun i x H4 _ hx _ => ?_)) ?_
      · obtain ⟨rfl, _⟩ := at_int hx
        exact et_test (ev_op (ev_var rfl) (ev_op ev_c ev_c (rv_I ⟨by decide, by decide, by decide⟩)) rv_I0)
      · obtain ⟨rfl, _⟩ := at_int hx
        exact ev_var rfl
      rw [given_int]
      generalize (((List.range (cs.map V.int).length).filter fun i => decide ((10 : Int) ^ (18 : Int).toNat ≤ cs.getD i 0)).map fun i => cs.getD i 0) = gs
      intro pg H4 _ e4 hg
      intro d nd
      have ng : pg ≠ d := ne_of_none hg nd
      refine ⟨_, rfl, pg, gs.map V.int, rfl, sq_of (by rw [upd_ne ng]; exact hg), fun l nl => ?_⟩
      have ndl : d ≠ l := fun q => by
        subst q
        rw [upd_same] at nl
        cases nl
      have nl4 : H4 l = none := by
        rw [upd_ne ndl.symm] at nl
        exact nl
      refine ⟨_, rfl, _, _, rfl, rfl, ?_⟩
      refine ⟨by rw [upd_ne ndl, upd_same], [(kGreat, .ref l), (kNow, .int 0), (kMixed, .int (z + 1)), (kTurn, .int 0)], rfl, (by show 4 ≤ 15; decide), ?_⟩
      have e04 : Ex H H4 := e1.trans (e2.trans (e3.trans e4))
      have hm : mergeK [] [(kGreat, .ref l), (kNow, V.int 0), (kMixed, .int (z + 1)), (kTurn, .int 0)] = putK (putK (putK (putK [] kGreat (.ref l)) kNow (.int 0)) kMixed (.int (z + 1))) kTurn (.int 0) := rfl
      rw [hm]
      refine k d l _ (fresh_back e04 nd) (fresh_back e04 nl4) ?_ ⟨_, gs.reverse, upd_same, ⟨?_, ?_, ⟨0, ?_⟩, ⟨z + 1, ?_⟩, ⟨0, ?_⟩⟩, ?_⟩
      · intro x o ho
        have h4 := e04 _ _ ho
        rw [upd_ne (ne_of_none h4 nd), upd_ne (ne_of_none h4 nl4), upd_ne (ne_of_none h4 nd)]
        exact h4
      · exact Nat.le_trans (length_putK _ _ _) (Nat.succ_le_succ (Nat.le_trans (length_putK _ _ _) (Nat.succ_le_succ (Nat.le_trans (length_putK _ _ _) (Nat.succ_le_succ (length_putK _ _ _))))))
      · rw [valV_put, if_neg (by decide +kernel), valV_put, if_neg (by decide +kernel), valV_put, if_neg (by decide +kernel), valV_put, if_pos rfl]
      · rw [valV_put, if_neg (by decide +kernel), valV_put, if_neg (by decide +kernel), valV_put, if_pos rfl]
      · rw [valV_put, if_neg (by decide +kernel), valV_put, if_pos rfl]
      · rw [valV_put, if_pos rfl]
      · rw [upd_ne ndl.symm, upd_same, List.map_reverse]
end

/-! ### drawn rules -/
structure RuleS (r : RuleD) : Prop where
  of : r.of ≤ 4
  base : r.base ≤ 3
  more : r.more ≤ 3
  most : r.most ≤ r.base + 4
  calm : r.calm ≤ 3
  under : r.under ≤ 6
def spDrawn : Sp := fun vs H Q _ => ∃ (d l : Addr) (Kn : Hp), vs = [.ref d] ∧ In d l Kn H ∧ ∀ r p K1 H1, RuleD.ok r → RuleS r → Ex Kn K1 → K1 p = some (.tup r.vals) → In d l K1 H1 → Q (.ref p) H1
section
variable {P : Program} {w : World} {K : PySem.W.Frag} {mg : Str → Option Value} {base : Heap} {CR aB aH : Addr}
theorem ok_drawn {f : Addr} {fd : FuncData} (D : C8.Def K mg "_law_drawn_rule" st_law_drawn_rule f fd) (b : Binds K fd ["_law_deal_here"] []) (c_law_draw : C8.Cal P w K mg base 2 "_law_draw" spDraw []) (c_law_pick : C8.Cal P w K mg base 3 "_law_pick" (spPick K) []) :
    C8.Cal P w K mg base 4 "_law_drawn_rule" spDrawn [] := by
  refine C8.cal0 D b .nil sc_law_drawn_rule (fun vs H Q E h => ?_) (fun cdv A outer s H vs Q E hr h => ?_)
  · obtain ⟨d, l, Kn, rfl, _⟩ := h
    rfl
  · obtain ⟨d, l, Kn, rfl, I, k⟩ := h
    refine ⟨_, pss_cons (ps_set (i := 1) sc_law_drawn_rule.nd rfl (Or.inl rfl) (pe_op op_add (pe_int) (C8.pe_c c_law_draw hr (by decide) (by rfl) (pa_cons (pv 0) (pa_cons (pe_int) (pa_nil))))))
      (pss_cons (ps_par (by rfl) sc_law_drawn_rule.nd (i := 2) (j := 3) rfl rfl (by decide) rfl rfl (pa_cons (pe_op op_add (pe_int) (C8.pe_c c_law_draw hr (by decide) (by rfl) (pa_cons (pv 0) (pa_cons (pe_int) (pa_nil))))) (pa_cons (pe_op op_add (pe_int) (C8.pe_c c_law_draw hr (by decide) (by rfl) (pa_cons (pv 0) (pa_cons (pe_int) (pa_nil))))) pa_nil)) (by rfl))
      (pss_cons (ps_set (i := 4) sc_law_drawn_rule.nd rfl (Or.inl rfl) (pe_tup (pa_cons (pe_op op_add (pe_int) (C8.pe_c c_law_draw hr (by decide) (by rfl) (pa_cons (pv 0) (pa_cons (pv 1) (pa_nil))))) (pa_cons (pv 1) (pa_cons (pv 2) (pa_cons (C8.pe_c c_law_draw hr (by decide) (by rfl) (pa_cons (pv 0) (pa_cons (pe_int) (pa_nil)))) (pa_cons (pe_op op_add (pv 2) (C8.pe_c c_law_draw hr (by decide) (by rfl) (pa_cons (pv 0) (pa_cons (pe_int) (pa_nil))))) (pa_nil))))))))
      (pss_cons (ps_set (i := 4) sc_law_drawn_rule.nd rfl (Or.inl rfl) (pe_op op_catT (pv 4) (pe_tup (pa_cons (C8.pe_c c_law_draw hr (by decide) (by rfl) (pa_cons (pv 0) (pa_cons (pe_int) (pa_nil)))) (pa_nil)))))
      (pss_cons (ps_set (i := 5) sc_law_drawn_rule.nd rfl (Or.inl rfl) (C8.pe_c c_law_pick hr (by decide) (by rfl) (pa_cons (pv 0) (pa_cons (pe_lst (pa_cons (C8.pe_c c_law_draw hr (by decide) (by rfl) (pa_cons (pv 0) (pa_cons (pe_op op_add (pv 3) (pe_int)) (pa_nil)))) (pa_cons (C8.pe_c c_law_draw hr (by decide) (by rfl) (pa_cons (pv 0) (pa_cons (pe_op op_add (pv 3) (pe_int)) (pa_nil)))) (pa_cons (pv 3) (pa_cons (pe_int) (pa_nil)))))) (pa_nil)))))
      (pss_cons (ps_par (by rfl) sc_law_drawn_rule.nd (i := 6) (j := 7) rfl rfl (by decide) rfl rfl (pa_cons (C8.pe_c c_law_pick hr (by decide) (by rfl) (pa_cons (pv 0) (pa_cons (pe_lst (pa_cons (pe_str) (pa_cons (pe_str) (pa_cons (pe_str) (pa_nil))))) (pa_nil)))) (pa_cons (C8.pe_c c_law_pick hr (by decide) (by rfl) (pa_cons (pv 0) (pa_cons (pe_lst (pa_cons (pe_str) (pa_cons (pe_str) (pa_cons (pe_str) (pa_nil))))) (pa_nil)))) pa_nil)) (by rfl))
      (pss_one (ps_ret (pe_op op_catT (pv 4) (pe_tup (pa_cons (pv 6) (pa_cons (pv 5) (pa_cons (pv 3) (pa_cons (pe_cmpR (op_eq) (C8.pe_c c_law_draw hr (by decide) (by rfl) (pa_cons (pv 0) (pa_cons (pe_int) (pa_nil)))) (pe_int) (nomark _)) (pa_cons (pv 7) (pa_nil))))))))))))))), ?_⟩
    -- the window, the base, the share's lower part
    refine x_asg (x_op (I.ev ev_c fun _ I => x_draw I (by decide) (by decide) (ea_cons (ev_var rfl) (ea_cons ev_c ea_nil)) fun v1 H a1 b1 I => ⟨_, _, rfl, rfl, ?_⟩))
    refine x_par (x_op (I.ev ev_c fun _ I => x_draw I (by decide) (by decide) (ea_cons (ev_var rfl) (ea_cons ev_c ea_nil)) fun v2 H a2 b2 I => ⟨_, _, rfl, rfl, ?_⟩))
    refine x_op (I.ev ev_c fun _ I => x_draw I (by decide) (by decide) (ea_cons (ev_var rfl) (ea_cons ev_c ea_nil)) fun v3 H a3 b3 I => ⟨_, _, rfl, rfl, ?_⟩)
    -- the first five
    refine x_asg (x_tup (x_cons (x_op (I.ev ev_c fun _ I => x_draw I (m := 1 + v1) (by omega) (by omega) (ea_cons (ev_var rfl) (ea_cons (ev_var rfl) ea_nil)) fun v4 H a4 b4 I => ⟨_, _, rfl, rfl, ?_⟩))))
    refine x_cons (I.ev (ev_var rfl) fun _ I => x_cons (I.ev (ev_var rfl) fun _ I => x_cons (x_draw I (by decide) (by decide) (ea_cons (ev_var rfl) (ea_cons ev_c ea_nil)) fun v5 H a5 b5 I => ?_)))
    refine x_cons (x_op (I.ev (ev_var rfl) fun _ I => x_draw I (by decide) (by decide) (ea_cons (ev_var rfl) (ea_cons ev_c ea_nil)) fun v6 H a6 b6 I => ⟨_, _, rfl, rfl, x_nil ⟨(by show 5 ≤ sizeLine; decide), fun p1 np1 => ?_⟩⟩))
    obtain ⟨I1, e1⟩ := I.lay (o := .tup [.int (1 + v4), .int (1 + v1), .int (1 + v2), .int v5, .int (1 + v2 + v6)]) np1
    -- and calm
    refine x_asg (x_op (I1.ev (ev_var rfl) fun _ I => x_tup (x_cons (x_draw I (by decide) (by decide) (ea_cons (ev_var rfl) (ea_cons ev_c ea_nil)) fun v7 H a7 b7 I => x_nil ⟨(by show 1 ≤ sizeLine; decide), fun p2 np2 => ?_⟩))))
    obtain ⟨I2, e2⟩ := I.lay (o := .tup [.int v7]) np2
    refine x_catT I2 (st_of (e2 _ _ upd_same)) (st_of upd_same) (by simp) (by simp) (by show 6 ≤ 1000; decide) fun p3 K3 H3 e3 h3 I3 => ?_
    -- the share's upper part
    refine x_asg (x_call (x_cons (I3.ev (ev_var rfl) fun _ I => x_cons (x_lst (x_cons (x_draw I (m := 1 + v3 + 1) (by omega) (by omega) (ea_cons (ev_var rfl) (ea_cons (ev_op (ev_var rfl) ev_c rv_I0) ea_nil)) fun v8 H a8 b8 I => ?_))))))
    refine x_cons (x_draw I (m := 1 + v3 + 1) (by omega) (by omega) (ea_cons (ev_var rfl) (ea_cons (ev_op (ev_var rfl) ev_c rv_I0) ea_nil)) fun v9 H a9 b9 I => ?_)
    refine x_cons (I.ev (ev_var rfl) fun _ I => x_cons (I.ev ev_c fun H I => x_nil ⟨(by show 4 ≤ sizeLine; decide), fun p4 np4 => ?_⟩))
    obtain ⟨I4, e4⟩ := I.lay (o := .lst [.int v8, .int v9, .int (1 + v3), .int 1]) np4
    refine x_nil ⟨d, l, p4, _, _, rfl, sq_of upd_same, by show 0 < 4; decide, by show 4 < 1000000; decide, I4, fun top H ht I => ?_⟩
    obtain ⟨t, rfl, t0, t1⟩ : ∃ t : Int, top = .int t ∧ 0 ≤ t ∧ t ≤ 1 + v3 := by
      rcases List.mem_cons.mp ht with rfl | ht
      · exact ⟨v8, rfl, by omega, by omega⟩
      rcases List.mem_cons.mp ht with rfl | ht
      · exact ⟨v9, rfl, by omega, by omega⟩
      rcases List.mem_cons.mp ht with rfl | ht
      · exact ⟨1 + v3, rfl, by omega, by omega⟩
      rcases List.mem_cons.mp ht with rfl | ht
      · exact ⟨1, rfl, by omega, by omega⟩
      · cases ht
    have I := I.less e4
    -- how it comes back, what it hears
    refine x_par (x_call (x_cons (I.ev (ev_var rfl) fun _ I => x_cons (x_lst (x_cons (I.ev ev_c fun _ I => x_cons (I.ev ev_c fun _ I => x_cons (I.ev ev_c fun H I => x_nil ⟨(by show 3 ≤ sizeLine; decide), fun p5 np5 => ?_⟩))))))))
    obtain ⟨I5, e5⟩ := I.lay (o := .lst [.str "half", .str "open", .str "trial"]) np5
    refine x_nil ⟨d, l, p5, _, _, rfl, sq_of upd_same, by show 0 < 3; decide, by show 3 < 1000000; decide, I5, fun back H hb I => ?_⟩
    obtain ⟨bk, rfl, hbk⟩ : ∃ x : Str, back = .str x ∧ (x = "half" ∨ x = "open" ∨ x = "trial") := by
      rcases List.mem_cons.mp hb with rfl | hb
      · exact ⟨_, rfl, .inl rfl⟩
      rcases List.mem_cons.mp hb with rfl | hb
      · exact ⟨_, rfl, .inr (.inl rfl)⟩
      rcases List.mem_cons.mp hb with rfl | hb
      · exact ⟨_, rfl, .inr (.inr rfl)⟩
      · cases hb
    have I := I.less e5
    refine x_call (x_cons (I.ev (ev_var rfl) fun _ I => x_cons (x_lst (x_cons (I.ev ev_c fun _ I => x_cons (I.ev ev_c fun _ I => x_cons (I.ev ev_c fun H I => x_nil ⟨(by show 3 ≤ sizeLine; decide), fun p6 np6 => ?_⟩)))))))
    obtain ⟨I6, e6⟩ := I.lay (o := .lst [.str "fault", .str "no", .str "out"]) np6
    refine x_nil ⟨d, l, p6, _, _, rfl, sq_of upd_same, by show 0 < 3; decide, by show 3 < 1000000; decide, I6, fun hears H hh I => ?_⟩
    obtain ⟨he, rfl, hhe⟩ : ∃ x : Str, hears = .str x ∧ (x = "fault" ∨ x = "no" ∨ x = "out") := by
      rcases List.mem_cons.mp hh with rfl | hh
      · exact ⟨_, rfl, .inl rfl⟩
      rcases List.mem_cons.mp hh with rfl | hh
      · exact ⟨_, rfl, .inr (.inl rfl)⟩
      rcases List.mem_cons.mp hh with rfl | hh
      · exact ⟨_, rfl, .inr (.inr rfl)⟩
      · cases hh
    have I := I.less e6
    refine x_ret (x_op (I.ev (ev_var rfl) fun _ I => x_tup (x_cons (I.ev (ev_var rfl) fun _ I => x_cons (I.ev (ev_var rfl) fun _ I => x_cons (I.ev (ev_var rfl) fun _ I => x_cons (x_op (x_draw I (by decide) (by decide) (ea_cons (ev_var rfl) (ea_cons ev_c ea_nil)) fun v10 H a10 b10 I => ⟨rfl, ?_⟩))))))))
    refine x_cons (I.ev (ev_var rfl) fun H I => x_nil ⟨(by show 5 ≤ sizeLine; decide), fun p7 np7 => ?_⟩)
    obtain ⟨I7, e7⟩ := I.lay (o := .tup [.str bk, .int t, .int (1 + v3), .bl (decide (V.int v10 = V.int 0)), .str he]) np7
    refine x_catT I7 (st_of (e7 _ _ h3)) (st_of upd_same) (by simp) (by simp) (by show 11 ≤ 1000; decide) fun p8 K8 H8 e8 h8 I8 => ?_
    exact k ⟨1 + v4, 1 + v1, 1 + v2, v5, 1 + v2 + v6, v7, bk, t, 1 + v3, decide (V.int v10 = V.int 0), he⟩ p8 K8 H8
      ⟨by show 1 ≤ 1 + v4; omega, by show 1 + v4 ≤ 1 + v1; omega, by show 1 ≤ 1 + v2; omega, a5, by show 1 + v2 ≤ 1 + v2 + v6; omega, a7, hbk, t0, by show 1 ≤ 1 + v3; omega, t1, hhe, by show v5 < 1000000; omega, by show 1 + v3 < 1000000; omega⟩
      ⟨by show 1 + v1 ≤ 4; omega, by show 1 + v2 ≤ 3; omega, by show v5 ≤ 3; omega, by show 1 + v2 + v6 ≤ 1 + v2 + 4; omega, by show v7 ≤ 3; omega, by show 1 + v3 ≤ 6; omega⟩
      (e1.trans (e2.trans (e3.trans (e7.trans e8)))) h8 I8
theorem x_drawn {σ : L2.St} {d l : Addr} {Kn H : Hp} {E : XK} {ta : TA} {Q : VK} (I : In d l Kn H) (h : EvA ta σ Kn [.ref d]) (k : ∀ r p K1 H1, RuleD.ok r → RuleS r → Ex Kn K1 → K1 p = some (.tup r.vals) → In d l K1 H1 → Q (.ref p) H1) : tCall spDrawn [] E ta σ H Q :=
  h H I.ex _ fun H2 e2 => ⟨d, l, Kn, rfl, I.to e2, k⟩
end

/-! ### a law's own words -/
section
variable {P : Program} {w : World} {K : PySem.W.Frag} {mg : Str → Option Value} {base : Heap} {CR aB aH : Addr}
def spLaw (K : PySem.W.Frag) : Sp := fun vs H Q _ => ∃ (a : Addr) (ns : List Int), vs = [.ref a] ∧ SqL K H a (ns.map V.int) ∧ ns.length ≤ 63 ∧ ∀ H', Q (.bl true) H'
theorem x_deal {σ : L2.St} {a : Addr} {b : Int} {ns : List Int} {H : Hp} {E : XK} {ta : TA} {Q : VK} (h : EvA ta σ H [.ref a, .int b]) (hs : SqL K H a (ns.map V.int)) (hn : ns.length ≤ 63) (b0 : 0 ≤ b) (b1 : b ≤ 100) (k : ∀ d l H', In d l H H' → Q (.ref d) H') : tCall (spDeal K) [] E ta σ H Q :=
  h H (Ex.refl H) _ fun H2 e2 => ⟨a, b, ns, rfl, ex_l e2 hs, hn, b0, b1, fun d l H' nd nl e dk => k d l H' ⟨e2.trans e, fresh_back e2 nd, fresh_back e2 nl, dk⟩⟩
theorem x_meth {C : Addr} {m : Str} {sp : Sp} {dvs : List V} {E : XK} {ta : TE} {t : TA} {σ : L2.St} {H : Hp} {Q : VK} (h : ta σ H fun x H1 => ∃ a dx fs, x = .ref a ∧ H1 a = some (.ins C dx fs) ∧ fs.lookup m = none ∧ t σ H1 fun vs H2 => sp (x :: (vs ++ dvs)) H2 Q E) : tMeth C m sp dvs E ta t σ H Q := h
theorem x_asgG {te : TE} {g : TG} {tz : TS} {D : Ends} {σ : L2.St} {H : Hp} (h : te σ H fun v H1 => g v σ H1 fun σ2 H2 => tz D σ2 H2) : tSeq (tAsg te g) tz D σ H := h
end

/-! ### the text of a rule -/
structure RuleT (r : RuleD) : Prop where
  ok : r.ok
  of : r.of < 1000000
  most : r.most < 1000000
  calm : r.calm < 1000000
/-- numbers of at most two digits -/
structure RuleN (r : RuleD) : Prop where
  ok : r.ok
  of : r.of < 100
  most : r.most < 100
  calm : r.calm < 100
  more : r.more < 100
  under : r.under < 100
theorem RuleN.t {r : RuleD} (h : RuleN r) : RuleT r := ⟨h.ok, by have := h.of; omega, by have := h.most; omega, by have := h.calm; omega⟩
abbrev wl (s : String) : List Nat := s.toList.map Char.toNat
abbrev num (i : Int) : List Nat := TL.numL i.toNat
def sideW (up : Bool) : List Nat := if up = true then wl "up" else wl "down"
def ruleWords (r : RuleD) : List (List Nat) := [wl "leave", num r.need, wl "of", num r.of, wl "out", num r.base, wl "more", num r.more, wl "most", num r.most, wl "calm", num r.calm, wl "back", TL.tl r.back,
  wl "share", num r.top ++ ([47] ++ num r.under), sideW r.up, wl "hears", TL.tl r.hears]
def textOf (r : RuleD) : Str := SX.S (TL.joinL [32] (ruleWords r))
theorem num_no {s : Nat} (h : s < 48 ∨ 57 < s) (i : Int) : s ∉ num i := TL.numL_free h
theorem words_no (r : RuleD) (ok : r.ok) : ∀ p ∈ ruleWords r, 32 ∉ p := by
  have hb : 32 ∉ TL.tl r.back := by rcases ok.back with h | h | h <;> rw [h] <;> decide +kernel
  have hh : 32 ∉ TL.tl r.hears := by rcases ok.hears with h | h | h <;> rw [h] <;> decide +kernel
  have hs : 32 ∉ sideW r.up := by cases r.up <;> decide +kernel
  have hn := num_no (s := 32) (Or.inl (by decide))
  have ht : 32 ∉ num r.top ++ ([47] ++ num r.under) := by
    intro h
    rcases List.mem_append.mp h with h | h
    · exact hn _ h
    · rcases List.mem_append.mp h with h | h
      · revert h; decide
      · exact hn _ h
  have hl : ∀ s : String, decide (32 ∈ wl s) = false → 32 ∉ wl s := fun s h => of_decide_eq_false h
  intro p hp
  unfold ruleWords at hp
  simp only [List.mem_cons, List.not_mem_nil, or_false] at hp
  rcases hp with rfl | rfl | rfl | rfl | rfl | rfl | rfl | rfl | rfl | rfl | rfl | rfl | rfl | rfl | rfl | rfl | rfl | rfl | rfl
  all_goals first | exact hn _ | exact hb | exact hh | exact hs | exact ht | exact hl _ (by decide +kernel)
theorem text_words {r r' : RuleD} (ok : r.ok) (ok' : r'.ok) (h : textOf r = textOf r') : ruleWords r = ruleWords r' := by
  have e := SX.S_inj h
  have h1 := TL.spl_join (s := 32) (S := []) (parts := ruleWords r) (by unfold ruleWords; exact List.cons_ne_nil _ _) (words_no r ok)
  have h2 := TL.spl_join (s := 32) (S := []) (parts := ruleWords r') (by unfold ruleWords; exact List.cons_ne_nil _ _) (words_no r' ok')
  rw [← h1, ← h2, e]
theorem num_inj {i j : Int} (hi : 0 ≤ i) (hj : 0 ≤ j) (h : num i = num j) : i = j := by
  have := TL.numL_inj h
  omega
theorem side_inj {a b : Bool} (h : sideW a = sideW b) : a = b := by
  cases a <;> cases b <;> first | rfl | (exfalso; revert h; decide +kernel)
theorem text_inj {r r' : RuleD} (ok : r.ok) (ok' : r'.ok) (h : textOf r = textOf r') : r = r' := by
  have e := text_words ok ok' h
  unfold ruleWords at e
  simp only [List.cons.injEq, and_true, true_and] at e
  obtain ⟨e1, e2, e3, e4, e5, e6, e7, e8, e9, e10⟩ := e
  have sp : ∀ a b : Int, TL.spl [47] 0 [] (num a ++ ([47] ++ num b)) = [num a, num b] := fun a b =>
    TL.spl_join (s := 47) (S := []) (parts := [num a, num b]) (by simp) (fun p hp => by
      simp only [List.mem_cons, List.not_mem_nil, or_false] at hp
      rcases hp with rfl | rfl <;> exact num_no (Or.inl (by decide)) _)
  have es : [num r.top, num r.under] = [num r'.top, num r'.under] := by rw [← sp, ← sp, e8]
  simp only [List.cons.injEq, and_true] at es
  have n1 := num_inj (by have := ok.need; omega) (by have := ok'.need; omega) e1
  have n2 := num_inj (by have := ok.need; have := ok.of; omega) (by have := ok'.need; have := ok'.of; omega) e2
  have n3 := num_inj (by have := ok.base; omega) (by have := ok'.base; omega) e3
  have n4 := num_inj ok.more ok'.more e4
  have n5 := num_inj (by have := ok.base; have := ok.most; omega) (by have := ok'.base; have := ok'.most; omega) e5
  have n6 := num_inj ok.calm ok'.calm e6
  have n7 := TL.ext_tl e7
  have n8 := num_inj ok.top ok'.top es.1
  have n9 := num_inj (by have := ok.under; omega) (by have := ok'.under; omega) es.2
  have n10 := side_inj e9
  have n11 := TL.ext_tl e10
  cases r
  cases r'
  simp only at n1 n2 n3 n4 n5 n6 n7 n8 n9 n10 n11
  subst n1 n2 n3 n4 n5 n6 n7 n8 n9 n10 n11
  rfl
theorem numS {i : Int} (h : 0 ≤ i) : TL.tl ((toString i : String) : Str) = num i := by
  obtain ⟨n, rfl⟩ : ∃ n : Nat, i = (n : Int) := ⟨i.toNat, by omega⟩
  exact TL.tl_num n
theorem numLen {i : Int} (h : 0 ≤ i) (h1 : i < 1000000) : ((toString i : String) : Str).length ≤ 6 := by
  rw [TL.len_tl, numS h]
  exact TL.numL_len (by decide) (by omega)
theorem numLog {i : Int} (h : 0 ≤ i) (h1 : i < 1000000) : i.natAbs.log2 < 1920 := by
  by_cases h0 : i.natAbs = 0
  · rw [h0]; decide
  · exact (Nat.log2_lt h0).mpr (Nat.lt_of_lt_of_le (show i.natAbs < 2 ^ 20 by omega) (Nat.pow_le_pow_right (by decide) (by decide)))
theorem lenA (x y : Str) : (x ++ y).length = x.length + y.length := by rw [TL.len_tl, TL.tl_append, List.length_append, ← TL.len_tl, ← TL.len_tl]
theorem lenL (s : String) : (Str.ofString s).length = (wl s).length := by rw [TL.len_tl, TL.tl_ofString]
theorem len0 : Str.empty.length = 0 := rfl
theorem tl0 : TL.tl Str.empty = [] := rfl

section
variable {P : Program} {w : World} {K : PySem.W.Frag} {mg : Str → Option Value} {base : Heap} {CR aB aH : Addr}
def rSide : Hp → List V → V → Prop := fun _ vs v => ∃ up : Bool, vs = [.bl up] ∧ v = .str (if up = true then "up" else "down")
theorem mono_side : Mono rSide := fun _ _ _ _ _ h => h
theorem ok_side {f : Addr} {fd : FuncData} (D : C8.Def K mg "_side" st_side f fd) (b : Binds K fd ["up"] []) : C8.Cal P w K mg base 2 "_side" (spP rSide) [] := by
  refine C8.cal0 D b .nil sc_side (fun vs H Q E h => ?_) (fun cdv A outer s H vs Q E hr h => ?_)
  · obtain ⟨v, ⟨_, rfl, _⟩, _⟩ := h
    rfl
  · obtain ⟨v, ⟨up, rfl, rfl⟩, k⟩ := h
    refine ⟨_, pss_one (ps_ret (pe_ifExp (pt_val (pv 0)) (pe_str) (pe_str))), ?_⟩
    refine g_ret (mdE H) (Ex.refl H) (ev_is (ev_ifE (et_B (ev_var rfl)) ev_c ev_c) (by cases up <;> rfl)) k
def rStr (CR : Addr) : Hp → List V → V → Prop := fun H vs v => ∃ (p : Addr) (r : RuleD) (o : HO), vs = [.ref p] ∧ H p = some o ∧ RuleAt CR r o ∧ RuleT r ∧ v = .str (textOf r)
theorem mono_str : Mono (rStr CR) := fun _ _ _ _ e ⟨p, r, o, a, h, b⟩ => ⟨p, r, o, a, e _ _ h, b⟩
theorem ev_join {σ : L2.St} {H : Hp} {to te : TE} {a : Str} {ys : List Str} (h1 : Ev to σ H (.str a)) (h2 : EvL te σ H (ys.map V.str)) (hz : (ys.map (·.length)).sum + ys.length * a.length ≤ 16777216) :
    Ev (tM1 (fun x xs H Q => ∃ a p, ∃ ys : List Str, x = .str a ∧ xs = [.ref p] ∧ (SqL K H p (ys.map V.str) ∨ SqT K H p (ys.map V.str)) ∧ (ys.map (·.length)).sum + ys.length * a.length ≤ 16777216 ∧ Q (.str (Txt.join a ys)) H) to te) σ H (.str (Txt.join a ys)) := fun H1 e _ q =>
  h1 H1 e _ fun H2 e2 => ⟨⟨a, rfl⟩, h2 H2 (e.trans e2) _ fun p H3 _ e3 hp => ⟨a, p, ys, rfl, rfl, .inl (sq_of hp), hz, q H3 (e2.trans e3)⟩⟩
theorem ok_str {f : Addr} {fd : FuncData} (D : C8.Fun K "__str__" "Rule.__str__" st_Rule___str__ f fd) (b : Binds K fd ["self"] []) (hs : PySem.W.findIn K (.ref CR) "__str__" = some (some (.ref f))) (hf : PySem.W.isFn K (.ref f) = true) (T : Tb K mg CR aB aH)
    (c_side : C8.Cal P w K mg base 2 "_side" (spP rSide) []) : OwnM P w K mg base 3 CR "__str__" (rStr CR) := by
  refine ⟨f, fd, ["self"], C8.fn0 D sc_Rule___str__ (fun vs H Q E h => ?_) (fun cdv A outer s H vs Q E hr h => ?_), hs, hf, b⟩
  · obtain ⟨v, ⟨_, _, _, rfl, _⟩, _⟩ := h
    rfl
  · obtain ⟨v, ⟨p, r, _, rfl, hp, ⟨dx, rfl⟩, rt, rfl⟩, k⟩ := h
    refine ⟨_, pss_one (ps_ret (pe_join (pe_str) (pe_lst (pa_cons (pe_joined (.cons (pe_str) (.cons (pe_fmt (pe_fld (pv 0) rfl)) (.cons (pe_str) (.cons (pe_fmt (pe_fld (pv 0) rfl)) (.nil)))))) (pa_cons (pe_joined (.cons (pe_str) (.cons (pe_fmt (pe_fld (pv 0) rfl)) (.cons (pe_str) (.cons (pe_fmt (pe_fld (pv 0) rfl)) (.cons (pe_str) (.cons (pe_fmt (pe_fld (pv 0) rfl)) (.nil)))))))) (pa_cons (pe_joined (.cons (pe_str) (.cons (pe_fmt (pe_fld (pv 0) rfl)) (.cons (pe_str) (.cons (pe_fmt (pe_fld (pv 0) rfl)) (.nil)))))) (pa_cons (pe_joined (.cons (pe_str) (.cons (pe_fmt (pe_fld (pv 0) rfl)) (.cons (pe_str) (.cons (pe_fmt (pe_fld (pv 0) rfl)) (.cons (pe_str) (.cons (pe_fmt (C8.pe_c c_side hr (by decide) (by rfl) (pa_cons (pe_fld (pv 0) rfl) (pa_nil)))) (.nil)))))))) (pa_cons (pe_joined (.cons (pe_str) (.cons (pe_fmt (pe_fld (pv 0) rfl)) (.nil)))) (pa_nil))))))))), ?_⟩
    have ok := rt.ok
    have a1 : 0 ≤ r.need ∧ r.need < 1000000 := ⟨by have := ok.need; omega, by have := ok.of; have := rt.of; omega⟩
    have a2 : 0 ≤ r.of ∧ r.of < 1000000 := ⟨by have := ok.need; have := ok.of; omega, rt.of⟩
    have a3 : 0 ≤ r.base ∧ r.base < 1000000 := ⟨by have := ok.base; omega, by have := ok.most; have := rt.most; omega⟩
    have a4 : 0 ≤ r.more ∧ r.more < 1000000 := ⟨ok.more, ok.moreB⟩
    have a5 : 0 ≤ r.most ∧ r.most < 1000000 := ⟨by have := ok.base; have := ok.most; omega, rt.most⟩
    have a6 : 0 ≤ r.calm ∧ r.calm < 1000000 := ⟨ok.calm, rt.calm⟩
    have a7 : 0 ≤ r.under ∧ r.under < 1000000 := ⟨by have := ok.under; omega, ok.underB⟩
    have a8 : 0 ≤ r.top ∧ r.top < 1000000 := ⟨ok.top, by have := ok.topu; have := ok.underB; omega⟩
    have l1 := numLen a1.1 a1.2
    have l2 := numLen a2.1 a2.2
    have l3 := numLen a3.1 a3.2
    have l4 := numLen a4.1 a4.2
    have l5 := numLen a5.1 a5.2
    have l6 := numLen a6.1 a6.2
    have l7 := numLen a7.1 a7.2
    have l8 := numLen a8.1 a8.2
    have lb : r.back.length ≤ 5 := by rcases ok.back with h | h | h <;> rw [h] <;> decide +kernel
    have lh : r.hears.length ≤ 5 := by rcases ok.hears with h | h | h <;> rw [h] <;> decide +kernel
    have lu : ((if r.up = true then "up" else "down" : Str)).length ≤ 4 := by cases r.up <;> decide +kernel
    have q0 : ("leave " : Str).length = 6 := by decide +kernel
    have q1 : (" of " : Str).length = 4 := by decide +kernel
    have q2 : ("out " : Str).length = 4 := by decide +kernel
    have q3 : (" more " : Str).length = 6 := by decide +kernel
    have q4 : (" most " : Str).length = 6 := by decide +kernel
    have q5 : ("calm " : Str).length = 5 := by decide +kernel
    have q6 : (" back " : Str).length = 6 := by decide +kernel
    have q7 : ("share " : Str).length = 6 := by decide +kernel
    have q8 : ("/" : Str).length = 1 := by decide +kernel
    have q9 : (" " : Str).length = 1 := by decide +kernel
    have q10 : ("hears " : Str).length = 6 := by decide +kernel
    refine g_ret (mdE H) (Ex.refl H) (ev_is (ev_join (ys := [_, _, _, _, _]) ev_c (el_lst (ea_cons (ev_joined (ej_cons ev_c ?_ (ej_cons (ev_fmtI (ev_fld (ev_var rfl) hp T.cl T.n_need (fl_need r)) (numLog a1.1 a1.2)) ?_ (ej_cons ev_c ?_ (ej_cons (ev_fmtI (ev_fld (ev_var rfl) hp T.cl T.n_of (fl_of r)) (numLog a2.1 a2.2)) ?_ ej_nil)))))
      (ea_cons (ev_joined (ej_cons ev_c ?_ (ej_cons (ev_fmtI (ev_fld (ev_var rfl) hp T.cl T.n_base (fl_base r)) (numLog a3.1 a3.2)) ?_ (ej_cons ev_c ?_ (ej_cons (ev_fmtI (ev_fld (ev_var rfl) hp T.cl T.n_more (fl_more r)) (numLog a4.1 a4.2)) ?_ (ej_cons ev_c ?_ (ej_cons (ev_fmtI (ev_fld (ev_var rfl) hp T.cl T.n_most (fl_most r)) (numLog a5.1 a5.2)) ?_ ej_nil)))))))
      (ea_cons (ev_joined (ej_cons ev_c ?_ (ej_cons (ev_fmtI (ev_fld (ev_var rfl) hp T.cl T.n_calm (fl_calm r)) (numLog a6.1 a6.2)) ?_ (ej_cons ev_c ?_ (ej_cons (ev_fmtS (ev_fld (ev_var rfl) hp T.cl T.n_back (fl_back r)) (by omega)) ?_ ej_nil)))))
      (ea_cons (ev_joined (ej_cons ev_c ?_ (ej_cons (ev_fmtI (ev_fld (ev_var rfl) hp T.cl T.n_top (fl_top r)) (numLog a8.1 a8.2)) ?_ (ej_cons ev_c ?_ (ej_cons (ev_fmtI (ev_fld (ev_var rfl) hp T.cl T.n_under (fl_under r)) (numLog a7.1 a7.2)) ?_ (ej_cons ev_c ?_
        (ej_cons (ev_fmtS (ev_call (ea_cons (ev_fld (ev_var rfl) hp T.cl T.n_up (fl_up r)) ea_nil) (spv mono_side ⟨r.up, rfl, rfl⟩)) (by omega)) ?_ ej_nil)))))))
      (ea_cons (ev_joined (ej_cons ev_c ?_ (ej_cons (ev_fmtS (ev_fld (ev_var rfl) hp T.cl T.n_hears (fl_hears r)) (by omega)) ?_ ej_nil))) ea_nil))))) (by show 5 ≤ 100000; decide)) ?_) ?_) k
    all_goals try (simp only [lenA, len0, q0, q1, q2, q3, q4, q5, q6, q7, q8, q9, q10]; omega)
    · simp only [List.map_cons, List.map_nil, List.sum_cons, List.sum_nil, List.length_cons, List.length_nil, lenA, len0, q0, q1, q2, q3, q4, q5, q6, q7, q8, q9, q10]
      omega
    · refine congrArg V.str (TL.ext_tl ?_)
      have t0 : TL.tl ("leave " : Str) = wl "leave" ++ [32] := by decide +kernel
      have t1 : TL.tl (" of " : Str) = [32] ++ wl "of" ++ [32] := by decide +kernel
      have t2 : TL.tl ("out " : Str) = wl "out" ++ [32] := by decide +kernel
      have t3 : TL.tl (" more " : Str) = [32] ++ wl "more" ++ [32] := by decide +kernel
      have t4 : TL.tl (" most " : Str) = [32] ++ wl "most" ++ [32] := by decide +kernel
      have t5 : TL.tl ("calm " : Str) = wl "calm" ++ [32] := by decide +kernel
      have t6 : TL.tl (" back " : Str) = [32] ++ wl "back" ++ [32] := by decide +kernel
      have t7 : TL.tl ("share " : Str) = wl "share" ++ [32] := by decide +kernel
      have t8 : TL.tl ("/" : Str) = [47] := by decide +kernel
      have t9 : TL.tl (" " : Str) = [32] := by decide +kernel
      have t10 : TL.tl ("hears " : Str) = wl "hears" ++ [32] := by decide +kernel
      have tu : TL.tl (if r.up = true then ("up" : Str) else "down") = sideW r.up := by cases r.up <;> decide +kernel
      rw [TL.join_eq, TL.tl_join]
      unfold textOf
      rw [show TL.tl (SX.S (TL.joinL [32] (ruleWords r))) = TL.joinL [32] (ruleWords r) from rfl]
      simp only [List.map_cons, List.map_nil, TL.tl_append, tl0, t0, t1, t2, t3, t4, t5, t6, t7, t8, t9, t10, tu, numS a1.1, numS a2.1, numS a3.1, numS a4.1, numS a5.1, numS a6.1, numS a7.1, numS a8.1, ruleWords, TL.joinL, List.append_assoc, List.nil_append, List.cons_append]
def rEqR (CR : Addr) : Hp → List V → V → Prop := fun H vs v => ∃ (p q : Addr) (r r' : RuleD) (o o' : HO), vs = [.ref p, .ref q] ∧ H p = some o ∧ RuleAt CR r o ∧ RuleT r ∧ H q = some o' ∧ RuleAt CR r' o' ∧ RuleT r' ∧ v = .bl (decide (textOf r = textOf r'))
theorem mono_eqR : Mono (rEqR CR) := fun _ _ _ _ e ⟨p, q, r, r', o, o', a, h, b, c, h', d⟩ => ⟨p, q, r, r', o, o', a, e _ _ h, b, c, e _ _ h', d⟩
theorem kit_own {t : Value} : PySem.W.kitOne K t t = some true := by
  unfold PySem.W.kitOne
  exact if_pos (beq_self_eq_true t)
theorem ok_eqR {f : Addr} {fd : FuncData} (D : C8.Fun K "__eq__" "Rule.__eq__" st_Rule___eq__ f fd) (b : Binds K fd ["self", "other"] []) (hs : PySem.W.findIn K (.ref CR) "__eq__" = some (some (.ref f))) (hf : PySem.W.isFn K (.ref f) = true) (T : Tb K mg CR aB aH)
    (str_Rule : OwnM P w K mg base 3 CR "__str__" (rStr CR)) : OwnM P w K mg base 6 CR "__eq__" (rEqR CR) := by
  refine ⟨f, fd, ["self", "other"], C8.fn0 D sc_Rule___eq__ (fun vs H Q E h => ?_) (fun cdv A outer s H vs Q E hr h => ?_), hs, hf, b⟩
  · obtain ⟨v, ⟨_, _, _, _, _, _, rfl, _⟩, _⟩ := h
    rfl
  · obtain ⟨v, ⟨p, q, r, r', _, _, rfl, hp, ⟨dx, rfl⟩, rt, hq, ⟨dy, rfl⟩, rt', rfl⟩, k⟩ := h
    refine ⟨_, pss_one (ps_ret (pe_and (pe_callB call_isi (by rfl) T.bi_isinstance boot_isinstance (pa_cons (pv 1) (pa_cons (C8.pe_gc (by rfl) T.gc_Rule) (pa_nil)))) (pe_one (pe_cmpR (op_eq) (pe_callTy (call_strO str_Rule hr (by decide)) (by rfl) T.bi_str boot_str (pa_cons (pv 0) (pa_nil))) (pe_callTy (call_strO str_Rule hr (by decide)) (by rfl) T.bi_str boot_str (pa_cons (pv 1) (pa_nil))) (nomark _))))), ?_⟩
    refine g_ret (mdE H) (Ex.refl H) (ev_is (ev_and (ev_cb (ea_cons (ev_var rfl) (ea_cons ev_c ea_nil)) (rc_isi (b := true) (ClsV.own CR) (fun H1 e => TyX.base (TyOf.ins (e _ _ hq) T.cl T.cA T.cG T.cT T.cO)) kit_own))
      (ev_op (ev_cb (ea_cons (ev_var rfl) ea_nil) (rc_strO mono_str hp ⟨p, r, _, rfl, hp, ⟨dx, rfl⟩, rt, rfl⟩)) (ev_cb (ea_cons (ev_var rfl) ea_nil) (rc_strO mono_str hq ⟨q, r', _, rfl, hq, ⟨dy, rfl⟩, rt', rfl⟩)) (rv_eq rfl))) ?_) k
    rw [Bool.true_and]
    by_cases h : textOf r = textOf r'
    · rw [decide_eq_true h, decide_eq_true (congrArg V.str h)]
    · rw [decide_eq_false h, decide_eq_false (fun q => h (by injection q))]
end

/-! ### x != y of own objects: the text's own ==, turned round -/
section
variable {M : Model} {A : Around} {E : Value → Shared → Prop} {s : Shared} {K : PySem.W.Frag} {x y C f : Addr} {ox oy : Obj} {od od' : Option Obj}
theorem ne_bound {Q : Option Value → Shared → Prop} (X : K.In s.heap) (I : PySem.W.InstAt s.heap x ox C od) (hs : PySem.W.findIn K (.ref C) "__ne__" = some (some (.builtin "object.__ne__")))
    (h : wpAny M A (call (.builtin "object.__ne__") [.ref x, .ref y]) (fun v => Q (some v)) E s) : wpAny M A (callSpecialIfBound? (.ref x) "__ne__" [.ref y]) Q E s := by
  simp only [callSpecialIfBound?, bindSpecialIfBound?]
  refine wpAny_holding (wpAny_bind (wpAny_bind (wpAny_bind (I.type.here ((PySem.W.looks_findIn X hs).here ?_)))))
  simp only [PySem.F.cmp_object.ne.bind]
  refine wpAny_bind (wpAny_askSetting (wpAny_ite ?_))
  have fin : wpAny M A (call (.builtin "object.__ne__") ([.ref x] ++ [.ref y]) >>= fun v => pure (some v)) Q E s := wpAny_bind (wpAny_mono h (fun v s' h' => wpAny_pure h') fun _ _ h' => h')
  split
  · exact wpAny_bind (wpAny_pure (wpAny_pure fin))
  · exact wpAny_tryCatch (wpAny_bind (wpAny_pure (wpAny_pure fin)))
end
section
variable {prog : Program} {w : World} {A : Around} {E : Value → Shared → Prop} {s : Shared} {K : PySem.W.Frag} {x y C f : Addr} {ox oy : Obj} {od od' : Option Obj}
theorem ne_K {Q : Value → Shared → Prop} (hu : A.units + 1 < cLine) (X : K.In s.heap) (I : PySem.W.InstAt s.heap x ox C od) (J : PySem.W.InstAt s.heap y oy C od') (hn : PySem.W.findIn K (.ref C) "__ne__" = some (some (.builtin "object.__ne__")))
    (ho : PySem.W.mroIn K C (.type "object") = some true) (hs : PySem.W.findIn K (.ref C) "__eq__" = some (some (.ref f))) (hf : PySem.W.isFn K (.ref f) = true)
    (h : wpAny (model prog w) A.in1 (call (.ref f) [.ref x, .ref y]) (fun v s' => ∃ b, v = .bool b ∧ Q (.bool (!b)) s') E s) : wpAny (model prog w) A (richCompare .NotEq (.ref x) (.ref y)) Q E s := by
  have body : wpAny (model prog w) A.in1 (Builtin.«object.__ne__» ⟨[.ref x, .ref y], []⟩) (fun fin s' => match fin with | .done (.ret v) => ∃ b, v = .bool b ∧ Q (.bool b) s' | _ => False) E s := by
    unfold Builtin.«object.__ne__»
    repeat (first
      | with_reducible refine wpAny_cRoomFor hu ?_
      | (refine wpAny_bind (m := callSpecialIfBound? (.ref x) (Str.ofString "__eq__") [.ref y])
          (PySem.W.ifBound_K X I hs hf (wpAny_mono h (fun r s' hr => by
            obtain ⟨b, rfl, hq⟩ := hr
            repeat (first | exact ⟨_, rfl, hq⟩ | exact wpAny_pure ⟨_, rfl, hq⟩ | exact wpAny_truthy_bool ⟨_, rfl, hq⟩ | (refine wpAny_bind (m := truthy (.bool _)) (wpAny_truthy_bool ?_)) | wp_step)) fun _ _ e => e)))
      | wp_step)
  have one : wpAny (model prog w) A (tryCompare (.ref x) "__ne__" (.ref y)) (fun r s' => ∃ b, r = some (.bool b) ∧ Q (.bool b) s') E s := by
    unfold tryCompare
    refine wpAny_bind (ne_bound X I hn (wpAny_call (codeAny_call_builtin PySem.F.cmp_object.ne.plain PySem.F.cmpEntry_ne
      (PySem.W.check_slot PySem.F.cmpKind_ne PySem.F.cmpSplit_ne (I.type.andThen (PySem.W.looks_mroIn X ho)) (PySem.F.cmpArgs_ne _ _) (wpAny_mono body (fun fin s' hv => ?_) fun _ _ e => e)))))
    cases fin with
    | done r =>
      cases r with
      | ret v =>
        obtain ⟨b, rfl, hq⟩ := hv
        exact wpAny_pure ⟨b, rfl, hq⟩
      | _ => exact hv.elim
    | again c => exact hv.elim
  unfold richCompare
  simp only [oneThing_ref]
  refine wpAny_holding (wpAny_bind (wpAny_cRoomFor (by omega) ?_))
  rw [cmpInfo_NotEq]
  dsimp only
  refine wpAny_bind (I.type.here (wpAny_bind (J.type.here ?_)))
  rw [show (Value.ref C != Value.ref C) = false from by simp]
  simp only [Bool.false_eq_true, if_false]
  refine wpAny_bind (wpAny_pure ?_)
  simp only [Bool.false_eq_true, if_false]
  refine wpAny_bind (wpAny_mono one (fun r s' z => ?_) fun _ _ e => e)
  obtain ⟨b, rfl, hq⟩ := z
  exact wpAny_pure hq
end
section
variable {X : Cx} {k j : Nat} {C : Addr} {R : Hp → List V → V → Prop}
def rNeO (C : Addr) (R : Hp → List V → V → Prop) : R2 := fun x y H Q => ∃ (a b dx dy : Addr) (fs gs : List (Str × V)) (k : Bool), x = .ref a ∧ y = .ref b ∧ H a = some (.ins C dx fs) ∧ H b = some (.ins C dy gs) ∧ R H [.ref a, .ref b] (.bl k) ∧ ∀ H', Ex H H' → Q (.bl (!k)) H'
theorem op_neO (M : OwnM X.prog X.w X.K X.mg X.base k C "__eq__" R) (hne : PySem.W.findIn X.K (.ref C) "__ne__" = some (some (.builtin "object.__ne__"))) (ho : PySem.W.mroIn X.K C (.type "object") = some true) (hr : Room j X.A) (hk : k + 1 ≤ j) : OpR X (compareOp .NotEq) (rNeO C R) := by
  intro pins s σ H x y v u Q I rx ry h
  obtain ⟨f, fd, ps, F, hs, hf, hb⟩ := M.ex
  obtain ⟨a, b, dx, dy, fs, gs, k, rfl, rfl, ha, hb', hR, q⟩ := h
  cases rx
  cases ry
  obtain ⟨mA, J, _⟩ := ins_get I.hok ha
  obtain ⟨mB, J', _⟩ := ins_get I.hok hb'
  obtain ⟨od, J, _⟩ := J.look
  obtain ⟨od', J', _⟩ := J'.look
  have r2 : Room _ X.A.in1 := (hr.mono hk).in1
  show wpAny (model X.prog X.w) X.A (richCompare .NotEq (.ref a) (.ref b)) (EP X pins σ Q) X.xe s
  refine ne_K r2.units0 I.kIn J J' hne ho hs hf ?_
  have hsp : spP R [.ref a, .ref b] H (fun v H' => v = .bl k ∧ Ex H H') C8.E0 := ⟨.bl k, hR, fun H' e => ⟨rfl, e⟩⟩
  have e0 : Env0 X.prog X.w X.K X.mg X.base X.A.in1 X.stack s H := by
    have e := I.env0
    exact ⟨e.frames, e.mod, e.bs, e.bsz, e.funs, e.frf, e.hok, e.bare⟩
  have hl := F.len _ _ _ _ hsp
  refine wpAny_call (codeAny_mono (F.run X.A.in1 X.stack s H ⟨[.ref a, .ref b], []⟩ [.ref a, .ref b] [.ref a, .ref b] _ C8.E0 r2 e0 (by
    have := hb s [.ref a, .ref b] I.kIn (by simpa using hl)
    simpa using this) (.cons rfl (.cons rfl .nil)) hsp) fun r s' hq => ?_)
  cases r with
  | error e => exact False.elim hq
  | ok fl =>
    cases fl with
    | ret w =>
      obtain ⟨z, H', I', rz, ez, ex⟩ := I.after hq
      subst ez
      cases rz
      exact ⟨k, rfl, .bl (!k), H', I', rfl, q H' ex⟩
    | next => exact False.elim hq
    | brk => exact False.elim hq
    | cont => exact False.elim hq
end
section
variable {K : PySem.W.Frag} {σ : L2.St} {H : Hp} {C : Addr} {R : Hp → List V → V → Prop}
theorem rv_neO (m : Mono R) {a b dx dy : Addr} {fs gs : List (Str × V)} {k : Bool} (h : H a = some (.ins C dx fs)) (h' : H b = some (.ins C dy gs)) (hR : R H [.ref a, .ref b] (.bl k)) : RV (rNeO C R) (.ref a) (.ref b) H (.bl (!k)) :=
  fun H1 e _ q => ⟨a, b, dx, dy, fs, gs, k, rfl, rfl, e _ _ h, e _ _ h', m _ _ _ _ e hR, q⟩
end

/-! ### new tuples, pairs of a dict, sorted, methods of new objects -/
section
variable {K : PySem.W.Frag} {σ : L2.St} {Kn H H' : Hp} {M : Hp → Prop} {ta tb te tl tx : TE} {t : TT} {tz : TS} {D : Ends} {x y z v : V}
theorem eu_of {xs : List V} (h : EvN te σ H (· = .tup xs)) : EvU te σ H xs := fun H1 e Q q => h H1 e Q fun p H2 _ np e2 hp ho => q p H2 np e2 (by rw [hp, ho])
theorem en_of {xs : List V} (h : EvU te σ H xs) : EvN te σ H (· = .tup xs) := fun H1 e Q q => h H1 e Q fun p H2 np e2 hp => q p H2 _ np e2 hp rfl
theorem eu_slT {lo hi : TO} {l h : Option Int} {a : Addr} {xs : List V} (ha : Ev te σ H (.ref a)) (h1 : EvO lo σ H l) (h2 : EvO hi σ H h) (hs : SqT K H a xs) (hw : ¬ (HT.sIx xs.length 0 l = 0 ∧ HT.sIx xs.length xs.length h = xs.length)) : EvU (tSl (rSlT K) te lo hi) σ H (cutV xs l h) := fun H1 e _ q =>
  ha H1 e _ fun H2 e2 => h1 H2 (e.trans e2) _ fun H3 e3 => h2 H3 ((e.trans e2).trans e3) _ fun H4 e4 =>
    ⟨a, xs, rfl, ex_t (((e.trans e2).trans e3).trans e4) hs, hw, fun p hp => q p _ (fresh_back ((e2.trans e3).trans e4) hp) (((e2.trans e3).trans e4).trans (Ex.new hp)) upd_same⟩
theorem eu_catT {xs ys : List V} (ha : EvU ta σ H xs) (hb : EvU tb σ H ys) (x0 : xs ≠ []) (y0 : ys ≠ []) (hz : xs.length + ys.length ≤ 100000) : EvU (tOp (rCatT K) ta tb) σ H (xs ++ ys) := fun H1 e _ q =>
  ha H1 e _ fun p H2 np e2 hp => hb H2 (e.trans e2) _ fun p' H3 np' e3 hp' => ⟨p, p', xs, ys, rfl, rfl, st_of (e3 _ _ hp), st_of hp', x0, Nat.le_trans hz (by decide), fun z => (y0 z).elim, fun _ r nr => q r _ (fresh_back (e2.trans e3) nr) ((e2.trans e3).trans (Ex.new nr)) upd_same⟩
theorem ev_methN {C : Addr} {m : Str} {sp : Sp} {E : XK} {tq : TA} {vs : List V} {Pn : HO → Prop} (hn : EvN ta σ H Pn) (ho : ∀ o, Pn o → ∃ dx fs, o = .ins C dx fs ∧ fs.lookup m = none) (ht : EvA tq σ H vs)
    (hs : ∀ a o H1, Ex H H1 → H1 a = some o → Pn o → SpV sp (.ref a :: (vs ++ [])) H1 z) : Ev (tMeth C m sp [] E ta tq) σ H z := fun H1 e Q q =>
  hn H1 e _ fun a H2 o na e2 ha hp => by
    obtain ⟨dx, fs, rfl, hl⟩ := ho _ hp
    exact ⟨a, dx, fs, rfl, ha, hl, ht H2 (e.trans e2) _ fun H3 e3 => hs a _ H3 ((e.trans e2).trans e3) (e3 _ _ ha) hp H3 (Ex.refl H3) _ (fun H4 e4 => q H4 ((e2.trans e3).trans e4)) E⟩
theorem el_sorted {ns : List Int} (h : EvL te σ H (ns.map V.int)) (hs : ns.Pairwise (· ≤ ·)) : EvL (tCB (rSortedI K) (tCons te tNil)) σ H (ns.map V.int) := fun H1 e _ q =>
  h H1 e _ fun p H2 np e2 hp => ⟨p, ns, rfl, sq_of hp, fun ns' p' hP hS np' => by
    have en : ns' = ns := List.Perm.eq_of_pairwise (le := fun a b : Int => a ≤ b) (fun a b _ _ h1 h2 => Int.le_antisymm h1 h2) hS hs hP
    subst en
    exact q p' _ (fresh_back e2 np') (e2.trans (Ex.new np')) upd_same⟩
theorem el_mapV {a : Addr} {j : Nat} {vs : List Nat} {zs : List Int} (g : Int → Int) (h : Ev tl σ H (.ref a)) (hx : SqL K H a (zs.map V.int)) (hz : zs.length ≤ 40000) (hw : ∀ x, wipe ((wipe σ vs).set j (some x)) vs = wipe σ vs)
    (he : ∀ (z : Int) H1, Ex H H1 → z ∈ zs → Ev te ((wipe σ vs).set j (some (.int z))) H1 (.int (g z))) : EvL (tLc (iList K tl) (gName j) tYes te vs) σ H ((zs.map g).map V.int) := by
  refine el_is (el_lcL (fun _ => true) (fun i => .int (g (zs.getD i 0))) h hx (by rw [List.length_map]; exact hz) hw (fun _ _ _ _ _ => et_yes0) (fun i x H1 e hx _ => ?_)) ?_
  · rw [List.getElem?_map] at hx
    cases e1 : zs[i]? with
    | none => rw [e1] at hx; cases hx
    | some q =>
      rw [e1] at hx
      obtain rfl := (Option.some.inj hx).symm
      have : zs.getD i 0 = q := by rw [List.getD_eq_getElem?_getD, e1]; rfl
      rw [this]
      exact he q H1 e (List.mem_of_getElem? e1)
  · rw [given_all, List.length_map]
    congr 1
    refine List.ext_getElem? fun i => ?_
    rw [List.getElem?_map, List.getElem?_map]
    by_cases h1 : i < zs.length
    · rw [List.getElem?_eq_getElem h1, List.getElem?_range h1]
      show some (g (zs.getD i 0)) = some (g zs[i])
      rw [List.getD_eq_getElem?_getD, List.getElem?_eq_getElem h1]
      rfl
    · rw [List.getElem?_eq_none (show zs.length ≤ i by omega), List.getElem?_eq_none (show (List.range zs.length).length ≤ i by rw [List.length_range]; omega)]
      rfl
theorem el_mapR2 {tq : TA} {j : Nat} {vs : List Nat} {lo n : Int} (g : Int → Int) (h : EvA tq σ H [.int lo, .int n]) (hn : 0 ≤ lo ∧ lo ≤ 40000 ∧ -40000 ≤ n ∧ n ≤ 40000) (hw : ∀ x, wipe ((wipe σ vs).set j (some x)) vs = wipe σ vs)
    (he : ∀ (i : Nat) H1, Ex H H1 → lo + (i : Int) < n → Ev te ((wipe σ vs).set j (some (.int (lo + (i : Int))))) H1 (.int (g (lo + (i : Int))))) : EvL (tLc (iRng2 tq) (gName j) tYes te vs) σ H (((List.range (n - lo).toNat).map fun (i : Nat) => g (lo + (i : Int))).map V.int) :=
  el_is (el_lcR2 (fun _ => true) (fun i => .int (g (lo + (i : Int)))) h hn hw (fun _ _ _ _ => et_yes0) (fun i H1 e hi _ => he i H1 e hi)) (given_all _ _)
/-! pairs -/
def EvP (te : TE) (σ : L2.St) (H : Hp) (kvs : List (Key × V)) : Prop := ∀ H1, Ex H H1 → ∀ Q : VK, (∀ p (ps : List Addr) H2, H1 p = none → Ex H1 H2 → H2 p = some (.lst (ps.map V.ref)) → Paired (fun p (kv : Key × V) => H2 p = some (.tup [kV kv.1, kv.2])) ps kvs → Q (.ref p) H2) → te σ H1 Q
theorem Paired.imp {α β : Type} {F G : α → β → Prop} (h : ∀ a b, F a b → G a b) : ∀ {l1 : List α} {l2 : List β}, Paired F l1 l2 → Paired G l1 l2
  | _, _, .nil => .nil
  | _, _, .cons a t => .cons (h _ _ a) (Paired.imp h t)
theorem Paired.len {α β : Type} {F : α → β → Prop} : ∀ {l1 : List α} {l2 : List β}, Paired F l1 l2 → l1.length = l2.length
  | _, _, .nil => rfl
  | _, _, .cons _ t => by rw [List.length_cons, List.length_cons, Paired.len t]
theorem ep_lcL {a : Addr} {xs : List V} {j : Nat} {vs : List Nat} (kv : Nat → Key × V) (h : Ev tl σ H (.ref a)) (hx : SqL K H a xs) (hz : xs.length ≤ 40000) (hw : ∀ x, wipe ((wipe σ vs).set j (some x)) vs = wipe σ vs)
    (he : ∀ (i : Nat) (x : V) H1, Ex H H1 → xs[i]? = some x → EvU te ((wipe σ vs).set j (some x)) H1 [kV (kv i).1, (kv i).2]) : EvP (tLc (iList K tl) (gName j) tYes te vs) σ H ((List.range xs.length).map kv) := fun H0 e Q q => h H0 e _ fun H1 e1 => ⟨a, rfl, ⟨xs, ex_l (e.trans e1) hx⟩, fun Dl hD =>
  lc_list (xs := xs) (fun i H' => H1 Dl = none ∧ Ex H1 H' ∧ ∃ ps : List Addr, H' Dl = some (.lst (ps.map V.ref)) ∧ Paired (fun p (kv : Key × V) => H' p = some (.tup [kV kv.1, kv.2]) ∧ p ≠ Dl) ps ((List.range i).map kv))
    ⟨hD, Ex.new hD, [], upd_same, .nil⟩ (fun i H' _ p => ex_l ((e.trans e1).trans p.2.1) hx) (fun i x H' hi ⟨_, e2, ps, hps, hP⟩ => ⟨hw x, by
      show te ((wipe σ vs).set j (some x)) H' fun y H4 => ∃ acc, H4 Dl = some (.lst acc) ∧ acc.length < sizeLine ∧ _
      refine he i x H' ((e.trans e1).trans e2) hi H' (Ex.refl H') _ fun p H4 np e4 hp => ?_
      have nD : p ≠ Dl := fun z => by subst z; rw [hps] at np; cases np
      have hl := Paired.len hP
      rw [List.length_map, List.length_range] at hl
      have hlt := (List.getElem?_eq_some_iff.mp hi).1
      refine ⟨ps.map V.ref, e4 _ _ hps, sz_lt (by rw [List.length_map]; omega), hD, Ex.mut (e2.trans e4) hD, ps ++ [p], ?_, ?_⟩
      · rw [upd_same, List.map_append]
        rfl
      · rw [List.range_succ, List.map_append]
        refine Paired.snoc (Paired.imp (fun a b ⟨h1, h2⟩ => ⟨by rw [upd_ne h2]; exact e4 _ _ h1, h2⟩) hP) ⟨?_, nD⟩
        rw [upd_ne nD]
        exact hp⟩) (fun H' ⟨_, e2, ps, hps, hP⟩ => q Dl ps H' (fresh_back e1 hD) (e1.trans e2) hps (Paired.imp (fun _ _ h => h.1) hP))⟩
def rDictP (K : PySem.W.Frag) : List V → Hp → VK → Prop := fun xs H Q => ∃ (a : Addr) (ps : List Addr) (kvs : List (Key × V)), xs = [.ref a] ∧ SqL K H a (ps.map V.ref) ∧ Paired (fun p (kv : Key × V) => SqT K H p [kV kv.1, kv.2]) ps kvs ∧ ∀ p, H p = none → Q (.ref p) (upd H p (.dK (mergeK [] kvs)))
def rLenD : List V → Hp → VK → Prop := fun xs H Q => ∃ a kvs, xs = [V.ref a] ∧ H a = some (.dK kvs) ∧ Q (.int kvs.length) H
theorem ev_lenDict {kvs : List (Key × V)} (h : EvP te σ H kvs) : Ev (tCB rLenD (tCons (tCB (rDictP K) (tCons te tNil)) tNil)) σ H (.int ((mergeK [] kvs).length : Int)) := fun H1 e _ q =>
  h H1 e _ fun p ps H2 np e2 hp hP => ⟨p, ps, kvs, rfl, sq_of hp, Paired.imp (fun _ _ h => st_of h) hP, fun d nd => ⟨d, _, rfl, upd_same, q _ (e2.trans (Ex.new nd))⟩⟩
theorem cr_dictP {X : Cx} (hc : X.calm = true) : CallR X (.type "dict") (rDictP X.K) := call_dictP hc
theorem cr_lenD {X : Cx} : CallR X (.builtin "len") rLenD := call_lenD
/-- how many keys: rising up to the c-th, then the same -/
theorem merge_count {g : Nat → Int} {v : V} {c : Nat} (c0 : 1 ≤ c) (up : ∀ i j, i < j → j < c → g i < g j) (st : ∀ i, c ≤ i → g i = g (c - 1)) : ∀ n, (mergeK [] ((List.range n).map fun i => ((Sum.inl (g i) : Key), v))).length = min n c ∧
    ∀ z, (valV (mergeK [] ((List.range n).map fun i => ((Sum.inl (g i) : Key), v))) (Sum.inl z)).isSome = true ↔ ∃ j, j < n ∧ g j = z := by
  intro n
  induction n with
  | zero => exact ⟨by rw [Nat.zero_min]; rfl, fun z => ⟨fun h => (by cases h), fun ⟨j, h, _⟩ => absurd h (Nat.not_lt_zero _)⟩⟩
  | succ n ih =>
    obtain ⟨h1, h2⟩ := ih
    have es : mergeK [] ((List.range (n + 1)).map fun i => ((Sum.inl (g i) : Key), v)) = putK (mergeK [] ((List.range n).map fun i => ((Sum.inl (g i) : Key), v))) (Sum.inl (g n)) v := by
      unfold mergeK
      rw [List.range_succ, List.map_append, List.foldl_append]
      rfl
    rw [es]
    generalize mergeK [] ((List.range n).map fun i => ((Sum.inl (g i) : Key), v)) = acc at *
    refine ⟨?_, fun z => ?_⟩
    · by_cases hn : n < c
      · have no : valV acc (Sum.inl (g n)) = none := by
          cases e : valV acc (Sum.inl (g n)) with
          | none => rfl
          | some u =>
            obtain ⟨j, hj, ej⟩ := (h2 (g n)).mp (by rw [e]; rfl)
            have := up j n hj hn
            omega
        unfold putK
        rw [valV_any, no, if_neg (by decide), List.length_append, h1, List.length_singleton]
        omega
      · have yes : (valV acc (Sum.inl (g n))).isSome = true := (h2 _).mpr ⟨c - 1, by omega, (st n (by omega)).symm⟩
        obtain ⟨u, hu⟩ := Option.isSome_iff_exists.mp yes
        rw [putK_len v hu, h1]
        omega
    · rw [valV_put]
      constructor
      · intro h
        by_cases e : (Sum.inl z : Key) = Sum.inl (g n)
        · injection e with e
          exact ⟨n, Nat.lt_succ_self n, e.symm⟩
        · rw [if_neg e] at h
          obtain ⟨j, hj, ej⟩ := (h2 z).mp h
          exact ⟨j, Nat.lt_succ_of_lt hj, ej⟩
      · rintro ⟨j, hj, rfl⟩
        by_cases e : (Sum.inl (g j) : Key) = Sum.inl (g n)
        · rw [if_pos e]; rfl
        · rw [if_neg e]
          refine (h2 _).mpr ⟨j, ?_, rfl⟩
          rcases Nat.lt_or_ge j n with h | h
          · exact h
          · exact absurd (by rw [show j = n by omega]) e
/-- a list that may grow by one thing -/
theorem g_ifApp {d l L : Addr} {ws : List V} {b : Bool} {Pn : HO → Prop} (I : In d l Kn H) (hL : H L = some (.lst ws)) (kL : Kn L = none) (nd : L ≠ d) (nl : L ≠ l) (h : EvT t σ Kn b) (ha : Ev ta σ Kn (.ref L)) (hv : b = true → EvN te σ Kn Pn) (hz : ws.length < 1000)
    (k : ∀ ws' K1 H1, Ex Kn K1 → K1 L = some (.lst ws') → (ws' = ws ∨ b = true ∧ ∃ p o, ws' = ws ++ [.ref p] ∧ K1 p = some o ∧ Pn o) → In d l K1 H1 → tz D σ H1) :
    tSeq (tIfS t (tDrop (tBM K "list" rAppend ta (tCons te tNil))) tNext) tz D σ H := by
  refine q_when (h.mono I.ex) (fun hb H1 e1 => ?_) (fun hb H1 e1 => ?_)
  · have I1 := I.to e1
    refine ha H1 I1.ex _ fun H2 e2 => ⟨Or.inl ⟨rfl, ws, sq_of (e2 _ _ (e1 _ _ hL))⟩, hv hb H2 (I1.to e2).ex _ fun p H3 o np e3 hp ho => ⟨L, ws, .ref p, rfl, rfl, e3 _ _ (e2 _ _ (e1 _ _ hL)), sz_lt (by omega), ?_⟩⟩
    have I3 := (I1.to e2).to e3
    have hL2 := e2 _ _ (e1 _ _ hL)
    have np0 : H p = none := fresh_back (e1.trans e2) np
    have pL : p ≠ L := fun z => by subst z; rw [hL2] at np; cases np
    have I4 := ((I1.to e2).new np e3 hp)
    have kp : Kn p = none := fresh_back I.ex np0
    have hk : Ex Kn (upd Kn p o) := I4.2
    -- the list is known now
    refine k (ws ++ [.ref p]) (upd (upd Kn p o) L (.lst (ws ++ [.ref p]))) _ (hk.trans (Ex.new (by rw [upd_ne pL.symm]; exact kL))) upd_same (.inr ⟨hb, p, o, rfl, by rw [upd_ne pL, upd_same], ho⟩) ?_
    have m : Ex (upd Kn p o) (upd H3 L (.lst (ws ++ [.ref p]))) := Ex.mut I4.1.ex (by rw [upd_ne pL.symm]; exact kL)
    have dk : Dk d l (upd H3 L (.lst (ws ++ [.ref p]))) := by
      obtain ⟨kvs, ms, g1, g2, g3⟩ := I3.dk
      exact ⟨kvs, ms, by rw [upd_ne nd.symm]; exact g1, g2, by rw [upd_ne nl.symm]; exact g3⟩
    exact In.more (⟨m, I4.1.dn, I4.1.ln, dk⟩ : In d l (upd Kn p o) _) upd_same (by rw [upd_ne pL.symm]; exact kL) nd nl
  · have I1 := I.to e1
    exact k ws (upd Kn L (.lst ws)) H1 (Ex.new kL) upd_same (.inl rfl) (I1.more (e1 _ _ hL) kL nd nl)
end
section
variable {K : PySem.W.Frag} {σ : L2.St} {H : Hp} {ta tb : TE} {y z : V}
theorem ev_opN {r : R2} {Pn : HO → Prop} (ha : EvN ta σ H Pn) (hb : Ev tb σ H y) (hr : ∀ p o H1, H1 p = some o → Pn o → Ex H H1 → RV r (.ref p) y H1 z) : Ev (tOp r ta tb) σ H z := fun H1 e Q q =>
  ha H1 e _ fun p H2 o np e2 hp ho => hb H2 (e.trans e2) _ fun H3 e3 => hr p o H3 (e3 _ _ hp) ho ((e.trans e2).trans e3) H3 (Ex.refl H3) Q fun H4 e4 => q H4 ((e2.trans e3).trans e4)
end

/-! ### the law's own def, called at the top: nothing is under way there, so repr of data can be told -/
section
variable {P : Program} {w : World} {K : PySem.W.Frag} {mg mb : Str → Option Value} {k : Nat} {fa a : Addr} {qn nm x : Str} {prms : Arguments} {code : List Stmt} {sc : Scope} {dV kV doc pm cdv ct oc : Value} {an od : Option Addr} {osl : Array (Option Value)} {N : List Str}
/-- the body of the law's def, run at the top over base -/
def BodyAt (P : Program) (w : World) (K : PySem.W.Frag) (mg : Str → Option Value) (base : Heap) (k : Nat) (fa a : Addr) (qn : Str) (code : List Stmt) (sc : Scope) (cdv : Value) (N : List Str) (ns : List Int) : Prop :=
  ∀ (s : Shared) (H : Hp), Room k (callerA.deeper (envOfC qn sc s.heap.objs.size fa cdv)) → SqL K H a (ns.map V.int) →
    ∃ t, PSs (cxOf C8.CX0 P w K mg base N qn sc fa cdv callerA [] s H C8.E0).nox code t ∧ t { nx := fun _ _ => False, rt := fun v _ => v = .bl true } (start N [.ref a]) H
theorem top_at {base : Heap} {s : Shared} {H : Hp} {ns : List Int} (lk : K.lookup fa = some ⟨oc, od, .func (PySem.W.fnOf nm qn prms code sc dV kV doc pm an cdv ct), osl⟩) (hc : PySem.W.codeIn K cdv qn = true) (S : FnScope N [x] sc) (hr : Room (k + 1) callerA)
    (hb : ∀ (s : Shared) (u : Value), BindsTo s (PySem.W.fnOf nm qn prms code sc dV kV doc pm an cdv ct) ⟨[u], []⟩ [(x, u)]) (B : BodyAt P w K mg base k fa a qn code sc cdv N ns) (e0 : Env0 P w K mg base callerA [] s H) (hs : SqL K H a (ns.map V.int)) :
    codeAny (model P w) callerA (.call (.ref fa) ⟨[.ref a], []⟩) (CR C8.CX0 [] P w H s (fun v _ => v = .bl true) C8.E0) s := by
  have stay : ∀ b o, base.get? b = some o → s.heap.get? b = some o := fun b o e => (e0.bs b o e).1
  have kin : K.In s.heap := e0.mod.kin.keeps stay
  have one : Vals [V.ref a] [Value.ref a] := .cons rfl .nil
  have names : ∀ y ∈ [x].zip [Value.ref a], sc.names.lookup y.1 = some .local ∨ (sc.names.lookup y.1 = some .cell ∧ ((cellsFrom (s.heap.objs.size + 1) sc.names []).lookup y.1).isSome = true) := by
    intro y hy
    obtain ⟨m, v⟩ := y
    exact (S.par m (List.of_mem_zip hy).1).imp id fun q => ⟨q, PySem.W.cellsFrom_some _ _ _ (.inl q)⟩
  apply codeAny_call_function hr.depth (kin _ _ lk) rfl S.co S.gen rfl (PySem.W.codeRec_of kin hc) (hb _ _ _ _ _ _ ?_)
  refine wpAny_newFunctionEnv_cells S.kind names fun env he s1 entered => ?_
  cases he
  have lim := (e0.mod.nolimit.keeps stay).keeps entered.toInCall.keep
  refine ⟨lim, codeAny_func ?_⟩
  obtain ⟨t, ht, go⟩ := B s H (hr.deeper _) hs
  have I0 := inv_start (CX := C8.CX0) (E := C8.E0) S hr.hd e0 rfl one entered
  refine wpAny_mono (ht.nox.run [] s1 (start N [.ref a]) H _ I0 go) (fun way s' back => ?_) fun _ _ h => h
  cases way with
  | ret u =>
    obtain ⟨v, σ', H', J, rv, q⟩ := back
    exact ⟨v, H', J.os, J.bare, J.base, J.hok, rv, q⟩
  | next =>
    obtain ⟨_, _, _, q⟩ := back
    exact q.elim
  | brk =>
    obtain ⟨_, _, _, q⟩ := back
    exact q.elim
  | cont =>
    obtain ⟨_, _, _, q⟩ := back
    exact q.elim
end
section
variable {P : Program} {w : World} {K : PySem.W.Frag} {mg mb : Str → Option Value} {k : Nat} {fa a : Addr} {qn nm x : Str} {prms : Arguments} {code : List Stmt} {sc : Scope} {dV kV doc pm cdv ct oc : Value} {an od : Option Addr} {osl : Array (Option Value)} {N : List Str}
/-- the script's list as it stands -/
abbrev scr (vs : List Value) : Obj := { cls := .type "list", data := .seq vs.toArray }
/-- H tells of the script or of nothing -/
def OnlyScr (K : PySem.W.Frag) (a : Addr) (vs : List Value) (ns : List Int) (H : Hp) : Prop := ∀ b u, H b = some u → b = a ∧ u = .frz (scr vs) (.lst (ns.map V.int)) ∧ K.lookup a = none
theorem top_law {s : Shared} {vs : List Value} {ns : List Int} (lk : K.lookup fa = some ⟨oc, od, .func (PySem.W.fnOf nm qn prms code sc dV kV doc pm an cdv ct), osl⟩) (hc : PySem.W.codeIn K cdv qn = true) (S : FnScope N [x] sc) (hr : Room (k + 1) callerA)
    (hb : ∀ (s : Shared) (u : Value), BindsTo s (PySem.W.fnOf nm qn prms code sc dV kV doc pm an cdv ct) ⟨[u], []⟩ [(x, u)]) (B : ∀ base : Heap, K.In base → base.Ns mainGlobals mg → BodyAt P w K mg base k fa a qn code sc cdv N ns)
    (KX : K.In s.heap) (g1 : s.heap.Ns mainGlobals mg) (g2 : s.heap.Ns builtinsNs mb) (g3 : ∀ x : Str, x ≠ "__name__" → mb x = bootBuiltins x) (g4 : s.heap.NoLimit) (g5 : s.gens = #[])
    (ha : s.heap.get? a = some (scr vs)) (hi : IntsAre vs ns) (hl : ns.length ≤ sizeLine) :
    codeAny (model P w) callerA (.call (.ref fa) ⟨[.ref a], []⟩) (fun r s' => r = .ok (.ret (.bool true)) ∧ OldK s.heap s'.heap ∧ s'.os = s.os ∧ AllBare s'.gens) s := by
  have rel := vals_ints hi
  have over : ∀ H : Hp, OnlyScr K a vs ns H → HOk P w H s.heap → SqL K H a (ns.map V.int) →
      codeAny (model P w) callerA (.call (.ref fa) ⟨[.ref a], []⟩) (fun r s' => r = .ok (.ret (.bool true)) ∧ OldK s.heap s'.heap ∧ s'.os = s.os ∧ AllBare s'.gens) s := by
    intro H tells good hs
    have out : ∀ {b : Addr} {o : Obj}, s.heap.get? b = some o → o ≠ scr vs → H b = none := by
      intro b o e ne
      rcases hH : H b with _ | u
      · rfl
      · obtain ⟨rfl, _, _⟩ := tells b u hH
        exact absurd (Option.some.inj (e.symm.trans ha)) ne
    have ns_in : ∀ {b : Addr} {m : Str → Option Value}, s.heap.Ns b m → (hidT s.heap H).Ns b m := by
      rintro b m ⟨o, es, ep, e, d, r⟩
      refine ⟨o, es, ep, hidT_get e (out e fun z => ?_), d, r⟩
      rw [z] at d
      exact nomatch d
    have k_in : K.In (hidT s.heap H) := by
      intro b o e
      refine hidT_get (KX b o e) ?_
      rcases hH : H b with _ | u
      · rfl
      · obtain ⟨rfl, _, z⟩ := tells b u hH
        rw [z] at e
        exact nomatch e
    have modOk : Mod K mg (hidT s.heap H) := ⟨k_in, ns_in g1, ⟨mb, ns_in g2, g3⟩, g4.elim fun mc z => ⟨mc, ns_in z.1, z.2⟩⟩
    have e0 : Env0 P w K mg (hidT s.heap H) callerA [] s H := ⟨rfl, modOk, fun _ _ e => of_hidT e, Nat.le_of_eq (hidT_size _ _), trivial, fun _ hb => (nomatch hb), good, .of_eq g5⟩
    refine codeAny_mono (top_at lk hc S hr hb (B _ k_in (ns_in g1)) e0 hs) fun res s' h => ?_
    match res, h with
    | .ok (.ret u), h =>
      obtain ⟨v, H', os, bare, un, good', ru, rfl⟩ := h
      cases ru
      refine ⟨rfl, OldK.of_keep fun b o e => ?_, os, bare⟩
      rcases hH : H b with _ | u
      · exact un.keep b o e hH (fun z => (nomatch z)) (fun z => (nomatch z))
      · obtain ⟨rfl, rfl, _⟩ := tells b u hH
        obtain ⟨still, _⟩ := good' b _ (un.frzs b _ _ hH)
        rw [ha] at e
        rw [still]
        exact e
    | .ok .next, h => exact False.elim h
    | .ok .brk, h => exact False.elim h
    | .ok .cont, h => exact False.elim h
    | .error e, h => exact False.elim h
  rcases hk : K.lookup a with _ | o
  · refine over (fun b => if b = a then some (.frz (scr vs) (.lst (ns.map V.int))) else none) (fun b u z => ?_) (fun b u z => ?_) (.inl (.inr ⟨scr vs, if_pos rfl⟩))
    · change (if b = a then some (HO.frz (scr vs) (.lst (ns.map V.int))) else none) = some u at z
      by_cases q : b = a
      · rw [if_pos q] at z
        exact ⟨q, (Option.some.inj z).symm, hk⟩
      · rw [if_neg q] at z
        exact nomatch z
    · change (if b = a then some (HO.frz (scr vs) (.lst (ns.map V.int))) else none) = some u at z
      by_cases q : b = a
      · rw [if_pos q] at z
        subst q
        obtain rfl := Option.some.inj z
        exact ⟨ha, by rw [List.length_map]; exact hl, vs, _, rel, ha⟩
      · rw [if_neg q] at z
        exact nomatch z
  · have e := KX a o hk
    obtain rfl := Option.some.inj (e.symm.trans ha)
    exact over (fun _ => none) (fun _ _ z => (nomatch z)) (fun _ _ z => (nomatch z)) (.inr ⟨_, vs.toArray, _, hk, rfl, rfl, rfl, by rw [List.size_toArray, hi.length]; exact hl, by simpa using rel⟩)
end
/-- what the head wants of a law whose def runs at the top -/
theorem top_walk {l : PySem.W.OpenLaw} {n k : Nat} {q : Program} {loose : List Str} {XP : (Str → Option Value) → Heap → Prop} {YP : World → Heap → Prop} {d : DefRec} {K : Params → PySem.W.Frag} {x : Str}
    (hn : l.most = some n) (hn2 : n ≤ sizeLine) (hdf : d.params.defaults = []) (hr : Room (k + 1) callerA) (hY : ∀ (w : World) (h : Heap), YP w h → (K w.params).In h)
    (F : ∀ (w : World) (mg : Str → Option Value) (fa : Addr) (h : Heap), (K w.params).In h → h.Ns mainGlobals mg → mg d.name = some (.ref fa) →
      ∃ (nm qn : Str) (prms : Arguments) (code : List Stmt) (sc : Scope) (dV kV doc pm cdv ct oc : Value) (an od : Option Addr) (osl : Array (Option Value)) (N : List Str),
        (K w.params).lookup fa = some ⟨oc, od, .func (PySem.W.fnOf nm qn prms code sc dV kV doc pm an cdv ct), osl⟩ ∧ PySem.W.codeIn (K w.params) cdv qn = true ∧ FnScope N [x] sc ∧
        (∀ (s : Shared) (u : Value), BindsTo s (PySem.W.fnOf nm qn prms code sc dV kV doc pm an cdv ct) ⟨[u], []⟩ [(x, u)]) ∧
        ∀ base : Heap, (K w.params).In base → base.Ns mainGlobals mg → ∀ (a : Addr) (ns : List Int), ns.length ≤ n → BodyAt l.prog w (K w.params) mg base k fa a qn code sc cdv N ns) :
    PySem.W.WalkO q loose XP YP l.row.toRowW d [] (fun f vs => PySem.call f vs) := by
  refine Att.attach_call hn hdf fun w s0 s1 mg mb fa o pm cd doc a vs ns G Y _ _ _ hmg hobj hints hlen hg => ?_
  obtain ⟨nm, qn, prms, code, sc, dV, kV, doc, pm, cdv, ct, oc, an, od, osl, N, lk, hc, S, hb, B⟩ := F w mg fa _ (hY w _ Y) G.T.g hmg
  exact top_law lk hc S hr hb (fun base k1 k2 => B base k1 k2 a ns hlen) (hY w _ Y) G.T.g G.T.b G.T.builtins G.T.nolimit hg hobj hints (Nat.le_trans hlen hn2)

/-! ### repr of data at the top, what both ways of an if share -/
def rRepr (K : PySem.W.Frag) : List V → Hp → VK → Prop := fun xs H Q => ∃ (a : Addr) (d : PyData), xs = [.ref a] ∧ Dp K H (.ref a) d ∧ d.showable = true ∧ d.hasDict = false ∧ d.depth ≤ 64 ∧ d.shown.length ≤ 100000 ∧ Q (.str d.shown) H
theorem cr_repr {X : Cx} {j : Nat} (hg : X.A.guards = some []) (hr : Room j X.A) : CallR X (.builtin "repr") (rRepr X.K) := by
  intro pins s σ H xs us Q I rx h
  obtain ⟨a, d, rfl, hd, s1, s2, s3, s4, q⟩ := h
  obtain ⟨u, rfl, ru⟩ := Vals.one rx
  obtain rfl : u = Value.ref a := ru
  obtain ⟨as, r⟩ := Dp.reads I d _ _ hd rfl
  have un := hr.un
  exact repr_of_reads' r s1 (PyData.noDict_hsm s2) hg (by omega) (fun _ _ e => e) (fun h' u tk k => ⟨.str d.shown, H, I.kept (t' := tk) k, ⟨u, rfl⟩, q⟩) (Nat.le_trans s4 (by decide))
section
variable {K : PySem.W.Frag} {σ : L2.St} {H : Hp} {ta tb te : TE} {x y z : V}
theorem rc_repr {a : Addr} {d : PyData} (hd : Dp K H (.ref a) d) (s1 : d.showable = true) (s2 : d.hasDict = false) (s3 : d.depth ≤ 64) (s4 : d.shown.length ≤ 100000) : RC (rRepr K) [.ref a] H (.str d.shown) := fun H1 e _ q => ⟨a, d, rfl, dp_up e hd, s1, s2, s3, s4, q H1 (Ex.refl H1)⟩
theorem ev_reprN {xs : List V} {d : PyData} (h : EvU te σ H xs) (hd : ∀ a H1, H1 a = some (.tup xs) → Ex H H1 → Dp K H1 (.ref a) d) (s1 : d.showable = true) (s2 : d.hasDict = false) (s3 : d.depth ≤ 64) (s4 : d.shown.length ≤ 100000) : Ev (tCB (rRepr K) (tCons te tNil)) σ H (.str d.shown) := fun H1 e _ q =>
  h H1 e _ fun p H2 _ e2 hp => ⟨p, d, rfl, hd p H2 hp (e.trans e2), s1, s2, s3, s4, q H2 e2⟩
theorem ev_strN {C : Addr} {R : Hp → List V → V → Prop} {s : Str} {Pn : HO → Prop} (h : EvN te σ H Pn) (hp : ∀ a o H1, H1 a = some o → Pn o → Ex H H1 → (∃ dx fs, o = .ins C dx fs) ∧ R H1 [.ref a] (.str s)) : Ev (tCB (rStrO C R) (tCons te tNil)) σ H (.str s) := fun H1 e _ q =>
  h H1 e _ fun a H2 o _ e2 ha ho => by
    obtain ⟨⟨dx, fs, rfl⟩, hR⟩ := hp a o H2 ha ho (e.trans e2)
    exact ⟨a, dx, fs, s, rfl, ha, hR, fun H' e3 => q H' (e2.trans e3)⟩
theorem el_catV {a : Addr} {xs ys : List V} (h1 : Ev ta σ H (.ref a)) (ha : H a = some (.lst xs)) (h2 : EvL tb σ H ys) (hz : xs.length + ys.length ≤ 100000) : EvL (tOp rCat ta tb) σ H (xs ++ ys) := fun H1 e _ q =>
  h1 H1 e _ fun H2 e2 => h2 H2 (e.trans e2) _ fun p' H3 np' e3 hp' => ⟨a, p', xs, ys, rfl, rfl, ((e.trans e2).trans e3) _ _ ha, hp', Nat.le_trans hz (by decide), fun r nr => q r _ (fresh_back (e2.trans e3) nr) ((e2.trans e3).trans (Ex.new nr)) upd_same⟩
theorem rv_addS {a b : Str} (h : a.length + b.length ≤ 100000) : RV (fun x y H Q => ∃ i j, x = V.str i ∧ y = V.str j ∧ i.length + j.length ≤ sizeLine ∧ Q (.str (i ++ j)) H) (.str a) (.str b) H (.str (a ++ b)) := fun H1 _ _ q => ⟨a, b, rfl, rfl, Nat.le_trans h (by decide), q H1 (Ex.refl H1)⟩
/-- an if that may set a name: the rest is shown once -/
theorem x_ifShare {i : Nat} {t : TT} {tz : TS} {D : Ends} (C : V → Hp → Prop) (rest : ∀ v H', C v H' → tz D (σ.set i (some v)) H') (h : (∀ v H', C v H' → tz D (σ.set i (some v)) H') → t σ H fun b H1 => if b = true then te σ H1 (fun v H2 => tz D (σ.set i (some v)) H2) else tz D σ H1) :
    tSeq (tIfS t (tAsg te (gName i)) tNext) tz D σ H := h rest
theorem x_test {Q : Bool → Hp → Prop} (h : te σ H fun v H1 => ∃ b, v = .bl b ∧ Q b H1) : tTest te σ H Q := h
end
/-! ### a rule's arguments as data -/
def RuleD.data (r : RuleD) : PyData := .tuple [.int r.need, .int r.of, .int r.base, .int r.more, .int r.most, .int r.calm, .str r.back, .int r.top, .int r.under, .bool r.up, .str r.hears]
theorem dp_rule {K : PySem.W.Frag} {H : Hp} {p : Addr} {r : RuleD} (h : SqT K H p r.vals) : Dp K H (.ref p) r.data := .tup h (.cons (.int _) (.cons (.int _) (.cons (.int _) (.cons (.int _) (.cons (.int _) (.cons (.int _) (.cons (.str _) (.cons (.int _) (.cons (.int _) (.cons (.bl _) (.cons (.str _) .nil)))))))))))
theorem eqv_rule (r r' : RuleD) : PyData.eqv r.data r'.data = true ↔ r = r' := by
  cases r
  cases r'
  simp [RuleD.data, PyData.eqv, PyData.eqvAll]
theorem shaped_rule {r : RuleD} (ok : r.ok) : SeqAt.shaped r.data = true := by
  have sb : PyData.canLay0 (.str r.back) = true := by rcases ok.back with h | h | h <;> rw [h] <;> decide +kernel
  have sh : PyData.canLay0 (.str r.hears) = true := by rcases ok.hears with h | h | h <;> rw [h] <;> decide +kernel
  have si : ∀ i, PyData.canLay0 (.int i) = true := fun _ => rfl
  have su : ∀ i, PyData.canLay0 (.bool i) = true := fun _ => rfl
  have e1 : PyData.canLay0 r.data = true := by
    show PyData.canLayAll0 [_, _, _, _, _, _, _, _, _, _, _] = true
    simp only [PyData.canLayAll0, si, su, sb, sh, Bool.and_self]
  have e2 : PyData.depth r.data = 1 := by
    simp [RuleD.data, PyData.depth, PyData.depthAll]
  unfold SeqAt.shaped
  rw [e1, e2]
  decide
theorem show_rule {r : RuleD} (h : RuleN r) : r.data.showable = true ∧ r.data.hasDict = false ∧ r.data.depth ≤ 64 ∧ r.data.shown.length ≤ 100000 := by
  have ok := h.ok
  have a : ∀ z : Int, 0 ≤ z → z < 100 → PyData.showable (.int z) = true ∧ (PyData.shown (.int z)).length ≤ 6 := fun z h0 h1 => ⟨decide_eq_true (numLog h0 (by omega)), numLen h0 (by omega)⟩
  have a1 := a r.need (by have := ok.need; omega) (by have := ok.of; have := h.of; omega)
  have a2 := a r.of (by have := ok.need; have := ok.of; omega) h.of
  have a3 := a r.base (by have := ok.base; omega) (by have := ok.most; have := h.most; omega)
  have a4 := a r.more ok.more h.more
  have a5 := a r.most (by have := ok.base; have := ok.most; omega) h.most
  have a6 := a r.calm ok.calm h.calm
  have a7 := a r.top ok.top (by have := ok.topu; have := h.under; omega)
  have a8 := a r.under (by have := ok.under; omega) h.under
  have lb : (PyData.shown (.str r.back)).length ≤ 10 := by rcases ok.back with h | h | h <;> rw [h] <;> decide +kernel
  have lh : (PyData.shown (.str r.hears)).length ≤ 10 := by rcases ok.hears with h | h | h <;> rw [h] <;> decide +kernel
  have lu : (PyData.shown (.bool r.up)).length ≤ 10 := by cases r.up <;> decide +kernel
  have ss : ∀ s, PyData.showable (.str s) = true := fun _ => rfl
  have su : ∀ b, PyData.showable (.bool b) = true := fun _ => rfl
  refine ⟨?_, ?_, ?_, ?_⟩
  · show PyData.showableAll [_, _, _, _, _, _, _, _, _, _, _] = true
    simp only [PyData.showableAll, a1.1, a2.1, a3.1, a4.1, a5.1, a6.1, a7.1, a8.1, ss, su, Bool.and_self]
  · simp [RuleD.data, PyData.hasDict, PyData.hasDictAll]
  · simp [RuleD.data, PyData.depth, PyData.depthAll]
  · show (tupleText (PyData.shownAll [_, _, _, _, _, _, _, _, _, _, _])).length ≤ 100000
    refine Nat.le_trans (tupleText_len_le _) ?_
    simp only [PyData.shownAll, List.map_cons, List.map_nil, List.sum_cons, List.sum_nil, List.length_cons, List.length_nil]
    have := a1.2
    have := a2.2
    have := a3.2
    have := a4.2
    have := a5.2
    have := a6.2
    have := a7.2
    have := a8.2
    omega
section
variable {K : PySem.W.Frag}
theorem eu_catV {σ : L2.St} {H : Hp} {ta tb : TE} {a : Addr} {xs ys : List V} (h1 : Ev ta σ H (.ref a)) (ha : SqT K H a xs) (h2 : EvU tb σ H ys) (x0 : xs ≠ []) (y0 : ys ≠ []) (hz : xs.length + ys.length ≤ 100000) : EvU (tOp (rCatT K) ta tb) σ H (xs ++ ys) := fun H1 e _ q =>
  h1 H1 e _ fun H2 e2 => h2 H2 (e.trans e2) _ fun p' H3 np' e3 hp' => ⟨a, p', xs, ys, rfl, rfl, ex_t ((e.trans e2).trans e3) ha, st_of hp', x0, Nat.le_trans hz (by decide), fun z => (y0 z).elim, fun _ r nr => q r _ (fresh_back (e2.trans e3) nr) ((e2.trans e3).trans (Ex.new nr)) upd_same⟩
theorem eq_text {r r' : RuleD} (ok : r.ok) (ok' : r'.ok) : decide (textOf r = textOf r') = PyData.eqv r.data r'.data := by
  by_cases h : r = r'
  · subst h
    rw [decide_eq_true rfl, (eqv_rule r r).mpr rfl]
  · rw [decide_eq_false fun z => h (text_inj ok ok' z)]
    cases e : PyData.eqv r.data r'.data with
    | false => rfl
    | true => exact absurd ((eqv_rule r r').mp e) h
end

theorem RuleS.n {r : RuleD} (h : RuleS r) (ok : r.ok) : RuleN r := by
  have := h.of
  have := h.base
  have := h.most
  have := h.calm
  have := h.more
  have := h.under
  exact ⟨ok, by omega, by omega, by omega, by omega, by omega⟩

/-! ### plain data beside own objects: their types, x == y with y plain -/
section
variable {K : PySem.W.Frag} {H : Hp} {C : Addr} {y : V} {d : PyData}
def tyD : PyData → String
  | .none => "NoneType"
  | .bool _ => "bool"
  | .int _ => "int"
  | .str _ => "str"
  | .list _ => "list"
  | .tuple _ => "tuple"
  | .dict _ => "dict"
theorem tyD_known : ∀ d : PyData, (PySem.fastFind? (tyD d)).isSome = true
  | .none => by show (PySem.fastFind? "NoneType").isSome = true; decide +kernel
  | .bool _ => by show (PySem.fastFind? "bool").isSome = true; decide +kernel
  | .int _ => by show (PySem.fastFind? "int").isSome = true; decide +kernel
  | .str _ => by show (PySem.fastFind? "str").isSome = true; decide +kernel
  | .list _ => by show (PySem.fastFind? "list").isSome = true; decide +kernel
  | .tuple _ => by show (PySem.fastFind? "tuple").isSome = true; decide +kernel
  | .dict _ => by show (PySem.fastFind? "dict").isSome = true; decide +kernel
theorem sub_ty {n : String} (h : (PySem.fastFind? n).isSome = true) : PySem.W.subIn K (.type n) (.ref C) = some false := by
  obtain ⟨r, hr⟩ := Option.isSome_iff_exists.mp h
  show (PySem.fastBuiltinMro n).map (·.contains (Value.ref C)) = some false
  unfold PySem.fastBuiltinMro
  rw [hr, Option.map_some, Option.map_some]
  refine congrArg some ?_
  induction r.mro with
  | nil => rfl
  | cons z zs ih =>
    rw [List.map_cons, List.contains_cons, ih, Bool.or_false]
    rfl
theorem kit_no {n : String} (h : (PySem.fastFind? n).isSome = true) (rd : PySem.W.readsIn K C (.type "type") = true) (ho : PySem.W.mroIn K C (.type "object") = some true) : PySem.W.kitOne K (.type n) (.ref C) = some false := by
  unfold PySem.W.kitOne
  rw [if_neg (fun h => by cases (beq_iff_eq.mp h))]
  show (if ((PySem.W.clsIn K C).isSome && PySem.W.typeIn K (.ref C) == some (.type "type")) = true then PySem.W.subIn K (.type n) (.ref C) else none) = some false
  have h1 : (PySem.W.clsIn K C).isSome = true := by
    obtain ⟨cd, e, _⟩ := Option.bind_eq_some_iff.mp ho
    rw [e]
    rfl
  have h2 : (PySem.W.typeIn K (.ref C) == some (.type "type")) = true := by
    unfold PySem.W.readsIn at rd
    simp only [Bool.and_eq_true] at rd
    exact rd.1.1.1.2
  rw [h1, h2]
  simp only [Bool.and_self, if_true]
  exact sub_ty h
theorem tyx_D (h : Dp K H y d) : TyX K H y (.type (tyD d)) := by
  cases h with
  | non => exact .base .non
  | bl b => exact .base (.bl b)
  | int i => exact .base (.int i)
  | str x => exact .base (.str x)
  | lst h _ =>
    rcases h with (h | ⟨o, h⟩) | ⟨o, _, _, h, c, _⟩
    · exact .base (.lst h)
    · exact .base (.frz h)
    · exact .kList h c
  | tup h _ =>
    rcases h with (h | ⟨o, h⟩) | ⟨o, _, _, h, c, _⟩
    · exact .base (.tup h)
    · exact .fTuple h
    · exact .kTuple h c
end
section
variable {X : Cx} {pins : List (Addr × Obj)} {σ : L2.St} {H : Hp} {s : Shared} {y : V} {u : Value} {d : PyData}
theorem looks_D (I : Inv X pins σ H s) (h : Dp X.K H y d) (r : RelV y u) : PySem.W.Looks (model X.prog X.w) s.heap (typeOf u) (.type (tyD d)) := by
  have at_ : ∀ {a : Addr} {o : Obj} {t : String}, s.heap.get? a = some o → o.cls = .type t → PySem.W.Looks (model X.prog X.w) s.heap (typeOf (.ref a)) (.type t) := fun {a o t} e c A Q E s' k q => wpAny_typeOf_ref (k _ _ e) (by rw [c]; exact q)
  cases h with
  | non => cases r; exact fun A Q E s' k q => wpAny_pure q
  | bl b => cases r; exact fun A Q E s' k q => wpAny_pure q
  | int i => obtain ⟨t, rfl⟩ := r; exact fun A Q E s' k q => wpAny_pure q
  | str x => obtain ⟨t, rfl⟩ := r; exact fun A Q E s' k q => wpAny_pure q
  | lst h _ =>
    cases r
    obtain ⟨its, _, ⟨o, n, e, c, _⟩, _⟩ := I.list h
    exact at_ e c
  | tup h _ =>
    cases r
    obtain ⟨its, _, ⟨o, e, c, _⟩, _⟩ := I.tuple h
    exact at_ e c
end
section
variable {X : Cx} {k j : Nat} {C : Addr} {R : Hp → List V → V → Prop}
def rEqY (K : PySem.W.Frag) (C : Addr) (R : Hp → List V → V → Prop) : R2 := fun x y H Q => ∃ (a dx : Addr) (fs : List (Str × V)) (d : PyData) (k : Bool), x = .ref a ∧ H a = some (.ins C dx fs) ∧ Dp K H y d ∧ R H [.ref a, y] (.bl k) ∧ ∀ H', Ex H H' → Q (.bl k) H'
theorem op_eqY {K : PySem.W.Frag} (hK : X.K = K) (M : OwnM X.prog X.w X.K X.mg X.base k C "__eq__" R) (hr : Room j X.A) (hk : k ≤ j) : OpR X (compareOp .Eq) (rEqY K C R) := by
  subst hK
  intro pins s σ H x y v u Q I rx ry h
  obtain ⟨f, fd, ps, F, hs, hf, hb⟩ := M.ex
  obtain ⟨a, dx, fs, d, k, rfl, ha, hd, hR, q⟩ := h
  cases rx
  obtain ⟨mA, J, _⟩ := ins_get I.hok ha
  obtain ⟨od, J, _⟩ := J.look
  obtain ⟨m, hF⟩ := I.fr
  have r2 := hr.mono hk
  show wpAny (model X.prog X.w) X.A (richCompare .Eq (.ref a) u) (EP X pins σ Q) X.xe s
  refine PySem.W.cmp_K (op := .Eq) (tb := .type (tyD d)) r2.units0 hF I.ok.mod.kin J (looks_D I hd ry) (by
    unfold PySem.W.notFirst
    rw [sub_ty (tyD_known d)]
    exact Bool.or_true _) hs hf ?_
  have hsp : spP R [.ref a, y] H (fun v H' => v = .bl k ∧ Ex H H') C8.E0 := ⟨.bl k, hR, fun H' e => ⟨rfl, e⟩⟩
  have e0 : Env0 X.prog X.w X.K X.mg X.base X.A X.stack s H := by
    have e := I.env0
    exact ⟨e.frames, e.mod, e.bs, e.bsz, e.funs, e.frf, e.hok, e.bare⟩
  have hl := F.len _ _ _ _ hsp
  refine wpAny_call (codeAny_mono (F.run X.A X.stack s H ⟨[.ref a, u], []⟩ [.ref a, u] [.ref a, y] _ C8.E0 r2 e0 (by
    have := hb s [.ref a, u] I.kIn (by simpa using hl)
    simpa using this) (.cons rfl (.cons ry .nil)) hsp) fun r s' hq => ?_)
  cases r with
  | error e => exact False.elim hq
  | ok fl =>
    cases fl with
    | ret w =>
      obtain ⟨z, H', I', rz, ez, ex⟩ := I.after hq
      subst ez
      cases rz
      exact ⟨.bl k, H', I', rfl, q H' ex⟩
    | next => exact False.elim hq
    | brk => exact False.elim hq
    | cont => exact False.elim hq
end
section
variable {K : PySem.W.Frag} {σ : L2.St} {H : Hp} {C : Addr} {R : Hp → List V → V → Prop} {ta te : TE} {y : V}
theorem rv_eqY (m : Mono R) {a dx : Addr} {fs : List (Str × V)} {d : PyData} {k : Bool} (h : H a = some (.ins C dx fs)) (hd : Dp K H y d) (hR : R H [.ref a, y] (.bl k)) : RV (rEqY K C R) (.ref a) y H (.bl k) :=
  fun H1 e _ q => ⟨a, dx, fs, d, k, rfl, e _ _ h, dp_up e hd, m _ _ _ _ e hR, q⟩
theorem eu_tupleOf {a : Addr} {xs : List V} (h : Ev ta σ H (.ref a)) (hs : SqL K H a xs) : EvU (tCB (fun xs H Q => ∃ p ys, xs = [V.ref p] ∧ ((SqL K H p ys ∧ ∀ l, H l = none → Q (.ref l) (upd H l (.tup ys))) ∨ (SqT K H p ys ∧ Q (.ref p) H))) (tCons ta tNil)) σ H xs := fun H1 e _ q =>
  h H1 e _ fun H2 e2 => ⟨a, xs, rfl, .inl ⟨ex_l (e.trans e2) hs, fun l nl => q l _ (fresh_back e2 nl) (e2.trans (Ex.new nl)) upd_same⟩⟩
/-- a list beside what is known, changed -/
theorem In.mut {d l L : Addr} {Kn H : Hp} {o : HO} (h : In d l Kn H) (kL : Kn L = none) (nd : L ≠ d) (nl : L ≠ l) : In d l Kn (upd H L o) := by
  refine ⟨Ex.mut h.ex kL, h.dn, h.ln, ?_⟩
  obtain ⟨kvs, ms, g1, g2, g3⟩ := h.dk
  exact ⟨kvs, ms, by rw [upd_ne nd.symm]; exact g1, g2, by rw [upd_ne nl.symm]; exact g3⟩
/-- both are known -/
def join (K1 K2 : Hp) : Hp := fun b => match K2 b with
  | some o => some o
  | none => K1 b
theorem join_r {K1 K2 : Hp} : Ex K2 (join K1 K2) := fun b o e => by
  unfold join
  rw [e]
theorem join_l {K1 K2 : Hp} (h : ∀ b o, K2 b = some o → K1 b = none) : Ex K1 (join K1 K2) := fun b o e => by
  unfold join
  cases q : K2 b with
  | none => exact e
  | some u => rw [h b u q] at e; cases e
theorem In.join {d l : Addr} {Kn Kv H : Hp} (h : In d l Kn H) (e : Ex Kv H) (f : ∀ b o, Kv b = some o → Kn b = none ∧ b ≠ d ∧ b ≠ l) : In d l (join Kn Kv) H := by
  refine ⟨fun b o q => ?_, ?_, ?_, h.dk⟩
  · unfold Sit.join at q
    cases z : Kv b with
    | none => rw [z] at q; exact h.ex b o q
    | some u =>
      rw [z] at q
      obtain rfl := Option.some.inj q
      exact e b u z
  · unfold Sit.join
    cases z : Kv d with
    | none => exact h.dn
    | some u => exact absurd rfl (f d u z).2.1
  · unfold Sit.join
    cases z : Kv l with
    | none => exact h.ln
    | some u => exact absurd rfl (f l u z).2.2
end

/-! ### own errors that keep one thing -/
/-- the promise of their __init__: what is passed stands in the dict under f -/
def spErrI (C : Addr) (f : Str) : Sp := fun vs H Q _ => ∃ (a : Addr) (v : V), vs = [.ref a, v] ∧ H a = some (exo a C none) ∧ ∀ dx, H dx = none → dx ≠ a → Q .non (upd (upd H dx (exd dx [(f, v)])) a (exo a C (some dx)))
section
variable {σ : L2.St} {H : Hp} {ta : TA} {C : Addr} {f : Str} {v : V}
theorem x_ost {K : PySem.W.Frag} {D : Ends} {to te : TE} {a : Addr} (T : OexC K C) (hno : PySem.W.findIn K (.ref C) f = some none) (hv : te = tVar 1) (hs : to = tVar 0) (h0 : σ[0]? = some (some (.ref a))) (h1 : σ[1]? = some (some v)) (ha : H a = some (exo a C none))
    (k : ∀ dx, H dx = none → dx ≠ a → D.nx σ (upd (upd H dx (exd dx [(f, v)])) a (exo a C (some dx)))) : tOst K f to te D σ H := by
  subst hv hs
  exact ⟨v, h1, .ref a, h0, a, C, rfl, T, hno, .inl ⟨ha, k⟩⟩
theorem x_mkErr {Q : XK} (h : EvA ta σ H [v]) (k : ∀ d H1, Ex H H1 → H1 d = none → Q (.ref C) (some d) (upd H1 d (.xd [(f, v)]))) : tMkO C (spErrI C f) [] ta σ H Q :=
  h H (Ex.refl H) _ fun H1 e => ⟨(by show 1 ≤ 1000; decide), fun a na => ⟨a, v, rfl, upd_same, fun dx nd ne => ⟨rfl, dx, [(f, v)], upd_same, by rw [upd_ne ne]; exact upd_same, by rw [upd_ne ne] at nd; exact nd, by
    have nd1 : H1 dx = none := by rw [upd_ne ne] at nd; exact nd
    have hh : upd (del (upd (upd (upd H1 a (exo a C none)) dx (exd dx [(f, v)])) a (exo a C (some dx))) a) dx (.xd [(f, v)]) = upd H1 dx (.xd [(f, v)]) := by
      funext b
      by_cases hb : b = dx
      · subst hb; rw [upd_same, upd_same]
      · rw [upd_ne hb, upd_ne hb]
        by_cases hb2 : b = a
        · subst hb2; rw [del_same, na]
        · rw [del_ne hb2, upd_ne hb2, upd_ne hb, upd_ne hb2]
    rw [hh]
    exact k dx H1 e nd1⟩⟩⟩
end
/-- a def that may let an error out -/
theorem fnX {P : Program} {w : World} {K : PySem.W.Frag} {mg : Str → Option Value} {base : Heap} {x qual : Str} {st : Stmt} {f : Addr} {fd : FuncData} {N ps : List Str} {k : Nat} {sp : Sp} (F : C8.Fun K x qual st f fd) (S : FnScope N ps (C8.fnScope st)) (len : ∀ vs H Q E, sp vs H Q E → vs.length = ps.length)
    (hbody : ∀ (cdv : Value) (A : Around) (outer : List Env) (s : Shared) (H : Hp) (vs : List V) (Q : VK) (E : XK), Room k (A.deeper (envOfC qual (C8.fnScope st) s.heap.objs.size f cdv)) → sp vs H Q E →
      Takes (cxOf (CX P w) P w K mg base N qual (C8.fnScope st) f cdv A outer s H E) (fun cls d _ H' => E cls d H') →
      ∃ t, PSs (cxOf (CX P w) P w K mg base N qual (C8.fnScope st) f cdv A outer s H E) (C8.fnBody st) t ∧ t { nx := fun _ H' => Q .non H', rt := Q } (start N vs) H) : FnOk P w K mg base (CX P w) (k + 1) f fd ps sp := by
  obtain ⟨oc, od, dV, kV, doc, pm, an, cdv, ct, osl, rfl, lk, hcd⟩ := F.ex
  refine fn_of lk hcd S len fun A outer s H vs Q E hr hsp => ?_
  exact hbody cdv A outer s H vs Q E hr hsp (takes_of rfl rfl rfl rfl)
/-- an own error class x that keeps one thing under f -/
structure ErrM (P : Program) (w : World) (K : PySem.W.Frag) (mg : Str → Option Value) (base : Heap) (x : Str) (C : Addr) (f : Str) : Prop where
  ex : ∃ (fI : Addr) (fd : FuncData) (ps : List Str), OexC K C ∧ PySem.W.findIn K (.ref C) "__init__" = some (some (.ref fI)) ∧ PySem.W.typeIn K (.ref fI) = some (.type "function") ∧ FnOk P w K mg base CX0 1 fI fd ps (spErrI C f) ∧ Binds K fd ps [] ∧ mg x = some (.ref C)
/-- raise x(e) -/
def tErr (C : Addr) (f : Str) (W : WX) (ta : TA) : TS := fun _ σ H => tMkO C (spErrI C f) [] ta σ H fun cls d H' => W cls d σ H'
section
variable {X : Cx} {j : Nat} {x f : Str} {C : Addr} {W : WX} {e : Expr} {es : List Expr} {ta : TA} {p pos pos2 : Pos}
theorem ps_err (M : ErrM X.prog X.w X.K X.mg X.base x C f) (hc : X.calm = true) (hr : Room j X.A) (hj : 2 ≤ j) (tk : Takes X W) (hg : Gl X x) (ha : PA X (e :: es) ta)
    (hdb : (x == ("__debug__" : Str)) = false := by decide) (he : starEach (e :: es) X.env = (false, eval e X.env) :: starEach es X.env := by rfl) (hpl : (backTo pos (starEach es X.env)).any (·.1) = false := by rfl) :
    PS X (.Raise (some (.Call (.Name x p) (e :: es) [] pos)) none pos2) (tErr C f W ta) := by
  obtain ⟨fI, fd, ps, T, iC, tI, F, b, hm⟩ := M.ex
  exact ps_raise hc tk (pmk_oex T iC tI F (hr.mono hj) b .nil C8.pass0 hg hm ha hdb he hpl)
end
theorem x_err {C : Addr} {f : Str} {W : WX} {ta : TA} {D : Ends} {σ : L2.St} {H : Hp} {v : V} (h : EvA ta σ H [v]) (k : ∀ d H1, Ex H H1 → H1 d = none → W (.ref C) (some d) σ (upd H1 d (.xd [(f, v)]))) : tErr C f W ta D σ H := x_mkErr h k

/-! ### any values -/
structure Good (n : Nat) (d : PyData) : Prop where
  sh : d.showable = true
  nd : d.hasDict = false
  cl : d.canLay0 = true
  dp : d.depth ≤ n
  ln : d.shown.length ≤ 100 * 4 ^ n
theorem pow4 (n : Nat) : 1 ≤ 4 ^ n := Nat.one_le_pow _ _ (by decide)
theorem good_atom {n : Nat} {d : PyData} (h : (d.showable && !d.hasDict && d.canLay0 && decide (d.depth = 0) && decide (d.shown.length ≤ 100)) = true) : Good n d := by
  simp only [Bool.and_eq_true, Bool.not_eq_true', decide_eq_true_eq] at h
  obtain ⟨⟨⟨⟨h1, h2⟩, h3⟩, h4⟩, h5⟩ := h
  have := pow4 n
  exact ⟨h1, h2, h3, by omega, by omega⟩
theorem good_all {n : Nat} : ∀ {ds : List PyData}, (∀ x ∈ ds, Good n x) → PyData.showableAll ds = true ∧ PyData.hasDictAll ds = false ∧ PyData.canLayAll0 ds = true ∧ PyData.depthAll ds ≤ n ∧ ((PyData.shownAll ds).map (·.length)).sum ≤ ds.length * (100 * 4 ^ n) ∧ (PyData.shownAll ds).length = ds.length
  | [], _ => ⟨rfl, rfl, rfl, Nat.zero_le _, Nat.zero_le _, rfl⟩
  | d :: ds, h => by
    obtain ⟨h1, h2, h3, h4, h5, h6⟩ := good_all (ds := ds) (fun x hx => h x (List.mem_cons_of_mem _ hx))
    have g := h d (List.mem_cons_self ..)
    refine ⟨?_, ?_, ?_, ?_, ?_, ?_⟩
    · show (d.showable && PyData.showableAll ds) = true
      rw [g.sh, h1]; rfl
    · show (d.hasDict || PyData.hasDictAll ds) = false
      rw [g.nd, h2]; rfl
    · show (d.canLay0 && PyData.canLayAll0 ds) = true
      rw [g.cl, h3]; rfl
    · show max d.depth (PyData.depthAll ds) ≤ n
      exact Nat.max_le.mpr ⟨g.dp, h4⟩
    · show (d.shown :: PyData.shownAll ds |>.map (·.length)).sum ≤ _
      rw [List.map_cons, List.sum_cons, List.length_cons, Nat.succ_mul]
      have := g.ln
      omega
    · show (PyData.shownAll ds).length + 1 = _
      rw [h6, List.length_cons]
theorem good_list {n : Nat} {ds : List PyData} (h : ∀ x ∈ ds, Good n x) (hl : ds.length ≤ 3) : Good (n + 1) (.list ds) := by
  obtain ⟨h1, h2, h3, h4, h5, h6⟩ := good_all h
  refine ⟨h1, h2, h3, Nat.succ_le_succ h4, ?_⟩
  refine Nat.le_trans (listText_len_le _) ?_
  have p := pow4 n
  have q : ds.length * (100 * 4 ^ n) ≤ 3 * (100 * 4 ^ n) := Nat.mul_le_mul_right _ hl
  rw [h6, Nat.pow_succ]
  omega
theorem good_tuple {n : Nat} {ds : List PyData} (h : ∀ x ∈ ds, Good n x) (hl : ds.length ≤ 3) : Good (n + 1) (.tuple ds) := by
  obtain ⟨h1, h2, h3, h4, h5, h6⟩ := good_all h
  refine ⟨h1, h2, h3, Nat.succ_le_succ h4, ?_⟩
  refine Nat.le_trans (tupleText_len_le _) ?_
  have p := pow4 n
  have q : ds.length * (100 * 4 ^ n) ≤ 3 * (100 * 4 ^ n) := Nat.mul_le_mul_right _ hl
  rw [h6, Nat.pow_succ]
  omega
theorem dpAll_up {K : PySem.W.Frag} {H H' : Hp} (e : Ex H H') : ∀ {vs : List V} {ds : List PyData}, DpAll K H vs ds → DpAll K H' vs ds
  | _, _, .nil => .nil
  | _, _, .cons h t => .cons (dp_up e h) (dpAll_up e t)
theorem dpAll_snoc {K : PySem.W.Frag} {H : Hp} {v : V} {d : PyData} (h : Dp K H v d) : ∀ {vs : List V} {ds : List PyData}, DpAll K H vs ds → DpAll K H (vs ++ [v]) (ds ++ [d])
  | _, _, .nil => .cons h .nil
  | _, _, .cons a t => .cons a (dpAll_snoc h t)
theorem dpAll_len {K : PySem.W.Frag} {H : Hp} : ∀ {vs : List V} {ds : List PyData}, DpAll K H vs ds → vs.length = ds.length
  | _, _, .nil => rfl
  | _, _, .cons _ t => by rw [List.length_cons, List.length_cons, dpAll_len t]
theorem x_yes {σ : L2.St} {H : Hp} {A B : Hp → Prop} (h : A H) : tYes σ H fun b H3 => if b = true then A H3 else B H3 := by
  show (if (true : Bool) = true then A H else B H)
  rw [if_pos rfl]
  exact h
/-- any value, so deep at most: what it is made of is new -/
def spVal (K : PySem.W.Frag) (n : Nat) : Sp := fun vs H Q _ => ∃ (d l : Addr) (m : Nat) (Kn : Hp), vs = [.ref d, .int (m : Int)] ∧ m ≤ n ∧ In d l Kn H ∧
  ∀ v pd Kv H1, Dp K Kv v pd → Good m pd → (∀ b o, Kv b = some o → Kn b = none ∧ b ≠ d ∧ b ≠ l) → Ex Kv H1 → In d l Kn H1 → Q v H1
def spValI (K : PySem.W.Frag) : Nat → Sp
  | 0 => fun _ _ _ _ => False
  | n + 1 => spVal K n
section
variable {P : Program} {w : World} {K : PySem.W.Frag} {mg : Str → Option Value} {base : Heap} {CR aB aH : Addr}
theorem ok_value_step (n : Nat) {f : Addr} {fd : FuncData} (D : C8.Def K mg "_law_value" st_law_value f fd) (b : Binds K fd ["_law_deal_here", "_law_deep"] []) (T : Tb K mg CR aB aH) (c_law_draw : C8.Cal P w K mg base 2 "_law_draw" spDraw []) (c_law_pick : C8.Cal P w K mg base 3 "_law_pick" (spPick K) [])
    (c_law_value : C8.Cal P w K mg base (3 + n) "_law_value" (spValI K n) []) : C8.Cal P w K mg base (3 + n + 1) "_law_value" (spVal K n) [] := by
  refine C8.cal0 D b .nil sc_law_value (fun vs H Q E h => ?_) (fun cdv A outer s H vs Q E hr h => ?_)
  · obtain ⟨_, _, _, _, rfl, _⟩ := h
    rfl
  · obtain ⟨d, l, m, Kn, rfl, hm, I, k⟩ := h
    refine ⟨_, pss_cons (ps_set (i := 2) sc_law_value.nd rfl (Or.inl rfl) (C8.pe_c c_law_draw hr (by omega) (by rfl) (pa_cons (pv 0) (pa_cons (pe_ifExp (pt_cmpR (op_gt) (pv 1) (pe_int) (nomark _)) (pe_int) (pe_int)) (pa_nil)))))
      (pss_cons (ps_if (pt_cmpR (op_eq) (pv 2) (pe_int) (nomark _)) (pss_one (ps_ret (C8.pe_c c_law_pick hr (by omega) (by rfl) (pa_cons (pv 0) (pa_cons (pe_lst (pa_cons (pe_int) (pa_cons (pe_int) (pa_cons (pe_op op_sub (pe_int) (pe_int)) (pa_cons (pe_op op_pow (pe_int) (pe_int)) (pa_nil)))))) (pa_nil)))))) (pss_nil))
      (pss_cons (ps_if (pt_cmpR (op_eq) (pv 2) (pe_int) (nomark _)) (pss_one (ps_ret (C8.pe_c c_law_pick hr (by omega) (by rfl) (pa_cons (pv 0) (pa_cons (pe_lst (pa_cons (pe_non) (pa_cons (pe_bl) (pa_cons (pe_bl) (pa_nil))))) (pa_nil)))))) (pss_nil))
      (pss_cons (ps_if (pt_cmpR (op_lt) (pv 2) (pe_int) (nomark _)) (pss_one (ps_ret (C8.pe_c c_law_pick hr (by omega) (by rfl) (pa_cons (pv 0) (pa_cons (pe_lst (pa_cons (pe_str) (pa_cons (pe_str) (pa_cons (pe_str) (pa_cons (pe_str) (pa_cons (pe_str) (pa_cons (pe_str) (pa_cons (pe_str) (pa_cons (pe_str) (pa_nil)))))))))) (pa_nil)))))) (pss_nil))
      (pss_cons (ps_setLc (i := 3) (own := [("_law_k", 4)]) (g := gName 4) (tt := tYes) (by rfl) sc_law_value.nd rfl rfl (sw_true rfl rfl rfl (by decide +kernel)) (pi_range1 (by rfl) T.bi_range (pa_cons (C8.pe_c c_law_draw hr (by omega) (by rfl) (pa_cons (pv 0) (pa_cons (pe_int) (pa_nil)))) (pa_nil))) (blkOk_by (own := [("_law_k", 4)]) (N := ["_law_deal_here", "_law_deep", "_law_form", "_law_some", "_law_k"]) (sc := C8.fnScope st_law_value) (by decide +kernel)) (fun _ _ _ _ _ => pg_name (i := 4) sc_law_value.nd rfl (Or.inl rfl)) (fun _ _ _ _ _ => pts_nil) (fun _ _ _ _ _ => C8.pe_c c_law_value hr (by omega) (by rfl) (pa_cons (pv 0) (pa_cons (pe_op op_sub (pv 1) (pe_int)) (pa_nil)))))
      (pss_one (ps_ret (pe_ifExp (pt_cmpR (op_eq) (pv 2) (pe_int) (nomark _)) (pv 3) (pe_callTy call_tuple_of (by rfl) T.bi_tuple boot_tuple (pa_cons (pv 3) (pa_nil)))))))))), ?_⟩
    refine x_asg (x_draw (m := if 0 < m then 7 else 4) I (by split <;> decide) (by split <;> decide) (ea_cons (ev_var rfl) (ea_cons (ev_is (ev_ifE (et_test (ev_op (ev_var rfl) ev_c rv_I0)) ev_c ev_c) (by
      by_cases h : 0 < m
      · rw [if_pos h, decide_eq_true (by omega), if_pos rfl]
      · rw [if_neg h, decide_eq_false (by omega), if_neg Bool.false_ne_true])) ea_nil)) fun v H1 v0 v1 I => ?_)
    have md := mdI d l Kn
    have atom : ∀ (v : V) (pd : PyData) (H' : Hp), Dp K (fun _ => none) v pd → (pd.showable && !pd.hasDict && pd.canLay0 && decide (pd.depth = 0) && decide (pd.shown.length ≤ 100)) = true → In d l Kn H' → Q v H' :=
      fun v pd H' hd hg I => k v pd (fun _ => none) H' hd (good_atom hg) (fun _ _ z => (nomatch z)) (fun _ _ z => (nomatch z)) I
    by_cases h0 : v = 0
    · refine g_yes md I (et_is (et_test (ev_op (ev_var rfl) ev_c (rv_eq rfl))) (by simp [h0])) fun H2 I => ?_
      refine x_ret (x_call (x_cons (I.ev (ev_var rfl) fun H3 I => x_cons (I.evL (el_lst (ea_cons ev_c (ea_cons ev_c (ea_cons (ev_op ev_c ev_c rv_I0) (ea_cons (ev_op ev_c ev_c (rv_I ⟨by decide, by decide, by decide⟩)) ea_nil)))) (by show 4 ≤ 100000; decide)) fun p K1 H4 e hp I => x_nil ⟨d, l, p, _, K1, rfl, sq_of hp, by show 0 < 4; decide, by show 4 < 1000000; decide, I, fun x H5 hx I => ?_⟩))))
      have I := I.less e
      rcases List.mem_cons.mp hx with rfl | hx
      · exact atom _ _ _ (.int _) (by decide +kernel) I
      rcases List.mem_cons.mp hx with rfl | hx
      · exact atom _ _ _ (.int _) (by decide +kernel) I
      rcases List.mem_cons.mp hx with rfl | hx
      · exact atom _ _ _ (.int _) (by decide +kernel) I
      rcases List.mem_cons.mp hx with rfl | hx
      · exact atom _ _ _ (.int _) (by decide +kernel) I
      · cases hx
    refine g_no md I (et_is (et_test (ev_op (ev_var rfl) ev_c (rv_eq rfl))) (by simp [h0])) fun H2 I => ?_
    by_cases h1 : v = 1
    · refine g_yes md I (et_is (et_test (ev_op (ev_var rfl) ev_c (rv_eq rfl))) (by simp [h1])) fun H2 I => ?_
      refine x_ret (x_call (x_cons (I.ev (ev_var rfl) fun H3 I => x_cons (I.evL (el_lst (ea_cons ev_c (ea_cons ev_c (ea_cons ev_c ea_nil))) (by show 3 ≤ 100000; decide)) fun p K1 H4 e hp I => x_nil ⟨d, l, p, _, K1, rfl, sq_of hp, by show 0 < 3; decide, by show 3 < 1000000; decide, I, fun x H5 hx I => ?_⟩))))
      have I := I.less e
      rcases List.mem_cons.mp hx with rfl | hx
      · exact atom _ _ _ .non (by decide +kernel) I
      rcases List.mem_cons.mp hx with rfl | hx
      · exact atom _ _ _ (.bl _) (by decide +kernel) I
      rcases List.mem_cons.mp hx with rfl | hx
      · exact atom _ _ _ (.bl _) (by decide +kernel) I
      · cases hx
    refine g_no md I (et_is (et_test (ev_op (ev_var rfl) ev_c (rv_eq rfl))) (by simp [h1])) fun H2 I => ?_
    by_cases h2 : v < 4
    · refine g_yes md I (et_is (et_test (ev_op (ev_var rfl) ev_c rv_I0)) (by simp [h2])) fun H2 I => ?_
      refine x_ret (x_call (x_cons (I.ev (ev_var rfl) fun H3 I => x_cons (I.evL (el_lst (ea_cons ev_c (ea_cons ev_c (ea_cons ev_c (ea_cons ev_c (ea_cons ev_c (ea_cons ev_c (ea_cons ev_c (ea_cons ev_c ea_nil)))))))) (by show 8 ≤ 100000; decide)) fun p K1 H4 e hp I => x_nil ⟨d, l, p, _, K1, rfl, sq_of hp, by show 0 < 8; decide, by show 8 < 1000000; decide, I, fun x H5 hx I => ?_⟩))))
      have I := I.less e
      have each : ∀ s : Str, (PyData.showable (.str s) && !PyData.hasDict (.str s) && PyData.canLay0 (.str s) && decide (PyData.depth (.str s) = 0) && decide ((PyData.shown (.str s)).length ≤ 100)) = true → Q (.str s) H5 := fun s h => atom _ _ _ (.str _) h I
      rcases List.mem_cons.mp hx with rfl | hx
      · exact each _ (by decide +kernel)
      rcases List.mem_cons.mp hx with rfl | hx
      · exact each _ (by decide +kernel)
      rcases List.mem_cons.mp hx with rfl | hx
      · exact each _ (by decide +kernel)
      rcases List.mem_cons.mp hx with rfl | hx
      · exact each _ (by decide +kernel)
      rcases List.mem_cons.mp hx with rfl | hx
      · exact each _ (by decide +kernel)
      rcases List.mem_cons.mp hx with rfl | hx
      · exact each _ (by decide +kernel)
      rcases List.mem_cons.mp hx with rfl | hx
      · exact each _ (by decide +kernel)
      rcases List.mem_cons.mp hx with rfl | hx
      · exact each _ (by decide +kernel)
      · cases hx
    refine g_no md I (et_is (et_test (ev_op (ev_var rfl) ev_c rv_I0)) (by simp [h2])) fun H2 I => ?_
    -- lists and tuples
    obtain ⟨m', rfl⟩ : ∃ m', m = m' + 1 := ⟨m - 1, by
      by_cases h : 0 < m
      · omega
      · rw [if_neg h] at v1
        omega⟩
    obtain ⟨n', rfl⟩ : ∃ n', n = n' + 1 := ⟨n - 1, by omega⟩
    refine x_asg ?_
    unfold tLc
    unfold iRng1
    refine x_cons (x_draw I (by decide) (by decide) (ea_cons (ev_var rfl) (ea_cons ev_c ea_nil)) fun c Hs c0 c1 I => x_nil ⟨c, rfl, by omega, by omega, fun Dl nD => ?_⟩)
    have kD := fresh_back I.ex nD
    obtain ⟨dD, lD⟩ := I.apart nD
    refine lc_range (lo := 0) (n := c.toNat) (fun i H' => ∃ (ws : List V) (ds : List PyData) (Kv : Hp), H' Dl = some (.lst ws) ∧ ws.length = i ∧ DpAll K Kv ws ds ∧ (∀ x ∈ ds, Good m' x) ∧ (∀ b o, Kv b = some o → (Kn b = none ∧ b ≠ d ∧ b ≠ l) ∧ b ≠ Dl) ∧ Ex Kv H' ∧ In d l Kn H')
      ⟨[], [], fun _ => none, upd_same, rfl, .nil, fun _ z => (nomatch z), fun _ _ z => (nomatch z), fun _ _ z => (nomatch z), I.to (Ex.new nD)⟩ ?_ ?_
    · rintro i H' hi ⟨ws, ds, Kv, hD, hl, hA, hG, hf, hE, I⟩
      refine ⟨rfl, ?_⟩
      have I1 := I.more hD kD dD lD
      have fr : ∀ b o, Kv b = some o → (upd Kn Dl (.lst ws)) b = none ∧ b ≠ d ∧ b ≠ l := fun b o z => ⟨by rw [upd_ne (hf b o z).2]; exact (hf b o z).1.1, (hf b o z).1.2⟩
      have I2 := I1.join hE fr
      have jl := join_l (K1 := upd Kn Dl (.lst ws)) (K2 := Kv) (fun b o z => (fr b o z).1)
      have jD : join (upd Kn Dl (.lst ws)) Kv Dl = some (.lst ws) := jl _ _ upd_same
      have jK : Ex Kn (join (upd Kn Dl (.lst ws)) Kv) := (Ex.new kD).trans jl
      refine x_yes ?_
      show tCall (spVal K n') [] _ _ _ H' _
      refine x_call (ea_cons (ev_var rfl) (ea_cons (ev_op (ev_var rfl) ev_c rv_I0) ea_nil) H' (Ex.refl H') _ fun H3 e3 => ⟨d, l, m', join (upd Kn Dl (.lst ws)) Kv, ?_, by omega, I2.to e3, fun v pd Kv2 H4 hd hg hf2 hE2 I4 => ?_⟩)
      · rw [List.append_nil]
        refine congrArg (fun z => [V.ref d, V.int z]) ?_
        push_cast
        omega
      · have f2 : ∀ b o, Kv2 b = some o → (Kn b = none ∧ b ≠ d ∧ b ≠ l) ∧ b ≠ Dl := fun b o z => ⟨⟨fresh_back jK (hf2 b o z).1, (hf2 b o z).2⟩, fun q => by
          subst q
          rw [(hf2 _ o z).1] at jD
          cases jD⟩
        have f3 : ∀ b o, Kv2 b = some o → Kv b = none := fun b o z => fresh_back join_r (hf2 b o z).1
        have hA1 : DpAll K (join Kv Kv2) ws ds := dpAll_up (join_l f3) hA
        have hA2 : DpAll K (join Kv Kv2) (ws ++ [v]) (ds ++ [pd]) := dpAll_snoc (dp_up join_r hd) hA1
        have hE4 : Ex Kv H4 := join_r.trans I4.ex
        refine ⟨ws, I4.ex _ _ jD, sz_lt (by omega), ws ++ [v], ds ++ [pd], join Kv Kv2, upd_same, by rw [List.length_append, hl]; rfl, hA2, fun x hx => ?_, fun b o z => ?_, fun b o z => ?_, (I4.less jK).mut kD dD lD⟩
        · rcases List.mem_append.mp hx with hx | hx
          · exact hG x hx
          · rcases List.mem_cons.mp hx with rfl | hx
            · exact hg
            · cases hx
        · unfold join at z
          cases q : Kv2 b with
          | none => rw [q] at z; exact hf b o z
          | some u => exact f2 b u q
        · have hb : b ≠ Dl := by
            unfold join at z
            cases q : Kv2 b with
            | none => rw [q] at z; exact (hf b o z).2
            | some u => exact (f2 b u q).2
          rw [upd_ne hb]
          unfold join at z
          cases q : Kv2 b with
          | none => rw [q] at z; exact hE4 b o z
          | some u =>
            rw [q] at z
            obtain rfl := Option.some.inj z
            exact hE2 b u q
    · rintro H' ⟨ws, ds, Kv, hD, hl, hA, hG, hf, hE, I⟩
      have hl3 : ds.length ≤ 3 := by
        rw [← dpAll_len hA, hl]
        omega
      have I1 := I.more hD kD dD lD
      have fr : ∀ b o, Kv b = some o → (upd Kn Dl (.lst ws)) b = none ∧ b ≠ d ∧ b ≠ l := fun b o z => ⟨by rw [upd_ne (hf b o z).2]; exact (hf b o z).1.1, (hf b o z).1.2⟩
      have I2 := I1.join hE fr
      have jl := join_l (K1 := upd Kn Dl (.lst ws)) (K2 := Kv) (fun b o z => (fr b o z).1)
      have jD : join (upd Kn Dl (.lst ws)) Kv Dl = some (.lst ws) := jl _ _ upd_same
      have jK : Ex Kn (join (upd Kn Dl (.lst ws)) Kv) := (Ex.new kD).trans jl
      have vD : Kv Dl = none := by
        cases q : Kv Dl with
        | none => rfl
        | some u => exact absurd rfl (hf Dl u q).2
      refine x_ret ?_
      show tTest _ _ _ _
      refine I2.ev (ev_op (ev_var rfl) ev_c (rv_eq rfl)) fun H5 I3 => ⟨_, rfl, ?_⟩
      have hE5 : Ex Kv H5 := join_r.trans I3.ex
      cases h4 : decide (V.int v = V.int 4) with
      | true =>
        refine iteT ?_
        refine I3.ev (ev_var rfl) fun H6 I4 => k (.ref Dl) (.list ds) (upd Kv Dl (.lst ws)) H6 (.lst (sq_of upd_same) (dpAll_up (Ex.new vD) hA)) (good_list hG hl3) (fun b o z => ?_) (fun b o z => ?_) (I4.less jK)
        · by_cases q : b = Dl
          · subst q; exact ⟨kD, dD, lD⟩
          · rw [upd_ne q] at z; exact (hf b o z).1
        · by_cases q : b = Dl
          · subst q
            rw [upd_same] at z
            obtain rfl := Option.some.inj z
            exact I4.ex _ _ jD
          · rw [upd_ne q] at z
            exact (join_r.trans I4.ex) b o z
      | false =>
        refine iteF ?_
        refine eu_tupleOf (ev_var rfl) (sq_of (I3.ex _ _ jD)) H5 (Ex.refl H5) _ fun p H6 np e6 hp => ?_
        have I4 := I3.to e6
        have kp := fresh_back I3.ex np
        have vp : Kv p = none := fresh_back join_r kp
        refine k (.ref p) (.tuple ds) (upd Kv p (.tup ws)) H6 (.tup (st_of upd_same) (dpAll_up (Ex.new vp) hA)) (good_tuple hG hl3) (fun b o z => ?_) (fun b o z => ?_) (I4.less jK)
        · by_cases q : b = p
          · subst q; exact ⟨fresh_back jK kp, I3.apart np⟩
          · rw [upd_ne q] at z; exact (hf b o z).1
        · by_cases q : b = p
          · subst q
            rw [upd_same] at z
            obtain rfl := Option.some.inj z
            exact hp
          · rw [upd_ne q] at z
            exact e6 _ _ (hE5 b o z)
theorem ok_value {f : Addr} {fd : FuncData} (D : C8.Def K mg "_law_value" st_law_value f fd) (b : Binds K fd ["_law_deal_here", "_law_deep"] []) (T : Tb K mg CR aB aH) (c_law_draw : C8.Cal P w K mg base 2 "_law_draw" spDraw []) (c_law_pick : C8.Cal P w K mg base 3 "_law_pick" (spPick K) []) : ∀ n : Nat, C8.Cal P w K mg base (3 + n + 1) "_law_value" (spVal K n) []
  | 0 => ok_value_step 0 D b T c_law_draw c_law_pick ⟨f, fd, _, [], ⟨fun _ _ _ _ h => h.elim, fun _ _ _ _ _ _ _ _ _ _ _ _ _ h => h.elim⟩, D.mgf, D.kp, b, .nil⟩
  | n + 1 => ok_value_step (n + 1) D b T c_law_draw c_law_pick (ok_value D b T c_law_draw c_law_pick n)
end

section
variable {P : Program} {w : World} {K : PySem.W.Frag} {mg : Str → Option Value} {base : Heap}
theorem ok_errRule {C f : Addr} {fd : FuncData} (D : C8.Fun K "__init__" "InvalidRule.__init__" st_InvalidRule___init__ f fd) (T : OexC K C) (hno : PySem.W.findIn K (.ref C) "word" = some none) : FnOk P w K mg base CX0 1 f fd ["self", "word"] (spErrI C "word") := by
  refine C8.fn0 D sc_InvalidRule___init__ (fun vs H Q E h => ?_) (fun cdv A outer s H vs Q E hr h => ?_)
  · obtain ⟨_, _, rfl, _⟩ := h
    rfl
  · obtain ⟨a, v, rfl, ha, k⟩ := h
    exact ⟨_, pss_one (ps_ost (pv 0) (pv 1) rfl), x_ost T hno rfl rfl rfl rfl ha k⟩
end

/-! ### arguments of any kind -/
def isFrom : PyData → Int → Bool
  | .int i, j => decide (j ≤ i)
  | _, _ => false
theorem kit_D (d : PyData) (n : String) {b : Bool} (h : kitB (tyD d) n = some b) {K : PySem.W.Frag} : PySem.W.kitOne K (.type (tyD d)) (.type n) = some b := kit_ty h
def isInt : PyData → Bool
  | .int _ => true
  | .bool _ => true
  | _ => false
def isBool : PyData → Bool
  | .bool _ => true
  | _ => false
theorem kit_int : ∀ d : PyData, kitB (tyD d) "int" = some (isInt d)
  | .none => by show kitB "NoneType" "int" = some false; decide +kernel
  | .bool _ => by show kitB "bool" "int" = some true; decide +kernel
  | .int _ => by show kitB "int" "int" = some true; decide +kernel
  | .str _ => by show kitB "str" "int" = some false; decide +kernel
  | .list _ => by show kitB "list" "int" = some false; decide +kernel
  | .tuple _ => by show kitB "tuple" "int" = some false; decide +kernel
  | .dict _ => by show kitB "dict" "int" = some false; decide +kernel
theorem kit_bool : ∀ d : PyData, kitB (tyD d) "bool" = some (isBool d)
  | .none => by show kitB "NoneType" "bool" = some false; decide +kernel
  | .bool _ => by show kitB "bool" "bool" = some true; decide +kernel
  | .int _ => by show kitB "int" "bool" = some false; decide +kernel
  | .str _ => by show kitB "str" "bool" = some false; decide +kernel
  | .list _ => by show kitB "list" "bool" = some false; decide +kernel
  | .tuple _ => by show kitB "tuple" "bool" = some false; decide +kernel
  | .dict _ => by show kitB "dict" "bool" = some false; decide +kernel
section
variable {P : Program} {w : World} {K : PySem.W.Frag} {mg : Str → Option Value} {base : Heap} {CR aB aH : Addr}
theorem ev_isint {σ : L2.St} {H : Hp} {ta tc : TE} {y : V} {d : PyData} (h : Ev ta σ H y) (hc : Ev tc σ H (.ty "int")) (hd : Dp K H y d) : Ev (tCB (rIsi K) (tCons ta (tCons tc tNil))) σ H (.bl (isInt d)) := ev_cb (ea_cons h (ea_cons hc ea_nil)) (rc_isi (ClsV.ty _) (fun H1 e => tyx_D (dp_up e hd)) (kit_D d "int" (kit_int d)))
theorem ev_isbool {σ : L2.St} {H : Hp} {ta tc : TE} {y : V} {d : PyData} (h : Ev ta σ H y) (hc : Ev tc σ H (.ty "bool")) (hd : Dp K H y d) : Ev (tCB (rIsi K) (tCons ta (tCons tc tNil))) σ H (.bl (isBool d)) := ev_cb (ea_cons h (ea_cons hc ea_nil)) (rc_isi (ClsV.ty _) (fun H1 e => tyx_D (dp_up e hd)) (kit_D d "bool" (kit_bool d)))
def isInteger : PyData → Bool
  | .int _ => true
  | _ => false
def rIntegerD (K : PySem.W.Frag) : Hp → List V → V → Prop := fun H vs v => ∃ (y : V) (d : PyData), vs = [y] ∧ Dp K H y d ∧ v = .bl (isInteger d)
theorem mono_integerD : Mono (rIntegerD K) := fun _ _ _ _ e ⟨y, d, a, h, b⟩ => ⟨y, d, a, dp_up e h, b⟩
theorem ok_integerD {f : Addr} {fd : FuncData} (D : C8.Def K mg "is_integer" st_is_integer f fd) (b : Binds K fd ["value"] []) (T : Tb K mg CR aB aH) : C8.Cal P w K mg base 1 "is_integer" (spP (rIntegerD K)) [] := by
  refine C8.cal0 D b .nil sc_is_integer (fun vs H Q E h => ?_) (fun cdv A outer s H vs Q E hr h => ?_)
  · obtain ⟨v, ⟨_, _, rfl, _⟩, _⟩ := h
    rfl
  · obtain ⟨v, ⟨y, d, rfl, hd, rfl⟩, k⟩ := h
    refine ⟨_, pss_one (ps_ret (pe_and (pe_callB call_isi (by rfl) T.bi_isinstance boot_isinstance (pa_cons (pv 0) (pa_cons (pe_bltn (v := .ty "int") (by rfl) T.bi_int boot_int rfl) (pa_nil)))) (pe_one (pe_not (pe_callB call_isi (by rfl) T.bi_isinstance boot_isinstance (pa_cons (pv 0) (pa_cons (pe_bltn (v := .ty "bool") (by rfl) T.bi_bool boot_bool rfl) (pa_nil)))))))), ?_⟩
    refine s_ret (ev_is (ev_andV (b := isInteger d) (ev_isint (ev_var rfl) ev_c hd) (fun h1 => ev_is (ev_notV (ev_isbool (ev_var rfl) ev_c hd)) ?_)) ?_) k
    · cases d <;> first | rfl | cases h1
    · cases d <;> rfl
def rFromD (K : PySem.W.Frag) : Hp → List V → V → Prop := fun H vs v => ∃ (y : V) (d : PyData) (j : Int), vs = [y, .int j] ∧ Dp K H y d ∧ v = .bl (isFrom d j)
theorem mono_fromD : Mono (rFromD K) := fun _ _ _ _ e ⟨y, d, j, a, h, b⟩ => ⟨y, d, j, a, dp_up e h, b⟩
theorem ok_fromD {f : Addr} {fd : FuncData} (D : C8.Def K mg "is_from" st_is_from f fd) (b : Binds K fd ["value", "least"] []) (c_is_integer : C8.Cal P w K mg base 1 "is_integer" (spP (rIntegerD K)) []) : C8.Cal P w K mg base 2 "is_from" (spP (rFromD K)) [] := by
  refine C8.cal0 D b .nil sc_is_from (fun vs H Q E h => ?_) (fun cdv A outer s H vs Q E hr h => ?_)
  · obtain ⟨v, ⟨_, _, _, rfl, _⟩, _⟩ := h
    rfl
  · obtain ⟨v, ⟨y, d, j, rfl, hd, rfl⟩, k⟩ := h
    refine ⟨_, pss_one (ps_ret (pe_and (C8.pe_c c_is_integer hr (by decide) (by rfl) (pa_cons (pv 0) (pa_nil))) (pe_one (pe_cmpR (op_ge) (pv 0) (pv 1) (nomark _))))), ?_⟩
    refine s_ret (ev_is (ev_andV (b := isFrom d j) (ev_call (ea_cons (ev_var rfl) ea_nil) (spv mono_integerD ⟨y, d, rfl, hd, rfl⟩)) (fun h1 => ?_)) ?_) k
    · cases hd with
      | int i => exact ev_op (ev_var rfl) (ev_var rfl) rv_I0
      | non => cases h1
      | bl b => cases h1
      | str x => cases h1
      | lst _ _ => cases h1
      | tup _ _ => cases h1
    · cases d <;> rfl
end

/-! ### the first wrong one of the six numbers, of any kind -/
def optW : Option Str → V
  | none => .non
  | some s => .str s
def intD : PyData → Int
  | .int i => i
  | _ => 0
def wcOf (d1 d2 d3 d4 d5 d6 : PyData) : Option Str :=
  if isFrom d1 1 = false then some "need" else if isFrom d2 (intD d1) = false then some "of" else if isFrom d3 1 = false then some "base" else if isFrom d4 0 = false then some "more" else if isFrom d5 (intD d3) = false then some "most" else if isFrom d6 0 = false then some "calm" else none
theorem from_int {K : PySem.W.Frag} {H : Hp} {y : V} {d : PyData} {j : Int} (h : Dp K H y d) (f : isFrom d j = true) : y = .int (intD d) ∧ d = .int (intD d) ∧ j ≤ intD d := by
  cases h with
  | int i => exact ⟨rfl, rfl, of_decide_eq_true f⟩
  | non => cases f
  | bl b => cases f
  | str x => cases f
  | lst _ _ => cases f
  | tup _ _ => cases f
section
variable {P : Program} {w : World} {K : PySem.W.Frag} {mg : Str → Option Value} {base : Heap} {CR aB aH : Addr}
def rWcD (K : PySem.W.Frag) : Hp → List V → V → Prop := fun H vs v => ∃ (y1 y2 y3 y4 y5 y6 : V) (d1 d2 d3 d4 d5 d6 : PyData), vs = [y1, y2, y3, y4, y5, y6] ∧ (Dp K H y1 d1 ∧ Dp K H y2 d2 ∧ Dp K H y3 d3 ∧ Dp K H y4 d4 ∧ Dp K H y5 d5 ∧ Dp K H y6 d6) ∧ v = optW (wcOf d1 d2 d3 d4 d5 d6)
theorem mono_wcD : Mono (rWcD K) := fun _ _ _ _ e ⟨y1, y2, y3, y4, y5, y6, d1, d2, d3, d4, d5, d6, a, ⟨h1, h2, h3, h4, h5, h6⟩, b⟩ => ⟨y1, y2, y3, y4, y5, y6, d1, d2, d3, d4, d5, d6, a, ⟨dp_up e h1, dp_up e h2, dp_up e h3, dp_up e h4, dp_up e h5, dp_up e h6⟩, b⟩
theorem et_from {σ : L2.St} {H : Hp} {E : XK} {ta tb : TE} {y : V} {d : PyData} {j : Int} {b : Bool} (hd : Dp K H y d) (h1 : Ev ta σ H y) (h2 : Ev tb σ H (.int j)) (c : isFrom d j = b) : EvT (tNot (tB (tCall (spP (rFromD K)) [] E (tCons ta (tCons tb tNil))))) σ H (!b) :=
  et_not (et_B (ev_call (ea_cons h1 (ea_cons h2 ea_nil)) (spv mono_fromD ⟨y, d, j, rfl, hd, by rw [c]⟩)))
theorem ok_wcD {f : Addr} {fd : FuncData} (D : C8.Def K mg "_wrong_count" st_wrong_count f fd) (b : Binds K fd ["need", "of", "base", "more", "most", "calm"] []) (c_is_from : C8.Cal P w K mg base 2 "is_from" (spP (rFromD K)) []) : C8.Cal P w K mg base 3 "_wrong_count" (spP (rWcD K)) [] := by
  refine C8.cal0 D b .nil sc_wrong_count (fun vs H Q E h => ?_) (fun cdv A outer s H vs Q E hr h => ?_)
  · obtain ⟨v, ⟨_, _, _, _, _, _, _, _, _, _, _, _, rfl, _⟩, _⟩ := h
    rfl
  · obtain ⟨v, ⟨y1, y2, y3, y4, y5, y6, d1, d2, d3, d4, d5, d6, rfl, ⟨h1, h2, h3, h4, h5, h6⟩, rfl⟩, k⟩ := h
    refine ⟨_, pss_cons (ps_if (pt_not (pt_val (C8.pe_c c_is_from hr (by decide) (by rfl) (pa_cons (pv 0) (pa_cons (pe_int) (pa_nil)))))) (pss_one (ps_ret (pe_str))) (pss_nil))
      (pss_cons (ps_if (pt_not (pt_val (C8.pe_c c_is_from hr (by decide) (by rfl) (pa_cons (pv 1) (pa_cons (pv 0) (pa_nil)))))) (pss_one (ps_ret (pe_str))) (pss_nil))
      (pss_cons (ps_if (pt_not (pt_val (C8.pe_c c_is_from hr (by decide) (by rfl) (pa_cons (pv 2) (pa_cons (pe_int) (pa_nil)))))) (pss_one (ps_ret (pe_str))) (pss_nil))
      (pss_cons (ps_if (pt_not (pt_val (C8.pe_c c_is_from hr (by decide) (by rfl) (pa_cons (pv 3) (pa_cons (pe_int) (pa_nil)))))) (pss_one (ps_ret (pe_str))) (pss_nil))
      (pss_cons (ps_if (pt_not (pt_val (C8.pe_c c_is_from hr (by decide) (by rfl) (pa_cons (pv 4) (pa_cons (pv 2) (pa_nil)))))) (pss_one (ps_ret (pe_str))) (pss_nil))
      (pss_cons (ps_if (pt_not (pt_val (C8.pe_c c_is_from hr (by decide) (by rfl) (pa_cons (pv 5) (pa_cons (pe_int) (pa_nil)))))) (pss_one (ps_ret (pe_str))) (pss_nil))
      (pss_one (ps_ret (pe_non)))))))), ?_⟩
    have md := mdE H
    have m := Ex.refl H
    unfold wcOf at k
    cases c1 : isFrom d1 1 with
    | false =>
      rw [if_pos c1] at k
      exact g_yes md m (et_from h1 (ev_var rfl) ev_c c1) fun H1 m => g_ret md m ev_c k
    | true =>
    rw [if_neg (by rw [c1]; decide)] at k
    refine g_no md m (et_from h1 (ev_var rfl) ev_c c1) fun H1 m => ?_
    obtain ⟨rfl, e1, _⟩ := from_int h1 c1
    cases c2 : isFrom d2 (intD d1) with
    | false =>
      rw [if_pos c2] at k
      exact g_yes md m (et_from h2 (ev_var rfl) (ev_var rfl) c2) fun H1 m => g_ret md m ev_c k
    | true =>
    rw [if_neg (by rw [c2]; decide)] at k
    refine g_no md m (et_from h2 (ev_var rfl) (ev_var rfl) c2) fun H1 m => ?_
    cases c3 : isFrom d3 1 with
    | false =>
      rw [if_pos c3] at k
      exact g_yes md m (et_from h3 (ev_var rfl) ev_c c3) fun H1 m => g_ret md m ev_c k
    | true =>
    rw [if_neg (by rw [c3]; decide)] at k
    refine g_no md m (et_from h3 (ev_var rfl) ev_c c3) fun H1 m => ?_
    obtain ⟨rfl, e3, _⟩ := from_int h3 c3
    cases c4 : isFrom d4 0 with
    | false =>
      rw [if_pos c4] at k
      exact g_yes md m (et_from h4 (ev_var rfl) ev_c c4) fun H1 m => g_ret md m ev_c k
    | true =>
    rw [if_neg (by rw [c4]; decide)] at k
    refine g_no md m (et_from h4 (ev_var rfl) ev_c c4) fun H1 m => ?_
    cases c5 : isFrom d5 (intD d3) with
    | false =>
      rw [if_pos c5] at k
      exact g_yes md m (et_from h5 (ev_var rfl) (ev_var rfl) c5) fun H1 m => g_ret md m ev_c k
    | true =>
    rw [if_neg (by rw [c5]; decide)] at k
    refine g_no md m (et_from h5 (ev_var rfl) (ev_var rfl) c5) fun H1 m => ?_
    cases c6 : isFrom d6 0 with
    | false =>
      rw [if_pos c6] at k
      exact g_yes md m (et_from h6 (ev_var rfl) ev_c c6) fun H1 m => g_ret md m ev_c k
    | true =>
    rw [if_neg (by rw [c6]; decide)] at k
    refine g_no md m (et_from h6 (ev_var rfl) ev_c c6) fun H1 m => ?_
    exact g_ret md m ev_c k
end

/-! ### the first wrong one of the others, of any kind -/
def rNiDT (K : PySem.W.Frag) : R2 := fun x y H Q => ∃ d ds, Dp K H x d ∧ Dp K H y (.tuple ds) ∧ SeqAt.shaped d = true ∧ SeqAt.shaped (.tuple ds) = true ∧ Q (.bl (!ds.any fun z => PyData.eqv z d)) H
theorem op_niDT {X : Cx} {j : Nat} (hr : Room j X.A) : OpR X (compareOp .NotIn) (rNiDT X.K) := by
  intro pins s σ H x y v u Q I rx ry h
  obtain ⟨d, ds, hd, he, sd, se, q⟩ := h
  obtain ⟨as, r1⟩ := Dp.reads I d x v hd rx
  obtain ⟨bs, r2⟩ := Dp.reads I (.tuple ds) y u he ry
  have un := hr.un
  exact SeqAt.notIn_tuple_reads r2 r1 (SeqAt.canLay_of_shaped se) (SeqAt.canLay_of_shaped sd) (room_in_shaped sd (by omega)) ⟨.bl _, H, I, rfl, q⟩
theorem rv_niDT {K : PySem.W.Frag} {H : Hp} {x y : V} {d : PyData} {ds : List PyData} (hd : Dp K H x d) (he : Dp K H y (.tuple ds)) (sd : SeqAt.shaped d = true) (se : SeqAt.shaped (.tuple ds) = true) : RV (rNiDT K) x y H (.bl (!ds.any fun z => PyData.eqv z d)) := fun H1 e _ q =>
  ⟨d, ds, dp_up e hd, dp_up e he, sd, se, q H1 (Ex.refl H1)⟩
def backD : List PyData := [.str "half", .str "open", .str "trial"]
def hearD : List PyData := [.str "fault", .str "no", .str "out"]
def oneOf (ds : List PyData) (d : PyData) : Bool := ds.any fun z => PyData.eqv z d
def wmOf (b t u p h : PyData) : Option Str :=
  if oneOf backD b = false then some "back" else if isFrom t 0 = false then some "top" else if isFrom u (if intD t > 1 then intD t else 1) = false then some "under" else if isBool p = false then some "up" else if oneOf hearD h = false then some "hears" else none
section
variable {P : Program} {w : World} {K : PySem.W.Frag} {mg : Str → Option Value} {base : Heap} {CR aB aH : Addr}
def rWmD (K : PySem.W.Frag) : Hp → List V → V → Prop := fun H vs v => ∃ (y1 y2 y3 y4 y5 : V) (d1 d2 d3 d4 d5 : PyData), vs = [y1, y2, y3, y4, y5] ∧ (Dp K H y1 d1 ∧ Dp K H y2 d2 ∧ Dp K H y3 d3 ∧ Dp K H y4 d4 ∧ Dp K H y5 d5) ∧ (SeqAt.shaped d1 = true ∧ SeqAt.shaped d5 = true) ∧ v = optW (wmOf d1 d2 d3 d4 d5)
theorem mono_wmD : Mono (rWmD K) := fun _ _ _ _ e ⟨y1, y2, y3, y4, y5, d1, d2, d3, d4, d5, a, ⟨h1, h2, h3, h4, h5⟩, b⟩ => ⟨y1, y2, y3, y4, y5, d1, d2, d3, d4, d5, a, ⟨dp_up e h1, dp_up e h2, dp_up e h3, dp_up e h4, dp_up e h5⟩, b⟩
theorem et_niDT {σ : L2.St} {H : Hp} {ta tb : TE} {x y : V} {d : PyData} {ds : List PyData} {b : Bool} (hd : Dp K H x d) (he : Dp K H y (.tuple ds)) (sd : SeqAt.shaped d = true) (se : SeqAt.shaped (.tuple ds) = true) (h1 : Ev ta σ H x) (h2 : Ev tb σ H y) (c : oneOf ds d = b) : EvT (tTest (tOp (rNiDT K) ta tb)) σ H (!b) := by
  subst c
  exact et_test (ev_op h1 h2 (rv_niDT hd he sd se))
theorem ok_wmD {f : Addr} {fd : FuncData} (D : C8.Def K mg "_wrong_manner" st_wrong_manner f fd) (b : Binds K fd ["back", "top", "under", "up", "hears"] []) (T : Tb K mg CR aB aH) (c_is_from : C8.Cal P w K mg base 2 "is_from" (spP (rFromD K)) []) : C8.Cal P w K mg base 3 "_wrong_manner" (spP (rWmD K)) [] := by
  refine C8.cal0 D b .nil sc_wrong_manner (fun vs H Q E h => ?_) (fun cdv A outer s H vs Q E hr h => ?_)
  · obtain ⟨v, ⟨_, _, _, _, _, _, _, _, _, _, rfl, _⟩, _⟩ := h
    rfl
  · obtain ⟨v, ⟨y1, y2, y3, y4, y5, d1, d2, d3, d4, d5, rfl, ⟨h1, h2, h3, h4, h5⟩, ⟨s1, s5⟩, rfl⟩, k⟩ := h
    refine ⟨_, pss_cons (ps_if (pt_cmpR (op_niDT hr) (pv 0) (C8.pe_gc (by rfl) T.gc_BACKS) (by rfl)) (pss_one (ps_ret (pe_str))) (pss_nil))
      (pss_cons (ps_if (pt_not (pt_val (C8.pe_c c_is_from hr (by decide) (by rfl) (pa_cons (pv 1) (pa_cons (pe_int) (pa_nil)))))) (pss_one (ps_ret (pe_str))) (pss_nil))
      (pss_cons (ps_if (pt_not (pt_val (C8.pe_c c_is_from hr (by decide) (by rfl) (pa_cons (pv 2) (pa_cons (pe_callB (call_max2 rfl) (by rfl) T.bi_max boot_max (pa_cons (pe_int) (pa_cons (pv 1) (pa_nil)))) (pa_nil)))))) (pss_one (ps_ret (pe_str))) (pss_nil))
      (pss_cons (ps_if (pt_not (pt_val (pe_callB call_isi (by rfl) T.bi_isinstance boot_isinstance (pa_cons (pv 3) (pa_cons (pe_bltn (v := .ty "bool") (by rfl) T.bi_bool boot_bool rfl) (pa_nil)))))) (pss_one (ps_ret (pe_str))) (pss_nil))
      (pss_cons (ps_if (pt_cmpR (op_niDT hr) (pv 4) (C8.pe_gc (by rfl) T.gc_HEARINGS) (by rfl)) (pss_one (ps_ret (pe_str))) (pss_nil))
      (pss_one (ps_ret (pe_non))))))), ?_⟩
    have md := mdE H
    have m := Ex.refl H
    have hB : Dp K H (.ref aB) (.tuple backD) := .tup (T.sB H) (.cons (.str _) (.cons (.str _) (.cons (.str _) .nil)))
    have hH : Dp K H (.ref aH) (.tuple hearD) := .tup (T.sH H) (.cons (.str _) (.cons (.str _) (.cons (.str _) .nil)))
    have sB : SeqAt.shaped (.tuple backD) = true := by decide +kernel
    have sH : SeqAt.shaped (.tuple hearD) = true := by decide +kernel
    unfold wmOf at k
    cases c1 : oneOf backD d1 with
    | false =>
      rw [if_pos c1] at k
      exact g_yes md m (et_niDT h1 hB s1 sB (ev_var rfl) ev_c c1) fun H1 m => g_ret md m ev_c k
    | true =>
    rw [if_neg (by rw [c1]; decide)] at k
    refine g_no md m (et_niDT h1 hB s1 sB (ev_var rfl) ev_c c1) fun H1 m => ?_
    cases c2 : isFrom d2 0 with
    | false =>
      rw [if_pos c2] at k
      exact g_yes md m (et_from h2 (ev_var rfl) ev_c c2) fun H1 m => g_ret md m ev_c k
    | true =>
    rw [if_neg (by rw [c2]; decide)] at k
    refine g_no md m (et_from h2 (ev_var rfl) ev_c c2) fun H1 m => ?_
    obtain ⟨rfl, e2, _⟩ := from_int h2 c2
    cases c3 : isFrom d3 (if intD d2 > 1 then intD d2 else 1) with
    | false =>
      rw [if_pos c3] at k
      exact g_yes md m (et_from h3 (ev_var rfl) (ev_cb (ea_cons ev_c (ea_cons (ev_var rfl) ea_nil)) rc_max) c3) fun H1 m => g_ret md m ev_c k
    | true =>
    rw [if_neg (by rw [c3]; decide)] at k
    refine g_no md m (et_from h3 (ev_var rfl) (ev_cb (ea_cons ev_c (ea_cons (ev_var rfl) ea_nil)) rc_max) c3) fun H1 m => ?_
    cases c4 : isBool d4 with
    | false =>
      rw [if_pos c4] at k
      exact g_yes md m (et_is (et_not (et_B (ev_isbool (ev_var rfl) ev_c h4))) (by rw [c4]; rfl)) fun H1 m => g_ret md m ev_c k
    | true =>
    rw [if_neg (by rw [c4]; decide)] at k
    refine g_no md m (et_is (et_not (et_B (ev_isbool (ev_var rfl) ev_c h4))) (by rw [c4]; rfl)) fun H1 m => ?_
    cases c5 : oneOf hearD d5 with
    | false =>
      rw [if_pos c5] at k
      exact g_yes md m (et_niDT h5 hH s5 sH (ev_var rfl) ev_c c5) fun H1 m => g_ret md m ev_c k
    | true =>
    rw [if_neg (by rw [c5]; decide)] at k
    refine g_no md m (et_niDT h5 hH s5 sH (ev_var rfl) ev_c c5) fun H1 m => ?_
    exact g_ret md m ev_c k
end

/-! ### a rule is made, or refused -/
structure Args where
  ys : List V
  ds : List PyData
def smallD : PyData → Prop
  | .int i => i < 1000000
  | _ => True
def wrongOf (d1 d2 d3 d4 d5 d6 d7 d8 d9 d10 d11 : PyData) : Option Str := match wcOf d1 d2 d3 d4 d5 d6 with
  | some s => some s
  | none => wmOf d7 d8 d9 d10 d11
theorem eqv_strD {s : Str} {d : PyData} (h : PyData.eqv (.str s) d = true) : d = .str s := by
  cases d with
  | str x =>
    have : (s == x) = true := h
    rw [beq_iff_eq.mp this]
  | none => cases h
  | bool _ => cases h
  | int _ => cases h
  | list _ => cases h
  | tuple _ => cases h
  | dict _ => cases h
theorem one_of3 {a b c : Str} {d : PyData} (h : oneOf [.str a, .str b, .str c] d = true) : d = .str a ∨ d = .str b ∨ d = .str c := by
  unfold oneOf at h
  simp only [List.any_cons, List.any_nil, Bool.or_false, Bool.or_eq_true] at h
  rcases h with h | h | h
  · exact .inl (eqv_strD h)
  · exact .inr (.inl (eqv_strD h))
  · exact .inr (.inr (eqv_strD h))
theorem if_noneS {c : Bool} {s : Str} {o : Option Str} (h : (if c = false then some s else o) = none) : c = true ∧ o = none := by
  cases c with
  | false => cases h
  | true => exact ⟨rfl, h⟩
theorem good_args {K : PySem.W.Frag} {H : Hp} {y1 y2 y3 y4 y5 y6 y7 y8 y9 y10 y11 : V} {d1 d2 d3 d4 d5 d6 d7 d8 d9 d10 d11 : PyData} (h1 : Dp K H y1 d1) (h2 : Dp K H y2 d2) (h3 : Dp K H y3 d3) (h4 : Dp K H y4 d4) (h5 : Dp K H y5 d5) (h6 : Dp K H y6 d6) (h7 : Dp K H y7 d7) (h8 : Dp K H y8 d8) (h9 : Dp K H y9 d9) (h10 : Dp K H y10 d10) (h11 : Dp K H y11 d11)
    (sm : smallD d4) (su : smallD d9) (hw : wrongOf d1 d2 d3 d4 d5 d6 d7 d8 d9 d10 d11 = none) : ∃ r : RuleD, [y1, y2, y3, y4, y5, y6, y7, y8, y9, y10, y11] = r.vals ∧ r.ok := by
  unfold wrongOf at hw
  cases hc : wcOf d1 d2 d3 d4 d5 d6 with
  | some s => rw [hc] at hw; cases hw
  | none =>
    rw [hc] at hw
    have hw : wmOf d7 d8 d9 d10 d11 = none := hw
    unfold wcOf at hc
    unfold wmOf at hw
    obtain ⟨c1, hc⟩ := if_noneS hc
    obtain ⟨c2, hc⟩ := if_noneS hc
    obtain ⟨c3, hc⟩ := if_noneS hc
    obtain ⟨c4, hc⟩ := if_noneS hc
    obtain ⟨c5, hc⟩ := if_noneS hc
    obtain ⟨c6, hc⟩ := if_noneS hc
    obtain ⟨c7, hw⟩ := if_noneS hw
    obtain ⟨c8, hw⟩ := if_noneS hw
    obtain ⟨c9, hw⟩ := if_noneS hw
    obtain ⟨c10, hw⟩ := if_noneS hw
    obtain ⟨c11, hw⟩ := if_noneS hw
    obtain ⟨rfl, e1, b1⟩ := from_int h1 c1
    obtain ⟨rfl, e2, b2⟩ := from_int h2 c2
    obtain ⟨rfl, e3, b3⟩ := from_int h3 c3
    obtain ⟨rfl, e4, b4⟩ := from_int h4 c4
    obtain ⟨rfl, e5, b5⟩ := from_int h5 c5
    obtain ⟨rfl, e6, b6⟩ := from_int h6 c6
    obtain ⟨rfl, e8, b8⟩ := from_int h8 c8
    obtain ⟨rfl, e9, b9⟩ := from_int h9 c9
    have m4 : intD d4 < 1000000 := by rw [e4] at sm; exact sm
    have m9 : intD d9 < 1000000 := by rw [e9] at su; exact su
    obtain ⟨bk, rfl, hb⟩ : ∃ s : Str, y7 = .str s ∧ (s = "half" ∨ s = "open" ∨ s = "trial") := by
      rcases one_of3 c7 with rfl | rfl | rfl <;> cases h7
      · exact ⟨_, rfl, .inl rfl⟩
      · exact ⟨_, rfl, .inr (.inl rfl)⟩
      · exact ⟨_, rfl, .inr (.inr rfl)⟩
    obtain ⟨hh, rfl, he⟩ : ∃ s : Str, y11 = .str s ∧ (s = "fault" ∨ s = "no" ∨ s = "out") := by
      rcases one_of3 c11 with rfl | rfl | rfl <;> cases h11
      · exact ⟨_, rfl, .inl rfl⟩
      · exact ⟨_, rfl, .inr (.inl rfl)⟩
      · exact ⟨_, rfl, .inr (.inr rfl)⟩
    obtain ⟨up, rfl⟩ : ∃ u : Bool, y10 = .bl u := by
      cases h10 with
      | bl u => exact ⟨u, rfl⟩
      | non => cases c10
      | int i => cases c10
      | str x => cases c10
      | lst _ _ => cases c10
      | tup _ _ => cases c10
    exact ⟨⟨intD d1, intD d2, intD d3, intD d4, intD d5, intD d6, bk, intD d8, intD d9, up, hh⟩, rfl, ⟨b1, b2, b3, b4, b5, b6, hb, b8, by show 1 ≤ intD d9; split at b9 <;> omega, by show intD d8 ≤ intD d9; split at b9 <;> omega, he, m4, m9⟩⟩
section
variable {P : Program} {w : World} {K : PySem.W.Frag} {mg : Str → Option Value} {base : Heap} {CR CI aB aH : Addr}
def spInitX (K : PySem.W.Frag) (CR CI : Addr) : Sp := fun vs H Q E => ∃ (H0 : Hp) (p dx : Addr) (y1 y2 y3 y4 y5 y6 y7 y8 y9 y10 y11 : V) (d1 d2 d3 d4 d5 d6 d7 d8 d9 d10 d11 : PyData), vs = [.ref p, y1, y2, y3, y4, y5, y6, y7, y8, y9, y10, y11] ∧
  (Dp K H0 y1 d1 ∧ Dp K H0 y2 d2 ∧ Dp K H0 y3 d3 ∧ Dp K H0 y4 d4 ∧ Dp K H0 y5 d5 ∧ Dp K H0 y6 d6 ∧ Dp K H0 y7 d7 ∧ Dp K H0 y8 d8 ∧ Dp K H0 y9 d9 ∧ Dp K H0 y10 d10 ∧ Dp K H0 y11 d11) ∧ (SeqAt.shaped d7 = true ∧ SeqAt.shaped d11 = true ∧ smallD d4 ∧ smallD d9) ∧
  H0 p = none ∧ Ex H0 H ∧ H p = some (.ins CR dx []) ∧
  (∀ r : RuleD, [y1, y2, y3, y4, y5, y6, y7, y8, y9, y10, y11] = r.vals → r.ok → wrongOf d1 d2 d3 d4 d5 d6 d7 d8 d9 d10 d11 = none → ∀ H', Ex H0 H' → H' p = some (.ins CR dx (flds r)) → Q .non H') ∧
  (∀ s d H', wrongOf d1 d2 d3 d4 d5 d6 d7 d8 d9 d10 d11 = some s → Ex H0 H' → H' d = none → E (.ref CI) (some d) (upd H' d (.xd [("word", .str s)])))
theorem ok_initX {f : Addr} {fd : FuncData} (D : C8.Fun K "__init__" "Rule.__init__" st_Rule___init__ f fd) (T : Tb K mg CR aB aH) (err_InvalidRule : ErrM P w K mg base "InvalidRule" CI "word")
    (c_wrong_count : C8.Cal P w K mg base 3 "_wrong_count" (spP (rWcD K)) []) (c_wrong_manner : C8.Cal P w K mg base 3 "_wrong_manner" (spP (rWmD K)) []) (c_least_last : C8.Cal P w K mg base 2 "_least_last" (spP rLl) []) :
    FnOk P w K mg base (CX P w) 4 f fd ["self", "need", "of", "base", "more", "most", "calm", "back", "top", "under", "up", "hears"] (spInitX K CR CI) := by
  refine fnX D sc_Rule___init__ (fun vs H Q E h => ?_) (fun cdv A outer s H vs Q E hr h tk => ?_)
  · obtain ⟨H0, p, dx, _, _, _, _, _, _, _, _, _, _, _, _, _, _, _, _, _, _, _, _, _, _, rfl, _⟩ := h
    rfl
  · obtain ⟨H0, p, dx, y1, y2, y3, y4, y5, y6, y7, y8, y9, y10, y11, d1, d2, d3, d4, d5, d6, d7, d8, d9, d10, d11, rfl, ⟨h1, h2, h3, h4, h5, h6, h7, h8, h9, h10, h11⟩, ⟨s7, s11, m4, m9⟩, np, e0, hp, k1, k2⟩ := h
    refine ⟨_, pss_cons (ps_set (i := 12) sc_Rule___init__.nd rfl (Or.inl rfl) (C8.pe_c c_wrong_count hr (by decide) (by rfl) (pa_cons (pv 1) (pa_cons (pv 2) (pa_cons (pv 3) (pa_cons (pv 4) (pa_cons (pv 5) (pa_cons (pv 6) (pa_nil)))))))))
      (pss_cons (ps_if (pt_cmpR (op_isN) (pv 12) (pe_non) (nomark _)) (pss_one (ps_set (i := 12) sc_Rule___init__.nd rfl (Or.inl rfl) (C8.pe_c c_wrong_manner hr (by decide) (by rfl) (pa_cons (pv 7) (pa_cons (pv 8) (pa_cons (pv 9) (pa_cons (pv 10) (pa_cons (pv 11) (pa_nil))))))))) (pss_nil))
      (pss_cons (ps_if (pt_cmpR (op_notN) (pv 12) (pe_non) (nomark _)) (pss_one (ps_err err_InvalidRule rfl hr (by decide) tk (by rfl) (pa_cons (pv 12) (pa_nil)))) (pss_nil))
      (pss_cons (ps_fld (pv 0) (pv 1) rfl)
      (pss_cons (ps_fld (pv 0) (pv 2) rfl)
      (pss_cons (ps_fld (pv 0) (pv 3) rfl)
      (pss_cons (ps_fld (pv 0) (pv 4) rfl)
      (pss_cons (ps_fld (pv 0) (pv 5) rfl)
      (pss_cons (ps_fld (pv 0) (pv 6) rfl)
      (pss_cons (ps_fld (pv 0) (pv 7) rfl)
      (pss_cons (ps_fld (pv 0) (pv 8) rfl)
      (pss_cons (ps_fld (pv 0) (pv 9) rfl)
      (pss_cons (ps_fld (pv 0) (pv 10) rfl)
      (pss_cons (ps_fld (pv 0) (pv 11) rfl)
      (pss_one (ps_fld (pv 0) (C8.pe_c c_least_last hr (by decide) (by rfl) (pa_cons (pv 3) (pa_cons (pv 4) (pa_cons (pv 5) (pa_nil))))) rfl))))))))))))))), ?_⟩
    have md := mdM H0 p CR dx []
    have m : Mi H0 p CR dx [] H := ⟨e0, np, hp⟩
    refine g_asg md m (ev_call (ea_cons (ev_var rfl) (ea_cons (ev_var rfl) (ea_cons (ev_var rfl) (ea_cons (ev_var rfl) (ea_cons (ev_var rfl) (ea_cons (ev_var rfl) ea_nil))))))
      (spv mono_wcD ⟨y1, y2, y3, y4, y5, y6, d1, d2, d3, d4, d5, d6, rfl, ⟨h1, h2, h3, h4, h5, h6⟩, rfl⟩)) fun H1 m => ?_
    cases hc : wcOf d1 d2 d3 d4 d5 d6 with
    | some s =>
      have hw : wrongOf d1 d2 d3 d4 d5 d6 d7 d8 d9 d10 d11 = some s := by
        unfold wrongOf
        rw [hc]
      refine g_no md m (et_is (et_test (ev_op (ev_var rfl) ev_c rv_isN)) (by rfl)) fun H2 m => ?_
      refine g_yes md m (et_is (et_test (ev_op (ev_var rfl) ev_c rv_notN)) (by rfl)) fun H3 m => ?_
      exact x_err (ea_cons (ev_var rfl) ea_nil) fun d H4 e4 nd => k2 s d H4 hw (m.ex.trans e4) nd
    | none =>
    have hw : wrongOf d1 d2 d3 d4 d5 d6 d7 d8 d9 d10 d11 = wmOf d7 d8 d9 d10 d11 := by
      unfold wrongOf
      rw [hc]
    refine g_yes md m (et_is (et_test (ev_op (ev_var rfl) ev_c rv_isN)) (by rfl)) fun H2 m => ?_
    refine g_asg1 md m (ev_call (ea_cons (ev_var rfl) (ea_cons (ev_var rfl) (ea_cons (ev_var rfl) (ea_cons (ev_var rfl) (ea_cons (ev_var rfl) ea_nil)))))
      (spv mono_wmD ⟨y7, y8, y9, y10, y11, d7, d8, d9, d10, d11, rfl, ⟨h7, h8, h9, h10, h11⟩, ⟨s7, s11⟩, rfl⟩)) fun H3 m => ?_
    cases hm : wmOf d7 d8 d9 d10 d11 with
    | some s =>
      refine g_yes md m (et_is (et_test (ev_op (ev_var rfl) ev_c rv_notN)) (by rfl)) fun H4 m => ?_
      exact x_err (ea_cons (ev_var rfl) ea_nil) fun d H5 e5 nd => k2 s d H5 (hw.trans hm) (m.ex.trans e5) nd
    | none =>
    have hw := hw.trans hm
    obtain ⟨r, hr', ok⟩ := good_args h1 h2 h3 h4 h5 h6 h7 h8 h9 h10 h11 m4 m9 hw
    have k := k1 r hr' ok hw
    unfold RuleD.vals at hr'
    simp only [List.cons.injEq, and_true] at hr'
    obtain ⟨rfl, rfl, rfl, rfl, rfl, rfl, rfl, rfl, rfl, rfl, rfl⟩ := hr'
    refine g_no md m (et_is (et_test (ev_op (ev_var rfl) ev_c rv_notN)) (by rfl)) fun H4 m => ?_
    refine g_fld m (ev_var rfl) (ev_var rfl) T.cl T.n_need (by decide) fun _ m => ?_
    refine g_fld m (ev_var rfl) (ev_var rfl) T.cl T.n_of (Nat.lt_of_le_of_lt (pl (Nat.le_refl 0)) (by decide)) fun _ m => ?_
    refine g_fld m (ev_var rfl) (ev_var rfl) T.cl T.n_base (Nat.lt_of_le_of_lt (pl (pl (Nat.le_refl 0))) (by decide)) fun _ m => ?_
    refine g_fld m (ev_var rfl) (ev_var rfl) T.cl T.n_more (Nat.lt_of_le_of_lt (pl (pl (pl (Nat.le_refl 0)))) (by decide)) fun _ m => ?_
    refine g_fld m (ev_var rfl) (ev_var rfl) T.cl T.n_most (Nat.lt_of_le_of_lt (pl (pl (pl (pl (Nat.le_refl 0))))) (by decide)) fun _ m => ?_
    refine g_fld m (ev_var rfl) (ev_var rfl) T.cl T.n_calm (Nat.lt_of_le_of_lt (pl (pl (pl (pl (pl (Nat.le_refl 0)))))) (by decide)) fun _ m => ?_
    refine g_fld m (ev_var rfl) (ev_var rfl) T.cl T.n_back (Nat.lt_of_le_of_lt (pl (pl (pl (pl (pl (pl (Nat.le_refl 0))))))) (by decide)) fun _ m => ?_
    refine g_fld m (ev_var rfl) (ev_var rfl) T.cl T.n_top (Nat.lt_of_le_of_lt (pl (pl (pl (pl (pl (pl (pl (Nat.le_refl 0)))))))) (by decide)) fun _ m => ?_
    refine g_fld m (ev_var rfl) (ev_var rfl) T.cl T.n_under (Nat.lt_of_le_of_lt (pl (pl (pl (pl (pl (pl (pl (pl (Nat.le_refl 0))))))))) (by decide)) fun _ m => ?_
    refine g_fld m (ev_var rfl) (ev_var rfl) T.cl T.n_up (Nat.lt_of_le_of_lt (pl (pl (pl (pl (pl (pl (pl (pl (pl (Nat.le_refl 0)))))))))) (by decide)) fun _ m => ?_
    refine g_fld m (ev_var rfl) (ev_var rfl) T.cl T.n_hears (Nat.lt_of_le_of_lt (pl (pl (pl (pl (pl (pl (pl (pl (pl (pl (Nat.le_refl 0))))))))))) (by decide)) fun _ m => ?_
    refine g_fld1 m (ev_call (ea_cons (ev_var rfl) (ea_cons (ev_var rfl) (ea_cons (ev_var rfl) ea_nil))) (spv mono_ll ⟨r.base, r.more, r.most, rfl, ⟨ok.more, ok.moreB⟩, rfl⟩)) (ev_var rfl) T.cl T.n_cap
      (Nat.lt_of_le_of_lt (pl (pl (pl (pl (pl (pl (pl (pl (pl (pl (pl (Nat.le_refl 0)))))))))))) (by decide)) fun H5 m => ?_
    exact k H5 m.ex m.at_
end

section
variable {P : Program} {w : World} {K : PySem.W.Frag} {mg : Str → Option Value} {base : Heap} {CR CI aB aH : Addr}
theorem rv_ixSq {H : Hp} {p : Addr} {xs : List V} {i : Int} {v : V} (h : SqL K H p xs ∨ SqT K H p xs) (ha : atI xs i = some v) : RV (rIx K) (.ref p) (.int i) H v := fun H1 e Q q => by
  rcases h with h | h
  · exact .inl (rv_ixL h ha H1 e Q q)
  · exact .inr (.inl (rv_ixT h ha H1 e Q q))
def spMadeX (K : PySem.W.Frag) (CR CI : Addr) : Sp := fun vs H Q E => ∃ (l : Addr) (y1 y2 y3 y4 y5 y6 y7 y8 y9 y10 y11 : V) (d1 d2 d3 d4 d5 d6 d7 d8 d9 d10 d11 : PyData), vs = [.ref l] ∧ (SqL K H l [y1, y2, y3, y4, y5, y6, y7, y8, y9, y10, y11] ∨ SqT K H l [y1, y2, y3, y4, y5, y6, y7, y8, y9, y10, y11]) ∧
  (Dp K H y1 d1 ∧ Dp K H y2 d2 ∧ Dp K H y3 d3 ∧ Dp K H y4 d4 ∧ Dp K H y5 d5 ∧ Dp K H y6 d6 ∧ Dp K H y7 d7 ∧ Dp K H y8 d8 ∧ Dp K H y9 d9 ∧ Dp K H y10 d10 ∧ Dp K H y11 d11) ∧ (SeqAt.shaped d7 = true ∧ SeqAt.shaped d11 = true ∧ smallD d4 ∧ smallD d9) ∧
  (wrongOf d1 d2 d3 d4 d5 d6 d7 d8 d9 d10 d11 = none → ∀ p H', H p = none → Ex H H' → Q (.ref p) H') ∧
  (∀ s d H', wrongOf d1 d2 d3 d4 d5 d6 d7 d8 d9 d10 d11 = some s → Ex H H' → H' d = none → E (.ref CI) (some d) (upd H' d (.xd [("word", .str s)])))
theorem ok_madeX {f fi : Addr} {fd fdi : FuncData} (D : C8.Def K mg "_law_made" st_law_made f fd) (MK : Mk K CR fi) (mC : mg "Rule" = some (.ref CR)) (b_init : Binds K fdi ["self", "need", "of", "base", "more", "most", "calm", "back", "top", "under", "up", "hears"] [])
    (F_init : FnOk P w K mg base (CX P w) 4 fi fdi ["self", "need", "of", "base", "more", "most", "calm", "back", "top", "under", "up", "hears"] (spInitX K CR CI)) : FnOk P w K mg base (CX P w) 6 f fd ["_law_one"] (spMadeX K CR CI) := by
  refine fnX D.fn sc_law_made (fun vs H Q E h => ?_) (fun cdv A outer s H vs Q E hr h tk => ?_)
  · obtain ⟨l, _, _, _, _, _, _, _, _, _, _, _, _, _, _, _, _, _, _, _, _, _, _, rfl, _⟩ := h
    rfl
  · obtain ⟨l, y1, y2, y3, y4, y5, y6, y7, y8, y9, y10, y11, d1, d2, d3, d4, d5, d6, d7, d8, d9, d10, d11, rfl, hl, hd, hs, k1, k2⟩ := h
    refine ⟨_, pss_one (ps_ret (pe_make MK F_init (hr.mono (by decide)) (by rfl) mC b_init .nil (passes_call tk (fun _ _ _ _ h => h)) (pa_cons (pe_ix ix_seq (pv 0) (pe_int) (fun _ _ => rfl)) (pa_cons (pe_ix ix_seq (pv 0) (pe_int) (fun _ _ => rfl)) (pa_cons (pe_ix ix_seq (pv 0) (pe_int) (fun _ _ => rfl)) (pa_cons (pe_ix ix_seq (pv 0) (pe_int) (fun _ _ => rfl)) (pa_cons (pe_ix ix_seq (pv 0) (pe_int) (fun _ _ => rfl)) (pa_cons (pe_ix ix_seq (pv 0) (pe_int) (fun _ _ => rfl)) (pa_cons (pe_ix ix_seq (pv 0) (pe_int) (fun _ _ => rfl)) (pa_cons (pe_ix ix_seq (pv 0) (pe_int) (fun _ _ => rfl)) (pa_cons (pe_ix ix_seq (pv 0) (pe_int) (fun _ _ => rfl)) (pa_cons (pe_ix ix_seq (pv 0) (pe_int) (fun _ _ => rfl)) (pa_cons (pe_ix ix_seq (pv 0) (pe_int) (fun _ _ => rfl)) (pa_nil)))))))))))))), ?_⟩
    have ix : ∀ {i : Int} {v : V}, atI [y1, y2, y3, y4, y5, y6, y7, y8, y9, y10, y11] i = some v → Ev (tOp (rIx K) (tVar 0) (tC (.int i))) (start ["_law_one"] [.ref l]) H v := fun ha => ev_op (ev_var rfl) ev_c (rv_ixSq hl ha)
    refine x_ret (ea_cons (ix rfl) (ea_cons (ix rfl) (ea_cons (ix rfl) (ea_cons (ix rfl) (ea_cons (ix rfl) (ea_cons (ix rfl) (ea_cons (ix rfl) (ea_cons (ix rfl) (ea_cons (ix rfl) (ea_cons (ix rfl) (ea_cons (ix rfl) ea_nil)))))))))) H (Ex.refl H) _ fun H1 e1 p dx np ndx nex => ?_)
    have np0 := fresh_back e1 np
    have e2 : Ex H (upd (upd H1 dx (.own p)) p (.ins CR dx [])) := fun b o hb => by
      have hb1 := e1 _ _ hb
      rw [upd_ne (ne_of_none hb1 np), upd_ne (ne_of_none hb1 ndx)]
      exact hb1
    exact ⟨H, p, dx, y1, y2, y3, y4, y5, y6, y7, y8, y9, y10, y11, d1, d2, d3, d4, d5, d6, d7, d8, d9, d10, d11, rfl, hd, hs, np0, e2, upd_same, fun r _ _ hw H' e' _ => ⟨rfl, k1 hw p H' np0 e'⟩, k2⟩
end

/-! ### isinstance of a caught error that has its dict -/
def rIsED (K : PySem.W.Frag) (D a : Addr) (cls : Value) (d : Option Addr) : List V → Hp → VK → Prop := fun xs H Q => ∃ (c : V) (cv : Value) (b : Bool) (dd : Addr) (fs : List (Str × V)), xs = [.ref a, c] ∧ cls = .ref D ∧ d = some dd ∧ H dd = some (.xd fs) ∧ (∀ u, RelV c u → u = cv) ∧ PySem.W.kitOne K (.ref D) cv = some b ∧ Q (.bl b) H
theorem call_isED {X : Cx} {a D : Addr} {oe : Obj} {cls : Value} {d : Option Addr} {pn : List (Addr × Obj)} (C : ExcC X.K D) (hz : Zc cls d oe) (hf : ∃ vs, oe.data = .fields vs) : CallR (X.suite a ((a, oe) :: pn)) (.builtin "isinstance") (rIsED X.K D a cls d) := by
  intro pins s σ H xs us Q I r h
  obtain ⟨c, cv, b, dd, fs, rfl, rfl, rfl, hdd, hcv, e, q⟩ := h
  obtain ⟨u1, u2, rfl, r1, r2⟩ := r.two
  cases r1
  obtain rfl := hcv _ r2
  obtain ⟨hget, _⟩ := I.pin (a, oe) (List.mem_append.mpr (.inl List.mem_cons_self))
  obtain ⟨vs, hv⟩ := hf
  have hx : ObjOk X.prog X.w H s.heap dd (.xd fs) := I.hok dd _ hdd
  obtain ⟨mA, hns, _⟩ := hx
  obtain ⟨od, ho, _⟩ := lookIn_ns hns
  have J : PySem.W.InstAt s.heap a oe D (some od) := ⟨hget, hz.1, by unfold PySem.W.notCls; rw [hv] <;> rfl, by rw [hz.2]; exact ho⟩
  have hcl : (PySem.W.clsIn X.K D).isSome = true := by
    obtain ⟨cd, e, _⟩ := Option.bind_eq_some_iff.mp C.hm
    rw [e]
    rfl
  exact PySem.W.kia_one (PySem.W.kitx_exc hcl C.hg C.hk C.hs C.ha C.hn C.ht C.hm) I.kIn J e (fun z => nomatch z) fun tk => ⟨.bl b, H, I.kept (t' := tk) fun _ _ z => z, rfl, q⟩

section
variable {P : Program} {w : World} {K : PySem.W.Frag} {mg : Str → Option Value} {base : Heap} {CR CI CS CD aB aH : Addr}
-- 
/-- what the law asks of the classes of errors -/
structure Er (K : PySem.W.Frag) (mg : Str → Option Value) (CI CS CD : Addr) : Prop where
  x : ExcC K CI
  f : XfC K CI
  no : PySem.W.findIn K (.ref CI) "word" = some none
  gI : mg "InvalidRule" = some (.ref CI)
  gS : ∃ u, mg "SitError" = some u ∧ RelV (.ref CS) u
  gD : ∃ u, mg "InvalidRoad" = some u ∧ RelV (.ref CD) u
  ex : PySem.W.exmOne K (.ref CI) (.ref CI) = some true
  kS : PySem.W.kitOne K (.ref CI) (.ref CS) = some true
  kD : PySem.W.kitOne K (.ref CI) (.ref CD) = some false
def rTold (K : PySem.W.Frag) : Sp := fun vs H Q _ => ∃ (l : Addr) (y1 y2 y3 y4 y5 y6 y7 y8 y9 y10 y11 : V) (d1 d2 d3 d4 d5 d6 d7 d8 d9 d10 d11 : PyData), vs = [.ref l] ∧ (SqL K H l [y1, y2, y3, y4, y5, y6, y7, y8, y9, y10, y11] ∨ SqT K H l [y1, y2, y3, y4, y5, y6, y7, y8, y9, y10, y11]) ∧
  (Dp K H y1 d1 ∧ Dp K H y2 d2 ∧ Dp K H y3 d3 ∧ Dp K H y4 d4 ∧ Dp K H y5 d5 ∧ Dp K H y6 d6 ∧ Dp K H y7 d7 ∧ Dp K H y8 d8 ∧ Dp K H y9 d9 ∧ Dp K H y10 d10 ∧ Dp K H y11 d11) ∧ (SeqAt.shaped d7 = true ∧ SeqAt.shaped d11 = true ∧ smallD d4 ∧ smallD d9) ∧
  ∀ H', Ex H H' → Q (optW (wrongOf d1 d2 d3 d4 d5 d6 d7 d8 d9 d10 d11)) H'
theorem x_dropS {sp : Sp} {E : L2.St → XK} {t : TA} {D : Ends} {σ : L2.St} {H : Hp} (h : t σ H fun vs H1 => sp vs H1 (fun _ H2 => D.nx σ H2) (E σ)) : tDrop (tCallS sp E t) D σ H := h
theorem ok_told {f fm : Addr} {fd fdm : FuncData} (D : C8.Def K mg "_law_told" st_law_told f fd) (b : Binds K fd ["_law_one"] []) (T : Tb K mg CR aB aH) (Z : Er K mg CI CS CD) (hm : mg "_law_made" = some (.ref fm)) (km : PySem.W.keepIn K (.ref fm) = true) (bm : Binds K fdm ["_law_one"] [])
    (Fm : FnOk P w K mg base (CX P w) 6 fm fdm ["_law_one"] (spMadeX K CR CI)) : C8.Cal P w K mg base 7 "_law_told" (rTold K) [] := by
  refine C8.cal0 D b .nil sc_law_told (fun vs H Q E h => ?_) (fun cdv A outer s H vs Q E hr h => ?_)
  · obtain ⟨l, _, _, _, _, _, _, _, _, _, _, _, _, _, _, _, _, _, _, _, _, _, _, rfl, _⟩ := h
    rfl
  · obtain ⟨l, y1, y2, y3, y4, y5, y6, y7, y8, y9, y10, y11, d1, d2, d3, d4, d5, d6, d7, d8, d9, d10, d11, rfl, hl, hd, hs, k⟩ := h
    refine ⟨_, pss_cons (ps_set (i := 1) sc_law_told.nd rfl (Or.inl rfl) pe_non)
      (pss_cons (ps_try_as (i := 2) (c := .ref CI) (Wout := fun _ _ _ _ => False) rfl rfl sc_law_told.nd rfl rfl ⟨by rfl, by decide, .inl Z.gI⟩ (fun _ _ h => by
          obtain ⟨_, _, _, _, _, _, _, _, _, _, _, _, _, _, _, _, z⟩ := h
          exact z.elim)
        (fun W pn xe tk po => pss_one (ps_expr (pe_callS Fm hr (by rfl) hm km bm (fun σ => passAt tk σ) (pa_cons (pv 0) pa_nil))))
        (fun a oe cls d pn hz hf => pss_one (ps_set (i := 1) sc_law_told.nd rfl (Or.inl rfl) (pe_ifExp (PW.pt (pw_and (pt_val (pe_callB (call_isED Z.x hz hf) (by rfl) T.bi_isinstance boot_isinstance (pa_cons (pv 2) (pa_cons (C8.pe_gc (by rfl) Z.gS) pa_nil)))) (pw_and1 (pt_not (pt_val (pe_callB (call_isED Z.x hz hf) (by rfl) T.bi_isinstance boot_isinstance (pa_cons (pv 2) (pa_cons (C8.pe_gc (by rfl) Z.gD) pa_nil)))))))) (pe_xf Z.f Z.no hz hf (pv 2)) pe_str))))
      (pss_one (ps_ret (pv 1)))), ?_⟩
    refine q_asg ev_c fun H1 e1 => ?_
    have hd1 := fun H2 (e : Ex H H2) => (⟨dp_up e hd.1, dp_up e hd.2.1, dp_up e hd.2.2.1, dp_up e hd.2.2.2.1, dp_up e hd.2.2.2.2.1, dp_up e hd.2.2.2.2.2.1, dp_up e hd.2.2.2.2.2.2.1, dp_up e hd.2.2.2.2.2.2.2.1, dp_up e hd.2.2.2.2.2.2.2.2.1, dp_up e hd.2.2.2.2.2.2.2.2.2.1, dp_up e hd.2.2.2.2.2.2.2.2.2.2⟩ : Dp K H2 y1 d1 ∧ Dp K H2 y2 d2 ∧ Dp K H2 y3 d3 ∧ Dp K H2 y4 d4 ∧ Dp K H2 y5 d5 ∧ Dp K H2 y6 d6 ∧ Dp K H2 y7 d7 ∧ Dp K H2 y8 d8 ∧ Dp K H2 y9 d9 ∧ Dp K H2 y10 d10 ∧ Dp K H2 y11 d11)
    show tDrop (tCallS (spMadeX K CR CI) _ (tCons (tVar 0) tNil)) _ _ _
    refine x_dropS (ea_cons (ev_var rfl) ea_nil H1 (Ex.refl H1) _ fun H2 e2 => ⟨l, y1, y2, y3, y4, y5, y6, y7, y8, y9, y10, y11, d1, d2, d3, d4, d5, d6, d7, d8, d9, d10, d11, rfl, hl.imp (fun z => ex_l (e1.trans e2) z) (fun z => ex_t (e1.trans e2) z), hd1 _ (e1.trans e2), hs, fun hw p H3 np e3 => ?_, fun s d H3 hw e3 nd => ?_⟩)
    · refine s_ret (v := .non) (ev_var rfl) fun H4 e4 => ?_
      have := k H4 ((e1.trans e2).trans (e3.trans e4))
      rw [hw] at this
      exact this
    · refine ⟨true, Z.ex, fun _ a na => ?_, fun z => Bool.noConfusion z⟩
      have hdd : (upd H3 d (.xd [("word", V.str s)])) d = some (.xd [("word", .str s)]) := upd_same
      have isE : ∀ {c : V} {cv : Value} {b : Bool}, (∀ u, RelV c u → u = cv) → PySem.W.kitOne K (.ref CI) cv = some b → RC (rIsED K CI a (.ref CI) (some d)) [.ref a, c] (upd H3 d (.xd [("word", V.str s)])) (.bl b) := fun hc hk H4 e4 _ q => ⟨_, _, _, d, _, rfl, rfl, rfl, e4 _ _ hdd, hc, hk, q H4 (Ex.refl H4)⟩
      refine s_asg (v := .str s) (ev_if (b := true) (et_is (et_and2 (et_B (ev_cb (ea_cons (ev_var rfl) (ea_cons ev_c ea_nil)) (isE (fun u r => r) Z.kS))) (et_not (et_B (ev_cb (ea_cons (ev_var rfl) (ea_cons ev_c ea_nil)) (isE (fun u r => r) Z.kD))))) (by rfl))
        (fun _ H4 e4 Q' q => ⟨.ref a, rfl, rfl, rfl, d, [("word", .str s)], .str s, rfl, e4 _ _ hdd, by simp [List.lookup], q H4 (Ex.refl H4)⟩) (fun z => Bool.noConfusion z)) fun H5 e5 => ?_
      refine s_ret (v := .str s) (ev_var rfl) fun H6 e6 => ?_
      have := k H6 ((e1.trans e2).trans (e3.trans ((Ex.new nd).trans (e5.trans e6))))
      rw [hw] at this
      exact this
end

/-! ### the law's own look at what is wrong -/
def isStr : PyData → Bool
  | .str _ => true
  | _ => false
theorem kit_str : ∀ d : PyData, kitB (tyD d) "str" = some (isStr d)
  | .none => by show kitB "NoneType" "str" = some false; decide +kernel
  | .bool _ => by show kitB "bool" "str" = some false; decide +kernel
  | .int _ => by show kitB "int" "str" = some false; decide +kernel
  | .str _ => by show kitB "str" "str" = some true; decide +kernel
  | .list _ => by show kitB "list" "str" = some false; decide +kernel
  | .tuple _ => by show kitB "tuple" "str" = some false; decide +kernel
  | .dict _ => by show kitB "dict" "str" = some false; decide +kernel
section
variable {P : Program} {w : World} {K : PySem.W.Frag} {mg : Str → Option Value} {base : Heap} {CR aB aH : Addr}
theorem ok_lfrom {f : Addr} {fd : FuncData} (D : C8.Def K mg "_law_from" st_law_from f fd) (b : Binds K fd ["_law_value_here", "_law_least"] []) (T : Tb K mg CR aB aH) : C8.Cal P w K mg base 2 "_law_from" (spP (rFromD K)) [] := by
  refine C8.cal0 D b .nil sc_law_from (fun vs H Q E h => ?_) (fun cdv A outer s H vs Q E hr h => ?_)
  · obtain ⟨v, ⟨_, _, _, rfl, _⟩, _⟩ := h
    rfl
  · obtain ⟨v, ⟨y, d, j, rfl, hd, rfl⟩, k⟩ := h
    refine ⟨_, pss_one (ps_ret (pe_and (pe_callB call_isi (by rfl) T.bi_isinstance boot_isinstance (pa_cons (pv 0) (pa_cons (pe_bltn (v := .ty "int") (by rfl) T.bi_int boot_int rfl) (pa_nil)))) (pe_and (pe_not (pe_callB call_isi (by rfl) T.bi_isinstance boot_isinstance (pa_cons (pv 0) (pa_cons (pe_bltn (v := .ty "bool") (by rfl) T.bi_bool boot_bool rfl) (pa_nil))))) (pe_one (pe_cmpR (op_ge) (pv 0) (pv 1) (nomark _)))))), ?_⟩
    refine s_ret (ev_is (ev_andV (b := isFrom d j) (ev_isint (ev_var rfl) ev_c hd) (fun h1 => ev_is (ev_andV (b := isFrom d j) (ev_notV (ev_isbool (ev_var rfl) ev_c hd)) (fun h2 => ?_)) ?_)) ?_) k
    · cases hd with
      | int i => exact ev_op (ev_var rfl) (ev_var rfl) rv_I0
      | non => cases h1
      | bl b => cases h2
      | str x => cases h1
      | lst _ _ => cases h1
      | tup _ _ => cases h1
    · cases d <;> rfl
    · cases d <;> rfl
def rOneOf (K : PySem.W.Frag) : Hp → List V → V → Prop := fun H vs v => ∃ (y : V) (p : Addr) (a b c : Str) (d : PyData), vs = [y, .ref p] ∧ SqL K H p [.str a, .str b, .str c] ∧ Dp K H y d ∧ v = .bl (oneOf [.str a, .str b, .str c] d)
theorem ok_oneOf {f : Addr} {fd : FuncData} (D : C8.Def K mg "_law_one_of" st_law_one_of f fd) (b : Binds K fd ["_law_value_here", "_law_some"] []) (T : Tb K mg CR aB aH) : C8.Cal P w K mg base 2 "_law_one_of" (spP (rOneOf K)) [] := by
  refine C8.cal0 D b .nil sc_law_one_of (fun vs H Q E h => ?_) (fun cdv A outer s H vs Q E hr h => ?_)
  · obtain ⟨v, ⟨_, _, _, _, _, _, rfl, _⟩, _⟩ := h
    rfl
  · obtain ⟨v, ⟨y, p, a, b, c, d, rfl, hp, hd, rfl⟩, k⟩ := h
    refine ⟨_, pss_one (ps_ret (pe_and (pe_callB call_isi (by rfl) T.bi_isinstance boot_isinstance (pa_cons (pv 0) (pa_cons (pe_bltn (v := .ty "str") (by rfl) T.bi_str boot_str rfl) (pa_nil)))) (pe_one (pe_cmpR (op_in_seq) (pv 0) (pv 1) (by rfl))))), ?_⟩
    refine s_ret (ev_is (ev_andV (b := oneOf [.str a, .str b, .str c] d) (ev_cb (ea_cons (ev_var rfl) (ea_cons ev_c ea_nil)) (rc_isi (ClsV.ty _) (fun H1 e => tyx_D (dp_up e hd)) (kit_D d "str" (kit_str d)))) (fun h1 => ?_)) ?_) k
    · cases hd with
      | str x => exact ev_op (ev_var rfl) (ev_var rfl) (rv_isL hp rfl rfl)
      | non => cases h1
      | bl b => cases h1
      | int i => cases h1
      | lst _ _ => cases h1
      | tup _ _ => cases h1
    · cases d <;> rfl
theorem ev_oneOf {σ : L2.St} {H : Hp} {E : XK} {ta tl : TE} {y : V} {d : PyData} {a b c : Str} (h : Ev ta σ H y) (hl : EvL tl σ H [.str a, .str b, .str c]) (hd : Dp K H y d) : Ev (tCall (spP (rOneOf K)) [] E (tCons ta (tCons tl tNil))) σ H (.bl (oneOf [.str a, .str b, .str c] d)) := fun H1 e Q q =>
  h H1 e _ fun H2 e2 => hl H2 (e.trans e2) _ fun p H3 np e3 hp => ⟨.bl _, ⟨y, p, a, b, c, d, rfl, sq_of hp, dp_up ((e.trans e2).trans e3) hd, rfl⟩, fun H4 e4 => q H4 ((e2.trans e3).trans e4)⟩
end

section
variable {P : Program} {w : World} {K : PySem.W.Frag} {mg : Str → Option Value} {base : Heap} {CR aB aH : Addr}
def rWrong (K : PySem.W.Frag) : Hp → List V → V → Prop := fun H vs v => ∃ (l : Addr) (y1 y2 y3 y4 y5 y6 y7 y8 y9 y10 y11 : V) (d1 d2 d3 d4 d5 d6 d7 d8 d9 d10 d11 : PyData), vs = [.ref l] ∧ SqL K H l [y1, y2, y3, y4, y5, y6, y7, y8, y9, y10, y11] ∧
  (Dp K H y1 d1 ∧ Dp K H y2 d2 ∧ Dp K H y3 d3 ∧ Dp K H y4 d4 ∧ Dp K H y5 d5 ∧ Dp K H y6 d6 ∧ Dp K H y7 d7 ∧ Dp K H y8 d8 ∧ Dp K H y9 d9 ∧ Dp K H y10 d10 ∧ Dp K H y11 d11) ∧ v = optW (wrongOf d1 d2 d3 d4 d5 d6 d7 d8 d9 d10 d11)
theorem ok_lwrong {f : Addr} {fd : FuncData} (D : C8.Def K mg "_law_wrong" st_law_wrong f fd) (b : Binds K fd ["_law_one"] []) (T : Tb K mg CR aB aH) (c_law_from : C8.Cal P w K mg base 2 "_law_from" (spP (rFromD K)) []) (c_law_one_of : C8.Cal P w K mg base 2 "_law_one_of" (spP (rOneOf K)) []) : C8.Cal P w K mg base 3 "_law_wrong" (spP (rWrong K)) [] := by
  refine C8.cal0 D b .nil sc_law_wrong (fun vs H Q E h => ?_) (fun cdv A outer s H vs Q E hr h => ?_)
  · obtain ⟨v, ⟨_, _, _, _, _, _, _, _, _, _, _, _, _, _, _, _, _, _, _, _, _, _, _, rfl, _⟩, _⟩ := h
    rfl
  · obtain ⟨v, ⟨l, y1, y2, y3, y4, y5, y6, y7, y8, y9, y10, y11, d1, d2, d3, d4, d5, d6, d7, d8, d9, d10, d11, rfl, hl, ⟨h1, h2, h3, h4, h5, h6, h7, h8, h9, h10, h11⟩, rfl⟩, k⟩ := h
    refine ⟨_, pss_cons (ps_asg (pe_slice sl_list (pv 0) po_none (po_some (pe_int))) (pg_unl (n := 6) rfl (pgs_cons (pg_name (i := 1) sc_law_wrong.nd rfl (Or.inl rfl)) (pgs_cons (pg_name (i := 2) sc_law_wrong.nd rfl (Or.inl rfl)) (pgs_cons (pg_name (i := 3) sc_law_wrong.nd rfl (Or.inl rfl)) (pgs_cons (pg_name (i := 4) sc_law_wrong.nd rfl (Or.inl rfl)) (pgs_cons (pg_name (i := 5) sc_law_wrong.nd rfl (Or.inl rfl)) (pgs_cons (pg_name (i := 6) sc_law_wrong.nd rfl (Or.inl rfl)) (pgs_nil)))))))))
      (pss_cons (ps_asg (pe_slice sl_list (pv 0) (po_some (pe_int)) po_none) (pg_unl (n := 5) rfl (pgs_cons (pg_name (i := 7) sc_law_wrong.nd rfl (Or.inl rfl)) (pgs_cons (pg_name (i := 8) sc_law_wrong.nd rfl (Or.inl rfl)) (pgs_cons (pg_name (i := 9) sc_law_wrong.nd rfl (Or.inl rfl)) (pgs_cons (pg_name (i := 10) sc_law_wrong.nd rfl (Or.inl rfl)) (pgs_cons (pg_name (i := 11) sc_law_wrong.nd rfl (Or.inl rfl)) (pgs_nil))))))))
      (pss_cons (ps_if (PW.pt (pw_or (pt_not (pt_val (C8.pe_c c_law_from hr (by decide) (by rfl) (pa_cons (pv 1) (pa_cons (pe_int) (pa_nil)))))) (pw_or1 (pt_not (pt_val (C8.pe_c c_law_from hr (by decide) (by rfl) (pa_cons (pv 2) (pa_cons (pv 1) (pa_nil))))))))) (pss_one (ps_ret (pe_ifExp (pt_not (pt_val (C8.pe_c c_law_from hr (by decide) (by rfl) (pa_cons (pv 1) (pa_cons (pe_int) (pa_nil)))))) (pe_str) (pe_str)))) (pss_nil))
      (pss_cons (ps_if (PW.pt (pw_or (pt_not (pt_val (C8.pe_c c_law_from hr (by decide) (by rfl) (pa_cons (pv 3) (pa_cons (pe_int) (pa_nil)))))) (pw_or1 (pt_not (pt_val (C8.pe_c c_law_from hr (by decide) (by rfl) (pa_cons (pv 4) (pa_cons (pe_int) (pa_nil))))))))) (pss_one (ps_ret (pe_ifExp (pt_not (pt_val (C8.pe_c c_law_from hr (by decide) (by rfl) (pa_cons (pv 3) (pa_cons (pe_int) (pa_nil)))))) (pe_str) (pe_str)))) (pss_nil))
      (pss_cons (ps_if (PW.pt (pw_or (pt_not (pt_val (C8.pe_c c_law_from hr (by decide) (by rfl) (pa_cons (pv 5) (pa_cons (pv 3) (pa_nil)))))) (pw_or1 (pt_not (pt_val (C8.pe_c c_law_from hr (by decide) (by rfl) (pa_cons (pv 6) (pa_cons (pe_int) (pa_nil))))))))) (pss_one (ps_ret (pe_ifExp (pt_not (pt_val (C8.pe_c c_law_from hr (by decide) (by rfl) (pa_cons (pv 5) (pa_cons (pv 3) (pa_nil)))))) (pe_str) (pe_str)))) (pss_nil))
      (pss_cons (ps_if (pt_not (pt_val (C8.pe_c c_law_one_of hr (by decide) (by rfl) (pa_cons (pv 7) (pa_cons (pe_lst (pa_cons (pe_str) (pa_cons (pe_str) (pa_cons (pe_str) (pa_nil))))) (pa_nil)))))) (pss_one (ps_ret (pe_str))) (pss_nil))
      (pss_cons (ps_if (PW.pt (pw_or (pt_not (pt_val (C8.pe_c c_law_from hr (by decide) (by rfl) (pa_cons (pv 8) (pa_cons (pe_int) (pa_nil)))))) (pw_or (pt_not (pt_val (C8.pe_c c_law_from hr (by decide) (by rfl) (pa_cons (pv 9) (pa_cons (pe_int) (pa_nil)))))) (pw_or1 (pt_cmpR (op_lt) (pv 9) (pv 8) (nomark _)))))) (pss_one (ps_ret (pe_ifExp (pt_not (pt_val (C8.pe_c c_law_from hr (by decide) (by rfl) (pa_cons (pv 8) (pa_cons (pe_int) (pa_nil)))))) (pe_str) (pe_str)))) (pss_nil))
      (pss_cons (ps_if (pt_not (pt_val (pe_callB call_isi (by rfl) T.bi_isinstance boot_isinstance (pa_cons (pv 10) (pa_cons (pe_bltn (v := .ty "bool") (by rfl) T.bi_bool boot_bool rfl) (pa_nil)))))) (pss_one (ps_ret (pe_str))) (pss_nil))
      (pss_one (ps_ret (pe_ifExp (pt_val (C8.pe_c c_law_one_of hr (by decide) (by rfl) (pa_cons (pv 11) (pa_cons (pe_lst (pa_cons (pe_str) (pa_cons (pe_str) (pa_cons (pe_str) (pa_nil))))) (pa_nil))))) (pe_non) (pe_str))))))))))), ?_⟩
    have q1 : cutV [y1, y2, y3, y4, y5, y6, y7, y8, y9, y10, y11] none (some 6) = [y1, y2, y3, y4, y5, y6] := rfl
    have q2 : cutV [y1, y2, y3, y4, y5, y6, y7, y8, y9, y10, y11] (some 6) none = [y7, y8, y9, y10, y11] := rfl
    refine x_asgG (el_is (el_sl (ev_var rfl) eo_none (eo_some ev_c) hl) q1 H (Ex.refl H) _ fun p4 H4 _ e4 hp4 => ⟨p4, [y1, y2, y3, y4, y5, y6], rfl, sq_of hp4, rfl, ?_⟩)
    refine ⟨_, _, rfl, _, _, rfl, _, _, rfl, _, _, rfl, _, _, rfl, _, _, rfl, rfl, ?_⟩
    refine x_asgG (el_is (el_sl (ev_var rfl) (eo_some ev_c) eo_none (ex_l e4 hl)) q2 H4 (Ex.refl H4) _ fun p5 H5 _ e5 hp5 => ⟨p5, [y7, y8, y9, y10, y11], rfl, sq_of hp5, rfl, ?_⟩)
    refine ⟨_, _, rfl, _, _, rfl, _, _, rfl, _, _, rfl, _, _, rfl, rfl, ?_⟩
    show tSeq _ _ _ [some (.ref l), some y1, some y2, some y3, some y4, some y5, some y6, some y7, some y8, some y9, some y10, some y11] H5
    have md := mdE H
    have m : Ex H H5 := e4.trans e5
    unfold wrongOf wcOf at k
    cases c1 : isFrom d1 1 with
    | false =>
      rw [if_pos c1] at k
      exact g_yes md m (et_is (et_or (b := false) (et_from h1 (ev_var rfl) ev_c c1) (fun z => Bool.noConfusion z)) (by rfl)) fun H1 m => g_ret md m (ev_if (b := true) (et_from h1 (ev_var rfl) ev_c c1) (fun _ => ev_c) (fun z => Bool.noConfusion z)) k
    | true =>
    rw [if_neg (by rw [c1]; decide)] at k
    obtain ⟨rfl, e1, _⟩ := from_int h1 c1
    cases c2 : isFrom d2 (intD d1) with
    | false =>
      rw [if_pos c2] at k
      exact g_yes md m (et_is (et_or (et_from h1 (ev_var rfl) ev_c c1) (fun _ => et_from h2 (ev_var rfl) (ev_var rfl) c2)) (by rfl)) fun H1 m => g_ret md m (ev_if (b := false) (et_from h1 (ev_var rfl) ev_c c1) (fun z => Bool.noConfusion z) (fun _ => ev_c)) k
    | true =>
    rw [if_neg (by rw [c2]; decide)] at k
    refine g_no md m (et_is (et_or (et_from h1 (ev_var rfl) ev_c c1) (fun _ => et_from h2 (ev_var rfl) (ev_var rfl) c2)) (by rfl)) fun H1 m => ?_
    cases c3 : isFrom d3 1 with
    | false =>
      rw [if_pos c3] at k
      exact g_yes md m (et_is (et_or (b := false) (et_from h3 (ev_var rfl) ev_c c3) (fun z => Bool.noConfusion z)) (by rfl)) fun H1 m => g_ret md m (ev_if (b := true) (et_from h3 (ev_var rfl) ev_c c3) (fun _ => ev_c) (fun z => Bool.noConfusion z)) k
    | true =>
    rw [if_neg (by rw [c3]; decide)] at k
    obtain ⟨rfl, e3, _⟩ := from_int h3 c3
    cases c4 : isFrom d4 0 with
    | false =>
      rw [if_pos c4] at k
      exact g_yes md m (et_is (et_or (et_from h3 (ev_var rfl) ev_c c3) (fun _ => et_from h4 (ev_var rfl) ev_c c4)) (by rfl)) fun H1 m => g_ret md m (ev_if (b := false) (et_from h3 (ev_var rfl) ev_c c3) (fun z => Bool.noConfusion z) (fun _ => ev_c)) k
    | true =>
    rw [if_neg (by rw [c4]; decide)] at k
    refine g_no md m (et_is (et_or (et_from h3 (ev_var rfl) ev_c c3) (fun _ => et_from h4 (ev_var rfl) ev_c c4)) (by rfl)) fun H1 m => ?_
    cases c5 : isFrom d5 (intD d3) with
    | false =>
      rw [if_pos c5] at k
      exact g_yes md m (et_is (et_or (b := false) (et_from h5 (ev_var rfl) (ev_var rfl) c5) (fun z => Bool.noConfusion z)) (by rfl)) fun H1 m => g_ret md m (ev_if (b := true) (et_from h5 (ev_var rfl) (ev_var rfl) c5) (fun _ => ev_c) (fun z => Bool.noConfusion z)) k
    | true =>
    rw [if_neg (by rw [c5]; decide)] at k
    cases c6 : isFrom d6 0 with
    | false =>
      rw [if_pos c6] at k
      exact g_yes md m (et_is (et_or (et_from h5 (ev_var rfl) (ev_var rfl) c5) (fun _ => et_from h6 (ev_var rfl) ev_c c6)) (by rfl)) fun H1 m => g_ret md m (ev_if (b := false) (et_from h5 (ev_var rfl) (ev_var rfl) c5) (fun z => Bool.noConfusion z) (fun _ => ev_c)) k
    | true =>
    rw [if_neg (by rw [c6]; decide)] at k
    refine g_no md m (et_is (et_or (et_from h5 (ev_var rfl) (ev_var rfl) c5) (fun _ => et_from h6 (ev_var rfl) ev_c c6)) (by rfl)) fun H1 m => ?_
    replace k : ∀ H', Ex H H' → Q (optW (wmOf d7 d8 d9 d10 d11)) H' := k
    unfold wmOf backD hearD at k
    have l3 : ∀ {a b c : Str}, EvL (tLst (tCons (tC (.str a)) (tCons (tC (.str b)) (tCons (tC (.str c)) tNil)))) [some (.ref l), some (.int (intD d1)), some y2, some (.int (intD d3)), some y4, some y5, some y6, some y7, some y8, some y9, some y10, some y11] H [.str a, .str b, .str c] := el_lst (ea_cons ev_c (ea_cons ev_c (ea_cons ev_c ea_nil))) (by show 3 ≤ 100000; decide)
    cases c7 : oneOf [.str "half", .str "open", .str "trial"] d7 with
    | false =>
      rw [if_pos c7] at k
      exact g_yes md m (et_is (et_not (et_B (ev_oneOf (ev_var rfl) l3 h7))) (by rw [c7]; rfl)) fun H1 m => g_ret md m ev_c k
    | true =>
    rw [if_neg (by rw [c7]; decide)] at k
    refine g_no md m (et_is (et_not (et_B (ev_oneOf (ev_var rfl) l3 h7))) (by rw [c7]; rfl)) fun H1 m => ?_
    cases c8 : isFrom d8 0 with
    | false =>
      rw [if_pos c8] at k
      exact g_yes md m (et_is (et_or (b := false) (et_from h8 (ev_var rfl) ev_c c8) (fun z => Bool.noConfusion z)) (by rfl)) fun H1 m => g_ret md m (ev_if (b := true) (et_from h8 (ev_var rfl) ev_c c8) (fun _ => ev_c) (fun z => Bool.noConfusion z)) k
    | true =>
    rw [if_neg (by rw [c8]; decide)] at k
    obtain ⟨rfl, e8, _⟩ := from_int h8 c8
    cases cu : isFrom d9 1 with
    | false =>
      have c9 : isFrom d9 (if intD d8 > 1 then intD d8 else 1) = false := by
        cases d9 with
        | int i =>
          have : ¬ (1 ≤ i) := of_decide_eq_false cu
          exact decide_eq_false (by split <;> omega)
        | _ => rfl
      rw [if_pos c9] at k
      exact g_yes md m (et_is (et_or (et_from h8 (ev_var rfl) ev_c c8) (fun _ => et_or (b := false) (et_from h9 (ev_var rfl) ev_c cu) (fun z => Bool.noConfusion z))) (by rfl)) fun H1 m => g_ret md m (ev_if (b := false) (et_from h8 (ev_var rfl) ev_c c8) (fun z => Bool.noConfusion z) (fun _ => ev_c)) k
    | true =>
    obtain ⟨rfl, e9, u1⟩ := from_int h9 cu
    have tt : ∀ H1 : Hp, EvT (tTest (tOp (rI0 fun i j => V.bl (decide (i < j))) (tVar 9) (tVar 8))) [some (.ref l), some (.int (intD d1)), some y2, some (.int (intD d3)), some y4, some y5, some y6, some y7, some (.int (intD d8)), some (.int (intD d9)), some y10, some y11] H1 (decide (intD d9 < intD d8)) := fun H1 => et_test (ev_op (ev_var rfl) (ev_var rfl) rv_I0)
    have c9 : isFrom d9 (if intD d8 > 1 then intD d8 else 1) = !decide (intD d9 < intD d8) := by
      rw [e9]
      show decide ((if intD d8 > 1 then intD d8 else 1) ≤ intD d9) = !decide (intD (.int (intD d9)) < intD d8)
      show decide ((if intD d8 > 1 then intD d8 else 1) ≤ intD d9) = !decide (intD d9 < intD d8)
      by_cases lt : intD d9 < intD d8
      · rw [decide_eq_true lt]
        exact decide_eq_false (by split <;> omega)
      · rw [decide_eq_false lt]
        exact decide_eq_true (by split <;> omega)
    cases lt : decide (intD d9 < intD d8) with
    | true =>
      replace c9 : isFrom d9 (if intD d8 > 1 then intD d8 else 1) = false := c9.trans (by rw [lt]; rfl)
      rw [if_pos c9] at k
      exact g_yes md m (et_is (et_or (et_from h8 (ev_var rfl) ev_c c8) (fun _ => et_or (et_from h9 (ev_var rfl) ev_c cu) (fun _ => tt H))) (by rw [lt]; rfl)) fun H1 m => g_ret md m (ev_if (b := false) (et_from h8 (ev_var rfl) ev_c c8) (fun z => Bool.noConfusion z) (fun _ => ev_c)) k
    | false =>
    replace c9 : isFrom d9 (if intD d8 > 1 then intD d8 else 1) = true := c9.trans (by rw [lt]; rfl)
    rw [if_neg (by rw [c9]; decide)] at k
    refine g_no md m (et_is (et_or (et_from h8 (ev_var rfl) ev_c c8) (fun _ => et_or (et_from h9 (ev_var rfl) ev_c cu) (fun _ => tt H))) (by rw [lt]; rfl)) fun H1 m => ?_
    cases c10 : isBool d10 with
    | false =>
      rw [if_pos c10] at k
      exact g_yes md m (et_is (et_not (et_B (ev_isbool (ev_var rfl) ev_c h10))) (by rw [c10]; rfl)) fun H1 m => g_ret md m ev_c k
    | true =>
    rw [if_neg (by rw [c10]; decide)] at k
    refine g_no md m (et_is (et_not (et_B (ev_isbool (ev_var rfl) ev_c h10))) (by rw [c10]; rfl)) fun H1 m => ?_
    have l4 : ∀ {a b c : Str}, EvL (tLst (tCons (tC (.str a)) (tCons (tC (.str b)) (tCons (tC (.str c)) tNil)))) [some (.ref l), some (.int (intD d1)), some y2, some (.int (intD d3)), some y4, some y5, some y6, some y7, some (.int (intD d8)), some (.int (intD d9)), some y10, some y11] H [.str a, .str b, .str c] := el_lst (ea_cons ev_c (ea_cons ev_c (ea_cons ev_c ea_nil))) (by show 3 ≤ 100000; decide)
    cases c11 : oneOf [.str "fault", .str "no", .str "out"] d11 with
    | false =>
      rw [if_pos c11] at k
      exact g_ret md m (ev_if (b := false) (et_is (et_B (ev_oneOf (ev_var rfl) l4 h11)) c11) (fun z => Bool.noConfusion z) (fun _ => ev_c)) k
    | true =>
      rw [if_neg (by rw [c11]; decide)] at k
      exact g_ret md m (ev_if (b := true) (et_is (et_B (ev_oneOf (ev_var rfl) l4 h11)) c11) (fun _ => ev_c) (fun z => Bool.noConfusion z)) k
end

/-! ### classes of errors -/
section
variable {K : PySem.W.Frag} {S C D : Addr} {b : Bool}
theorem exm_self (h1 : PySem.W.subIn K (.ref S) (.type "BaseException") = some true) (h2 : PySem.W.isClsIn K S = true) (h3 : PySem.W.typeIn K (.ref S) = some (.type "type")) (h4 : PySem.W.subIn K (.ref S) (.ref S) = some true) :
    PySem.W.exmOne K (.ref S) (.ref S) = some true := by
  have e1 : (PySem.W.subIn K (.ref S) (.type "BaseException") == some true) = true := by rw [h1] <;> rfl
  have e2 : ((PySem.W.clsIn K S).isSome && PySem.W.typeIn K (.ref S) == some (.type "type")) = true := by
    have h2' : (PySem.W.clsIn K S).isSome = true := h2
    rw [h2', h3] <;> rfl
  show (if (PySem.W.subIn K (.ref S) (.type "BaseException") == some true) = true then (if ((PySem.W.clsIn K S).isSome && PySem.W.typeIn K (.ref S) == some (.type "type")) = true then PySem.W.subIn K (.ref S) (.ref S) else none) else none) = some true
  rw [if_pos e1, if_pos e2]
  exact h4
theorem kit_cls (h2 : PySem.W.isClsIn K D = true) (h3 : PySem.W.typeIn K (.ref D) = some (.type "type")) (h4 : PySem.W.subIn K (.ref C) (.ref D) = some b) (h5 : PySem.W.subIn K (.ref C) (.ref C) = some true) :
    PySem.W.kitOne K (.ref C) (.ref D) = some b := by
  have e2 : ((PySem.W.clsIn K D).isSome && PySem.W.typeIn K (.ref D) == some (.type "type")) = true := by
    have h2' : (PySem.W.clsIn K D).isSome = true := h2
    rw [h2', h3] <;> rfl
  show (if ((Value.ref C) == .ref D) = true then some true else if ((PySem.W.clsIn K D).isSome && PySem.W.typeIn K (.ref D) == some (.type "type")) = true then PySem.W.subIn K (.ref C) (.ref D) else none) = some b
  rw [if_pos e2]
  by_cases h : ((Value.ref C) == .ref D) = true
  · rw [if_pos h]
    have : C = D := by
      have := beq_iff_eq.mp h
      cases this
      rfl
    subst this
    rw [← h5, h4]
  · rw [if_neg h]
    exact h4
end

/-! ### loops whose range is drawn; repr of a text or None -/
section
variable {K : PySem.W.Frag} {σ : L2.St} {H : Hp} {ta : TA} {tu tz : TS} {D : Ends} {j : Nat}
def ForR (n j : Nat) (tu : TS) (D : Ends) (σ : L2.St) (H : Hp) : Prop := ∃ W : Nat → Nat → L2.St → Hp → Prop, (∃ m, W 0 m σ H) ∧ ∀ i m σ H, W i m σ H →
  ((Itr 0 n).stop i H ∧ D.nx σ H) ∨ ((Itr 0 n).go i H ∧ ∃ N : L2.St → Hp → Prop, (∀ σ' H', N σ' H' → ∃ m', m' < m ∧ W (i + 1) m' σ' H') ∧ ∀ x H', (Itr 0 n).yld i H x H' → gName j x σ H' fun σ2 H2 => tu { D with nx := N, ct := N, bk := D.nx } σ2 H2)
theorem x_forR (h : ta σ H fun vs H1 => ∃ n : Int, vs = [.int n] ∧ -(2 ^ 62) ≤ n ∧ n < 2 ^ 62 ∧ ForR n.toNat j tu { D with nx := tz D } σ H1) : tSeq (tFor (iRng1 ta) (gName j) tu) tz D σ H := h
theorem forR_by {n : Nat} (Pv : Nat → L2.St → Hp → Prop) (h0 : Pv 0 σ H) (hs : ∀ (i : Nat) σ' H', i < n → Pv i σ' H' → tu { D with nx := Pv (i + 1), ct := Pv (i + 1), bk := D.nx } (σ'.set j (some (.int (i : Int)))) H') (hd : ∀ σ' H', Pv n σ' H' → D.nx σ' H') : ForR n j tu D σ H :=
  for_range (lo := 0) (n := n) Pv h0 (fun i σ' H' hi p => by
    have e0 : (0 : Int) + (i : Int) = (i : Int) := Int.zero_add _
    show tu { D with nx := Pv (i + 1), ct := Pv (i + 1), bk := D.nx } (σ'.set j (some (.int ((0 : Int) + (i : Int))))) H'
    rw [e0]
    exact hs i σ' H' hi p) hd
theorem x_asgG1 {te : TE} {g : TG} (h : te σ H fun v H1 => g v σ H1 fun σ2 H2 => D.nx σ2 H2) : tAsg te g D σ H := h
theorem x_cb {r : List V → Hp → VK → Prop} {t : TA} {Q : VK} (h : t σ H fun vs H1 => r vs H1 Q) : tCB r t σ H Q := h
theorem x_gsub {to ti : TE} {t : TSet} {v : V} {Q : L2.St → Hp → Prop} (h : to σ H fun o H1 => ti σ H1 fun i H2 => t o i v H2 fun H3 => Q σ H3) : gSub to ti t v σ H Q := h
theorem x_ifS {t : TT} {tw : TS} (h : t σ H fun b H1 => if b = true then tu D σ H1 else tw D σ H1) : tIfS t tu tw D σ H := h
def optT : Option Str → Str
  | none => "None"
  | some s => reprText s
def rReprO : List V → Hp → VK → Prop := fun xs H Q => ∃ o : Option Str, xs = [optW o] ∧ (optT o).length ≤ 100000 ∧ Q (.str (optT o)) H
theorem cr_reprO {X : Cx} : CallR X (.builtin "repr") rReprO := by
  intro pins s σ H xs us Q I r h
  obtain ⟨o, rfl, hz, q⟩ := h
  obtain ⟨u, rfl, ru⟩ := Vals.one r
  cases o with
  | none =>
    obtain rfl : u = Value.none := ru
    exact PySem.P.repr_of_none ⟨.str _, H, I.tok _, ⟨_, rfl⟩, q⟩
  | some z =>
    obtain ⟨t, rfl⟩ := ru
    exact PySem.P.repr_of_str (hsz := Nat.le_trans hz (by decide)) ⟨.str _, H, I.tok _, ⟨_, rfl⟩, q⟩
theorem rc_reprO {o : Option Str} (h : (optT o).length ≤ 100000) : RC rReprO [optW o] H (.str (optT o)) := fun H1 _ _ q => ⟨o, rfl, h, q H1 (Ex.refl H1)⟩
end
/-! ### what is told of a rule's arguments -/
theorem wrong_len {d1 d2 d3 d4 d5 d6 d7 d8 d9 d10 d11 : PyData} : (optT (wrongOf d1 d2 d3 d4 d5 d6 d7 d8 d9 d10 d11)).length ≤ 100000 := by
  have all : ∀ o ∈ ([none, some "need", some "of", some "base", some "more", some "most", some "calm", some "back", some "top", some "under", some "up", some "hears"] : List (Option Str)), decide ((optT o).length ≤ 100000) = true := by decide +kernel
  have wc : wcOf d1 d2 d3 d4 d5 d6 ∈ ([none, some "need", some "of", some "base", some "more", some "most", some "calm"] : List (Option Str)) := by
    unfold wcOf
    repeat' split
    all_goals simp
  have wm : wmOf d7 d8 d9 d10 d11 ∈ ([none, some "back", some "top", some "under", some "up", some "hears"] : List (Option Str)) := by
    unfold wmOf
    repeat' split
    all_goals simp
  refine of_decide_eq_true (all _ ?_)
  unfold wrongOf
  cases h : wcOf d1 d2 d3 d4 d5 d6 with
  | none =>
    simp only [List.mem_cons, List.not_mem_nil, or_false] at wm ⊢
    rcases wm with h | h | h | h | h | h <;> simp [h]
  | some s =>
    rw [h] at wc
    simp only [List.mem_cons, List.not_mem_nil, or_false] at wc ⊢
    rcases wc with h | h | h | h | h | h | h <;> simp [h]
theorem wrong_ok {r : RuleD} (ok : r.ok) : wrongOf (.int r.need) (.int r.of) (.int r.base) (.int r.more) (.int r.most) (.int r.calm) (.str r.back) (.int r.top) (.int r.under) (.bool r.up) (.str r.hears) = none := by
  have e1 : ∀ {i j : Int}, j ≤ i → isFrom (.int i) j = true := fun h => decide_eq_true h
  have e2 : oneOf backD (.str r.back) = true := by
    rcases ok.back with h | h | h <;> rw [h] <;> decide +kernel
  have e3 : oneOf hearD (.str r.hears) = true := by
    rcases ok.hears with h | h | h <;> rw [h] <;> decide +kernel
  have u : (if intD (.int r.top) > 1 then intD (.int r.top) else 1) ≤ r.under := by
    have := ok.topu
    have := ok.under
    show (if r.top > 1 then r.top else 1) ≤ r.under
    split <;> assumption
  have c : wcOf (.int r.need) (.int r.of) (.int r.base) (.int r.more) (.int r.most) (.int r.calm) = none := by
    unfold wcOf
    rw [if_neg (by rw [e1 ok.need]; decide), if_neg (by rw [e1 (show intD (.int r.need) ≤ r.of from ok.of)]; decide), if_neg (by rw [e1 ok.base]; decide), if_neg (by rw [e1 ok.more]; decide), if_neg (by rw [e1 (show intD (.int r.base) ≤ r.most from ok.most)]; decide), if_neg (by rw [e1 ok.calm]; decide)]
  have m : wmOf (.str r.back) (.int r.top) (.int r.under) (.bool r.up) (.str r.hears) = none := by
    unfold wmOf
    rw [if_neg (by rw [e2]; decide), if_neg (by rw [e1 ok.top]; decide), if_neg (by rw [e1 u]; decide), if_neg (fun h => by cases h), if_neg (by rw [e3]; decide)]
  unfold wrongOf
  rw [c]
  exact m
structure Item (K : PySem.W.Frag) (H : Hp) (y : V) (d : PyData) : Prop where
  dp : Dp K H y d
  good : Good 5 d
  small : smallD d
theorem Item.up {K : PySem.W.Frag} {H H' : Hp} {y : V} {d : PyData} (h : Item K H y d) (e : Ex H H') : Item K H' y d := ⟨dp_up e h.dp, h.good, h.small⟩
theorem Good.shaped {n : Nat} {d : PyData} (h : Good n d) (hn : n ≤ 64) : SeqAt.shaped d = true := by
  unfold SeqAt.shaped
  rw [h.cl, decide_eq_true (Nat.le_trans h.dp hn)]
  rfl
theorem Good.up {n m : Nat} {d : PyData} (h : Good n d) (hm : n ≤ m) : Good m d := ⟨h.sh, h.nd, h.cl, Nat.le_trans h.dp hm, Nat.le_trans h.ln (Nat.mul_le_mul_left _ (Nat.pow_le_pow_right (by decide) hm))⟩
theorem eleven {ys : List V} (h : ys.length = 11) : ∃ y1 y2 y3 y4 y5 y6 y7 y8 y9 y10 y11, ys = [y1, y2, y3, y4, y5, y6, y7, y8, y9, y10, y11] := match ys, h with
  | [y1, y2, y3, y4, y5, y6, y7, y8, y9, y10, y11], _ => ⟨y1, y2, y3, y4, y5, y6, y7, y8, y9, y10, y11, rfl⟩
section
variable {K : PySem.W.Frag} {σ : L2.St} {H : Hp} {E : XK} {te : TE} {l : Addr} {y1 y2 y3 y4 y5 y6 y7 y8 y9 y10 y11 : V} {d1 d2 d3 d4 d5 d6 d7 d8 d9 d10 d11 : PyData}
structure Items (K : PySem.W.Frag) (H : Hp) (y1 y2 y3 y4 y5 y6 y7 y8 y9 y10 y11 : V) (d1 d2 d3 d4 d5 d6 d7 d8 d9 d10 d11 : PyData) : Prop where
  i1 : Item K H y1 d1
  i2 : Item K H y2 d2
  i3 : Item K H y3 d3
  i4 : Item K H y4 d4
  i5 : Item K H y5 d5
  i6 : Item K H y6 d6
  i7 : Item K H y7 d7
  i8 : Item K H y8 d8
  i9 : Item K H y9 d9
  i10 : Item K H y10 d10
  i11 : Item K H y11 d11
theorem Items.dps {H' : Hp} (e : Ex H H') (h : Items K H y1 y2 y3 y4 y5 y6 y7 y8 y9 y10 y11 d1 d2 d3 d4 d5 d6 d7 d8 d9 d10 d11) : Dp K H' y1 d1 ∧ Dp K H' y2 d2 ∧ Dp K H' y3 d3 ∧ Dp K H' y4 d4 ∧ Dp K H' y5 d5 ∧ Dp K H' y6 d6 ∧ Dp K H' y7 d7 ∧ Dp K H' y8 d8 ∧ Dp K H' y9 d9 ∧ Dp K H' y10 d10 ∧ Dp K H' y11 d11 :=
  ⟨dp_up e h.i1.dp, dp_up e h.i2.dp, dp_up e h.i3.dp, dp_up e h.i4.dp, dp_up e h.i5.dp, dp_up e h.i6.dp, dp_up e h.i7.dp, dp_up e h.i8.dp, dp_up e h.i9.dp, dp_up e h.i10.dp, dp_up e h.i11.dp⟩
theorem Items.hs (h : Items K H y1 y2 y3 y4 y5 y6 y7 y8 y9 y10 y11 d1 d2 d3 d4 d5 d6 d7 d8 d9 d10 d11) : SeqAt.shaped d7 = true ∧ SeqAt.shaped d11 = true ∧ smallD d4 ∧ smallD d9 := ⟨h.i7.good.shaped (by decide), h.i11.good.shaped (by decide), h.i4.small, h.i9.small⟩
theorem ev_told (ha : Ev te σ H (.ref l)) (hl : SqL K H l [y1, y2, y3, y4, y5, y6, y7, y8, y9, y10, y11] ∨ SqT K H l [y1, y2, y3, y4, y5, y6, y7, y8, y9, y10, y11]) (h : Items K H y1 y2 y3 y4 y5 y6 y7 y8 y9 y10 y11 d1 d2 d3 d4 d5 d6 d7 d8 d9 d10 d11) :
    Ev (tCall (rTold K) [] E (tCons te tNil)) σ H (optW (wrongOf d1 d2 d3 d4 d5 d6 d7 d8 d9 d10 d11)) := fun H1 e Q q =>
  ha H1 e _ fun H2 e2 => ⟨l, y1, y2, y3, y4, y5, y6, y7, y8, y9, y10, y11, d1, d2, d3, d4, d5, d6, d7, d8, d9, d10, d11, rfl, hl.imp (ex_l (e.trans e2)) (ex_t (e.trans e2)), h.dps (e.trans e2), h.hs, fun H' e' => q H' (e2.trans e')⟩
theorem ev_toldU (ha : EvU te σ H [y1, y2, y3, y4, y5, y6, y7, y8, y9, y10, y11]) (h : Items K H y1 y2 y3 y4 y5 y6 y7 y8 y9 y10 y11 d1 d2 d3 d4 d5 d6 d7 d8 d9 d10 d11) :
    Ev (tCall (rTold K) [] E (tCons te tNil)) σ H (optW (wrongOf d1 d2 d3 d4 d5 d6 d7 d8 d9 d10 d11)) := fun H1 e Q q =>
  ha H1 e _ fun l H2 _ e2 hp => ⟨l, y1, y2, y3, y4, y5, y6, y7, y8, y9, y10, y11, d1, d2, d3, d4, d5, d6, d7, d8, d9, d10, d11, rfl, .inr (st_of hp), h.dps (e.trans e2), h.hs, fun H' e' => q H' (e2.trans e')⟩
theorem ev_wrong (ha : Ev te σ H (.ref l)) (hl : SqL K H l [y1, y2, y3, y4, y5, y6, y7, y8, y9, y10, y11]) (h : Items K H y1 y2 y3 y4 y5 y6 y7 y8 y9 y10 y11 d1 d2 d3 d4 d5 d6 d7 d8 d9 d10 d11) :
    Ev (tCall (spP (rWrong K)) [] E (tCons te tNil)) σ H (optW (wrongOf d1 d2 d3 d4 d5 d6 d7 d8 d9 d10 d11)) := fun H1 e Q q =>
  ha H1 e _ fun H2 e2 => ⟨_, ⟨l, y1, y2, y3, y4, y5, y6, y7, y8, y9, y10, y11, d1, d2, d3, d4, d5, d6, d7, d8, d9, d10, d11, rfl, ex_l (e.trans e2) hl, h.dps (e.trans e2), rfl⟩, fun H' e' => q H' (e2.trans e')⟩
theorem it_int {i : Int} (h : (PyData.showable (.int i) && !PyData.hasDict (.int i) && PyData.canLay0 (.int i) && decide (PyData.depth (.int i) = 0) && decide ((PyData.shown (.int i)).length ≤ 100)) = true) (hs : i < 1000000) : Item K H (.int i) (.int i) := ⟨.int i, good_atom h, hs⟩
theorem it_str {z : Str} (h : (PyData.showable (.str z) && !PyData.hasDict (.str z) && PyData.canLay0 (.str z) && decide (PyData.depth (.str z) = 0) && decide ((PyData.shown (.str z)).length ≤ 100)) = true) : Item K H (.str z) (.str z) := ⟨.str z, good_atom h, trivial⟩
theorem it_bl {b : Bool} : Item K H (.bl b) (.bool b) := ⟨.bl b, good_atom (by cases b <;> decide +kernel), trivial⟩
theorem it_non : Item K H .non .none := ⟨.non, good_atom (by decide +kernel), trivial⟩
end

theorem it_num {K : PySem.W.Frag} {H : Hp} {i : Int} (h0 : 0 ≤ i) (h1 : i < 100) : Item K H (.int i) (.int i) := by
  have sl := numLen h0 (show i < 1000000 by omega)
  refine ⟨.int i, ⟨decide_eq_true (numLog h0 (show i < 1000000 by omega)), rfl, rfl, Nat.zero_le _, ?_⟩, (by show i < 1000000; omega)⟩
  show (toString i : Str).length ≤ 100 * 4 ^ 5
  omega
theorem items_rule {K : PySem.W.Frag} {H : Hp} {r : RuleD} (ok : r.ok) (rn : RuleN r) : Items K H (.int r.need) (.int r.of) (.int r.base) (.int r.more) (.int r.most) (.int r.calm) (.str r.back) (.int r.top) (.int r.under) (.bl r.up) (.str r.hears) (.int r.need) (.int r.of) (.int r.base) (.int r.more) (.int r.most) (.int r.calm) (.str r.back) (.int r.top) (.int r.under) (.bool r.up) (.str r.hears) := by
  have h1 := ok.need
  have h2 := ok.of
  have h3 := ok.base
  have h4 := ok.more
  have h5 := ok.most
  have h6 := ok.calm
  have h7 := ok.top
  have h8 := ok.topu
  have n1 := rn.of
  have n2 := rn.most
  have n3 := rn.calm
  have n4 := rn.more
  have n5 := rn.under
  refine ⟨it_num (by omega) (by omega), it_num (by omega) (by omega), it_num (by omega) (by omega), it_num (by omega) (by omega), it_num (by omega) (by omega), it_num (by omega) (by omega), ?_, it_num (by omega) (by omega), it_num (by omega) (by omega), it_bl, ?_⟩
  · rcases ok.back with h | h | h <;> rw [h] <;> exact it_str (by decide +kernel)
  · rcases ok.hears with h | h | h <;> rw [h] <;> exact it_str (by decide +kernel)
/-- a list of eleven things of any kind stands at L, beside what is known -/
structure Row (K : PySem.W.Frag) (d l L : Addr) (K1 H : Hp) : Prop where
  ex : ∃ (Kn : Hp) (ys : List V), Ex K1 Kn ∧ In d l Kn H ∧ Kn L = none ∧ L ≠ d ∧ L ≠ l ∧ H L = some (.lst ys) ∧ ys.length = 11 ∧ ∀ y ∈ ys, ∃ pd, Item K Kn y pd
theorem Row.all {K : PySem.W.Frag} {d l L : Addr} {K1 H : Hp} (h : Row K d l L K1 H) : ∃ (Kn : Hp) (y1 y2 y3 y4 y5 y6 y7 y8 y9 y10 y11 : V) (d1 d2 d3 d4 d5 d6 d7 d8 d9 d10 d11 : PyData), Ex K1 Kn ∧ In d l Kn H ∧ Kn L = some (.lst [y1, y2, y3, y4, y5, y6, y7, y8, y9, y10, y11]) ∧
    Items K Kn y1 y2 y3 y4 y5 y6 y7 y8 y9 y10 y11 d1 d2 d3 d4 d5 d6 d7 d8 d9 d10 d11 := by
  obtain ⟨Kn, ys, e, I, kL, nd, nl, hL, len, all⟩ := h.ex
  obtain ⟨y1, y2, y3, y4, y5, y6, y7, y8, y9, y10, y11, rfl⟩ := eleven len
  have eL : Ex Kn (upd Kn L (.lst [y1, y2, y3, y4, y5, y6, y7, y8, y9, y10, y11])) := Ex.new kL
  obtain ⟨d1, i1⟩ := all y1 (by simp)
  obtain ⟨d2, i2⟩ := all y2 (by simp)
  obtain ⟨d3, i3⟩ := all y3 (by simp)
  obtain ⟨d4, i4⟩ := all y4 (by simp)
  obtain ⟨d5, i5⟩ := all y5 (by simp)
  obtain ⟨d6, i6⟩ := all y6 (by simp)
  obtain ⟨d7, i7⟩ := all y7 (by simp)
  obtain ⟨d8, i8⟩ := all y8 (by simp)
  obtain ⟨d9, i9⟩ := all y9 (by simp)
  obtain ⟨d10, i10⟩ := all y10 (by simp)
  obtain ⟨d11, i11⟩ := all y11 (by simp)
  exact ⟨_, y1, y2, y3, y4, y5, y6, y7, y8, y9, y10, y11, d1, d2, d3, d4, d5, d6, d7, d8, d9, d10, d11, e.trans eL, I.more hL kL nd nl, upd_same, ⟨i1.up eL, i2.up eL, i3.up eL, i4.up eL, i5.up eL, i6.up eL, i7.up eL, i8.up eL, i9.up eL, i10.up eL, i11.up eL⟩⟩
section
variable {P : Program} {w : World} {K : PySem.W.Frag} {mg : Str → Option Value} {base : Heap} {CR aB aH : Addr}
theorem body_law {f a : Addr} {cdv : Value} {ns : List Int} (T : Tb K mg CR aB aH) (hn : ns.length ≤ 63) (c_law_deal : C8.Cal P w K mg base 2 "_law_deal" (spDeal K) []) (c_law_draw : C8.Cal P w K mg base 2 "_law_draw" spDraw []) (c_law_pick : C8.Cal P w K mg base 3 "_law_pick" (spPick K) [])
    (c_law_drawn_rule : C8.Cal P w K mg base 4 "_law_drawn_rule" spDrawn []) (c_law_value : C8.Cal P w K mg base 7 "_law_value" (spVal K 3) []) (c_law_told : C8.Cal P w K mg base 7 "_law_told" (rTold K) []) (c_law_wrong : C8.Cal P w K mg base 3 "_law_wrong" (spP (rWrong K)) []) :
    BodyAt P w K mg base 8 f a "law" (C8.fnBody st_law) (C8.fnScope st_law) cdv ["_law_script", "_law_deal_here", "_law_odd", "_law_turn", "_law_one", "_law_more"] ns := by
  intro s H0 hr hs
  refine ⟨_, pss_cons (ps_set (i := 1) sc_law.nd rfl (Or.inl rfl) (C8.pe_c c_law_deal hr (by decide) (by rfl) (pa_cons (pv 0) (pa_cons (pe_int) (pa_nil)))))
      (pss_cons (ps_set (i := 2) sc_law.nd rfl (Or.inl rfl) (pe_lst (pa_cons (pe_non) (pa_cons (pe_bl) (pa_cons (pe_bl) (pa_cons (pe_int) (pa_cons (pe_op op_sub (pe_int) (pe_int)) (pa_cons (pe_int) (pa_cons (pe_int) (pa_cons (pe_int) (pa_cons (pe_str) (pa_cons (pe_str) (pa_cons (pe_str) (pa_cons (pe_str) (pa_cons (pe_str) (pa_cons (pe_str) (pa_cons (pe_lst (pa_cons (pe_str) (pa_nil))) (pa_cons (pe_tup (pa_cons (pe_str) (pa_nil))) (pa_nil)))))))))))))))))))
      (pss_cons (ps_for PassesOwn.never rfl (pi_range1 (by rfl) T.bi_range (pa_cons (pe_int) (pa_nil))) (pg_name (i := 3) sc_law.nd rfl (Or.inl rfl)) (pss_cons (ps_set (i := 4) sc_law.nd rfl (Or.inl rfl) (pe_callTy call_list_of (by rfl) T.bi_list boot_list (pa_cons (C8.pe_c c_law_drawn_rule hr (by decide) (by rfl) (pa_cons (pv 1) (pa_nil))) (pa_nil))))
        (pss_cons (ps_if (pt_cmpR (op_notN) (C8.pe_c c_law_told hr (by decide) (by rfl) (pa_cons (pv 4) (pa_nil))) (pe_non) (nomark _)) (pss_one (ps_ret (pe_bl))) (pss_nil))
        (pss_cons (ps_for PassesOwn.never rfl (pi_range1 (by rfl) T.bi_range (pa_cons (pe_op op_add (pe_int) (C8.pe_c c_law_draw hr (by decide) (by rfl) (pa_cons (pv 1) (pa_cons (pe_int) (pa_nil))))) (pa_nil))) (pg_name (i := 5) sc_law.nd rfl (Or.inl rfl)) (pss_one (ps_asg (C8.pe_c c_law_pick hr (by decide) (by rfl) (pa_cons (pv 1) (pa_cons (pe_op op_cat (pv 2) (pe_lst (pa_cons (pe_lst (pa_cons (C8.pe_c c_law_value hr (by decide) (by rfl) (pa_cons (pv 1) (pa_cons (pe_int) (pa_nil)))) (pa_nil))) (pa_nil)))) (pa_nil)))) (pg_sub (pv 4) (C8.pe_c c_law_draw hr (by decide) (by rfl) (pa_cons (pv 1) (pa_cons (pe_int) (pa_nil)))) set_list))))
        (pss_one (ps_if (pt_cmpR (op_ne) (pe_callB cr_reprO (by rfl) T.bi_repr boot_repr (pa_cons (C8.pe_c c_law_told hr (by decide) (by rfl) (pa_cons (pv 4) (pa_nil))) (pa_nil))) (pe_callB cr_reprO (by rfl) T.bi_repr boot_repr (pa_cons (C8.pe_c c_law_wrong hr (by decide) (by rfl) (pa_cons (pv 4) (pa_nil))) (pa_nil))) (nomark _)) (pss_one (ps_ret (pe_bl))) (pss_nil)))))))
      (pss_cons (ps_if (pt_cmpR (op_ne) (C8.pe_c c_law_told hr (by decide) (by rfl) (pa_cons (pe_tup (pa_cons (pe_int) (pa_cons (pe_int) (pa_cons (pe_int) (pa_cons (pe_int) (pa_cons (pe_int) (pa_cons (pe_int) (pa_cons (pe_str) (pa_cons (pe_int) (pa_cons (pe_int) (pa_cons (pe_bl) (pa_cons (pe_str) (pa_nil))))))))))))) (pa_nil))) (pe_str) (nomark _)) (pss_one (ps_ret (pe_bl))) (pss_nil))
      (pss_cons (ps_if (pt_cmpR (op_ne) (C8.pe_c c_law_told hr (by decide) (by rfl) (pa_cons (pe_tup (pa_cons (pe_int) (pa_cons (pe_int) (pa_cons (pe_int) (pa_cons (pe_int) (pa_cons (pe_int) (pa_cons (pe_int) (pa_cons (pe_str) (pa_cons (pe_int) (pa_cons (pe_int) (pa_cons (pe_bl) (pa_cons (pe_str) (pa_nil))))))))))))) (pa_nil))) (pe_str) (nomark _)) (pss_one (ps_ret (pe_bl))) (pss_nil))
      (pss_one (ps_ret (pe_cmpR (op_eq) (C8.pe_c c_law_told hr (by decide) (by rfl) (pa_cons (pe_tup (pa_cons (pe_int) (pa_cons (pe_int) (pa_cons (pe_int) (pa_cons (pe_int) (pa_cons (pe_int) (pa_cons (pe_int) (pa_cons (pe_str) (pa_cons (pe_int) (pa_cons (pe_int) (pa_cons (pe_bl) (pa_cons (pe_str) (pa_nil))))))))))))) (pa_nil))) (pe_str) (nomark _)))))))), ?_⟩
  refine x_asg (x_deal (ea_cons (ev_var rfl) (ea_cons ev_c ea_nil)) hs hn (by decide) (by decide) fun d l H1 I => ?_)
  -- the odd things
  refine x_asg (x_lst (x_cons (I.ev ev_c fun _ I => x_cons (I.ev ev_c fun _ I => x_cons (I.ev ev_c fun _ I => x_cons (I.ev ev_c fun _ I => x_cons (I.ev (ev_op ev_c ev_c rv_I0) fun _ I => x_cons (I.ev ev_c fun _ I => x_cons (I.ev ev_c fun _ I => x_cons (I.ev ev_c fun _ I => x_cons (I.ev ev_c fun _ I => ?_)))))))))))
  refine x_cons (I.ev ev_c fun _ I => x_cons (I.ev ev_c fun _ I => x_cons (I.ev ev_c fun _ I => x_cons (I.ev ev_c fun _ I => x_cons (I.ev ev_c fun _ I => ?_)))))
  refine x_cons (I.evL (el_lst (ea_cons ev_c ea_nil) (by show 1 ≤ 100000; decide)) fun p1 Ka H2 ea h1 I => x_cons (I.evU (eu_tup (ea_cons ev_c ea_nil) (by show 1 ≤ 100000; decide)) fun p2 Kb H3 eb h2 I => x_nil ⟨(by show 16 ≤ sizeLine; decide), fun po npo => ?_⟩))
  obtain ⟨I, eo⟩ := I.lay (o := .lst [.non, .bl true, .bl false, .int 0, .int (0 - 1), .int 1, .int 2, .int 3, .str "1", .str "open", .str "no", .str "half", .str "up", .str "", .ref p1, .ref p2]) npo
  have ho : (upd Kb po (.lst [.non, .bl true, .bl false, .int 0, .int (0 - 1), .int 1, .int 2, .int 3, .str "1", .str "open", .str "no", .str "half", .str "up", .str "", .ref p1, .ref p2])) po = some (.lst [.non, .bl true, .bl false, .int 0, .int (0 - 1), .int 1, .int 2, .int 3, .str "1", .str "open", .str "no", .str "half", .str "up", .str "", .ref p1, .ref p2]) := upd_same
  have h1 := eo _ _ (eb _ _ h1)
  have h2 := eo _ _ h2
  generalize upd Kb po (.lst [.non, .bl true, .bl false, .int 0, .int (0 - 1), .int 1, .int 2, .int 3, .str "1", .str "open", .str "no", .str "half", .str "up", .str "", .ref p1, .ref p2]) = K1 at *
  have odd : ∀ y ∈ [V.non, .bl true, .bl false, .int 0, .int (0 - 1), .int 1, .int 2, .int 3, .str "1", .str "open", .str "no", .str "half", .str "up", .str "", .ref p1, .ref p2], ∃ pd, Item K K1 y pd := by
    intro y hy
    simp only [List.mem_cons, List.not_mem_nil, or_false] at hy
    rcases hy with rfl | rfl | rfl | rfl | rfl | rfl | rfl | rfl | rfl | rfl | rfl | rfl | rfl | rfl | rfl | rfl
    · exact ⟨_, it_non⟩
    · exact ⟨_, it_bl⟩
    · exact ⟨_, it_bl⟩
    · exact ⟨_, it_int (by decide +kernel) (by decide)⟩
    · exact ⟨_, it_int (by decide +kernel) (by decide)⟩
    · exact ⟨_, it_int (by decide +kernel) (by decide)⟩
    · exact ⟨_, it_int (by decide +kernel) (by decide)⟩
    · exact ⟨_, it_int (by decide +kernel) (by decide)⟩
    · exact ⟨_, it_str (by decide +kernel)⟩
    · exact ⟨_, it_str (by decide +kernel)⟩
    · exact ⟨_, it_str (by decide +kernel)⟩
    · exact ⟨_, it_str (by decide +kernel)⟩
    · exact ⟨_, it_str (by decide +kernel)⟩
    · exact ⟨_, it_str (by decide +kernel)⟩
    · exact ⟨_, .lst (sq_of h1) (.cons (.str _) .nil), (good_list (n := 0) (fun x hx => by rw [List.mem_singleton.mp hx]; exact good_atom (by decide +kernel)) (by decide)).up (by decide), trivial⟩
    · exact ⟨_, .tup (st_of h2) (.cons (.str _) .nil), (good_tuple (n := 0) (fun x hx => by rw [List.mem_singleton.mp hx]; exact good_atom (by decide +kernel)) (by decide)).up (by decide), trivial⟩
  generalize hod : [V.non, .bl true, .bl false, .int 0, .int (0 - 1), .int 1, .int 2, .int 3, .str "1", .str "open", .str "no", .str "half", .str "up", .str "", .ref p1, .ref p2] = odds at *
  have hol : odds.length = 16 := by rw [← hod]; rfl
  clear hod
  refine q_forR1 (ea_cons ev_c ea_nil) (by decide) (fun i σ' H' => ∃ (x3 x4 x5 : Option V), σ' = [some (.ref a), some (.ref d), some (.ref po), x3, x4, x5] ∧ In d l K1 H') (fun H2 e => ⟨_, _, _, rfl, I.to e⟩) ?_ ?_
  · rintro i σ' H2 hi ⟨x3, x4, x5, rfl, I⟩
    refine x_asg (x_cb (x_cons (x_drawn I (ea_cons (ev_var rfl) ea_nil) fun r p K2 H3 ok rs e1 hp I => x_nil ⟨p, r.vals, rfl, .inr (st_of (I.ex _ _ hp)), fun L nL => ?_⟩)))
    have rn := rs.n ok
    have kL := fresh_back I.ex nL
    obtain ⟨dL, lL⟩ := I.apart nL
    have I := (I.to (Ex.new nL)).more (o := .lst r.vals) upd_same kL dL lL
    have eL : Ex K2 (upd K2 L (.lst r.vals)) := Ex.new kL
    have hL : (upd K2 L (.lst r.vals)) L = some (.lst r.vals) := upd_same
    have md := mdI d l (upd K2 L (.lst r.vals))
    refine g_no md I (et_is (et_test (ev_op (ev_told (ev_var rfl) (.inl (sq_of hL)) (items_rule ok rn)) ev_c rv_notN)) (by rw [wrong_ok ok]; rfl)) fun H4 I => ?_
    -- up to three of them otherwise
    have row : Row K d l L K1 H4 := ⟨K2, r.vals, e1, I.less eL, kL, dL, lL, I.ex _ _ hL, rfl, fun y hy => by
      have it := items_rule (K := K) (H := K2) ok rn
      unfold RuleD.vals at hy
      simp only [List.mem_cons, List.not_mem_nil, or_false] at hy
      rcases hy with rfl | rfl | rfl | rfl | rfl | rfl | rfl | rfl | rfl | rfl | rfl
      · exact ⟨_, it.i1⟩
      · exact ⟨_, it.i2⟩
      · exact ⟨_, it.i3⟩
      · exact ⟨_, it.i4⟩
      · exact ⟨_, it.i5⟩
      · exact ⟨_, it.i6⟩
      · exact ⟨_, it.i7⟩
      · exact ⟨_, it.i8⟩
      · exact ⟨_, it.i9⟩
      · exact ⟨_, it.i10⟩
      · exact ⟨_, it.i11⟩⟩
    refine x_forR (x_cons (x_op (I.ev ev_c fun H5 I5 => x_draw I5 (by decide) (by decide) (ea_cons (ev_var rfl) (ea_cons ev_c ea_nil)) fun c H6 c0 c1 I6 => x_add (x_nil ⟨1 + c, rfl, by omega, by omega, ?_⟩))))
    have row : Row K d l L K1 H6 := by
      obtain ⟨Kn, ys, g1, g2, g3, g4, g5, g6, g7, g8⟩ := row.ex
      exact ⟨K2, r.vals, e1, I6.less eL, kL, dL, lL, I6.ex _ _ hL, rfl, fun y hy => by
        have it := items_rule (K := K) (H := K2) ok rn
        unfold RuleD.vals at hy
        simp only [List.mem_cons, List.not_mem_nil, or_false] at hy
        rcases hy with rfl | rfl | rfl | rfl | rfl | rfl | rfl | rfl | rfl | rfl | rfl
        · exact ⟨_, it.i1⟩
        · exact ⟨_, it.i2⟩
        · exact ⟨_, it.i3⟩
        · exact ⟨_, it.i4⟩
        · exact ⟨_, it.i5⟩
        · exact ⟨_, it.i6⟩
        · exact ⟨_, it.i7⟩
        · exact ⟨_, it.i8⟩
        · exact ⟨_, it.i9⟩
        · exact ⟨_, it.i10⟩
        · exact ⟨_, it.i11⟩⟩
    clear I I5 I6 hL eL kL nL md
    refine forR_by (fun i' σ' H' => ∃ x5 : Option V, σ' = [some (.ref a), some (.ref d), some (.ref po), some (.int (i : Int)), some (.ref L), x5] ∧ Row K d l L K1 H') ⟨_, rfl, row⟩ ?_ ?_
    · rintro i' σ' H7 hi' ⟨x5, rfl, row⟩
      obtain ⟨Kn, ys, g1, I, kL, dL, lL, hL, len, all⟩ := row.ex
      have I := I.more hL kL dL lL
      have eL : Ex Kn (upd Kn L (.lst ys)) := Ex.new kL
      have hKL : (upd Kn L (.lst ys)) L = some (.lst ys) := upd_same
      refine x_asgG1 (x_call (x_cons (I.ev (ev_var rfl) fun H8 I => x_cons (x_op (I.ev (ev_var rfl) fun H8 I => x_lst (x_cons (x_lst (x_cons (x_call (ea_cons (ev_var rfl) (ea_cons ev_c ea_nil) H8 I.ex _ fun H9 e9 =>
        ⟨d, l, 3, _, rfl, Nat.le_refl 3, I.to e9, fun v pd Kv HA hd hg hf hE I => x_nil ⟨(by show 1 ≤ sizeLine; decide), fun pv' npv => x_nil ⟨(by show 1 ≤ sizeLine; decide), fun pw npw => ?_⟩⟩⟩))))))))))
      have IJ := I.join hE hf
      have jl := join_l (K1 := upd Kn L (.lst ys)) (K2 := Kv) (fun b o z => (hf b o z).1)
      have vL : Kv L = none := by
        cases q : Kv L with
        | none => rfl
        | some u => exact absurd (hf L u q).1 (by rw [hKL]; intro z; cases z)
      obtain ⟨IV, eV⟩ := IJ.lay (o := .lst [v]) npv
      obtain ⟨IW, eW⟩ := IV.lay (o := .lst [.ref pv']) npw
      have jL : join (upd Kn L (.lst ys)) Kv L = some (.lst ys) := jl _ _ hKL
      have npvL : pv' ≠ L := fun z => by
        subst z
        rw [IJ.ex _ _ jL] at npv
        cases npv
      -- all that is known but the row
      generalize hJ : upd (upd (join (upd Kn L (.lst ys)) Kv) pv' (.lst [v])) pw (.lst [.ref pv']) = J at *
      have e3 : Ex (fun b => if b = L then none else J b) J := fun b o z => by
        change (if b = L then none else J b) = some o at z
        by_cases q : b = L
        · rw [if_pos q] at z; cases z
        · rw [if_neg q] at z; exact z
      have eK3 : ∀ {KK : Hp}, Ex KK J → KK L = none → Ex KK (fun b => if b = L then none else J b) := fun {KK} e n b o z => by
        have q : b ≠ L := fun q => by subst q; rw [n] at z; cases z
        show (if b = L then none else J b) = some o
        rw [if_neg q]
        exact e b o z
      have hJv : J pv' = some (.lst [v]) := eW _ _ upd_same
      have k3 : (fun b => if b = L then none else J b) L = none := if_pos rfl
      have eKn : Ex Kn J := eL.trans (jl.trans (eV.trans eW))
      have eKv : Ex Kv J := join_r.trans (eV.trans eW)
      have hpw : J pw = some (.lst [.ref pv']) := by rw [← hJ]; exact upd_same
      refine ⟨po, pw, odds, [.ref pv'], rfl, rfl, IW.ex _ _ (eKn _ _ (g1 _ _ ho)), IW.ex _ _ hpw, (by rw [hol]; show 17 ≤ sizeLine; decide), fun pq npq => ?_⟩
      obtain ⟨IQ, eQ⟩ := IW.lay (o := .lst (odds ++ [.ref pv'])) npq
      refine x_nil ⟨d, l, pq, odds ++ [.ref pv'], _, rfl, sq_of upd_same, by rw [List.length_append, hol]; exact Nat.succ_pos 16, by rw [List.length_append, hol]; show 17 < 1000000; decide, IQ, fun x HB hx IB => ?_⟩
      have IB := IB.less eQ
      have itx : ∃ pd, Item K (fun b => if b = L then none else J b) x pd := by
        rcases List.mem_append.mp hx with hx | hx
        · obtain ⟨pd, it⟩ := odd x hx
          exact ⟨pd, it.up (g1.trans (eK3 eKn kL))⟩
        · obtain rfl := List.mem_singleton.mp hx
          refine ⟨.list [pd], .lst (sq_of (by show (if pv' = L then none else J pv') = _; rw [if_neg npvL]; exact hJv)) (.cons (dp_up (eK3 eKv vL) hd) .nil), (good_list (n := 3) (fun x hx => by rw [List.mem_singleton.mp hx]; exact hg) (by show 1 ≤ 3; decide)).up (by decide), trivial⟩
      have hJL : J L = some (.lst ys) := eW _ _ (eV _ _ jL)
      refine x_gsub (IB.ev (ev_var rfl) fun HC I => x_draw I (by decide) (by decide) (ea_cons (ev_var rfl) (ea_cons ev_c ea_nil)) fun z HD z0 z1 I => ?_)
      obtain ⟨n, rfl⟩ : ∃ n : Nat, z = (n : Int) := ⟨z.toNat, by omega⟩
      refine ⟨L, ys, (n : Int), n, rfl, rfl, I.ex _ _ hJL, ixN_nat (by omega), _, rfl, ?_⟩
      refine ⟨_, ys.set n x, g1.trans (eK3 eKn kL), (I.less e3).mut k3 dL lL, k3, dL, lL, upd_same, by rw [List.length_set]; exact len, fun y hy => ?_⟩
      rcases List.mem_or_eq_of_mem_set hy with hy | rfl
      · obtain ⟨pd, it⟩ := all y hy
        exact ⟨pd, it.up (eK3 eKn kL)⟩
      · exact itx
    · rintro σ' H7 ⟨x5, rfl, row⟩
      obtain ⟨Kn, y1, y2, y3, y4, y5, y6, y7, y8, y9, y10, y11, d1, d2, d3, d4, d5, d6, d7, d8, d9, d10, d11, g1, I, hL, its⟩ := row.all
      refine g_no1 (mdI d l Kn) I (et_is (et_test (ev_op (ev_cb (ea_cons (ev_told (ev_var rfl) (.inl (sq_of hL)) its) ea_nil) (rc_reprO wrong_len)) (ev_cb (ea_cons (ev_wrong (ev_var rfl) (sq_of hL) its) ea_nil) (rc_reprO wrong_len)) (rv_ne rfl))) (by simp)) fun H8 I => ?_
      exact ⟨_, _, _, rfl, I.less g1⟩
  · rintro σ' H2 ⟨x3, x4, x5, rfl, I⟩
    have md := mdI d l K1
    have num : ∀ {H : Hp} {i : Int}, 0 ≤ i → i < 100 → Item K H (.int i) (.int i) := fun h0 h1 => it_num h0 h1
    refine g_no md I (et_is (et_test (ev_op (ev_toldU (eu_tup (ea_cons ev_c (ea_cons ev_c (ea_cons ev_c (ea_cons ev_c (ea_cons ev_c (ea_cons ev_c (ea_cons ev_c (ea_cons ev_c (ea_cons ev_c (ea_cons ev_c (ea_cons ev_c ea_nil))))))))))) (by show 11 ≤ 100000; decide))
      ⟨num (by decide) (by decide), num (by decide) (by decide), num (by decide) (by decide), num (by decide) (by decide), num (by decide) (by decide), num (by decide) (by decide), it_str (by decide +kernel), num (by decide) (by decide), num (by decide) (by decide), it_bl, it_str (by decide +kernel)⟩) ev_c (rv_ne (by rfl)))) (by decide +kernel)) fun H3 I => ?_
    refine g_no md I (et_is (et_test (ev_op (ev_toldU (eu_tup (ea_cons ev_c (ea_cons ev_c (ea_cons ev_c (ea_cons ev_c (ea_cons ev_c (ea_cons ev_c (ea_cons ev_c (ea_cons ev_c (ea_cons ev_c (ea_cons ev_c (ea_cons ev_c ea_nil))))))))))) (by show 11 ≤ 100000; decide))
      ⟨num (by decide) (by decide), num (by decide) (by decide), num (by decide) (by decide), num (by decide) (by decide), num (by decide) (by decide), num (by decide) (by decide), it_str (by decide +kernel), num (by decide) (by decide), num (by decide) (by decide), it_bl, it_str (by decide +kernel)⟩) ev_c (rv_ne (by rfl)))) (by decide +kernel)) fun H4 I => ?_
    refine g_ret md I (ev_is (ev_op (ev_toldU (eu_tup (ea_cons ev_c (ea_cons ev_c (ea_cons ev_c (ea_cons ev_c (ea_cons ev_c (ea_cons ev_c (ea_cons ev_c (ea_cons ev_c (ea_cons ev_c (ea_cons ev_c (ea_cons ev_c ea_nil))))))))))) (by show 11 ≤ 100000; decide))
      ⟨num (by decide) (by decide), num (by decide) (by decide), num (by decide) (by decide), num (by decide) (by decide), num (by decide) (by decide), num (by decide) (by decide), it_str (by decide +kernel), num (by decide) (by decide), num (by decide) (by decide), it_bl, it_str (by decide +kernel)⟩) ev_c (rv_eq (by rfl))) (by decide +kernel)) fun H5 I => rfl
end

/-! ### what the top has written, the head -/
theorem all_mk {l : PySem.W.OpenLaw} {w : World} {K : PySem.W.Frag} {h : Heap} {mg : Str → Option Value} {fa : Addr} (X : K.In h) (G : h.Ns mainGlobals mg) (hfa : mg "law" = some (.ref fa))
    {f_is_integer : Addr} {od_is_integer an_is_integer : Option Addr} {sl_is_integer : Array (Option Value)} {oc_is_integer kV_is_integer dc_is_integer pm_is_integer cd_is_integer ct_is_integer : Value}
    {f_is_from : Addr} {od_is_from an_is_from : Option Addr} {sl_is_from : Array (Option Value)} {oc_is_from kV_is_from dc_is_from pm_is_from cd_is_from ct_is_from : Value}
    {f_wrong_count : Addr} {od_wrong_count an_wrong_count : Option Addr} {sl_wrong_count : Array (Option Value)} {oc_wrong_count kV_wrong_count dc_wrong_count pm_wrong_count cd_wrong_count ct_wrong_count : Value}
    {f_wrong_manner : Addr} {od_wrong_manner an_wrong_manner : Option Addr} {sl_wrong_manner : Array (Option Value)} {oc_wrong_manner kV_wrong_manner dc_wrong_manner pm_wrong_manner cd_wrong_manner ct_wrong_manner : Value}
    {f_least_last : Addr} {od_least_last an_least_last : Option Addr} {sl_least_last : Array (Option Value)} {oc_least_last kV_least_last dc_least_last pm_least_last cd_least_last ct_least_last : Value}
    {f_law_draw : Addr} {od_law_draw an_law_draw : Option Addr} {sl_law_draw : Array (Option Value)} {oc_law_draw kV_law_draw dc_law_draw pm_law_draw cd_law_draw ct_law_draw : Value}
    {f_law_pick : Addr} {od_law_pick an_law_pick : Option Addr} {sl_law_pick : Array (Option Value)} {oc_law_pick kV_law_pick dc_law_pick pm_law_pick cd_law_pick ct_law_pick : Value}
    {f_law_deal : Addr} {od_law_deal an_law_deal : Option Addr} {sl_law_deal : Array (Option Value)} {oc_law_deal kV_law_deal dc_law_deal pm_law_deal cd_law_deal ct_law_deal : Value}
    {f_law_drawn_rule : Addr} {od_law_drawn_rule an_law_drawn_rule : Option Addr} {sl_law_drawn_rule : Array (Option Value)} {oc_law_drawn_rule kV_law_drawn_rule dc_law_drawn_rule pm_law_drawn_rule cd_law_drawn_rule ct_law_drawn_rule : Value}
    {f_side : Addr} {od_side an_side : Option Addr} {sl_side : Array (Option Value)} {oc_side kV_side dc_side pm_side cd_side ct_side : Value}
    {f_law_value : Addr} {od_law_value an_law_value : Option Addr} {sl_law_value : Array (Option Value)} {oc_law_value kV_law_value dc_law_value pm_law_value cd_law_value ct_law_value : Value}
    {f_law_made : Addr} {od_law_made an_law_made : Option Addr} {sl_law_made : Array (Option Value)} {oc_law_made kV_law_made dc_law_made pm_law_made cd_law_made ct_law_made : Value}
    {f_law_told : Addr} {od_law_told an_law_told : Option Addr} {sl_law_told : Array (Option Value)} {oc_law_told kV_law_told dc_law_told pm_law_told cd_law_told ct_law_told : Value}
    {f_law_from : Addr} {od_law_from an_law_from : Option Addr} {sl_law_from : Array (Option Value)} {oc_law_from kV_law_from dc_law_from pm_law_from cd_law_from ct_law_from : Value}
    {f_law_one_of : Addr} {od_law_one_of an_law_one_of : Option Addr} {sl_law_one_of : Array (Option Value)} {oc_law_one_of kV_law_one_of dc_law_one_of pm_law_one_of cd_law_one_of ct_law_one_of : Value}
    {f_law_wrong : Addr} {od_law_wrong an_law_wrong : Option Addr} {sl_law_wrong : Array (Option Value)} {oc_law_wrong kV_law_wrong dc_law_wrong pm_law_wrong cd_law_wrong ct_law_wrong : Value}
    {f_law : Addr} {od_law an_law : Option Addr} {sl_law : Array (Option Value)} {oc_law kV_law dc_law pm_law cd_law ct_law : Value}
    {CR aB aH : Addr} {odB odH : Option Addr} {tB1 tB2 tB3 tH1 tH2 tH3 : Tok} {nB nH : Nat} {slB slH : Array (Option Value)}
    {CS : Addr}
    {CI : Addr} {nm_CI q_CI : Str} {N_CI : Addr} {bs_CI : List Value} {sn_CI : List Str} {sub_CI : List Value} {ab_CI : Bool} {col_CI : Option Bool} {dd_CI : Option Addr} {m0_CI m1_CI m2_CI m3_CI m5_CI : Option Value}
    {CD : Addr}
    {f_Rule___init__ : Addr} {od_Rule___init__ an_Rule___init__ : Option Addr} {sl_Rule___init__ : Array (Option Value)} {oc_Rule___init__ kV_Rule___init__ dc_Rule___init__ pm_Rule___init__ cd_Rule___init__ ct_Rule___init__ : Value}
    {f_Rule___str__ : Addr} {od_Rule___str__ an_Rule___str__ : Option Addr} {sl_Rule___str__ : Array (Option Value)} {oc_Rule___str__ kV_Rule___str__ dc_Rule___str__ pm_Rule___str__ cd_Rule___str__ ct_Rule___str__ : Value}
    {f_Rule___eq__ : Addr} {od_Rule___eq__ an_Rule___eq__ : Option Addr} {sl_Rule___eq__ : Array (Option Value)} {oc_Rule___eq__ kV_Rule___eq__ dc_Rule___eq__ pm_Rule___eq__ cd_Rule___eq__ ct_Rule___eq__ : Value}
    {f_InvalidRule___init__ : Addr} {od_InvalidRule___init__ an_InvalidRule___init__ : Option Addr} {sl_InvalidRule___init__ : Array (Option Value)} {oc_InvalidRule___init__ kV_InvalidRule___init__ dc_InvalidRule___init__ pm_InvalidRule___init__ cd_InvalidRule___init__ ct_InvalidRule___init__ : Value}
    (a_is_integer : PySem.W.nsIn K mainGlobals "is_integer" = some (some (.ref f_is_integer)))
    (l_is_integer : K.lookup f_is_integer = some ⟨oc_is_integer, od_is_integer, .func (PySem.W.fnOf "is_integer" "is_integer" (C8.fnArgs st_is_integer) (C8.fnBody st_is_integer) (C8.fnScope st_is_integer) .none kV_is_integer dc_is_integer pm_is_integer an_is_integer cd_is_integer ct_is_integer), sl_is_integer⟩)
    (c_is_integer : PySem.W.codeIn K cd_is_integer "is_integer" = true)
    (k_is_integer : PySem.W.keepIn K (.ref f_is_integer) = true)
    (a_is_from : PySem.W.nsIn K mainGlobals "is_from" = some (some (.ref f_is_from)))
    (l_is_from : K.lookup f_is_from = some ⟨oc_is_from, od_is_from, .func (PySem.W.fnOf "is_from" "is_from" (C8.fnArgs st_is_from) (C8.fnBody st_is_from) (C8.fnScope st_is_from) .none kV_is_from dc_is_from pm_is_from an_is_from cd_is_from ct_is_from), sl_is_from⟩)
    (c_is_from : PySem.W.codeIn K cd_is_from "is_from" = true)
    (k_is_from : PySem.W.keepIn K (.ref f_is_from) = true)
    (a_wrong_count : PySem.W.nsIn K mainGlobals "_wrong_count" = some (some (.ref f_wrong_count)))
    (l_wrong_count : K.lookup f_wrong_count = some ⟨oc_wrong_count, od_wrong_count, .func (PySem.W.fnOf "_wrong_count" "_wrong_count" (C8.fnArgs st_wrong_count) (C8.fnBody st_wrong_count) (C8.fnScope st_wrong_count) .none kV_wrong_count dc_wrong_count pm_wrong_count an_wrong_count cd_wrong_count ct_wrong_count), sl_wrong_count⟩)
    (c_wrong_count : PySem.W.codeIn K cd_wrong_count "_wrong_count" = true)
    (k_wrong_count : PySem.W.keepIn K (.ref f_wrong_count) = true)
    (a_wrong_manner : PySem.W.nsIn K mainGlobals "_wrong_manner" = some (some (.ref f_wrong_manner)))
    (l_wrong_manner : K.lookup f_wrong_manner = some ⟨oc_wrong_manner, od_wrong_manner, .func (PySem.W.fnOf "_wrong_manner" "_wrong_manner" (C8.fnArgs st_wrong_manner) (C8.fnBody st_wrong_manner) (C8.fnScope st_wrong_manner) .none kV_wrong_manner dc_wrong_manner pm_wrong_manner an_wrong_manner cd_wrong_manner ct_wrong_manner), sl_wrong_manner⟩)
    (c_wrong_manner : PySem.W.codeIn K cd_wrong_manner "_wrong_manner" = true)
    (k_wrong_manner : PySem.W.keepIn K (.ref f_wrong_manner) = true)
    (a_least_last : PySem.W.nsIn K mainGlobals "_least_last" = some (some (.ref f_least_last)))
    (l_least_last : K.lookup f_least_last = some ⟨oc_least_last, od_least_last, .func (PySem.W.fnOf "_least_last" "_least_last" (C8.fnArgs st_least_last) (C8.fnBody st_least_last) (C8.fnScope st_least_last) .none kV_least_last dc_least_last pm_least_last an_least_last cd_least_last ct_least_last), sl_least_last⟩)
    (c_least_last : PySem.W.codeIn K cd_least_last "_least_last" = true)
    (k_least_last : PySem.W.keepIn K (.ref f_least_last) = true)
    (a_law_draw : PySem.W.nsIn K mainGlobals "_law_draw" = some (some (.ref f_law_draw)))
    (l_law_draw : K.lookup f_law_draw = some ⟨oc_law_draw, od_law_draw, .func (PySem.W.fnOf "_law_draw" "_law_draw" (C8.fnArgs st_law_draw) (C8.fnBody st_law_draw) (C8.fnScope st_law_draw) .none kV_law_draw dc_law_draw pm_law_draw an_law_draw cd_law_draw ct_law_draw), sl_law_draw⟩)
    (c_law_draw : PySem.W.codeIn K cd_law_draw "_law_draw" = true)
    (k_law_draw : PySem.W.keepIn K (.ref f_law_draw) = true)
    (a_law_pick : PySem.W.nsIn K mainGlobals "_law_pick" = some (some (.ref f_law_pick)))
    (l_law_pick : K.lookup f_law_pick = some ⟨oc_law_pick, od_law_pick, .func (PySem.W.fnOf "_law_pick" "_law_pick" (C8.fnArgs st_law_pick) (C8.fnBody st_law_pick) (C8.fnScope st_law_pick) .none kV_law_pick dc_law_pick pm_law_pick an_law_pick cd_law_pick ct_law_pick), sl_law_pick⟩)
    (c_law_pick : PySem.W.codeIn K cd_law_pick "_law_pick" = true)
    (k_law_pick : PySem.W.keepIn K (.ref f_law_pick) = true)
    (a_law_deal : PySem.W.nsIn K mainGlobals "_law_deal" = some (some (.ref f_law_deal)))
    (l_law_deal : K.lookup f_law_deal = some ⟨oc_law_deal, od_law_deal, .func (PySem.W.fnOf "_law_deal" "_law_deal" (C8.fnArgs st_law_deal) (C8.fnBody st_law_deal) (C8.fnScope st_law_deal) .none kV_law_deal dc_law_deal pm_law_deal an_law_deal cd_law_deal ct_law_deal), sl_law_deal⟩)
    (c_law_deal : PySem.W.codeIn K cd_law_deal "_law_deal" = true)
    (k_law_deal : PySem.W.keepIn K (.ref f_law_deal) = true)
    (a_law_drawn_rule : PySem.W.nsIn K mainGlobals "_law_drawn_rule" = some (some (.ref f_law_drawn_rule)))
    (l_law_drawn_rule : K.lookup f_law_drawn_rule = some ⟨oc_law_drawn_rule, od_law_drawn_rule, .func (PySem.W.fnOf "_law_drawn_rule" "_law_drawn_rule" (C8.fnArgs st_law_drawn_rule) (C8.fnBody st_law_drawn_rule) (C8.fnScope st_law_drawn_rule) .none kV_law_drawn_rule dc_law_drawn_rule pm_law_drawn_rule an_law_drawn_rule cd_law_drawn_rule ct_law_drawn_rule), sl_law_drawn_rule⟩)
    (c_law_drawn_rule : PySem.W.codeIn K cd_law_drawn_rule "_law_drawn_rule" = true)
    (k_law_drawn_rule : PySem.W.keepIn K (.ref f_law_drawn_rule) = true)
    (a_side : PySem.W.nsIn K mainGlobals "_side" = some (some (.ref f_side)))
    (l_side : K.lookup f_side = some ⟨oc_side, od_side, .func (PySem.W.fnOf "_side" "_side" (C8.fnArgs st_side) (C8.fnBody st_side) (C8.fnScope st_side) .none kV_side dc_side pm_side an_side cd_side ct_side), sl_side⟩)
    (c_side : PySem.W.codeIn K cd_side "_side" = true)
    (k_side : PySem.W.keepIn K (.ref f_side) = true)
    (a_law_value : PySem.W.nsIn K mainGlobals "_law_value" = some (some (.ref f_law_value)))
    (l_law_value : K.lookup f_law_value = some ⟨oc_law_value, od_law_value, .func (PySem.W.fnOf "_law_value" "_law_value" (C8.fnArgs st_law_value) (C8.fnBody st_law_value) (C8.fnScope st_law_value) .none kV_law_value dc_law_value pm_law_value an_law_value cd_law_value ct_law_value), sl_law_value⟩)
    (c_law_value : PySem.W.codeIn K cd_law_value "_law_value" = true)
    (k_law_value : PySem.W.keepIn K (.ref f_law_value) = true)
    (a_law_made : PySem.W.nsIn K mainGlobals "_law_made" = some (some (.ref f_law_made)))
    (l_law_made : K.lookup f_law_made = some ⟨oc_law_made, od_law_made, .func (PySem.W.fnOf "_law_made" "_law_made" (C8.fnArgs st_law_made) (C8.fnBody st_law_made) (C8.fnScope st_law_made) .none kV_law_made dc_law_made pm_law_made an_law_made cd_law_made ct_law_made), sl_law_made⟩)
    (c_law_made : PySem.W.codeIn K cd_law_made "_law_made" = true)
    (k_law_made : PySem.W.keepIn K (.ref f_law_made) = true)
    (a_law_told : PySem.W.nsIn K mainGlobals "_law_told" = some (some (.ref f_law_told)))
    (l_law_told : K.lookup f_law_told = some ⟨oc_law_told, od_law_told, .func (PySem.W.fnOf "_law_told" "_law_told" (C8.fnArgs st_law_told) (C8.fnBody st_law_told) (C8.fnScope st_law_told) .none kV_law_told dc_law_told pm_law_told an_law_told cd_law_told ct_law_told), sl_law_told⟩)
    (c_law_told : PySem.W.codeIn K cd_law_told "_law_told" = true)
    (k_law_told : PySem.W.keepIn K (.ref f_law_told) = true)
    (a_law_from : PySem.W.nsIn K mainGlobals "_law_from" = some (some (.ref f_law_from)))
    (l_law_from : K.lookup f_law_from = some ⟨oc_law_from, od_law_from, .func (PySem.W.fnOf "_law_from" "_law_from" (C8.fnArgs st_law_from) (C8.fnBody st_law_from) (C8.fnScope st_law_from) .none kV_law_from dc_law_from pm_law_from an_law_from cd_law_from ct_law_from), sl_law_from⟩)
    (c_law_from : PySem.W.codeIn K cd_law_from "_law_from" = true)
    (k_law_from : PySem.W.keepIn K (.ref f_law_from) = true)
    (a_law_one_of : PySem.W.nsIn K mainGlobals "_law_one_of" = some (some (.ref f_law_one_of)))
    (l_law_one_of : K.lookup f_law_one_of = some ⟨oc_law_one_of, od_law_one_of, .func (PySem.W.fnOf "_law_one_of" "_law_one_of" (C8.fnArgs st_law_one_of) (C8.fnBody st_law_one_of) (C8.fnScope st_law_one_of) .none kV_law_one_of dc_law_one_of pm_law_one_of an_law_one_of cd_law_one_of ct_law_one_of), sl_law_one_of⟩)
    (c_law_one_of : PySem.W.codeIn K cd_law_one_of "_law_one_of" = true)
    (k_law_one_of : PySem.W.keepIn K (.ref f_law_one_of) = true)
    (a_law_wrong : PySem.W.nsIn K mainGlobals "_law_wrong" = some (some (.ref f_law_wrong)))
    (l_law_wrong : K.lookup f_law_wrong = some ⟨oc_law_wrong, od_law_wrong, .func (PySem.W.fnOf "_law_wrong" "_law_wrong" (C8.fnArgs st_law_wrong) (C8.fnBody st_law_wrong) (C8.fnScope st_law_wrong) .none kV_law_wrong dc_law_wrong pm_law_wrong an_law_wrong cd_law_wrong ct_law_wrong), sl_law_wrong⟩)
    (c_law_wrong : PySem.W.codeIn K cd_law_wrong "_law_wrong" = true)
    (k_law_wrong : PySem.W.keepIn K (.ref f_law_wrong) = true)
    (a_law : PySem.W.nsIn K mainGlobals "law" = some (some (.ref f_law)))
    (l_law : K.lookup f_law = some ⟨oc_law, od_law, .func (PySem.W.fnOf "law" "law" (C8.fnArgs st_law) (C8.fnBody st_law) (C8.fnScope st_law) .none kV_law dc_law pm_law an_law cd_law ct_law), sl_law⟩)
    (c_law : PySem.W.codeIn K cd_law "law" = true)
    (k_law : PySem.W.keepIn K (.ref f_law) = true)
    (aC : PySem.W.nsIn K mainGlobals "Rule" = some (some (.ref CR)))
    (pg : PySem.W.plainGet K CR Str.empty = true)
    (hd : PySem.W.hasDictIn K CR = true)
    (po : PySem.W.plainOver K CR = true)
    (sa : PySem.W.findIn K (.ref CR) "__setattr__" = some (some (.builtin "object.__setattr__")))
    (mk : PySem.W.makesIn K CR = true)
    (kc : PySem.W.keepIn K (.ref CR) = true)
    (cA : PySem.W.findIn K (.ref CR) "__class__" = some (some (.builtin "object.__class__")))
    (cG : PySem.W.specialIn K (.builtin "object.__class__") "__get__" = some (some (.builtin "getset_descriptor.__get__")))
    (cT : PySem.W.takesIn K (.builtin "object.__class__") = some true)
    (cO : PySem.W.mroIn K CR (.type "object") = some true)
    (n_need : PySem.W.findIn K (.ref CR) "need" = some none)
    (n_of : PySem.W.findIn K (.ref CR) "of" = some none)
    (n_base : PySem.W.findIn K (.ref CR) "base" = some none)
    (n_more : PySem.W.findIn K (.ref CR) "more" = some none)
    (n_most : PySem.W.findIn K (.ref CR) "most" = some none)
    (n_calm : PySem.W.findIn K (.ref CR) "calm" = some none)
    (n_back : PySem.W.findIn K (.ref CR) "back" = some none)
    (n_top : PySem.W.findIn K (.ref CR) "top" = some none)
    (n_under : PySem.W.findIn K (.ref CR) "under" = some none)
    (n_up : PySem.W.findIn K (.ref CR) "up" = some none)
    (n_hears : PySem.W.findIn K (.ref CR) "hears" = some none)
    (n_cap : PySem.W.findIn K (.ref CR) "cap" = some none)
    (gB : PySem.W.nsIn K mainGlobals "_BACKS" = some (some (.ref aB)))
    (lB : K.lookup aB = some ⟨.type "tuple", odB, .seq #[.str "half" tB1, .str "open" tB2, .str "trial" tB3] nB, slB⟩)
    (gH : PySem.W.nsIn K mainGlobals "_HEARINGS" = some (some (.ref aH)))
    (lH : K.lookup aH = some ⟨.type "tuple", odH, .seq #[.str "fault" tH1, .str "no" tH2, .str "out" tH3] nH, slH⟩)
    (g_CS : PySem.W.nsIn K mainGlobals "SitError" = some (some (.ref CS)))
    (is_CS : PySem.W.isClsIn K CS = true)
    (ty_CS : PySem.W.typeIn K (.ref CS) = some (.type "type"))
    (sub_CS_CS : PySem.W.subIn K (.ref CS) (.ref CS) = some true)
    (g_CI : PySem.W.nsIn K mainGlobals "InvalidRule" = some (some (.ref CI)))
    (lc_CI : K.lookup CI = some (excClassObj nm_CI q_CI CI N_CI bs_CI [.ref CS, .type "ValueError", .type "Exception", .type "BaseException", .type "object"] true sn_CI sub_CI ab_CI col_CI dd_CI m0_CI m1_CI m2_CI m3_CI m5_CI "ValueError.__new__"))
    (is_CI : PySem.W.isClsIn K CI = true)
    (sub_CI_CI : PySem.W.subIn K (.ref CI) (.ref CI) = some true)
    (sa_CI : PySem.W.findIn K (.ref CI) "__setattr__" = some (some (.builtin "object.__setattr__")))
    (ex_CI : PySem.W.subIn K (.ref CI) (.type "BaseException") = some true)
    (ty_CI : PySem.W.typeIn K (.ref CI) = some (.type "type"))
    (kc_CI : PySem.W.keepIn K (.ref CI) = true)
    (ga_CI : PySem.W.findIn K (.ref CI) "__getattribute__" = some (some (.builtin "BaseException.__getattribute__")))
    (gg_CI : PySem.W.findIn K (.ref CI) "__getattr__" = some none)
    (hd_CI : PySem.W.hasDictIn K CI = true)
    (cA_CI : PySem.W.findIn K (.ref CI) "__class__" = some (some (.builtin "object.__class__")))
    (cO_CI : PySem.W.mroIn K CI (.type "object") = some true)
    (no_CI : PySem.W.findIn K (.ref CI) "word" = some none)
    (g_CD : PySem.W.nsIn K mainGlobals "InvalidRoad" = some (some (.ref CD)))
    (is_CD : PySem.W.isClsIn K CD = true)
    (ty_CD : PySem.W.typeIn K (.ref CD) = some (.type "type"))
    (sub_CD_CD : PySem.W.subIn K (.ref CD) (.ref CD) = some true)
    (sub_CI_CS : PySem.W.subIn K (.ref CI) (.ref CS) = some true)
    (sub_CI_CD : PySem.W.subIn K (.ref CI) (.ref CD) = some false)
    (a_Rule___init__ : PySem.W.findIn K (.ref CR) "__init__" = some (some (.ref f_Rule___init__)))
    (i_Rule___init__ : PySem.W.isFn K (.ref f_Rule___init__) = true)
    (l_Rule___init__ : K.lookup f_Rule___init__ = some ⟨oc_Rule___init__, od_Rule___init__, .func (PySem.W.fnOf "__init__" "Rule.__init__" (C8.fnArgs st_Rule___init__) (C8.fnBody st_Rule___init__) (C8.fnScope st_Rule___init__) .none kV_Rule___init__ dc_Rule___init__ pm_Rule___init__ an_Rule___init__ cd_Rule___init__ ct_Rule___init__), sl_Rule___init__⟩)
    (c_Rule___init__ : PySem.W.codeIn K cd_Rule___init__ "Rule.__init__" = true)
    (k_Rule___init__ : PySem.W.keepIn K (.ref f_Rule___init__) = true)
    (a_Rule___str__ : PySem.W.findIn K (.ref CR) "__str__" = some (some (.ref f_Rule___str__)))
    (i_Rule___str__ : PySem.W.isFn K (.ref f_Rule___str__) = true)
    (l_Rule___str__ : K.lookup f_Rule___str__ = some ⟨oc_Rule___str__, od_Rule___str__, .func (PySem.W.fnOf "__str__" "Rule.__str__" (C8.fnArgs st_Rule___str__) (C8.fnBody st_Rule___str__) (C8.fnScope st_Rule___str__) .none kV_Rule___str__ dc_Rule___str__ pm_Rule___str__ an_Rule___str__ cd_Rule___str__ ct_Rule___str__), sl_Rule___str__⟩)
    (c_Rule___str__ : PySem.W.codeIn K cd_Rule___str__ "Rule.__str__" = true)
    (k_Rule___str__ : PySem.W.keepIn K (.ref f_Rule___str__) = true)
    (a_Rule___eq__ : PySem.W.findIn K (.ref CR) "__eq__" = some (some (.ref f_Rule___eq__)))
    (i_Rule___eq__ : PySem.W.isFn K (.ref f_Rule___eq__) = true)
    (l_Rule___eq__ : K.lookup f_Rule___eq__ = some ⟨oc_Rule___eq__, od_Rule___eq__, .func (PySem.W.fnOf "__eq__" "Rule.__eq__" (C8.fnArgs st_Rule___eq__) (C8.fnBody st_Rule___eq__) (C8.fnScope st_Rule___eq__) .none kV_Rule___eq__ dc_Rule___eq__ pm_Rule___eq__ an_Rule___eq__ cd_Rule___eq__ ct_Rule___eq__), sl_Rule___eq__⟩)
    (c_Rule___eq__ : PySem.W.codeIn K cd_Rule___eq__ "Rule.__eq__" = true)
    (k_Rule___eq__ : PySem.W.keepIn K (.ref f_Rule___eq__) = true)
    (a_InvalidRule___init__ : PySem.W.findIn K (.ref CI) "__init__" = some (some (.ref f_InvalidRule___init__)))
    (i_InvalidRule___init__ : PySem.W.isFn K (.ref f_InvalidRule___init__) = true)
    (l_InvalidRule___init__ : K.lookup f_InvalidRule___init__ = some ⟨oc_InvalidRule___init__, od_InvalidRule___init__, .func (PySem.W.fnOf "__init__" "InvalidRule.__init__" (C8.fnArgs st_InvalidRule___init__) (C8.fnBody st_InvalidRule___init__) (C8.fnScope st_InvalidRule___init__) .none kV_InvalidRule___init__ dc_InvalidRule___init__ pm_InvalidRule___init__ an_InvalidRule___init__ cd_InvalidRule___init__ ct_InvalidRule___init__), sl_InvalidRule___init__⟩)
    (c_InvalidRule___init__ : PySem.W.codeIn K cd_InvalidRule___init__ "InvalidRule.__init__" = true)
    (k_InvalidRule___init__ : PySem.W.keepIn K (.ref f_InvalidRule___init__) = true)
    (t_InvalidRule___init__ : PySem.W.typeIn K (.ref f_InvalidRule___init__) = some (.type "function"))
    (z_isinstance : PySem.W.nsIn K mainGlobals "isinstance" = some none)
    (z_int : PySem.W.nsIn K mainGlobals "int" = some none)
    (z_bool : PySem.W.nsIn K mainGlobals "bool" = some none)
    (z_max : PySem.W.nsIn K mainGlobals "max" = some none)
    (z_min : PySem.W.nsIn K mainGlobals "min" = some none)
    (z_len : PySem.W.nsIn K mainGlobals "len" = some none)
    (z_abs : PySem.W.nsIn K mainGlobals "abs" = some none)
    (z_range : PySem.W.nsIn K mainGlobals "range" = some none)
    (z_list : PySem.W.nsIn K mainGlobals "list" = some none)
    (z_str : PySem.W.nsIn K mainGlobals "str" = some none)
    (z_repr : PySem.W.nsIn K mainGlobals "repr" = some none)
    (z_sorted : PySem.W.nsIn K mainGlobals "sorted" = some none)
    (z_dict : PySem.W.nsIn K mainGlobals "dict" = some none)
    (z_tuple : PySem.W.nsIn K mainGlobals "tuple" = some none)
    (z_zip : PySem.W.nsIn K mainGlobals "zip" = some none)
    (z_enumerate : PySem.W.nsIn K mainGlobals "enumerate" = some none)
    : ∃ (nm qn : Str) (prms : Arguments) (code : List Stmt) (sc : Scope) (dV kV doc pm cdv ct oc : Value) (an od : Option Addr) (osl : Array (Option Value)) (N : List Str), K.lookup fa = some ⟨oc, od, .func (PySem.W.fnOf nm qn prms code sc dV kV doc pm an cdv ct), osl⟩ ∧ PySem.W.codeIn K cdv qn = true ∧ FnScope N ["_law_script"] sc ∧ (∀ (s : Shared) (u : Value), BindsTo s (PySem.W.fnOf nm qn prms code sc dV kV doc pm an cdv ct) ⟨[u], []⟩ [("_law_script", u)]) ∧ ∀ base : Heap, K.In base → base.Ns mainGlobals mg → ∀ (a : Addr) (ns : List Int), ns.length ≤ 63 → BodyAt l.prog w K mg base 8 fa a qn code sc cdv N ns := by
  have e := hfa.symm.trans (PySem.W.mg_of X G a_law)
  cases e
  have T : Tb K mg CR aB aH := ⟨PySem.W.mg_none_of X G z_isinstance, PySem.W.mg_none_of X G z_int, PySem.W.mg_none_of X G z_bool, PySem.W.mg_none_of X G z_max, PySem.W.mg_none_of X G z_min, PySem.W.mg_none_of X G z_len, PySem.W.mg_none_of X G z_abs, PySem.W.mg_none_of X G z_range, PySem.W.mg_none_of X G z_list, PySem.W.mg_none_of X G z_str, PySem.W.mg_none_of X G z_repr, PySem.W.mg_none_of X G z_sorted, PySem.W.mg_none_of X G z_dict, PySem.W.mg_none_of X G z_tuple, PySem.W.mg_none_of X G z_zip, PySem.W.mg_none_of X G z_enumerate, ⟨_, PySem.W.mg_of X G gB, rfl⟩, ⟨_, PySem.W.mg_of X G gH, rfl⟩, fun H => .inr ⟨_, _, _, lB, rfl, rfl, (by show 3 ≤ sizeLine; decide), .cons ⟨_, rfl⟩ (.cons ⟨_, rfl⟩ (.cons ⟨_, rfl⟩ .nil))⟩, fun H => .inr ⟨_, _, _, lH, rfl, rfl, (by show 3 ≤ sizeLine; decide), .cons ⟨_, rfl⟩ (.cons ⟨_, rfl⟩ (.cons ⟨_, rfl⟩ .nil))⟩, ⟨pg, hd, po, sa⟩, n_need, n_of, n_base, n_more, n_most, n_calm, n_back, n_top, n_under, n_up, n_hears, n_cap, ⟨_, PySem.W.mg_of X G aC, rfl⟩, cA, cG, cT, cO⟩
  have D_is_integer : C8.Def K mg "is_integer" st_is_integer f_is_integer _ := ⟨⟨_, _, _, _, _, _, _, _, _, _, rfl, l_is_integer, c_is_integer⟩, PySem.W.mg_of X G a_is_integer, k_is_integer⟩
  have b_is_integer : Binds K _ ["value"] [] := C8.Fun.binds D_is_integer.fn rfl fun _ _ _ _ _ _ us hl => match us, hl with | [_], _ => rfl
  have D_is_from : C8.Def K mg "is_from" st_is_from f_is_from _ := ⟨⟨_, _, _, _, _, _, _, _, _, _, rfl, l_is_from, c_is_from⟩, PySem.W.mg_of X G a_is_from, k_is_from⟩
  have b_is_from : Binds K _ ["value", "least"] [] := C8.Fun.binds D_is_from.fn rfl fun _ _ _ _ _ _ us hl => match us, hl with | [_, _], _ => rfl
  have D_wrong_count : C8.Def K mg "_wrong_count" st_wrong_count f_wrong_count _ := ⟨⟨_, _, _, _, _, _, _, _, _, _, rfl, l_wrong_count, c_wrong_count⟩, PySem.W.mg_of X G a_wrong_count, k_wrong_count⟩
  have b_wrong_count : Binds K _ ["need", "of", "base", "more", "most", "calm"] [] := C8.Fun.binds D_wrong_count.fn rfl fun _ _ _ _ _ _ us hl => match us, hl with | [_, _, _, _, _, _], _ => rfl
  have D_wrong_manner : C8.Def K mg "_wrong_manner" st_wrong_manner f_wrong_manner _ := ⟨⟨_, _, _, _, _, _, _, _, _, _, rfl, l_wrong_manner, c_wrong_manner⟩, PySem.W.mg_of X G a_wrong_manner, k_wrong_manner⟩
  have b_wrong_manner : Binds K _ ["back", "top", "under", "up", "hears"] [] := C8.Fun.binds D_wrong_manner.fn rfl fun _ _ _ _ _ _ us hl => match us, hl with | [_, _, _, _, _], _ => rfl
  have D_least_last : C8.Def K mg "_least_last" st_least_last f_least_last _ := ⟨⟨_, _, _, _, _, _, _, _, _, _, rfl, l_least_last, c_least_last⟩, PySem.W.mg_of X G a_least_last, k_least_last⟩
  have b_least_last : Binds K _ ["base", "more", "most"] [] := C8.Fun.binds D_least_last.fn rfl fun _ _ _ _ _ _ us hl => match us, hl with | [_, _, _], _ => rfl
  have D_law_draw : C8.Def K mg "_law_draw" st_law_draw f_law_draw _ := ⟨⟨_, _, _, _, _, _, _, _, _, _, rfl, l_law_draw, c_law_draw⟩, PySem.W.mg_of X G a_law_draw, k_law_draw⟩
  have b_law_draw : Binds K _ ["_law_deal_here", "_law_many"] [] := C8.Fun.binds D_law_draw.fn rfl fun _ _ _ _ _ _ us hl => match us, hl with | [_, _], _ => rfl
  have D_law_pick : C8.Def K mg "_law_pick" st_law_pick f_law_pick _ := ⟨⟨_, _, _, _, _, _, _, _, _, _, rfl, l_law_pick, c_law_pick⟩, PySem.W.mg_of X G a_law_pick, k_law_pick⟩
  have b_law_pick : Binds K _ ["_law_deal_here", "_law_some"] [] := C8.Fun.binds D_law_pick.fn rfl fun _ _ _ _ _ _ us hl => match us, hl with | [_, _], _ => rfl
  have D_law_deal : C8.Def K mg "_law_deal" st_law_deal f_law_deal _ := ⟨⟨_, _, _, _, _, _, _, _, _, _, rfl, l_law_deal, c_law_deal⟩, PySem.W.mg_of X G a_law_deal, k_law_deal⟩
  have b_law_deal : Binds K _ ["_law_script", "_law_base"] [] := C8.Fun.binds D_law_deal.fn rfl fun _ _ _ _ _ _ us hl => match us, hl with | [_, _], _ => rfl
  have D_law_drawn_rule : C8.Def K mg "_law_drawn_rule" st_law_drawn_rule f_law_drawn_rule _ := ⟨⟨_, _, _, _, _, _, _, _, _, _, rfl, l_law_drawn_rule, c_law_drawn_rule⟩, PySem.W.mg_of X G a_law_drawn_rule, k_law_drawn_rule⟩
  have b_law_drawn_rule : Binds K _ ["_law_deal_here"] [] := C8.Fun.binds D_law_drawn_rule.fn rfl fun _ _ _ _ _ _ us hl => match us, hl with | [_], _ => rfl
  have D_side : C8.Def K mg "_side" st_side f_side _ := ⟨⟨_, _, _, _, _, _, _, _, _, _, rfl, l_side, c_side⟩, PySem.W.mg_of X G a_side, k_side⟩
  have b_side : Binds K _ ["up"] [] := C8.Fun.binds D_side.fn rfl fun _ _ _ _ _ _ us hl => match us, hl with | [_], _ => rfl
  have D_law_value : C8.Def K mg "_law_value" st_law_value f_law_value _ := ⟨⟨_, _, _, _, _, _, _, _, _, _, rfl, l_law_value, c_law_value⟩, PySem.W.mg_of X G a_law_value, k_law_value⟩
  have b_law_value : Binds K _ ["_law_deal_here", "_law_deep"] [] := C8.Fun.binds D_law_value.fn rfl fun _ _ _ _ _ _ us hl => match us, hl with | [_, _], _ => rfl
  have D_law_made : C8.Def K mg "_law_made" st_law_made f_law_made _ := ⟨⟨_, _, _, _, _, _, _, _, _, _, rfl, l_law_made, c_law_made⟩, PySem.W.mg_of X G a_law_made, k_law_made⟩
  have b_law_made : Binds K _ ["_law_one"] [] := C8.Fun.binds D_law_made.fn rfl fun _ _ _ _ _ _ us hl => match us, hl with | [_], _ => rfl
  have D_law_told : C8.Def K mg "_law_told" st_law_told f_law_told _ := ⟨⟨_, _, _, _, _, _, _, _, _, _, rfl, l_law_told, c_law_told⟩, PySem.W.mg_of X G a_law_told, k_law_told⟩
  have b_law_told : Binds K _ ["_law_one"] [] := C8.Fun.binds D_law_told.fn rfl fun _ _ _ _ _ _ us hl => match us, hl with | [_], _ => rfl
  have D_law_from : C8.Def K mg "_law_from" st_law_from f_law_from _ := ⟨⟨_, _, _, _, _, _, _, _, _, _, rfl, l_law_from, c_law_from⟩, PySem.W.mg_of X G a_law_from, k_law_from⟩
  have b_law_from : Binds K _ ["_law_value_here", "_law_least"] [] := C8.Fun.binds D_law_from.fn rfl fun _ _ _ _ _ _ us hl => match us, hl with | [_, _], _ => rfl
  have D_law_one_of : C8.Def K mg "_law_one_of" st_law_one_of f_law_one_of _ := ⟨⟨_, _, _, _, _, _, _, _, _, _, rfl, l_law_one_of, c_law_one_of⟩, PySem.W.mg_of X G a_law_one_of, k_law_one_of⟩
  have b_law_one_of : Binds K _ ["_law_value_here", "_law_some"] [] := C8.Fun.binds D_law_one_of.fn rfl fun _ _ _ _ _ _ us hl => match us, hl with | [_, _], _ => rfl
  have D_law_wrong : C8.Def K mg "_law_wrong" st_law_wrong f_law_wrong _ := ⟨⟨_, _, _, _, _, _, _, _, _, _, rfl, l_law_wrong, c_law_wrong⟩, PySem.W.mg_of X G a_law_wrong, k_law_wrong⟩
  have b_law_wrong : Binds K _ ["_law_one"] [] := C8.Fun.binds D_law_wrong.fn rfl fun _ _ _ _ _ _ us hl => match us, hl with | [_], _ => rfl
  have D_law : C8.Def K mg "law" st_law fa _ := ⟨⟨_, _, _, _, _, _, _, _, _, _, rfl, l_law, c_law⟩, PySem.W.mg_of X G a_law, k_law⟩
  have D_Rule___init__ : C8.Fun K "__init__" "Rule.__init__" st_Rule___init__ f_Rule___init__ _ := ⟨_, _, _, _, _, _, _, _, _, _, rfl, l_Rule___init__, c_Rule___init__⟩
  have b_Rule___init__ : Binds K _ ["self", "need", "of", "base", "more", "most", "calm", "back", "top", "under", "up", "hears"] [] := C8.Fun.binds D_Rule___init__ rfl fun _ _ _ _ _ _ us hl => match us, hl with | [_, _, _, _, _, _, _, _, _, _, _, _], _ => rfl
  have M_Rule___init__ : Meth K CR "__init__" f_Rule___init__ := ⟨a_Rule___init__, i_Rule___init__, k_Rule___init__⟩
  have D_Rule___str__ : C8.Fun K "__str__" "Rule.__str__" st_Rule___str__ f_Rule___str__ _ := ⟨_, _, _, _, _, _, _, _, _, _, rfl, l_Rule___str__, c_Rule___str__⟩
  have b_Rule___str__ : Binds K _ ["self"] [] := C8.Fun.binds D_Rule___str__ rfl fun _ _ _ _ _ _ us hl => match us, hl with | [_], _ => rfl
  have M_Rule___str__ : Meth K CR "__str__" f_Rule___str__ := ⟨a_Rule___str__, i_Rule___str__, k_Rule___str__⟩
  have D_Rule___eq__ : C8.Fun K "__eq__" "Rule.__eq__" st_Rule___eq__ f_Rule___eq__ _ := ⟨_, _, _, _, _, _, _, _, _, _, rfl, l_Rule___eq__, c_Rule___eq__⟩
  have b_Rule___eq__ : Binds K _ ["self", "other"] [] := C8.Fun.binds D_Rule___eq__ rfl fun _ _ _ _ _ _ us hl => match us, hl with | [_, _], _ => rfl
  have M_Rule___eq__ : Meth K CR "__eq__" f_Rule___eq__ := ⟨a_Rule___eq__, i_Rule___eq__, k_Rule___eq__⟩
  have D_InvalidRule___init__ : C8.Fun K "__init__" "InvalidRule.__init__" st_InvalidRule___init__ f_InvalidRule___init__ _ := ⟨_, _, _, _, _, _, _, _, _, _, rfl, l_InvalidRule___init__, c_InvalidRule___init__⟩
  have b_InvalidRule___init__ : Binds K _ ["self", "word"] [] := C8.Fun.binds D_InvalidRule___init__ rfl fun _ _ _ _ _ _ us hl => match us, hl with | [_, _], _ => rfl
  have M_InvalidRule___init__ : Meth K CI "__init__" f_InvalidRule___init__ := ⟨a_InvalidRule___init__, i_InvalidRule___init__, k_InvalidRule___init__⟩
  have oex_CI : OexC K CI := ⟨⟨nm_CI, q_CI, N_CI, bs_CI, _, sn_CI, sub_CI, ab_CI, col_CI, dd_CI, m0_CI, m1_CI, m2_CI, m3_CI, m5_CI, lc_CI, by rfl⟩, sa_CI, ex_CI, ty_CI, kc_CI⟩
  have exc_CI : ExcC K CI := ⟨ga_CI, gg_CI, ex_CI, hd_CI, cA_CI, cG, cT, cO_CI⟩
  have xfc_CI : XfC K CI := ⟨ga_CI, gg_CI, ex_CI, hd_CI⟩
  have em_CI := exm_self ex_CI is_CI ty_CI sub_CI_CI
  have MK : Mk K CR f_Rule___init__ := ⟨mk, a_Rule___init__, i_Rule___init__, kc⟩
  have mC := PySem.W.mg_of X G aC
  refine ⟨"law", "law", C8.fnArgs st_law, C8.fnBody st_law, C8.fnScope st_law, .none, kV_law, dc_law, pm_law, cd_law, ct_law, oc_law, an_law, od_law, sl_law, _, l_law, c_law, sc_law, fun s v => .of_eq rfl, fun base _ _ a ns hn => ?_⟩
  have c_is_integer := ok_integerD (P := l.prog) (w := w) (base := base) D_is_integer b_is_integer T
  have c_is_from := ok_fromD D_is_from b_is_from c_is_integer
  have c_wrong_count := ok_wcD D_wrong_count b_wrong_count c_is_from
  have c_wrong_manner := ok_wmD D_wrong_manner b_wrong_manner T c_is_from
  have c_least_last := ok_ll (P := l.prog) (w := w) (base := base) (mg := mg) D_least_last b_least_last
  have err_InvalidRule : ErrM l.prog w K mg base "InvalidRule" CI "word" := ⟨_, _, _, oex_CI, a_InvalidRule___init__, t_InvalidRule___init__, ok_errRule D_InvalidRule___init__ oex_CI no_CI, b_InvalidRule___init__, PySem.W.mg_of X G g_CI⟩
  have F_init := ok_initX D_Rule___init__ T err_InvalidRule c_wrong_count c_wrong_manner c_least_last
  have F_made := ok_madeX D_law_made MK mC b_Rule___init__ F_init
  have Z : Er K mg CI CS CD := ⟨exc_CI, xfc_CI, no_CI, PySem.W.mg_of X G g_CI, ⟨_, PySem.W.mg_of X G g_CS, rfl⟩, ⟨_, PySem.W.mg_of X G g_CD, rfl⟩, em_CI, kit_cls is_CS ty_CS sub_CI_CS sub_CI_CI, kit_cls is_CD ty_CD sub_CI_CD sub_CI_CI⟩
  have c_told := ok_told D_law_told b_law_told T Z D_law_made.mgf D_law_made.kp b_law_made F_made
  have c_draw := ok_draw (P := l.prog) (w := w) (base := base) D_law_draw b_law_draw T
  have c_pick := ok_pick D_law_pick b_law_pick T c_draw
  have c_deal := ok_deal (P := l.prog) (w := w) (base := base) D_law_deal b_law_deal T
  have c_drawn := ok_drawn D_law_drawn_rule b_law_drawn_rule c_draw c_pick
  have c_value := ok_value D_law_value b_law_value T c_draw c_pick 3
  have c_lfrom := ok_lfrom (P := l.prog) (w := w) (base := base) D_law_from b_law_from T
  have c_oneOf := ok_oneOf (P := l.prog) (w := w) (base := base) D_law_one_of b_law_one_of T
  have c_lwrong := ok_lwrong D_law_wrong b_law_wrong T c_lfrom c_oneOf
  exact body_law T hn c_deal c_draw c_pick c_drawn c_value c_told c_lwrong
end Sit
open PySem PySem.W PyProof.Rows
set_option maxRecDepth 100000 in
set_option maxHeartbeats 0 in
theorem PySem.Challenge.cw_sitout_k03_rules_refused_holds : PySem.Challenge.rw_sitout_k03_rules_refused.Holds := by
  w_on; o_law; k_head; (case hw => w_witness2)
  k_fill
  refine Sit.top_walk (l := PySem.Challenge.rw_sitout_k03_rules_refused) (n := 63) (k := 8) (x := "_law_script") rfl (by decide) rfl ⟨rfl, by decide, by decide⟩ (fun w h Y => PySem.W.kIn_of Y) ?F
  case F =>
    intro w mg fa h KX G hmg
    refine' Sit.all_mk KX G hmg ?a_is_integer ?l_is_integer ?c_is_integer ?k_is_integer ?a_is_from ?l_is_from ?c_is_from ?k_is_from ?a_wrong_count ?l_wrong_count ?c_wrong_count ?k_wrong_count ?a_wrong_manner ?l_wrong_manner ?c_wrong_manner ?k_wrong_manner ?a_least_last ?l_least_last ?c_least_last ?k_least_last ?a_law_draw ?l_law_draw ?c_law_draw ?k_law_draw ?a_law_pick ?l_law_pick ?c_law_pick ?k_law_pick ?a_law_deal ?l_law_deal ?c_law_deal ?k_law_deal ?a_law_drawn_rule ?l_law_drawn_rule ?c_law_drawn_rule ?k_law_drawn_rule ?a_side ?l_side ?c_side ?k_side ?a_law_value ?l_law_value ?c_law_value ?k_law_value ?a_law_made ?l_law_made ?c_law_made ?k_law_made ?a_law_told ?l_law_told ?c_law_told ?k_law_told ?a_law_from ?l_law_from ?c_law_from ?k_law_from ?a_law_one_of ?l_law_one_of ?c_law_one_of ?k_law_one_of ?a_law_wrong ?l_law_wrong ?c_law_wrong ?k_law_wrong ?a_law ?l_law ?c_law ?k_law ?aC ?pg ?hd ?po ?sa ?mk ?kc ?cA ?cG ?cT ?cO ?n_need ?n_of ?n_base ?n_more ?n_most ?n_calm ?n_back ?n_top ?n_under ?n_up ?n_hears ?n_cap ?gB ?lB ?gH ?lH ?g_CS ?is_CS ?ty_CS ?sub_CS_CS ?g_CI ?lc_CI ?is_CI ?sub_CI_CI ?sa_CI ?ex_CI ?ty_CI ?kc_CI ?ga_CI ?gg_CI ?hd_CI ?cA_CI ?cO_CI ?no_CI ?g_CD ?is_CD ?ty_CD ?sub_CD_CD ?sub_CI_CS ?sub_CI_CD ?a_Rule___init__ ?i_Rule___init__ ?l_Rule___init__ ?c_Rule___init__ ?k_Rule___init__ ?a_Rule___str__ ?i_Rule___str__ ?l_Rule___str__ ?c_Rule___str__ ?k_Rule___str__ ?a_Rule___eq__ ?i_Rule___eq__ ?l_Rule___eq__ ?c_Rule___eq__ ?k_Rule___eq__ ?a_InvalidRule___init__ ?i_InvalidRule___init__ ?l_InvalidRule___init__ ?c_InvalidRule___init__ ?k_InvalidRule___init__ ?t_InvalidRule___init__ ?z_isinstance ?z_int ?z_bool ?z_max ?z_min ?z_len ?z_abs ?z_range ?z_list ?z_str ?z_repr ?z_sorted ?z_dict ?z_tuple ?z_zip ?z_enumerate
    (case a_is_integer => k_is)
    (case l_is_integer => k_is)
    (case c_is_integer => k_is)
    (case k_is_integer => k_is)
    (case a_is_from => k_is)
    (case l_is_from => k_is)
    (case c_is_from => k_is)
    (case k_is_from => k_is)
    (case a_wrong_count => k_is)
    (case l_wrong_count => k_is)
    (case c_wrong_count => k_is)
    (case k_wrong_count => k_is)
    (case a_wrong_manner => k_is)
    (case l_wrong_manner => k_is)
    (case c_wrong_manner => k_is)
    (case k_wrong_manner => k_is)
    (case a_least_last => k_is)
    (case l_least_last => k_is)
    (case c_least_last => k_is)
    (case k_least_last => k_is)
    (case a_law_draw => k_is)
    (case l_law_draw => k_is)
    (case c_law_draw => k_is)
    (case k_law_draw => k_is)
    (case a_law_pick => k_is)
    (case l_law_pick => k_is)
    (case c_law_pick => k_is)
    (case k_law_pick => k_is)
    (case a_law_deal => k_is)
    (case l_law_deal => k_is)
    (case c_law_deal => k_is)
    (case k_law_deal => k_is)
    (case a_law_drawn_rule => k_is)
    (case l_law_drawn_rule => k_is)
    (case c_law_drawn_rule => k_is)
    (case k_law_drawn_rule => k_is)
    (case a_side => k_is)
    (case l_side => k_is)
    (case c_side => k_is)
    (case k_side => k_is)
    (case a_law_value => k_is)
    (case l_law_value => k_is)
    (case c_law_value => k_is)
    (case k_law_value => k_is)
    (case a_law_made => k_is)
    (case l_law_made => k_is)
    (case c_law_made => k_is)
    (case k_law_made => k_is)
    (case a_law_told => k_is)
    (case l_law_told => k_is)
    (case c_law_told => k_is)
    (case k_law_told => k_is)
    (case a_law_from => k_is)
    (case l_law_from => k_is)
    (case c_law_from => k_is)
    (case k_law_from => k_is)
    (case a_law_one_of => k_is)
    (case l_law_one_of => k_is)
    (case c_law_one_of => k_is)
    (case k_law_one_of => k_is)
    (case a_law_wrong => k_is)
    (case l_law_wrong => k_is)
    (case c_law_wrong => k_is)
    (case k_law_wrong => k_is)
    (case a_law => k_is)
    (case l_law => k_is)
    (case c_law => k_is)
    (case k_law => k_is)
    (case aC => k_is)
    (case pg => k_is)
    (case hd => k_is)
    (case po => k_is)
    (case sa => k_is)
    (case mk => k_is)
    (case kc => k_is)
    (case cA => k_is)
    (case cG => k_is)
    (case cT => k_is)
    (case cO => k_is)
    (case n_need => k_is)
    (case n_of => k_is)
    (case n_base => k_is)
    (case n_more => k_is)
    (case n_most => k_is)
    (case n_calm => k_is)
    (case n_back => k_is)
    (case n_top => k_is)
    (case n_under => k_is)
    (case n_up => k_is)
    (case n_hears => k_is)
    (case n_cap => k_is)
    (case gB => k_is)
    (case lB => k_is)
    (case gH => k_is)
    (case lH => k_is)
    (case g_CS => k_is)
    (case is_CS => k_is)
    (case ty_CS => k_is)
    (case sub_CS_CS => first | rfl | k_is)
    (case g_CI => k_is)
    (case lc_CI => k_is)
    (case is_CI => k_is)
    (case sub_CI_CI => first | rfl | k_is)
    (case sa_CI => k_is)
    (case ex_CI => k_is)
    (case ty_CI => k_is)
    (case kc_CI => k_is)
    (case ga_CI => k_is)
    (case gg_CI => k_is)
    (case hd_CI => k_is)
    (case cA_CI => k_is)
    (case cO_CI => k_is)
    (case no_CI => k_is)
    (case g_CD => k_is)
    (case is_CD => k_is)
    (case ty_CD => k_is)
    (case sub_CD_CD => first | rfl | k_is)
    (case sub_CI_CS => k_is)
    (case sub_CI_CD => k_is)
    (case a_Rule___init__ => k_is)
    (case i_Rule___init__ => k_is)
    (case l_Rule___init__ => k_is)
    (case c_Rule___init__ => k_is)
    (case k_Rule___init__ => k_is)
    (case a_Rule___str__ => k_is)
    (case i_Rule___str__ => k_is)
    (case l_Rule___str__ => k_is)
    (case c_Rule___str__ => k_is)
    (case k_Rule___str__ => k_is)
    (case a_Rule___eq__ => k_is)
    (case i_Rule___eq__ => k_is)
    (case l_Rule___eq__ => k_is)
    (case c_Rule___eq__ => k_is)
    (case k_Rule___eq__ => k_is)
    (case a_InvalidRule___init__ => k_is)
    (case i_InvalidRule___init__ => k_is)
    (case l_InvalidRule___init__ => k_is)
    (case c_InvalidRule___init__ => k_is)
    (case k_InvalidRule___init__ => k_is)
    (case t_InvalidRule___init__ => k_is)
    (case z_isinstance => k_is)
    (case z_int => k_is)
    (case z_bool => k_is)
    (case z_max => k_is)
    (case z_min => k_is)
    (case z_len => k_is)
    (case z_abs => k_is)
    (case z_range => k_is)
    (case z_list => k_is)
    (case z_str => k_is)
    (case z_repr => k_is)
    (case z_sorted => k_is)
    (case z_dict => k_is)
    (case z_tuple => k_is)
    (case z_zip => k_is)
    (case z_enumerate => k_is)
#print axioms PySem.Challenge.cw_sitout_k03_rules_refused_holds
