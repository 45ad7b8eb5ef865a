import PyProof.Rows.All
import Wide.All
import OpenK.AllK
import Wide.FinOn
import HandS.ForMost
import HandS.Codes
import HandS.Evl
import HandS.IsInst
import HandS.Style
import HandS.Conv
import HandS.Iter
import HandS.Zip
import HandS.NoneIn
import HandS.ClsMeth
import KE.GoesZip
import KE.GoesMore
import KE.GoesEnum
import KE.GoesNew
import HandS.OwnEq
import HandS.FStr
import HandS.Sort
import HandS.Flow
import HandS.StrMore
import HandS.Replace
import HandS.Defaults
import HandS.SortInts
import HandS.FStrTup
import HandS.RaiseMore
import HandS.ExcInit
import HandS.TryOnly
import HandS.ExcField
import HandS.ExcIs
import HandS.Deep
import HandS.Star
import HandS.Walk
import HandS.TupMul
import HandS.TupAny
import HandS.Finally
import KE.DataFind
import KE.KExcIs
import PyProof.InstEq
import PyProof.ReprRoads
import PyProof.ReprLen
import KE.KEqSeq
import PySem.Challenge.RW_sitout_k15_steps_of_standings
set_option Elab.async false
set_option maxRecDepth 100000
set_option maxHeartbeats 4000000
set_option linter.all false
namespace Sit
open PySem L2 Evl

/-! ### a source of draws, and what is known besides it -/
abbrev kGreat : Key := .inr "great"
abbrev kNow : Key := .inr "now"
abbrev kMixed : Key := .inr "mixed"
abbrev kTurn : Key := .inr "turn"
structure DkO (l : Addr) (kvs : List (Key × V)) : Prop where
  len : kvs.length ≤ 4
  g : valV kvs kGreat = some (.ref l)
  n : ∃ a : Int, valV kvs kNow = some (.int a)
  m : ∃ a : Int, valV kvs kMixed = some (.int a)
  t : ∃ a : Int, valV kvs kTurn = some (.int a)
def Dk (d l : Addr) (H : Hp) : Prop := ∃ (kvs : List (Key × V)) (ns : List Int), H d = some (.dK kvs) ∧ DkO l kvs ∧ H l = some (.lst (ns.map V.int))
/-- Kn is known and stays; the source at d and its list at l stand beside it -/
structure In (d l : Addr) (Kn H : Hp) : Prop where
  ex : Ex Kn H
  dn : Kn d = none
  ln : Kn l = none
  dk : Dk d l H
theorem putK_len {kvs : List (Key × V)} {k : Key} {x : V} (v : V) (h : valV kvs k = some x) : (putK kvs k v).length = kvs.length := by
  unfold putK
  rw [valV_any, h]
  simp
theorem Dk.ex {d l : Addr} {H H' : Hp} (h : Dk d l H) (e : Ex H H') : Dk d l H' := by
  obtain ⟨kvs, ns, h1, h2, h3⟩ := h
  exact ⟨kvs, ns, e _ _ h1, h2, e _ _ h3⟩
theorem Dk.ne {d l : Addr} {H : Hp} (h : Dk d l H) : d ≠ l := by
  obtain ⟨kvs, ns, h1, h2, h3⟩ := h
  exact ne_of h1 h3 (by intro z; cases z)
theorem In.to {d l : Addr} {Kn H H' : Hp} (h : In d l Kn H) (e : Ex H H') : In d l Kn H' := ⟨h.ex.trans e, h.dn, h.ln, h.dk.ex e⟩
/-- less is known -/
theorem In.less {d l : Addr} {K0 Kn H : Hp} (h : In d l Kn H) (e : Ex K0 Kn) : In d l K0 H := ⟨e.trans h.ex, fresh_back e h.dn, fresh_back e h.ln, h.dk⟩
/-- more is known: an object that stands in the heap, none of the source's two -/
theorem In.more {d l : Addr} {Kn H : Hp} {p : Addr} {o : HO} (h : In d l Kn H) (hp : H p = some o) (hk : Kn p = none) (nd : p ≠ d) (nl : p ≠ l) : In d l (upd Kn p o) H := by
  refine ⟨fun a u e => ?_, by rw [upd_ne nd.symm]; exact h.dn, by rw [upd_ne nl.symm]; exact h.ln, h.dk⟩
  by_cases q : a = p
  · subst q
    rw [upd_same] at e
    rw [hp, ← e]
  · rw [upd_ne q] at e
    exact h.ex a u e
/-- a new object is known -/
theorem In.new {d l : Addr} {Kn H H1 : Hp} {p : Addr} {o : HO} (h : In d l Kn H) (np : H p = none) (e : Ex H H1) (hp : H1 p = some o) : In d l (upd Kn p o) H1 ∧ Ex Kn (upd Kn p o) := by
  obtain ⟨kvs, ns, h1, h2, h3⟩ := id h.dk
  have kp : Kn p = none := fresh_back h.ex np
  exact ⟨(h.to e).more hp kp (fun q => by subst q; rw [h1] at np; cases np) (fun q => by subst q; rw [h3] at np; cases np), Ex.new kp⟩
/-- an expression over what is known -/
theorem In.ev {d l : Addr} {Kn H : Hp} {te : TE} {σ : L2.St} {v : V} {Q : VK} (h : In d l Kn H) (e : Ev te σ Kn v) (k : ∀ H', In d l Kn H' → Q v H') : te σ H Q :=
  e H h.ex Q fun H2 e2 => k H2 (h.to e2)
theorem In.evT {d l : Addr} {Kn H : Hp} {t : TT} {σ : L2.St} {b : Bool} {Q : Bool → Hp → Prop} (h : In d l Kn H) (e : EvT t σ Kn b) (k : ∀ H', In d l Kn H' → Q b H') : t σ H Q :=
  e H h.ex Q fun H2 e2 => k H2 (h.to e2)
theorem In.evL {d l : Addr} {Kn H : Hp} {te : TE} {σ : L2.St} {xs : List V} {Q : VK} (h : In d l Kn H) (e : EvL te σ Kn xs) (k : ∀ p K1 H', Ex Kn K1 → K1 p = some (.lst xs) → In d l K1 H' → Q (.ref p) H') : te σ H Q :=
  e H h.ex Q fun p H2 np e2 hp => k p _ H2 (h.new np e2 hp).2 upd_same (h.new np e2 hp).1
theorem In.evU {d l : Addr} {Kn H : Hp} {te : TE} {σ : L2.St} {xs : List V} {Q : VK} (h : In d l Kn H) (e : EvU te σ Kn xs) (k : ∀ p K1 H', Ex Kn K1 → K1 p = some (.tup xs) → In d l K1 H' → Q (.ref p) H') : te σ H Q :=
  e H h.ex Q fun p H2 np e2 hp => k p _ H2 (h.new np e2 hp).2 upd_same (h.new np e2 hp).1

/-! ### promises -/
/-- a def that changes nothing: a value that R tells of the arguments -/
def spP (R : Hp → List V → V → Prop) : Sp := fun vs H Q _ => ∃ v, R H vs v ∧ ∀ H', Ex H H' → Q v H'
def Mono (R : Hp → List V → V → Prop) : Prop := ∀ H H' vs v, Ex H H' → R H vs v → R H' vs v
theorem spv {R : Hp → List V → V → Prop} {vs : List V} {H : Hp} {v : V} (m : Mono R) (h : R H vs v) : SpV (spP R) vs H v := fun H1 e _ q _ => ⟨v, m _ _ _ _ e h, q⟩
/-- a draw -/
def spDraw : Sp := fun vs H Q _ => ∃ (d l : Addr) (m : Int) (Kn : Hp), vs = [.ref d, .int m] ∧ 0 < m ∧ m < 1073741824 ∧ In d l Kn H ∧ ∀ v H', 0 ≤ v → v < m → In d l Kn H' → Q (.int v) H'
/-- one of some things -/
def spPick (K : PySem.W.Frag) : Sp := fun vs H Q _ => ∃ (d l p : Addr) (xs : List V) (Kn : Hp), vs = [.ref d, .ref p] ∧ SqL K Kn p xs ∧ 0 < xs.length ∧ xs.length < 1000000 ∧ In d l Kn H ∧ ∀ v H', v ∈ xs → In d l Kn H' → Q v H'
/-- the source made of the script -/
def spDeal (K : PySem.W.Frag) : Sp := fun vs H Q _ => ∃ (a : Addr) (b : Int) (ns : List Int), vs = [.ref a, .int b] ∧ SqL K H a (ns.map V.int) ∧ ns.length ≤ 63 ∧ 0 ≤ b ∧ b ≤ 100 ∧
  ∀ d l H', H d = none → H l = none → Ex H H' → Dk d l H' → Q (.ref d) H'

/-! ### expressions -/
section
variable {K : PySem.W.Frag} {σ : L2.St} {H : Hp} {ta tb : TE} {x y z v : V}
theorem rc_int1 {i : Int} : RC (fun xs H Q => (∃ i, xs = [V.int i] ∧ Q (.int i) H) ∨ ∃ k, xs = [V.bl k] ∧ Q (.int (if k then 1 else 0)) H) [.int i] H (.int i) := fun H1 _ _ q => .inl ⟨i, rfl, q H1 (Ex.refl H1)⟩
theorem rc_intB {b : Bool} : RC (fun xs H Q => (∃ i, xs = [V.int i] ∧ Q (.int i) H) ∨ ∃ k, xs = [V.bl k] ∧ Q (.int (if k then 1 else 0)) H) [.bl b] H (.int (if b = true then 1 else 0)) := fun H1 _ _ q => .inr ⟨b, rfl, q H1 (Ex.refl H1)⟩
theorem rc_abs {i : Int} : RC (fun xs H Q => ∃ i, xs = [V.int i] ∧ Q (.int (if i < 0 then -i else i)) H) [.int i] H (.int (if i < 0 then -i else i)) := fun H1 _ _ q => ⟨i, rfl, q H1 (Ex.refl H1)⟩
theorem rc_min {i j : Int} : RC (fun xs H Q => ∃ i j, xs = [V.int i, V.int j] ∧ Q (.int (if j < i then j else i)) H) [.int i, .int j] H (.int (if j < i then j else i)) := fun H1 _ _ q => ⟨i, j, rfl, q H1 (Ex.refl H1)⟩
theorem rc_max {i j : Int} : RC (fun xs H Q => ∃ i j, xs = [V.int i, V.int j] ∧ Q (.int (if j > i then j else i)) H) [.int i, .int j] H (.int (if j > i then j else i)) := fun H1 _ _ q => ⟨i, j, rfl, q H1 (Ex.refl H1)⟩
theorem rc_lenL {p : Addr} {xs : List V} (h : SqL K H p xs) : RC (fun xs H Q => ∃ p ys, xs = [V.ref p] ∧ (SqL K H p ys ∨ SqT K H p ys) ∧ Q (.int ys.length) H) [.ref p] H (.int xs.length) := fun H1 e _ q => ⟨p, xs, rfl, .inl (ex_l e h), q H1 (Ex.refl H1)⟩
theorem rc_isi {x c : V} {t u : Value} {b : Bool} (hc : ClsV c u) (ht : ∀ H1, Ex H H1 → TyX K H1 x t) (hk : PySem.W.kitOne K t u = some b) : RC (rIsi K) [x, c] H (.bl b) := fun H1 e _ q => ⟨x, c, t, u, b, rfl, hc, ht H1 e, hk, q H1 (Ex.refl H1)⟩
theorem rv_isN : RV (fun x y H Q => y = V.non ∧ Q (.bl (decide (x = V.non))) H) x .non H (.bl (decide (x = .non))) := fun H1 _ _ q => ⟨rfl, q H1 (Ex.refl H1)⟩
theorem rv_notN : RV (fun x y H Q => y = V.non ∧ Q (.bl (!decide (x = V.non))) H) x .non H (.bl (!decide (x = .non))) := fun H1 _ _ q => ⟨rfl, q H1 (Ex.refl H1)⟩
theorem ev_fld {a C dx : Addr} {fs : List (Str × V)} {f : Str} (ha : Ev ta σ H (.ref a)) (ho : H a = some (.ins C dx fs)) (hc : Cls K C) (hn : NoAttr K C f) (hl : fs.lookup f = some v) : Ev (tFld K ta f) σ H v := fun H1 e _ q =>
  ha H1 e _ fun H2 e2 => ⟨a, C, dx, fs, v, rfl, (e.trans e2) _ _ ho, hc, hn, hl, q H2 e2⟩
theorem ev_and {a b : Bool} (h1 : Ev ta σ H (.bl a)) (h2 : Ev tb σ H (.bl b)) : Ev (tAndV ta tb) σ H (.bl (a && b)) := ev_andV h1 fun _ => h2
theorem et_and2 {t u : TT} {a b : Bool} (h1 : EvT t σ H a) (h2 : EvT u σ H b) : EvT (tAnd t u) σ H (a && b) := et_and h1 fun _ => h2
theorem et_or2 {t u : TT} {a b : Bool} (h1 : EvT t σ H a) (h2 : EvT u σ H b) : EvT (tOr t u) σ H (a || b) := et_or h1 fun _ => h2
/-- a method of an own object that changes nothing -/
theorem ev_meth {a C dx : Addr} {fs : List (Str × V)} {m : Str} {sp : Sp} {E : XK} {t : TA} {vs : List V} (ha : Ev ta σ H (.ref a)) (ho : H a = some (.ins C dx fs)) (hl : fs.lookup m = none) (ht : EvA t σ H vs) (hs : SpV sp (.ref a :: (vs ++ [])) H z) :
    Ev (tMeth C m sp [] E ta t) σ H z := fun H1 e _ q =>
  ha H1 e _ fun H2 e2 => ⟨a, dx, fs, rfl, (e.trans e2) _ _ ho, hl, ht H2 (e.trans e2) _ fun H3 e3 => hs H3 ((e.trans e2).trans e3) _ (fun H4 e4 => q H4 ((e2.trans e3).trans e4)) E⟩
end

/-! ### statements, with a word M of the heap that lasts -/
structure Md (Kn : Hp) (M : Hp → Prop) : Prop where
  ex : ∀ H, M H → Ex Kn H
  up : ∀ H H', M H → Ex H H' → M H'
theorem mdE (Kn : Hp) : Md Kn (Ex Kn) := ⟨fun _ h => h, fun _ _ h e => h.trans e⟩
theorem mdI (d l : Addr) (Kn : Hp) : Md Kn (In d l Kn) := ⟨fun _ h => h.ex, fun _ _ h e => h.to e⟩
section
variable {K : PySem.W.Frag} {σ : L2.St} {Kn H : Hp} {M : Hp → Prop} {ta tb te : TE} {t : TT} {tu tw tz : TS} {D : Ends} {v : V} {b : Bool} {i : Nat}
theorem m_ev {Q : VK} (md : Md Kn M) (m : M H) (h : Ev te σ Kn v) (k : ∀ H1, M H1 → Q v H1) : te σ H Q := h H (md.ex _ m) _ fun H1 e => k H1 (md.up _ _ m e)
theorem m_evT {Q : Bool → Hp → Prop} (md : Md Kn M) (m : M H) (h : EvT t σ Kn b) (k : ∀ H1, M H1 → Q b H1) : t σ H Q := h H (md.ex _ m) _ fun H1 e => k H1 (md.up _ _ m e)
theorem g_no (md : Md Kn M) (m : M H) (h : EvT t σ Kn false) (k : ∀ H1, M H1 → tz D σ H1) : tSeq (tIfS t tu tNext) tz D σ H := q_when (h.mono (md.ex _ m)) (fun q => Bool.noConfusion q) fun _ H1 e => k H1 (md.up _ _ m e)
theorem g_no1 (md : Md Kn M) (m : M H) (h : EvT t σ Kn false) (k : ∀ H1, M H1 → D.nx σ H1) : tIfS t tu tNext D σ H := s_when (h.mono (md.ex _ m)) (fun q => Bool.noConfusion q) fun _ H1 e => k H1 (md.up _ _ m e)
theorem g_yes (md : Md Kn M) (m : M H) (h : EvT t σ Kn true) (k : ∀ H1, M H1 → tu { D with nx := tz D } σ H1) : tSeq (tIfS t tu tNext) tz D σ H := q_when (h.mono (md.ex _ m)) (fun _ H1 e => k H1 (md.up _ _ m e)) (fun q => Bool.noConfusion q)
theorem g_if (md : Md Kn M) (m : M H) (h : EvT t σ Kn b) (h1 : b = true → ∀ H1, M H1 → tu { D with nx := tz D } σ H1) (h2 : b = false → ∀ H1, M H1 → tw { D with nx := tz D } σ H1) : tSeq (tIfS t tu tw) tz D σ H :=
  q_if (h.mono (md.ex _ m)) (fun q H1 e => h1 q H1 (md.up _ _ m e)) (fun q H1 e => h2 q H1 (md.up _ _ m e))
theorem g_asg (md : Md Kn M) (m : M H) (h : Ev te σ Kn v) (k : ∀ H1, M H1 → tz D (σ.set i (some v)) H1) : tSeq (tAsg te (gName i)) tz D σ H := q_asg (h.mono (md.ex _ m)) fun H1 e => k H1 (md.up _ _ m e)
theorem g_asg1 (md : Md Kn M) (m : M H) (h : Ev te σ Kn v) (k : ∀ H1, M H1 → D.nx (σ.set i (some v)) H1) : tAsg te (gName i) D σ H := s_asg (h.mono (md.ex _ m)) fun H1 e => k H1 (md.up _ _ m e)
theorem g_ret (md : Md Kn M) (m : M H) (h : Ev te σ Kn v) (k : ∀ H1, M H1 → D.rt v H1) : tRet te D σ H := s_ret (h.mono (md.ex _ m)) fun H1 e => k H1 (md.up _ _ m e)
/-- an object at p that is being made, H0 ahead of it -/
structure Mi (H0 : Hp) (p C dx : Addr) (fs : List (Str × V)) (H : Hp) : Prop where
  ex : Ex H0 H
  np : H0 p = none
  at_ : H p = some (.ins C dx fs)
theorem mdM (H0 : Hp) (p C dx : Addr) (fs : List (Str × V)) : Md H0 (Mi H0 p C dx fs) := ⟨fun _ h => h.ex, fun _ _ h e => ⟨h.ex.trans e, h.np, e _ _ h.at_⟩⟩
theorem g_fld {H0 : Hp} {p C dx : Addr} {fs : List (Str × V)} {f : Str} (m : Mi H0 p C dx fs H) (hv : Ev te σ H0 v) (hp : Ev ta σ H0 (.ref p)) (hc : Cls K C) (hn : NoAttr K C f) (hl : fs.length < 1000)
    (k : ∀ H1, Mi H0 p C dx (putF f v fs) H1 → tz D σ H1) : tSeq (sFld K ta te f) tz D σ H :=
  m_ev (mdM H0 p C dx fs) m hv fun H1 m1 => m_ev (mdM H0 p C dx fs) m1 hp fun H2 m2 => ⟨p, C, dx, fs, rfl, m2.at_, hc, hn, hl, k _ ⟨Ex.mut m2.ex m2.np, m2.np, upd_same⟩⟩
theorem g_fld1 {H0 : Hp} {p C dx : Addr} {fs : List (Str × V)} {f : Str} (m : Mi H0 p C dx fs H) (hv : Ev te σ H0 v) (hp : Ev ta σ H0 (.ref p)) (hc : Cls K C) (hn : NoAttr K C f) (hl : fs.length < 1000)
    (k : ∀ H1, Mi H0 p C dx (putF f v fs) H1 → D.nx σ H1) : sFld K ta te f D σ H :=
  m_ev (mdM H0 p C dx fs) m hv fun H1 m1 => m_ev (mdM H0 p C dx fs) m1 hp fun H2 m2 => ⟨p, C, dx, fs, rfl, m2.at_, hc, hn, hl, k _ ⟨Ex.mut m2.ex m2.np, m2.np, upd_same⟩⟩
end

/-! ### new objects -/
def EvN (te : TE) (σ : L2.St) (H : Hp) (Pn : HO → Prop) : Prop := ∀ H1, Ex H H1 → ∀ Q : VK, (∀ p H2 o, H1 p = none → Ex H1 H2 → H2 p = some o → Pn o → Q (.ref p) H2) → te σ H1 Q
theorem EvN.mono {te : TE} {σ : L2.St} {H H' : Hp} {Pn : HO → Prop} (e : Ex H H') (h : EvN te σ H Pn) : EvN te σ H' Pn := fun H1 a Q q => h H1 (e.trans a) Q q
def spN (R : Hp → List V → (HO → Prop) → Prop) : Sp := fun vs H Q _ => ∃ Pn, R H vs Pn ∧ ∀ p H' o, H p = none → Ex H H' → H' p = some o → Pn o → Q (.ref p) H'
def MonoN (R : Hp → List V → (HO → Prop) → Prop) : Prop := ∀ H H' vs v, Ex H H' → R H vs v → R H' vs v
theorem evN_call {σ : L2.St} {H : Hp} {R : Hp → List V → (HO → Prop) → Prop} {dvs vs : List V} {E : XK} {ta : TA} {Pn : HO → Prop} (m : MonoN R) (h : EvA ta σ H vs) (hr : R H (vs ++ dvs) Pn) : EvN (tCall (spN R) dvs E ta) σ H Pn := fun H1 e Q q =>
  h H1 e _ fun H2 e2 => ⟨Pn, m _ _ _ _ (e.trans e2) hr, fun p H' o np e3 hp ho => q p H' o (fresh_back e2 np) (e2.trans e3) hp ho⟩
theorem In.evN {d l : Addr} {Kn H : Hp} {te : TE} {σ : L2.St} {Pn : HO → Prop} {Q : VK} (h : In d l Kn H) (e : EvN te σ Kn Pn) (k : ∀ p K1 H' o, Ex Kn K1 → K1 p = some o → Pn o → In d l K1 H' → Q (.ref p) H') : te σ H Q :=
  e H h.ex Q fun p H2 o np e2 hp ho => k p _ H2 o (h.new np e2 hp).2 upd_same ho (h.new np e2 hp).1

/-! ### more comprehensions, comparisons of data -/
section
variable {K : PySem.W.Frag} {σ : L2.St} {H H' : Hp} {ta tb te tx : TE} {t u : TT} {x y z : V}
theorem el_lcR2 {ta : TA} {j : Nat} {vs : List Nat} {lo n : Int} (f : Nat → Bool) (v : Nat → V) (h : EvA ta σ H [.int lo, .int n]) (hn : 0 ≤ lo ∧ lo ≤ 40000 ∧ -40000 ≤ n ∧ n ≤ 40000) (hw : ∀ x, wipe ((wipe σ vs).set j (some x)) vs = wipe σ vs)
    (ht : ∀ (i : Nat) H1, Ex H H1 → lo + (i : Int) < n → EvT t ((wipe σ vs).set j (some (.int (lo + (i : Int))))) H1 (f i)) (he : ∀ (i : Nat) H1, Ex H H1 → lo + (i : Int) < n → f i = true → Ev te ((wipe σ vs).set j (some (.int (lo + (i : Int))))) H1 (v i)) :
    EvL (tLc (iRng2 ta) (gName j) t te vs) σ H (given (n - lo).toNat f v) := fun H0 e Q q => h H0 e _ fun H1 e1 => ⟨lo, n, rfl, ⟨by omega, by omega, by omega, by omega⟩, fun Dl hD =>
  lc_range (lo := lo) (n := (n - lo).toNat) (Cw H1 f v Dl) ⟨hD, Ex.new hD, upd_same⟩ (fun i H' hi p =>
    ⟨hw _, cw_turn p (by omega) (ht i H1 (e.trans e1) (by omega)) (fun hf => he i H1 (e.trans e1) (by omega) hf)⟩) (fun H' p => q Dl H' (fresh_back e1 p.1) (e1.trans p.2.1) p.2.2)⟩
/-- over a new tuple -/
theorem el_lcNU {xs : List V} {tl : TE} {j : Nat} {vs : List Nat} (f : Nat → Bool) (v : Nat → V) (h : EvU tl σ H xs) (hz : xs.length ≤ 40000) (hw : ∀ x, wipe ((wipe σ vs).set j (some x)) vs = wipe σ vs)
    (ht : ∀ (i : Nat) (x : V) H1, Ex H H1 → xs[i]? = some x → EvT t ((wipe σ vs).set j (some x)) H1 (f i)) (he : ∀ (i : Nat) (x : V) H1, Ex H H1 → xs[i]? = some x → f i = true → Ev te ((wipe σ vs).set j (some x)) H1 (v i)) :
    EvL (tLc (iTup K tl) (gName j) t te vs) σ H (given xs.length f v) := fun H0 e Q q => h H0 e _ fun a H1 ha e1 hx => ⟨a, rfl, ⟨xs, st_of hx⟩, fun Dl hD =>
  lc_tup (xs := xs) (Cw H1 f v Dl) ⟨hD, Ex.new hD, upd_same⟩ (fun i H' _ p => st_of (p.2.1 a _ hx)) (fun i x H' hi p => ⟨hw x, cw_turn p (by have := (List.getElem?_eq_some_iff.mp hi).1; omega) (ht i x H1 (e.trans e1) hi) (fun hf => he i x H1 (e.trans e1) hi hf)⟩)
    (fun H' p => q Dl H' (fresh_back e1 p.1) (e1.trans p.2.1) p.2.2)⟩
theorem given_none {n : Nat} {f : Nat → Bool} {v : Nat → V} (h : ∀ i, i < n → f i = false) : given n f v = [] := by
  unfold given
  rw [List.filter_eq_nil_iff.mpr (fun i hi => by rw [h i (List.mem_range.mp hi)]; exact Bool.false_ne_true)]
  rfl
theorem el_is {xs ys : List V} (h : EvL te σ H xs) (e : xs = ys) : EvL te σ H ys := by
  rw [← e]
  exact h
theorem dp_up {x : V} : ∀ {d : PyData}, Ex H H' → Dp K H x d → Dp K H' x d := by
  intro d e h
  exact Dp.rec (motive_1 := fun v d _ => Dp K H' v d) (motive_2 := fun vs ds _ => DpAll K H' vs ds) .non .bl .int .str (fun h _ q => .lst (ex_l e h) q) (fun h _ q => .tup (ex_t e h) q) .nil (fun _ _ p q => .cons p q) h
theorem rv_eqD {d e : PyData} (hx : Dp K H x d) (hy : Dp K H y e) (sd : SeqAt.shaped d = true) (se : SeqAt.shaped e = true) : RV (rEqD K) x y H (.bl (PyData.eqv d e)) := fun H1 ex _ q => ⟨d, e, dp_up ex hx, dp_up ex hy, sd, se, q H1 (Ex.refl H1)⟩
theorem rv_neD {d e : PyData} (hx : Dp K H x d) (hy : Dp K H y e) (sd : SeqAt.shaped d = true) (se : SeqAt.shaped e = true) : RV (rNeD K) x y H (.bl (!PyData.eqv d e)) := fun H1 ex _ q => ⟨d, e, dp_up ex hx, dp_up ex hy, sd, se, q H1 (Ex.refl H1)⟩
/-- a new list that is empty, and [] -/
theorem et_neNil (h : EvL ta σ H []) : EvT (tTest (tOp (rNeD K) ta (tLst tNil))) σ H false :=
  et_test (ev_opLL h (el_lst ea_nil (by decide)) fun _ _ _ hp hq _ => rv_neD (.lst (sq_of hp) .nil) (.lst (sq_of hq) .nil) (by rfl) (by rfl))
theorem s_retN {D : Ends} {Pn : HO → Prop} (h : EvN te σ H Pn) (k : ∀ p H1 o, H p = none → Ex H H1 → H1 p = some o → Pn o → D.rt (.ref p) H1) : tRet te D σ H := h H (Ex.refl H) _ k
end

/-! ### chains, ranges as values -/
section
variable {K : PySem.W.Frag} {σ : L2.St} {H H' : Hp} {ta tb tc te tx : TE} {x y z : V}
theorem op_notin_rng {X : Cx} : OpR X (compareOp .NotIn) (fun x y H Q => ∃ i a lo hi, x = V.int i ∧ y = V.ref a ∧ H a = some (.rng lo hi) ∧ Q (.bl (!decide (lo ≤ i ∧ i < hi))) H) := by
  intro pins s σ H x y v u Q I rx ry h
  obtain ⟨i, a, lo, hi, rfl, rfl, ha, q⟩ := h
  obtain ⟨k, rfl⟩ := rx
  obtain rfl : u = Value.ref a := ry
  obtain ⟨t1, t2, t3, ho⟩ := I.hok a _ ha
  show wpAny _ _ (do return Value.bool (!(← contains (Value.ref a) (Value.int i k)))) _ _ s
  refine wpAny_bind (wpAny_contains_slot (T := "range") ⟨_, ho, rfl⟩ PySem.F.slot_range_contains (PySem.call_meets PySem.F.slot_range_contains ⟨_, ho, rfl⟩ PySem.F.entry_range_contains (PySem.F.args_range_contains_2 _ _) (q_contains a lo hi i t1 t2 t3 k)
    ⟨ho, wpAny_truthy_bool (wpAny_pure ⟨.bl _, H, I, rfl, ?_⟩)⟩))
  rw [place1]
  exact q
theorem ev_inRg {lo hi i : Int} {tr : TE} {r : R2} {b : Bool → Bool} (ha : Ev ta σ H (.int i)) (hb : ∀ H1, Ex H H1 → ∀ Q : VK, (∀ p H2, Ex H1 H2 → H2 p = some (.rng lo hi) → Q (.ref p) H2) → tr σ H1 Q)
    (hr : ∀ p H1 (Q : VK), H1 p = some (.rng lo hi) → Q (.bl (b (decide (lo ≤ i ∧ i < hi)))) H1 → r (.int i) (.ref p) H1 Q) : Ev (tOp r ta tr) σ H (.bl (b (decide (lo ≤ i ∧ i < hi)))) := fun H1 e Q q =>
  ha H1 e _ fun H2 e2 => hb H2 (e.trans e2) _ fun p H3 e3 hp => hr p H3 Q hp (q H3 (e2.trans e3))
theorem ev_range2 {lo hi : Int} {ta : TA} (h : EvA ta σ H [.int lo, .int hi]) : ∀ H1, Ex H H1 → ∀ Q : VK, (∀ p H2, Ex H1 H2 → H2 p = some (.rng lo hi) → Q (.ref p) H2) →
    tCB (fun vs H Q => ∃ i j, vs = [V.int i, V.int j] ∧ ∀ p, H p = none → Q (.ref p) (upd H p (.rng i j))) ta σ H1 Q := fun H1 e Q q =>
  h H1 e _ fun H2 e2 => ⟨lo, hi, rfl, fun p np => q p _ (e2.trans (Ex.new np)) upd_same⟩
theorem et_chain {r r' : R2} {a b : Bool} (ha : Ev ta σ H x) (hb : Ev tb σ H y) (hr : RV r x y H (.bl a)) (hc : Ev tc σ H z) (hr' : RV r' y z H (.bl b)) : EvT (tTest (tChain r r' ta tb tc)) σ H (a && b) := fun H1 e Q q =>
  ha H1 e _ fun H2 e2 => hb H2 (e.trans e2) _ fun H3 e3 => hr H3 ((e.trans e2).trans e3) _ fun H4 e4 => ⟨a, rfl, by
    have e14 := (e2.trans e3).trans e4
    cases a with
    | true =>
      refine iteT ?_
      exact hc H4 (e.trans e14) _ fun H5 e5 => hr' H5 ((e.trans e14).trans e5) _ fun H6 e6 => ⟨b, rfl, q H6 ((e14.trans e5).trans e6)⟩
    | false =>
      refine iteF ?_
      exact ⟨false, rfl, q H4 e14⟩⟩
theorem ev_ifE {t : TT} {b : Bool} {v w : V} (h : EvT t σ H b) (h1 : Ev ta σ H v) (h2 : Ev tb σ H w) : Ev (tIf t ta tb) σ H (if b = true then v else w) := by
  refine ev_if h (fun e => ?_) (fun e => ?_)
  · rw [if_pos e]; exact h1
  · rw [e, if_neg Bool.false_ne_true]; exact h2
end

/-! ### str(x), x == y by own methods that change nothing -/
/-- a method that is found by its class -/
structure OwnM (P : Program) (w : World) (K : PySem.W.Frag) (mg : Str → Option Value) (base : Heap) (k : Nat) (C : Addr) (m : Str) (R : Hp → List V → V → Prop) : Prop where
  ex : ∃ (f : Addr) (fd : FuncData) (ps : List Str), FnOk P w K mg base C8.CX0 k f fd ps (spP R) ∧ PySem.W.findIn K (.ref C) m = some (some (.ref f)) ∧ PySem.W.isFn K (.ref f) = true ∧ Binds K fd ps []
section
variable {X : Cx} {k j : Nat} {C : Addr} {R : Hp → List V → V → Prop}
def rStrO (C : Addr) (R : Hp → List V → V → Prop) : List V → Hp → VK → Prop := fun xs H Q => ∃ (a dx : Addr) (fs : List (Str × V)) (z : Str), xs = [.ref a] ∧ H a = some (.ins C dx fs) ∧ R H [.ref a] (.str z) ∧ ∀ H', Ex H H' → Q (.str z) H'
theorem call_strO (M : OwnM X.prog X.w X.K X.mg X.base k C "__str__" R) (hr : Room j X.A) (hk : k + 2 ≤ j) : CallR X (.type "str") (rStrO C R) := by
  intro pins s σ H xs us Q I rx h
  obtain ⟨f, fd, ps, F, hs, hf, hb⟩ := M.ex
  obtain ⟨a, dx, fs, z, rfl, ha, hR, q⟩ := h
  obtain ⟨u, rfl, ru⟩ := Vals.one rx
  obtain rfl : u = Value.ref a := ru
  obtain ⟨mA, J, _⟩ := ins_get I.hok ha
  obtain ⟨od, J, _⟩ := J.look
  have r2 : Room k X.A.in1.in1 := ((hr.mono hk).in1).in1
  refine PySem.W.kso_call r2.units0 I.kIn J hs hf ?_
  have hsp : spP R [.ref a] H (fun v H' => v = .str z ∧ Ex H H') C8.E0 := ⟨.str z, hR, fun H' e => ⟨rfl, e⟩⟩
  have e0 : Env0 X.prog X.w X.K X.mg X.base X.A.in1.in1 X.stack s H := by
    have e := I.env0
    exact ⟨e.frames, e.mod, e.bs, e.bsz, e.funs, e.frf, e.hok, e.bare⟩
  have hl := F.len _ _ _ _ hsp
  refine wpAny_call (codeAny_mono (F.run X.A.in1.in1 X.stack s H ⟨[.ref a], []⟩ [.ref a] [.ref a] _ C8.E0 r2 e0 (by
    have := hb s [.ref a] I.kIn (by simpa using hl)
    simpa using this) (.cons rfl .nil) hsp) fun r s' hq => ?_)
  cases r with
  | error e => exact False.elim hq
  | ok fl =>
    cases fl with
    | ret w =>
      obtain ⟨z', H', I', rz, ez, ex⟩ := I.after hq
      subst ez
      obtain ⟨t, rfl⟩ := rz
      exact ⟨.str z, H', I', ⟨t, rfl⟩, q H' ex⟩
    | next => exact False.elim hq
    | brk => exact False.elim hq
    | cont => exact False.elim hq
def rEqO (C : Addr) (R : Hp → List V → V → Prop) : R2 := fun x y H Q => ∃ (a b dx dy : Addr) (fs gs : List (Str × V)) (k : Bool), x = .ref a ∧ y = .ref b ∧ H a = some (.ins C dx fs) ∧ H b = some (.ins C dy gs) ∧ R H [.ref a, .ref b] (.bl k) ∧ ∀ H', Ex H H' → Q (.bl k) H'
theorem op_eqO (M : OwnM X.prog X.w X.K X.mg X.base k C "__eq__" R) (hr : Room j X.A) (hk : k ≤ j) : OpR X (compareOp .Eq) (rEqO C R) := by
  intro pins s σ H x y v u Q I rx ry h
  obtain ⟨f, fd, ps, F, hs, hf, hb⟩ := M.ex
  obtain ⟨a, b, dx, dy, fs, gs, k, rfl, rfl, ha, hb', hR, q⟩ := h
  cases rx
  cases ry
  obtain ⟨mA, J, _⟩ := ins_get I.hok ha
  obtain ⟨mB, J', _⟩ := ins_get I.hok hb'
  obtain ⟨od, J, _⟩ := J.look
  obtain ⟨od', J', _⟩ := J'.look
  obtain ⟨m, hF⟩ := I.fr
  have r2 := hr.mono hk
  show wpAny (model X.prog X.w) X.A (richCompare .Eq (.ref a) (.ref b)) (EP X pins σ Q) X.xe s
  refine PySem.W.cmp_K (op := .Eq) (tb := .ref C) r2.units0 hF I.ok.mod.kin J J'.type (by simp [PySem.W.notFirst]) hs hf ?_
  have hsp : spP R [.ref a, .ref b] H (fun v H' => v = .bl k ∧ Ex H H') C8.E0 := ⟨.bl k, hR, fun H' e => ⟨rfl, e⟩⟩
  have e0 : Env0 X.prog X.w X.K X.mg X.base X.A X.stack s H := by
    have e := I.env0
    exact ⟨e.frames, e.mod, e.bs, e.bsz, e.funs, e.frf, e.hok, e.bare⟩
  have hl := F.len _ _ _ _ hsp
  refine wpAny_call (codeAny_mono (F.run X.A X.stack s H ⟨[.ref a, .ref b], []⟩ [.ref a, .ref b] [.ref a, .ref b] _ C8.E0 r2 e0 (by
    have := hb s [.ref a, .ref b] I.kIn (by simpa using hl)
    simpa using this) (.cons rfl (.cons rfl .nil)) hsp) fun r s' hq => ?_)
  cases r with
  | error e => exact False.elim hq
  | ok fl =>
    cases fl with
    | ret w =>
      obtain ⟨z, H', I', rz, ez, ex⟩ := I.after hq
      subst ez
      cases rz
      exact ⟨.bl k, H', I', rfl, q H' ex⟩
    | next => exact False.elim hq
    | brk => exact False.elim hq
    | cont => exact False.elim hq
end
section
variable {K : PySem.W.Frag} {σ : L2.St} {H : Hp} {ta tb : TE} {C : Addr} {R : Hp → List V → V → Prop}
theorem rc_strO (m : Mono R) {a dx : Addr} {fs : List (Str × V)} {z : Str} (h : H a = some (.ins C dx fs)) (hR : R H [.ref a] (.str z)) : RC (rStrO C R) [.ref a] H (.str z) := fun H1 e _ q => ⟨a, dx, fs, z, rfl, e _ _ h, m _ _ _ _ e hR, q⟩
theorem rv_eqO (m : Mono R) {a b dx dy : Addr} {fs gs : List (Str × V)} {k : Bool} (h : H a = some (.ins C dx fs)) (h' : H b = some (.ins C dy gs)) (hR : R H [.ref a, .ref b] (.bl k)) : RV (rEqO C R) (.ref a) (.ref b) H (.bl k) :=
  fun H1 e _ q => ⟨a, b, dx, dy, fs, gs, k, rfl, rfl, e _ _ h, e _ _ h', m _ _ _ _ e hR, q⟩
/-- f-strings -/
theorem ev_fmtS {z : Str} (h : Ev ta σ H (.str z)) (hz : z.length ≤ 100000) : Ev (tFmt ta) σ H (.str z) := fun H1 e Q q => h H1 e _ fun H2 e2 => .inl ⟨z, rfl, Nat.le_trans hz (by decide), q H2 e2⟩
theorem ev_fmtI {i : Int} (h : Ev ta σ H (.int i)) (hz : i.natAbs.log2 < 1920) : Ev (tFmt ta) σ H (.str (toString i)) := fun H1 e Q q => h H1 e _ fun H2 e2 => .inr ⟨i, rfl, hz, q H2 e2⟩
/-- parts of an f-string: acc ahead, out in the end -/
def EvJ (ts : List TE) (acc : Str) (σ : L2.St) (H : Hp) (out : Str) : Prop := ∀ H1, Ex H H1 → ∀ Q : Str → Hp → Prop, (∀ H2, Ex H1 H2 → Q out H2) → tJs ts acc σ H1 Q
theorem ej_nil {acc : Str} : EvJ [] acc σ H acc := fun H1 _ _ q => q H1 (Ex.refl H1)
theorem ej_cons {ts : List TE} {acc y out : Str} (h : Ev ta σ H (.str y)) (hz : (acc ++ y).length ≤ 100000) (r : EvJ ts (acc ++ y) σ H out) : EvJ (ta :: ts) acc σ H out := fun H1 e Q q =>
  h H1 e _ fun H2 e2 => ⟨y, rfl, Nat.le_trans hz (by decide), r H2 (e.trans e2) Q fun H3 e3 => q H3 (e2.trans e3)⟩
theorem ev_joined {ts : List TE} {out : Str} (h : EvJ ts Str.empty σ H out) : Ev (fun σ H Q => tJs ts Str.empty σ H fun out H1 => Q (.str out) H1) σ H (.str out) := fun H1 e Q q => h H1 e _ q
end

/-! ### lists of ints, made and compared -/
section
variable {K : PySem.W.Frag} {σ : L2.St} {H H' : Hp} {ta tb te tl : TE} {x y z : V}
theorem et_yes0 : EvT tYes σ H true := fun H1 _ _ q => q H1 (Ex.refl H1)
theorem given_all (n : Nat) (g : Nat → Int) : given n (fun _ => true) (fun i => V.int (g i)) = ((List.range n).map g).map V.int := by
  unfold given
  rw [List.filter_eq_self.mpr (fun _ _ => rfl), List.map_map]
  rfl
theorem el_mapR1 {ta : TA} {j : Nat} {vs : List Nat} {n : Int} (g : Int → Int) (h : EvA ta σ H [.int n]) (hn : 0 ≤ n ∧ n ≤ 40000) (hw : ∀ x, wipe ((wipe σ vs).set j (some x)) vs = wipe σ vs)
    (he : ∀ (z : Int) H1, Ex H H1 → 0 ≤ z → z < n → Ev te ((wipe σ vs).set j (some (.int z))) H1 (.int (g z))) : EvL (tLc (iRng1 ta) (gName j) tYes te vs) σ H (((List.range n.toNat).map fun (i : Nat) => g (i : Int)).map V.int) :=
  el_is (el_lcR1 (fun _ => true) (fun i => .int (g i)) h hn hw (fun _ _ _ _ => et_yes0) (fun i H1 e hi _ => he i H1 e (by omega) hi)) (given_all _ _)
theorem el_mapU {j : Nat} {vs : List Nat} {zs : List Int} (g : Int → Int) (h : EvU tl σ H (zs.map V.int)) (hz : zs.length ≤ 40000) (hw : ∀ x, wipe ((wipe σ vs).set j (some x)) vs = wipe σ vs)
    (he : ∀ (z : Int) H1, Ex H H1 → z ∈ zs → Ev te ((wipe σ vs).set j (some (.int z))) H1 (.int (g z))) : EvL (tLc (iTup K tl) (gName j) tYes te vs) σ H ((zs.map g).map V.int) := by
  refine el_is (el_lcNU (fun _ => true) (fun i => .int (g (zs.getD i 0))) h (by rw [List.length_map]; exact hz) hw (fun _ _ _ _ _ => et_yes0) (fun i x H1 e hx _ => ?_)) ?_
  · rw [List.getElem?_map] at hx
    cases e1 : zs[i]? with
    | none => rw [e1] at hx; cases hx
    | some q =>
      rw [e1] at hx
      obtain rfl := (Option.some.inj hx).symm
      have : zs.getD i 0 = q := by rw [List.getD_eq_getElem?_getD, e1]; rfl
      rw [this]
      exact he q H1 e (List.mem_of_getElem? e1)
  · rw [given_all, List.length_map]
    congr 1
    refine List.ext_getElem? fun i => ?_
    rw [List.getElem?_map, List.getElem?_map]
    by_cases h1 : i < zs.length
    · rw [List.getElem?_eq_getElem h1, List.getElem?_range h1]
      show some (g (zs.getD i 0)) = some (g zs[i])
      rw [List.getD_eq_getElem?_getD, List.getElem?_eq_getElem h1]
      rfl
    · rw [List.getElem?_eq_none (show zs.length ≤ i by omega), List.getElem?_eq_none (show (List.range zs.length).length ≤ i by rw [List.length_range]; omega)]
      rfl
theorem dp_ints : ∀ zs : List Int, DpAll K H (zs.map V.int) (zs.map PyData.int)
  | [] => .nil
  | _ :: zs => .cons (.int _) (dp_ints zs)
theorem et_neSame {zs : List Int} (h1 : EvL ta σ H (zs.map V.int)) (h2 : EvL tb σ H (zs.map V.int)) (sh : SeqAt.shaped (.list (zs.map PyData.int)) = true) : EvT (tTest (tOp (rNeD K) ta tb)) σ H false := by
  refine et_test (ev_is (ev_opLL h1 h2 fun _ _ _ hp hq _ => rv_neD (.lst (sq_of hp) (dp_ints zs)) (.lst (sq_of hq) (dp_ints zs)) sh sh) ?_)
  rw [SeqAt.eqv_refl _ (SeqAt.canLay_of_shaped sh)]
  rfl
theorem el_rep {xs : List V} {k : Int} (h : EvL ta σ H xs) (hk : Ev tb σ H (.int k)) (k0 : 0 ≤ k) (hz : xs.length * k.toNat ≤ 100000) (k1 : k ≤ 100000) : EvL (tOp rRep ta tb) σ H (List.replicate k.toNat xs).flatten := fun H1 e _ q =>
  h H1 e _ fun p H2 _ e2 hp => hk H2 (e.trans e2) _ fun H3 e3 => ⟨p, k, xs, rfl, rfl, e3 _ _ hp, by omega, by omega, Nat.le_trans hz (by decide), fun r nr => q r _ (fresh_back (e2.trans e3) nr) ((e2.trans e3).trans (Ex.new nr)) upd_same⟩
end
open PyProof.Rows
def top (i : Nat) : Stmt := PySem.Challenge.pw_sitout_k15_steps_of_standings.main.body.getD i (.Pass ⟨0, 0, 0, 0⟩)
abbrev st_is_integer : Stmt := top 13
theorem sc_is_integer : FnScope ["value"] ["value"] (C8.fnScope st_is_integer) := C8.fnScope_by (by decide +kernel)
abbrev st_is_from : Stmt := top 14
theorem sc_is_from : FnScope ["value", "least"] ["value", "least"] (C8.fnScope st_is_from) := C8.fnScope_by (by decide +kernel)
abbrev st_wrong_count : Stmt := top 26
theorem sc_wrong_count : FnScope ["need", "of", "base", "more", "most", "calm"] ["need", "of", "base", "more", "most", "calm"] (C8.fnScope st_wrong_count) := C8.fnScope_by (by decide +kernel)
abbrev st_wrong_manner : Stmt := top 27
theorem sc_wrong_manner : FnScope ["back", "top", "under", "up", "hears"] ["back", "top", "under", "up", "hears"] (C8.fnScope st_wrong_manner) := C8.fnScope_by (by decide +kernel)
abbrev st_least_last : Stmt := top 28
theorem sc_least_last : FnScope ["base", "more", "most"] ["base", "more", "most"] (C8.fnScope st_least_last) := C8.fnScope_by (by decide +kernel)
abbrev st_Rule___init__ : Stmt := inClass (top 25) 0
theorem sc_Rule___init__ : FnScope ["self", "need", "of", "base", "more", "most", "calm", "back", "top", "under", "up", "hears", "word"] ["self", "need", "of", "base", "more", "most", "calm", "back", "top", "under", "up", "hears"] (C8.fnScope st_Rule___init__) := C8.fnScope_by (by decide +kernel)
abbrev st_Rule_time : Stmt := inClass (top 25) 4
theorem sc_Rule_time : FnScope ["self", "j"] ["self", "j"] (C8.fnScope st_Rule_time) := C8.fnScope_by (by decide +kernel)
abbrev st_side : Stmt := top 29
theorem sc_side : FnScope ["up"] ["up"] (C8.fnScope st_side) := C8.fnScope_by (by decide +kernel)
abbrev st_Rule___str__ : Stmt := inClass (top 25) 2
theorem sc_Rule___str__ : FnScope ["self"] ["self"] (C8.fnScope st_Rule___str__) := C8.fnScope_by (by decide +kernel)
abbrev st_Rule___eq__ : Stmt := inClass (top 25) 1
theorem sc_Rule___eq__ : FnScope ["self", "other"] ["self", "other"] (C8.fnScope st_Rule___eq__) := C8.fnScope_by (by decide +kernel)
abbrev st_read_number : Stmt := top 15
theorem sc_read_number : FnScope ["word", "number"] ["word"] (C8.fnScope st_read_number) := C8.fnScope_by (by decide +kernel)
abbrev st_free_words : Stmt := top 30
theorem sc_free_words : FnScope ["text", "words", "free", "word", "fixed"] ["text"] (C8.fnScope st_free_words) := C8.fnScope_by (by decide +kernel)
abbrev st_Rule_read : Stmt := inClass (top 25) 3
theorem sc_Rule_read : FnScope ["cls", "text", "words", "back", "share", "side", "hears", "numbers", "word", "need", "of", "base", "more", "most", "calm", "top", "under"] ["cls", "text"] (C8.fnScope st_Rule_read) := C8.fnScope_by (by decide +kernel)
abbrev st_taken : Stmt := top 11
theorem sc_taken : FnScope ["rule", "window", "fault"] ["rule", "window", "fault"] (C8.fnScope st_taken) := C8.fnScope_by (by decide +kernel)
abbrev st_leave_out : Stmt := top 10
theorem sc_leave_out : FnScope ["rule", "times", "counted"] ["rule", "times"] (C8.fnScope st_leave_out) := C8.fnScope_by (by decide +kernel)
abbrev st_try : Stmt := top 9
theorem sc_try : FnScope ["rule", "standing", "room"] ["rule", "standing", "room"] (C8.fnScope st_try) := C8.fnScope_by (by decide +kernel)
abbrev st_take_fault : Stmt := top 8
theorem sc_take_fault : FnScope ["rule", "standing", "room", "_", "window", "times", "taken", "behind"] ["rule", "standing", "room"] (C8.fnScope st_take_fault) := C8.fnScope_by (by decide +kernel)
abbrev st_take_ok : Stmt := top 7
theorem sc_take_ok : FnScope ["rule", "standing", "_", "window", "times", "calm", "taken"] ["rule", "standing"] (C8.fnScope st_take_ok) := C8.fnScope_by (by decide +kernel)
abbrev st_sit : Stmt := top 6
theorem sc_sit : FnScope ["rule", "standing", "_", "left", "times", "counted"] ["rule", "standing"] (C8.fnScope st_sit) := C8.fnScope_by (by decide +kernel)
abbrev st_hear : Stmt := top 5
theorem sc_hear : FnScope ["rule", "standing", "room"] ["rule", "standing", "room"] (C8.fnScope st_hear) := C8.fnScope_by (by decide +kernel)
abbrev st_begun : Stmt := top 2
theorem sc_begun : FnScope [] [] (C8.fnScope st_begun) := C8.fnScope_by (by decide +kernel)
abbrev st_move : Stmt := top 4
theorem sc_move : FnScope ["rule", "standing", "word", "room", "behind", "kept", "what"] ["rule", "standing", "word", "room"] (C8.fnScope st_move) := C8.fnScope_by (by decide +kernel)
abbrev st_step : Stmt := top 3
theorem sc_step : FnScope ["rule", "standing", "letter", "word", "full", "room", "behind", "what", "_"] ["rule", "standing", "letter"] (C8.fnScope st_step) := C8.fnScope_by (by decide +kernel)
abbrev st_law_box : Stmt := top 32
theorem sc_law_box : FnScope ["_law_script", "_law_k", "_law_great", "_law_seed"] ["_law_script", "_law_k"] (C8.fnScope st_law_box) := C8.fnScope_by (by decide +kernel)
abbrev st_law_take : Stmt := top 33
theorem sc_law_take : FnScope ["_law_box_here", "_law_many", "_law_digit", "_law_near"] ["_law_box_here", "_law_many"] (C8.fnScope st_law_take) := C8.fnScope_by (by decide +kernel)
abbrev st_law_pick : Stmt := top 34
theorem sc_law_pick : FnScope ["_law_box_here", "_law_some"] ["_law_box_here", "_law_some"] (C8.fnScope st_law_pick) := C8.fnScope_by (by decide +kernel)
abbrev st_law_rule : Stmt := top 35
theorem sc_law_rule : FnScope ["_law_box_here", "_law_size", "_law_long", "_law_calms", "_law_need", "_law_found"] ["_law_box_here", "_law_size", "_law_long", "_law_calms"] (C8.fnScope st_law_rule) := C8.fnScope_by (by decide +kernel)
abbrev st_law_rule_text : Stmt := top 36
theorem sc_law_rule_text : FnScope ["_law_rule_here", "_law_words"] ["_law_rule_here"] (C8.fnScope st_law_rule_text) := C8.fnScope_by (by decide +kernel)
abbrev st_law_rule_of : Stmt := top 37
theorem sc_law_rule_of : FnScope ["_law_rule_here"] ["_law_rule_here"] (C8.fnScope st_law_rule_of) := C8.fnScope_by (by decide +kernel)
abbrev st_law_time : Stmt := top 38
theorem sc_law_time : FnScope ["_law_rule_here", "_law_times", "_law_long"] ["_law_rule_here", "_law_times"] (C8.fnScope st_law_time) := C8.fnScope_by (by decide +kernel)
abbrev st_law_cap : Stmt := top 39
theorem sc_law_cap : FnScope ["_law_rule_here", "_law_times"] ["_law_rule_here"] (C8.fnScope st_law_cap) := C8.fnScope_by (by decide +kernel)
abbrev st_law_out : Stmt := top 40
theorem sc_law_out : FnScope ["_law_rule_here", "_law_times", "_law_later"] ["_law_rule_here", "_law_times"] (C8.fnScope st_law_out) := C8.fnScope_by (by decide +kernel)
abbrev st_law_back : Stmt := top 41
theorem sc_law_back : FnScope ["_law_rule_here", "_law_times", "_law_faults", "_law_fault"] ["_law_rule_here", "_law_times"] (C8.fnScope st_law_back) := C8.fnScope_by (by decide +kernel)
abbrev st_law_faulted : Stmt := top 42
theorem sc_law_faulted : FnScope ["_law_rule_here", "_law_standing", "_law_is_room", "_law_window", "_law_later"] ["_law_rule_here", "_law_standing", "_law_is_room"] (C8.fnScope st_law_faulted) := C8.fnScope_by (by decide +kernel)
abbrev st_law_turn : Stmt := top 43
theorem sc_law_turn : FnScope ["_law_rule_here", "_law_standing", "_law_is_fault", "_law_is_room", "_law_told", "_law_later", "_law_is_kept", "_law_window", "_law_times", "_law_calm"] ["_law_rule_here", "_law_standing", "_law_is_fault", "_law_is_room"] (C8.fnScope st_law_turn) := C8.fnScope_by (by decide +kernel)
abbrev st_law_word : Stmt := top 44
theorem sc_law_word : FnScope ["_law_rule_here", "_law_standing", "_law_is_room"] ["_law_rule_here", "_law_standing", "_law_is_room"] (C8.fnScope st_law_word) := C8.fnScope_by (by decide +kernel)
abbrev st_law_step : Stmt := top 45
theorem sc_law_step : FnScope ["_law_rule_here", "_law_standing", "_law_letter", "_law_is_room"] ["_law_rule_here", "_law_standing", "_law_letter"] (C8.fnScope st_law_step) := C8.fnScope_by (by decide +kernel)
abbrev st_law_letters : Stmt := top 46
theorem sc_law_letters : FnScope ["_law_free", "_law_found"] ["_law_free"] (C8.fnScope st_law_letters) := C8.fnScope_by (by decide +kernel)
abbrev st_law : Stmt := top 47
theorem sc_law : FnScope ["_law_script", "_law_k", "_law_box_here", "_law_turn_here", "_law_rule_here", "_law_made", "_law_here", "_law_every", "_law_faults", "_law_more", "_law_letter", "_law_due"] ["_law_script"] (C8.fnScope st_law) := C8.fnScope_by (by decide +kernel)
/-! ### zip of a list and a tuple -/
section
/-- the list at a and the tuple at b as they stand at each turn, the items in new pairs -/
def ItzM (K : PySem.W.Frag) (a b : Addr) : It :=
  ⟨fun i H => ∃ (xs ys : List V), SqL K H a xs ∧ SqT K H b ys ∧ i < xs.length ∧ i < ys.length,
   fun i H v H' => ∃ T x y, v = .ref T ∧ H T = none ∧ H' = upd H T (.tup [x, y]) ∧ (∀ xs, SqL K H a xs → xs[i]? = some x) ∧ (∀ ys, SqT K H b ys → ys[i]? = some y),
   fun i H => ∃ (xs ys : List V), SqL K H a xs ∧ SqT K H b ys ∧ i = min xs.length ys.length⟩
def MixAt (z TI TO i1 i2 a b : Addr) (i : Nat) (h : Heap) : Prop := IsZip h z TI TO .none ∧ IsTupOf2 h TI (.ref i1) (.ref i2) ∧ (∃ x y, IsTupOf2 h TO x y) ∧ h.IsListIter i1 a i ∧ h.IsTupleIter i2 b i
theorem mem5 {z TI TO i1 i2 c : Addr} (h : c ∈ [z, TI, TO, i1, i2]) : c = z ∨ c = TI ∨ c = TO ∨ c = i1 ∨ c = i2 := by simpa using h
theorem mix_turn {P : Program} {w : World} {K : PySem.W.Frag} {elts : List Expr} {kk : Nat} {tpos : Pos} {z TI TO i1 i2 a b : Addr} (S : ZipSep2 z TI TO i1 i2 [i1, a] [i2, b]) (na : a ≠ i1) (nb : b ≠ i2) :
    Turn P w K (.Tuple elts kk tpos) (ItzM K a b) [z, TI, TO, i1, i2] z (MixAt z TI TO i1 i2 a b) where
  mem := List.mem_cons_self ..
  obj := fun i h st c hc => by
    obtain ⟨hz, hI, ⟨x, y, hO⟩, ⟨o1, p1, _, d1⟩, ⟨o2, p2, _, d2⟩⟩ := st
    rcases mem5 hc with rfl | rfl | rfl | rfl | rfl
    · exact ⟨_, hz, fun v q => nomatch q⟩
    · exact ⟨_, hI, fun v q => nomatch q⟩
    · exact ⟨_, hO, fun v q => nomatch q⟩
    · exact ⟨o1, p1, fun v q => by rw [d1] at q; cases q⟩
    · exact ⟨o2, p2, fun v q => by rw [d2] at q; cases q⟩
  keep := fun i h h' ⟨hz, hI, ⟨x, y, hO⟩, l1, l2⟩ k => ⟨k _ (by simp) _ hz, k _ (by simp) _ hI, ⟨x, y, k _ (by simp) _ hO⟩, l1.at fun o q => k _ (by simp) o q, l2.at fun o q => k _ (by simp) o q⟩
  item := fun X hP hw hK hc i pins s σ H E I hf st hg => by
    subst hP hw hK
    obtain ⟨hz, hI, hO, l1, l2⟩ := id st
    obtain ⟨xs, ys, qx, qy, hx, hy⟩ := hg
    obtain ⟨us, rx, px, _⟩ := I.list qx
    obtain ⟨vs, ry, py, _⟩ := I.tuple qy
    have hh : X.A.in1.handled = none := I.ok.hd hc
    have n1 := rx.length
    have n2 := ry.length
    refine (GoesN.zip2 S (Draws.list hh i1 a na us.toArray) (Draws.tuple hh i2 b nb vs.toArray)).goes i s _ E (by simp; omega) ⟨hz, hI, hO, ⟨l1, px.isList⟩, ⟨l2, py⟩⟩ fun v h' tk hY hS hk _ => ?_
    obtain ⟨T, x, y, rfl, hT, hPx, hPy, hP⟩ := hY
    obtain ⟨hz', hI', hO', ⟨l1', _⟩, ⟨l2', _⟩⟩ := hS
    obtain ⟨x', ex⟩ : ∃ x', xs[i]? = some x' := ⟨_, List.getElem?_eq_getElem hx⟩
    obtain ⟨y', ey⟩ : ∃ y', ys[i]? = some y' := ⟨_, List.getElem?_eq_getElem hy⟩
    obtain ⟨u, hu, ru⟩ := rx.get ex
    obtain ⟨u2, hu2, ru2⟩ := ry.get ey
    have e1 : x = u := by
      have q : us.toArray[i]? = some x := hPx
      rw [List.getElem?_toArray, hu] at q
      exact (Option.some.inj q).symm
    have e2 : y = u2 := by
      have q : vs.toArray[i]? = some y := hPy
      rw [List.getElem?_toArray, hu2] at q
      exact (Option.some.inj q).symm
    subst e1 e2
    have I1 := I.turnedNew (t' := tk) (ch := [z, TI, TO, i1, i2]) (h' := h') (T := T) (ob := .tup [x', y']) (fun c o hb q => hk c o (fun m => hb (by
      simp only [List.mem_cons, List.not_mem_nil, or_false] at m ⊢
      rcases m with m | m | m | m <;> simp [m])) q) hf hT ⟨by show 2 ≤ sizeLine; decide, [x, y], .cons ru (.cons ru2 .nil), hP⟩
    refine ⟨.ref T, _, I1, rfl, ⟨T, x', y', rfl, I.hok.fresh hT, rfl, fun l hl => by rw [I.list_inj hl qx]; exact ex, fun l hl => by rw [I.tuple_inj hl qy]; exact ey⟩, ⟨hz', hI', hO', l1', l2'⟩, fun c hcm => ?_⟩
    have hn := (hf c hcm).1
    have hlt : c < s.heap.objs.size := by
      obtain ⟨x0, y0, hO⟩ := hO
      rcases mem5 hcm with rfl | rfl | rfl | rfl | rfl
      · exact Heap.lt_size hz
      · exact Heap.lt_size hI
      · exact Heap.lt_size hO
      · exact let ⟨_, q, _⟩ := l1; Heap.lt_size q
      · exact let ⟨_, q, _⟩ := l2; Heap.lt_size q
    rw [upd_ne (Nat.ne_of_lt (Nat.lt_of_lt_of_le hlt hT))]
    exact hn
  done := fun X hP hw hK hc i pins s σ H E I hf st hg => by
    subst hP hw hK
    obtain ⟨hz, hI, hO, l1, l2⟩ := id st
    obtain ⟨xs, ys, qx, qy, hi⟩ := hg
    obtain ⟨us, rx, px, _⟩ := I.list qx
    obtain ⟨vs, ry, py, _⟩ := I.tuple qy
    have hh : X.A.in1.handled = none := I.ok.hd hc
    have hi' : i = min us.toArray.size vs.toArray.size := by rw [List.size_toArray, List.size_toArray, ← rx.length, ← ry.length]; exact hi
    subst hi'
    refine (GoesN.zip2 (elts := elts) (x1 := kk) (pos := tpos) S (Draws.list hh i1 a na us.toArray) (Draws.tuple hh i2 b nb vs.toArray)).stops s _ E ⟨hz, hI, hO, ⟨l1, px.isList⟩, ⟨l2, py⟩⟩ fun h' tk hk _ => ?_
    exact I.turnedL (t' := tk) (ch := [z, TI, TO, i1, i2]) (fun c o hb q => hk c o (fun m => hb (by
      simp only [List.mem_cons, List.not_mem_nil, or_false] at m ⊢
      rcases m with m | m | m | m <;> simp [m])) q) hf
  self := fun A i s Q E st h => wpAny_pyIter_zip st.1 h
def iZipM (K : PySem.W.Frag) (ta : TA) : TI := fun σ H R => ta σ H fun vs H1 => ∃ a b xs ys, vs = [.ref a, .ref b] ∧ SqL K H1 a xs ∧ SqT K H1 b ys ∧ R (ItzM K a b) H1
theorem pi_zipM {X : Cx} {e e2 : Expr} {ta : TA} {p pos tpos : Pos} {elts : List Expr} {kk : Nat} (hg : Gl X "zip") (hm : X.mg "zip" = none) (ha : PA X [e, e2] ta)
    (hs : starEach [e, e2] X.env = (false, eval e X.env) :: starEach [e2] X.env := by rfl) (hpl : (backTo pos (starEach [e2] X.env)).any (·.1) = false := by rfl) : PI X (.Tuple elts kk tpos) (.Call (.Name "zip" p) [e, e2] [] pos) (iZipM X.K ta) := by
  refine ⟨fun pins s σ H R I h => Call_ (ld_blt I hg hm boot_zip (callWith_type1 (thn (ha.run pos pins s σ H _ I h) fun us s1 ⟨vs, H1, I1, r1, q1⟩ => ?_) hs hpl))⟩
  obtain ⟨a, b, xs, ys, rfl, qx, qy, q⟩ := q1
  obtain ⟨u1, u2, rfl, r2, r3⟩ := vals2 r1
  obtain rfl : u1 = Value.ref a := r2
  obtain rfl : u2 = Value.ref b := r3
  obtain ⟨us, rx, px, _⟩ := I1.list qx
  obtain ⟨ws, ry, py, _⟩ := I1.tuple qy
  have la : a < s1.heap.objs.size := px.lt
  have lb : b < s1.heap.objs.size := let ⟨_, z, _⟩ := py; Heap.lt_size z
  refine zip_begins2 (begins_list a us.toArray) (begins_tuple b ws.toArray) px.isList py fun h' hz hT hO g1 g2 hsz hk => wpAny_pyIter_zip hz ?_
  have I2 : Inv X pins σ H1 { s1 with heap := h' } := I1.kept (t' := s1.toks) hk
  have S := zip_sep2 (N := s1.heap.objs.size) (fp1 := [a]) (fp2 := [b]) (fun c hc => by rw [List.mem_singleton.mp hc]; exact la) (fun c hc => by rw [List.mem_singleton.mp hc]; exact lb)
  refine ⟨s1.heap.objs.size + 4, _, _, _, H1, rfl, I2, mix_turn S (Nat.ne_of_lt la) (Nat.ne_of_lt (Nat.lt_succ_of_lt lb)), ⟨hz, hT, ⟨_, _, hO⟩, ⟨_, g1, rfl, rfl⟩, ⟨_, g2, rfl, rfl⟩⟩, fun c hcm => ?_, q⟩
  have hle : s1.heap.objs.size ≤ c := by
    rcases mem5 hcm with rfl | rfl | rfl | rfl | rfl
    · exact Nat.le_add_right _ 4
    · exact Nat.le_add_right _ 2
    · exact Nat.le_add_right _ 3
    · exact Nat.le_refl _
    · exact Nat.le_add_right _ 1
  exact I1.fpOk hle (I1.hok.fresh hle)
/-- the loop over both, of one length: an invariant -/
theorem for_zipM {K : PySem.W.Frag} {a b : Addr} {xs ys : List V} {g : TG} {tb : TS} {D : Ends} {σ : L2.St} {H : Hp} (hl : xs.length = ys.length) (Pv : Nat → L2.St → Hp → Prop) (h0 : Pv 0 σ H) (hq : ∀ i σ H, Pv i σ H → SqL K H a xs ∧ SqT K H b ys)
    (hs : ∀ (i : Nat) (x y : V) (T : Addr) (σ : L2.St) (H : Hp), xs[i]? = some x → ys[i]? = some y → Pv i σ H → H T = none → g (.ref T) σ (upd H T (.tup [x, y])) fun σ2 H2 => tb { D with nx := Pv (i + 1), ct := Pv (i + 1), bk := D.nx } σ2 H2)
    (hd : ∀ σ H, Pv xs.length σ H → D.nx σ H) : ∃ W : Nat → Nat → L2.St → Hp → Prop, (∃ m, W 0 m σ H) ∧ ∀ i m σ H, W i m σ H →
      ((ItzM K a b).stop i H ∧ D.nx σ H) ∨ ((ItzM K a b).go i H ∧ ∃ N : L2.St → Hp → Prop, (∀ σ' H', N σ' H' → ∃ m', m' < m ∧ W (i + 1) m' σ' H') ∧ ∀ v H', (ItzM K a b).yld i H v H' → g v σ H' fun σ2 H2 => tb { D with nx := N, ct := N, bk := D.nx } σ2 H2) := by
  refine ⟨fun i m σ H => m = xs.length - i ∧ i ≤ xs.length ∧ Pv i σ H, ⟨_, rfl, Nat.zero_le _, h0⟩, fun i m σ H ⟨em, hi, p⟩ => ?_⟩
  obtain ⟨qx, qy⟩ := hq i σ H p
  rcases Nat.lt_or_ge i xs.length with hlt | hge
  · refine .inr ⟨⟨xs, ys, qx, qy, hlt, by omega⟩, Pv (i + 1), fun σ' H' p' => ⟨_, by omega, rfl, hlt, p'⟩, ?_⟩
    rintro v H' ⟨T, x, y, rfl, hT, rfl, f1, f2⟩
    exact hs i x y T σ H (f1 xs qx) (f2 ys qy) p hT
  · obtain rfl : i = xs.length := by omega
    exact .inl ⟨⟨xs, ys, qx, qy, by omega⟩, hd σ H p⟩
end

local macro_rules | `(tactic| walk_at "sit side") => `(tactic| first | decide | omega | assumption | exact Or.inl ⟨by omega, by omega⟩ | exact Or.inr ⟨by omega, by omega⟩ | exact ⟨by omega, by omega⟩ | exact ⟨by decide, by decide⟩)
local macro_rules | `(tactic| walk_at "sit ev") => `(tactic| first
  | exact ev_c
  | exact ev_var rfl
  | exact ea_nil
  | ((with_reducible apply ea_cons) <;> walk_at "sit ev")
  | exact rv_I0
  | ((with_reducible apply rv_I); walk_at "sit side")
  | exact rv_eq rfl
  | exact rv_ne rfl
  | exact rc_int1
  | exact rc_abs
  | exact rc_min
  | exact rc_max
  | exact rc_isi (b := true) (ClsV.ty _) (fun _ _ => TyX.base (TyOf.int _)) (kit_ty (by decide +kernel))
  | exact rc_isi (b := false) (ClsV.ty _) (fun _ _ => TyX.base (TyOf.int _)) (kit_ty (by decide +kernel))
  | exact rc_isi (b := true) (ClsV.ty _) (fun _ _ => TyX.base (TyOf.bl _)) (kit_ty (by decide +kernel))
  | exact rc_isi (b := false) (ClsV.ty _) (fun _ _ => TyX.base (TyOf.bl _)) (kit_ty (by decide +kernel))
  | ((with_reducible apply ev_op) <;> walk_at "sit ev")
  | ((with_reducible apply ev_un) <;> walk_at "sit ev")
  | ((with_reducible apply ev_cb) <;> walk_at "sit ev")
  | ((with_reducible apply ev_and) <;> walk_at "sit ev")
  | ((with_reducible apply ev_notV) <;> walk_at "sit ev")
  | ((with_reducible apply et_test) <;> walk_at "sit ev")
  | ((with_reducible apply et_B) <;> walk_at "sit ev")
  | ((with_reducible apply et_not) <;> walk_at "sit ev")
  | ((with_reducible apply et_and2) <;> walk_at "sit ev")
  | ((with_reducible apply et_or2) <;> walk_at "sit ev"))

/-! ### what the top has -/
structure Tb (K : PySem.W.Frag) (mg : Str → Option Value) (CR : Addr) (aB aH : Addr) : Prop where
  bi_isinstance : mg "isinstance" = none
  bi_int : mg "int" = none
  bi_bool : mg "bool" = none
  bi_max : mg "max" = none
  bi_min : mg "min" = none
  bi_len : mg "len" = none
  bi_abs : mg "abs" = none
  bi_range : mg "range" = none
  bi_list : mg "list" = none
  bi_str : mg "str" = none
  bi_repr : mg "repr" = none
  bi_sorted : mg "sorted" = none
  bi_dict : mg "dict" = none
  bi_tuple : mg "tuple" = none
  bi_zip : mg "zip" = none
  bi_enumerate : mg "enumerate" = none
  gc_BACKS : ∃ u, mg "_BACKS" = some u ∧ RelV (.ref aB) u
  gc_HEARINGS : ∃ u, mg "_HEARINGS" = some u ∧ RelV (.ref aH) u
  sB : ∀ H, SqT K H aB [.str "half", .str "open", .str "trial"]
  sH : ∀ H, SqT K H aH [.str "fault", .str "no", .str "out"]
  cl : Cls K CR
  n_need : NoAttr K CR "need"
  n_of : NoAttr K CR "of"
  n_base : NoAttr K CR "base"
  n_more : NoAttr K CR "more"
  n_most : NoAttr K CR "most"
  n_calm : NoAttr K CR "calm"
  n_back : NoAttr K CR "back"
  n_top : NoAttr K CR "top"
  n_under : NoAttr K CR "under"
  n_up : NoAttr K CR "up"
  n_hears : NoAttr K CR "hears"
  n_cap : NoAttr K CR "cap"
  gc_Rule : ∃ u, mg "Rule" = some u ∧ RelV (.ref CR) u
  cA : PySem.W.findIn K (.ref CR) "__class__" = some (some (.builtin "object.__class__"))
  cG : PySem.W.specialIn K (.builtin "object.__class__") "__get__" = some (some (.builtin "getset_descriptor.__get__"))
  cT : PySem.W.takesIn K (.builtin "object.__class__") = some true
  cO : PySem.W.mroIn K CR (.type "object") = some true

section
variable {P : Program} {w : World} {K : PySem.W.Frag} {mg : Str → Option Value} {base : Heap} {CR aB aH : Addr}

def rInteger : Hp → List V → V → Prop := fun _ vs v => ∃ i : Int, vs = [.int i] ∧ v = .bl true
theorem mono_integer : Mono rInteger := fun _ _ _ _ _ h => h
theorem ok_is_integer {f : Addr} {fd : FuncData} (D : C8.Def K mg "is_integer" st_is_integer f fd) (b : Binds K fd ["value"] []) (T : Tb K mg CR aB aH) : C8.Cal P w K mg base 1 "is_integer" (spP rInteger) [] := by
  refine C8.cal0 D b .nil sc_is_integer (fun vs H Q E h => ?_) (fun cdv A outer s H vs Q E hr h => ?_)
  · obtain ⟨v, ⟨i, rfl, _⟩, _⟩ := h
    rfl
  · obtain ⟨v, ⟨i, rfl, rfl⟩, k⟩ := h
    refine ⟨_, pss_one (ps_ret (pe_and (pe_callB call_isi (by rfl) T.bi_isinstance boot_isinstance (pa_cons (pv 0) (pa_cons (pe_bltn (v := .ty "int") (by rfl) T.bi_int boot_int rfl) (pa_nil)))) (pe_one (pe_not (pe_callB call_isi (by rfl) T.bi_isinstance boot_isinstance (pa_cons (pv 0) (pa_cons (pe_bltn (v := .ty "bool") (by rfl) T.bi_bool boot_bool rfl) (pa_nil)))))))), ?_⟩
    refine' s_ret (ev_is ?h ?e) (fun H1 e => k H1 e)
    case h => walk_at "sit ev"
    case e => simp
def rFrom : Hp → List V → V → Prop := fun _ vs v => ∃ i j : Int, vs = [.int i, .int j] ∧ v = .bl (decide (j ≤ i))
theorem mono_from : Mono rFrom := fun _ _ _ _ _ h => h
theorem ok_is_from {f : Addr} {fd : FuncData} (D : C8.Def K mg "is_from" st_is_from f fd) (b : Binds K fd ["value", "least"] []) (c_is_integer : C8.Cal P w K mg base 1 "is_integer" (spP rInteger) []) : C8.Cal P w K mg base 2 "is_from" (spP rFrom) [] := by
  refine C8.cal0 D b .nil sc_is_from (fun vs H Q E h => ?_) (fun cdv A outer s H vs Q E hr h => ?_)
  · obtain ⟨v, ⟨i, j, rfl, _⟩, _⟩ := h
    rfl
  · obtain ⟨v, ⟨i, j, rfl, rfl⟩, k⟩ := h
    refine ⟨_, pss_one (ps_ret (pe_and (C8.pe_c c_is_integer hr (by decide) (by rfl) (pa_cons (pv 0) (pa_nil))) (pe_one (pe_cmpR (op_ge) (pv 0) (pv 1) (nomark _))))), ?_⟩
    exact s_ret (ev_is (ev_andV (b := decide (j ≤ i)) (ev_call (ea_cons (ev_var rfl) ea_nil) (spv mono_integer ⟨i, rfl, rfl⟩)) (fun _ => ev_op (ev_var rfl) (ev_var rfl) rv_I0)) (by simp)) (fun H1 e => k H1 e)

/-! ### a rule's arguments -/
structure RuleD where
  need : Int
  of : Int
  base : Int
  more : Int
  most : Int
  calm : Int
  back : Str
  top : Int
  under : Int
  up : Bool
  hears : Str
def RuleD.vals (r : RuleD) : List V := [.int r.need, .int r.of, .int r.base, .int r.more, .int r.most, .int r.calm, .str r.back, .int r.top, .int r.under, .bl r.up, .str r.hears]
structure RuleD.ok (r : RuleD) : Prop where
  need : 1 ≤ r.need
  of : r.need ≤ r.of
  base : 1 ≤ r.base
  more : 0 ≤ r.more
  most : r.base ≤ r.most
  calm : 0 ≤ r.calm
  back : r.back = "half" ∨ r.back = "open" ∨ r.back = "trial"
  top : 0 ≤ r.top
  under : 1 ≤ r.under
  topu : r.top ≤ r.under
  hears : r.hears = "fault" ∨ r.hears = "no" ∨ r.hears = "out"
  moreB : r.more < 1000000
  underB : r.under < 1000000
theorem okOf {need of base more most calm top under : Int} {back hears : Str} {up : Bool} (h : 1 ≤ need ∧ need ≤ of ∧ 1 ≤ base ∧ 0 ≤ more ∧ base ≤ most ∧ 0 ≤ calm ∧ 0 ≤ top ∧ 1 ≤ under ∧ top ≤ under ∧ more < 1000000 ∧ under < 1000000)
    (hb : back = "half" ∨ back = "open" ∨ back = "trial") (hh : hears = "fault" ∨ hears = "no" ∨ hears = "out") : RuleD.ok ⟨need, of, base, more, most, calm, back, top, under, up, hears⟩ :=
  ⟨h.1, h.2.1, h.2.2.1, h.2.2.2.1, h.2.2.2.2.1, h.2.2.2.2.2.1, hb, h.2.2.2.2.2.2.1, h.2.2.2.2.2.2.2.1, h.2.2.2.2.2.2.2.2.1, hh, h.2.2.2.2.2.2.2.2.2.1, h.2.2.2.2.2.2.2.2.2.2⟩
def capOf (base more most : Int) : Int := if more = 0 then 1 else 1 + (most - base + more - 1) / more
def flds (r : RuleD) : List (Str × V) := putF "cap" (.int (capOf r.base r.more r.most)) (putF "hears" (.str r.hears) (putF "up" (.bl r.up) (putF "under" (.int r.under) (putF "top" (.int r.top) (putF "back" (.str r.back)
  (putF "calm" (.int r.calm) (putF "most" (.int r.most) (putF "more" (.int r.more) (putF "base" (.int r.base) (putF "of" (.int r.of) (putF "need" (.int r.need) [])))))))))))
theorem fl_ne {f g : Str} {v : V} {fs : List (Str × V)} {o : Option V} (h : (g = f) = False) (k : fs.lookup g = o) : (putF f v fs).lookup g = o := by
  rw [lookup_putF, if_neg (by rw [h]; exact id)]
  exact k
theorem fl_eq {f : Str} {v : V} {fs : List (Str × V)} : (putF f v fs).lookup f = some v := by
  rw [lookup_putF, if_pos rfl]
theorem ne_F {f g : Str} (h : decide (g = f) = false) : (g = f) = False := eq_false (of_decide_eq_false h)
local macro_rules | `(tactic| walk_at "sit fl") => `(tactic| (unfold flds; repeat (first | (with_reducible exact fl_eq) | refine fl_ne (ne_F (by decide +kernel)) ?_ | rfl)))
theorem fl_need (r : RuleD) : (flds r).lookup ("need" : Str) = some (V.int r.need) := by walk_at "sit fl"
theorem fl_of (r : RuleD) : (flds r).lookup ("of" : Str) = some (V.int r.of) := by walk_at "sit fl"
theorem fl_base (r : RuleD) : (flds r).lookup ("base" : Str) = some (V.int r.base) := by walk_at "sit fl"
theorem fl_more (r : RuleD) : (flds r).lookup ("more" : Str) = some (V.int r.more) := by walk_at "sit fl"
theorem fl_most (r : RuleD) : (flds r).lookup ("most" : Str) = some (V.int r.most) := by walk_at "sit fl"
theorem fl_calm (r : RuleD) : (flds r).lookup ("calm" : Str) = some (V.int r.calm) := by walk_at "sit fl"
theorem fl_back (r : RuleD) : (flds r).lookup ("back" : Str) = some (V.str r.back) := by walk_at "sit fl"
theorem fl_top (r : RuleD) : (flds r).lookup ("top" : Str) = some (V.int r.top) := by walk_at "sit fl"
theorem fl_under (r : RuleD) : (flds r).lookup ("under" : Str) = some (V.int r.under) := by walk_at "sit fl"
theorem fl_up (r : RuleD) : (flds r).lookup ("up" : Str) = some (V.bl r.up) := by walk_at "sit fl"
theorem fl_hears (r : RuleD) : (flds r).lookup ("hears" : Str) = some (V.str r.hears) := by walk_at "sit fl"
theorem fl_cap (r : RuleD) : (flds r).lookup ("cap" : Str) = some (V.int (capOf r.base r.more r.most)) := by walk_at "sit fl"
theorem fl_time (r : RuleD) : (flds r).lookup ("time" : Str) = none := by walk_at "sit fl"
theorem fl_limit (r : RuleD) : (flds r).lookup ("limit" : Str) = none := by walk_at "sit fl"
theorem in_backs {b : Str} (h : b = "half" ∨ b = "open" ∨ b = "trial") : inV (.str b) [.str "half", .str "open", .str "trial"] = true := by
  rcases h with rfl | rfl | rfl <;> decide +kernel
theorem in_hears {b : Str} (h : b = "fault" ∨ b = "no" ∨ b = "out") : inV (.str b) [.str "fault", .str "no", .str "out"] = true := by
  rcases h with rfl | rfl | rfl <;> decide +kernel

local macro_rules | `(tactic| walk_at "sit ev") => `(tactic| first
  | exact spv mono_from ⟨_, _, rfl, rfl⟩
  | exact rv_niT (by assumption) rfl rfl
  | exact rv_isT (by assumption) rfl rfl
  | exact rv_isN
  | exact rv_notN
  | ((with_reducible apply ev_call) <;> walk_at "sit ev"))
local macro_rules | `(tactic| walk_at "sit b") => `(tactic| first | rfl | (simp; done) | (simp; omega) | (simp [*]; done))
/-- a guard that is not taken -/
local macro_rules | `(tactic| walk_at "sit no") => `(tactic| (refine' g_no (by assumption) (by assumption) (et_is ?h ?e) (fun H1 m => ?_); (case h => walk_at "sit ev"); (case e => walk_at "sit b")))
local macro_rules | `(tactic| walk_at "sit ret") => `(tactic| (refine' g_ret (by assumption) (by assumption) (ev_is ?h ?e) ?k; (case h => walk_at "sit ev"); (case e => walk_at "sit b")))

def rWc : Hp → List V → V → Prop := fun _ vs v => ∃ need of base more most calm : Int, vs = [.int need, .int of, .int base, .int more, .int most, .int calm] ∧ (1 ≤ need ∧ need ≤ of ∧ 1 ≤ base ∧ 0 ≤ more ∧ base ≤ most ∧ 0 ≤ calm) ∧ v = .non
theorem mono_wc : Mono rWc := fun _ _ _ _ _ h => h
theorem ok_wc {f : Addr} {fd : FuncData} (D : C8.Def K mg "_wrong_count" st_wrong_count f fd) (b : Binds K fd ["need", "of", "base", "more", "most", "calm"] []) (c_is_from : C8.Cal P w K mg base 2 "is_from" (spP rFrom) []) :
    C8.Cal P w K mg base 3 "_wrong_count" (spP rWc) [] := by
  refine C8.cal0 D b .nil sc_wrong_count (fun vs H Q E h => ?_) (fun cdv A outer s H vs Q E hr h => ?_)
  · obtain ⟨v, ⟨_, _, _, _, _, _, rfl, _⟩, _⟩ := h
    rfl
  · obtain ⟨v, ⟨need, of, base, more, most, calm, rfl, ⟨h1, h2, h3, h4, h5, h6⟩, rfl⟩, k⟩ := h
    refine ⟨_, pss_cons (ps_if (pt_not (pt_val (C8.pe_c c_is_from hr (by decide) (by rfl) (pa_cons (pv 0) (pa_cons (pe_int) (pa_nil)))))) (pss_one (ps_ret (pe_str))) (pss_nil))
      (pss_cons (ps_if (pt_not (pt_val (C8.pe_c c_is_from hr (by decide) (by rfl) (pa_cons (pv 1) (pa_cons (pv 0) (pa_nil)))))) (pss_one (ps_ret (pe_str))) (pss_nil))
      (pss_cons (ps_if (pt_not (pt_val (C8.pe_c c_is_from hr (by decide) (by rfl) (pa_cons (pv 2) (pa_cons (pe_int) (pa_nil)))))) (pss_one (ps_ret (pe_str))) (pss_nil))
      (pss_cons (ps_if (pt_not (pt_val (C8.pe_c c_is_from hr (by decide) (by rfl) (pa_cons (pv 3) (pa_cons (pe_int) (pa_nil)))))) (pss_one (ps_ret (pe_str))) (pss_nil))
      (pss_cons (ps_if (pt_not (pt_val (C8.pe_c c_is_from hr (by decide) (by rfl) (pa_cons (pv 4) (pa_cons (pv 2) (pa_nil)))))) (pss_one (ps_ret (pe_str))) (pss_nil))
      (pss_cons (ps_if (pt_not (pt_val (C8.pe_c c_is_from hr (by decide) (by rfl) (pa_cons (pv 5) (pa_cons (pe_int) (pa_nil)))))) (pss_one (ps_ret (pe_str))) (pss_nil))
      (pss_one (ps_ret (pe_non)))))))), ?_⟩
    have md := mdE H
    have m := Ex.refl H
    walk_at "sit no"
    walk_at "sit no"
    walk_at "sit no"
    walk_at "sit no"
    walk_at "sit no"
    walk_at "sit no"
    walk_at "sit ret"
    exact k
def rWm : Hp → List V → V → Prop := fun _ vs v => ∃ (back hears : Str) (top under : Int) (up : Bool), vs = [.str back, .int top, .int under, .bl up, .str hears] ∧
  ((back = "half" ∨ back = "open" ∨ back = "trial") ∧ 0 ≤ top ∧ 1 ≤ under ∧ top ≤ under ∧ (hears = "fault" ∨ hears = "no" ∨ hears = "out")) ∧ v = .non
theorem mono_wm : Mono rWm := fun _ _ _ _ _ h => h
theorem ok_wm {f : Addr} {fd : FuncData} (D : C8.Def K mg "_wrong_manner" st_wrong_manner f fd) (b : Binds K fd ["back", "top", "under", "up", "hears"] []) (T : Tb K mg CR aB aH) (c_is_from : C8.Cal P w K mg base 2 "is_from" (spP rFrom) []) :
    C8.Cal P w K mg base 3 "_wrong_manner" (spP rWm) [] := by
  refine C8.cal0 D b .nil sc_wrong_manner (fun vs H Q E h => ?_) (fun cdv A outer s H vs Q E hr h => ?_)
  · obtain ⟨v, ⟨_, _, _, _, _, rfl, _⟩, _⟩ := h
    rfl
  · obtain ⟨v, ⟨back, hears, top, under, up, rfl, ⟨h1, h2, h3, h4, h5⟩, rfl⟩, k⟩ := h
    refine ⟨_, pss_cons (ps_if (pt_cmpR (op_notIn_seq) (pv 0) (C8.pe_gc (by rfl) T.gc_BACKS) (by rfl)) (pss_one (ps_ret (pe_str))) (pss_nil))
      (pss_cons (ps_if (pt_not (pt_val (C8.pe_c c_is_from hr (by decide) (by rfl) (pa_cons (pv 1) (pa_cons (pe_int) (pa_nil)))))) (pss_one (ps_ret (pe_str))) (pss_nil))
      (pss_cons (ps_if (pt_not (pt_val (C8.pe_c c_is_from hr (by decide) (by rfl) (pa_cons (pv 2) (pa_cons (pe_callB (call_max2 rfl) (by rfl) T.bi_max boot_max (pa_cons (pe_int) (pa_cons (pv 1) (pa_nil)))) (pa_nil)))))) (pss_one (ps_ret (pe_str))) (pss_nil))
      (pss_cons (ps_if (pt_not (pt_val (pe_callB call_isi (by rfl) T.bi_isinstance boot_isinstance (pa_cons (pv 3) (pa_cons (pe_bltn (v := .ty "bool") (by rfl) T.bi_bool boot_bool rfl) (pa_nil)))))) (pss_one (ps_ret (pe_str))) (pss_nil))
      (pss_cons (ps_if (pt_cmpR (op_notIn_seq) (pv 4) (C8.pe_gc (by rfl) T.gc_HEARINGS) (by rfl)) (pss_one (ps_ret (pe_str))) (pss_nil))
      (pss_one (ps_ret (pe_non))))))), ?_⟩
    have md := mdE H
    have m := Ex.refl H
    have sB := T.sB H
    have sH := T.sH H
    have i1 := in_backs h1
    have i2 := in_hears h5
    walk_at "sit no"
    walk_at "sit no"
    refine' g_no (by assumption) (by assumption) (et_is ?h ?e) (fun H1 m => ?_)
    case h => walk_at "sit ev"
    case e =>
      simp
      split <;> omega
    walk_at "sit no"
    walk_at "sit no"
    walk_at "sit ret"
    exact k
def rLl : Hp → List V → V → Prop := fun _ vs v => ∃ base more most : Int, vs = [.int base, .int more, .int most] ∧ (0 ≤ more ∧ more < 1000000) ∧ v = .int (capOf base more most)
theorem mono_ll : Mono rLl := fun _ _ _ _ _ h => h
theorem ok_ll {f : Addr} {fd : FuncData} (D : C8.Def K mg "_least_last" st_least_last f fd) (b : Binds K fd ["base", "more", "most"] []) : C8.Cal P w K mg base 2 "_least_last" (spP rLl) [] := by
  refine C8.cal0 D b .nil sc_least_last (fun vs H Q E h => ?_) (fun cdv A outer s H vs Q E hr h => ?_)
  · obtain ⟨v, ⟨_, _, _, rfl, _⟩, _⟩ := h
    rfl
  · obtain ⟨v, ⟨base, more, most, rfl, ⟨h1, h2⟩, rfl⟩, k⟩ := h
    refine ⟨_, pss_cons (ps_if (pt_cmpR (op_eq) (pv 1) (pe_int) (nomark _)) (pss_one (ps_ret (pe_int))) (pss_nil))
      (pss_one (ps_ret (pe_op op_add (pe_int) (pe_op op_fdiv (pe_op op_sub (pe_op op_add (pe_op op_sub (pv 2) (pv 0)) (pv 1)) (pe_int)) (pv 1))))), ?_⟩
    have md := mdE H
    have m := Ex.refl H
    by_cases h0 : more = 0
    · refine' g_yes md m (et_is ?h ?e) (fun H1 m => ?_)
      case h => walk_at "sit ev"
      case e => simp [h0]
      walk_at "sit ret"
      unfold capOf at k
      rw [if_pos h0] at k
      exact k
    · walk_at "sit no"
      refine' g_ret md (by assumption) ?h ?k
      case h =>
        refine ev_op ev_c (ev_op (ev_op (ev_op (ev_op (ev_var rfl) (ev_var rfl) rv_I0) (ev_var rfl) rv_I0) ev_c rv_I0) (ev_var rfl) (rv_I ⟨by omega, by omega⟩)) rv_I0
      unfold capOf at k
      rw [if_neg h0] at k
      exact k
end

section
variable {P : Program} {w : World} {K : PySem.W.Frag} {mg : Str → Option Value} {base : Heap} {CR aB aH : Addr}
/-! ### a rule is made -/
def spInit (CR : Addr) : Sp := fun vs H Q _ => ∃ (H0 : Hp) (p dx : Addr) (r : RuleD), vs = .ref p :: r.vals ∧ r.ok ∧ H0 p = none ∧ Ex H0 H ∧ H p = some (.ins CR dx []) ∧
  ∀ H', Ex H0 H' → H' p = some (.ins CR dx (flds r)) → Q .non H'
theorem pl {f : Str} {v : V} {fs : List (Str × V)} {n : Nat} (h : fs.length ≤ n) : (putF f v fs).length ≤ n + 1 := Nat.le_trans (length_putF f v fs) (Nat.succ_le_succ h)
theorem ok_init {f : Addr} {fd : FuncData} (D : C8.Fun K "__init__" "Rule.__init__" st_Rule___init__ f fd) (b : Binds K fd ["self", "need", "of", "base", "more", "most", "calm", "back", "top", "under", "up", "hears"] []) (M : Mk K CR f) (mC : mg "Rule" = some (.ref CR)) (T : Tb K mg CR aB aH)
    (c_wrong_count : C8.Cal P w K mg base 3 "_wrong_count" (spP rWc) []) (c_wrong_manner : C8.Cal P w K mg base 3 "_wrong_manner" (spP rWm) []) (c_least_last : C8.Cal P w K mg base 2 "_least_last" (spP rLl) []) : C8.Mak P w K mg base 4 "Rule" CR (spInit CR) [] := by
  refine C8.mak0 M mC D b .nil sc_Rule___init__ (fun vs H Q E h => ?_) (fun cdv A outer s H vs Q E hr h => ?_)
  · obtain ⟨H0, p, dx, r, rfl, _⟩ := h
    rfl
  · obtain ⟨H0, p, dx, r, rfl, ok, np, e0, hp, k⟩ := h
    refine ⟨_, pss_cons (ps_set (i := 12) sc_Rule___init__.nd rfl (Or.inl rfl) (C8.pe_c c_wrong_count hr (by decide) (by rfl) (pa_cons (pv 1) (pa_cons (pv 2) (pa_cons (pv 3) (pa_cons (pv 4) (pa_cons (pv 5) (pa_cons (pv 6) (pa_nil)))))))))
      (pss_cons (ps_if (pt_cmpR (op_isN) (pv 12) (pe_non) (nomark _)) (pss_one (ps_set (i := 12) sc_Rule___init__.nd rfl (Or.inl rfl) (C8.pe_c c_wrong_manner hr (by decide) (by rfl) (pa_cons (pv 7) (pa_cons (pv 8) (pa_cons (pv 9) (pa_cons (pv 10) (pa_cons (pv 11) (pa_nil))))))))) (pss_nil))
      (pss_cons (ps_if (pt_cmpR (op_notN) (pv 12) (pe_non) (nomark _)) (pss_never) (pss_nil))
      (pss_cons (ps_fld (pv 0) (pv 1) rfl)
      (pss_cons (ps_fld (pv 0) (pv 2) rfl)
      (pss_cons (ps_fld (pv 0) (pv 3) rfl)
      (pss_cons (ps_fld (pv 0) (pv 4) rfl)
      (pss_cons (ps_fld (pv 0) (pv 5) rfl)
      (pss_cons (ps_fld (pv 0) (pv 6) rfl)
      (pss_cons (ps_fld (pv 0) (pv 7) rfl)
      (pss_cons (ps_fld (pv 0) (pv 8) rfl)
      (pss_cons (ps_fld (pv 0) (pv 9) rfl)
      (pss_cons (ps_fld (pv 0) (pv 10) rfl)
      (pss_cons (ps_fld (pv 0) (pv 11) rfl)
      (pss_one (ps_fld (pv 0) (C8.pe_c c_least_last hr (by decide) (by rfl) (pa_cons (pv 3) (pa_cons (pv 4) (pa_cons (pv 5) (pa_nil))))) rfl))))))))))))))), ?_⟩
    have md := mdM H0 p CR dx []
    have m : Mi H0 p CR dx [] H := ⟨e0, np, hp⟩
    refine g_asg md m (ev_call (ea_cons (ev_var rfl) (ea_cons (ev_var rfl) (ea_cons (ev_var rfl) (ea_cons (ev_var rfl) (ea_cons (ev_var rfl) (ea_cons (ev_var rfl) ea_nil))))))
      (spv mono_wc ⟨r.need, r.of, r.base, r.more, r.most, r.calm, rfl, ⟨ok.need, ok.of, ok.base, ok.more, ok.most, ok.calm⟩, rfl⟩)) fun H1 m => ?_
    refine g_yes md m (et_is (et_test (ev_op (ev_var rfl) ev_c rv_isN)) (by rfl)) fun H2 m => ?_
    refine g_asg1 md m (ev_call (ea_cons (ev_var rfl) (ea_cons (ev_var rfl) (ea_cons (ev_var rfl) (ea_cons (ev_var rfl) (ea_cons (ev_var rfl) ea_nil)))))
      (spv mono_wm ⟨r.back, r.hears, r.top, r.under, r.up, rfl, ⟨ok.back, ok.top, ok.under, ok.topu, ok.hears⟩, rfl⟩)) fun H3 m => ?_
    refine g_no md m (et_is (et_test (ev_op (ev_var rfl) ev_c rv_notN)) (by rfl)) fun H4 m => ?_
    refine g_fld m (ev_var rfl) (ev_var rfl) T.cl T.n_need (by decide) fun _ m => ?_
    refine g_fld m (ev_var rfl) (ev_var rfl) T.cl T.n_of (Nat.lt_of_le_of_lt (pl (Nat.le_refl 0)) (by decide)) fun _ m => ?_
    refine g_fld m (ev_var rfl) (ev_var rfl) T.cl T.n_base (Nat.lt_of_le_of_lt (pl (pl (Nat.le_refl 0))) (by decide)) fun _ m => ?_
    refine g_fld m (ev_var rfl) (ev_var rfl) T.cl T.n_more (Nat.lt_of_le_of_lt (pl (pl (pl (Nat.le_refl 0)))) (by decide)) fun _ m => ?_
    refine g_fld m (ev_var rfl) (ev_var rfl) T.cl T.n_most (Nat.lt_of_le_of_lt (pl (pl (pl (pl (Nat.le_refl 0))))) (by decide)) fun _ m => ?_
    refine g_fld m (ev_var rfl) (ev_var rfl) T.cl T.n_calm (Nat.lt_of_le_of_lt (pl (pl (pl (pl (pl (Nat.le_refl 0)))))) (by decide)) fun _ m => ?_
    refine g_fld m (ev_var rfl) (ev_var rfl) T.cl T.n_back (Nat.lt_of_le_of_lt (pl (pl (pl (pl (pl (pl (Nat.le_refl 0))))))) (by decide)) fun _ m => ?_
    refine g_fld m (ev_var rfl) (ev_var rfl) T.cl T.n_top (Nat.lt_of_le_of_lt (pl (pl (pl (pl (pl (pl (pl (Nat.le_refl 0)))))))) (by decide)) fun _ m => ?_
    refine g_fld m (ev_var rfl) (ev_var rfl) T.cl T.n_under (Nat.lt_of_le_of_lt (pl (pl (pl (pl (pl (pl (pl (pl (Nat.le_refl 0))))))))) (by decide)) fun _ m => ?_
    refine g_fld m (ev_var rfl) (ev_var rfl) T.cl T.n_up (Nat.lt_of_le_of_lt (pl (pl (pl (pl (pl (pl (pl (pl (pl (Nat.le_refl 0)))))))))) (by decide)) fun _ m => ?_
    refine g_fld m (ev_var rfl) (ev_var rfl) T.cl T.n_hears (Nat.lt_of_le_of_lt (pl (pl (pl (pl (pl (pl (pl (pl (pl (pl (Nat.le_refl 0))))))))))) (by decide)) fun _ m => ?_
    refine g_fld1 m (ev_call (ea_cons (ev_var rfl) (ea_cons (ev_var rfl) (ea_cons (ev_var rfl) ea_nil))) (spv mono_ll ⟨r.base, r.more, r.most, rfl, ⟨ok.more, ok.moreB⟩, rfl⟩)) (ev_var rfl) T.cl T.n_cap
      (Nat.lt_of_le_of_lt (pl (pl (pl (pl (pl (pl (pl (pl (pl (pl (pl (Nat.le_refl 0)))))))))))) (by decide)) fun H5 m => ?_
    exact k H5 m.ex m.at_
/-- what stands at p is the rule r -/
def RuleAt (CR : Addr) (r : RuleD) : HO → Prop := fun o => ∃ dx, o = .ins CR dx (flds r)
theorem evN_rule {σ : L2.St} {H : Hp} {E : XK} {ta : TA} {vs : List V} {r : RuleD} (h : EvA ta σ H vs) (e : vs = r.vals) (ok : r.ok) : EvN (tMake CR (spInit CR) [] E ta) σ H (RuleAt CR r) := fun H1 e1 Q q =>
  h H1 e1 _ fun H2 e2 x dx nx ndx nex => by
    subst e
    refine ⟨H2, x, dx, r, rfl, ok, nx, fun b o hb => ?_, upd_same, fun H' e3 h3 => ⟨rfl, q x H' _ (fresh_back e2 nx) (e2.trans e3) h3 ⟨dx, rfl⟩⟩⟩
    rw [upd_ne (ne_of_none hb nx), upd_ne (ne_of_none hb ndx)]
    exact hb
end

section
variable {P : Program} {w : World} {K : PySem.W.Frag} {mg : Str → Option Value} {base : Heap} {CR aB aH : Addr}
def timeOf (r : RuleD) (j : Int) : Int := if r.most < r.base + r.more * (j - 1) then r.most else r.base + r.more * (j - 1)
def rTime (CR : Addr) : Hp → List V → V → Prop := fun H vs v => ∃ (p : Addr) (j : Int) (r : RuleD) (o : HO), vs = [.ref p, .int j] ∧ H p = some o ∧ RuleAt CR r o ∧ r.ok ∧ v = .int (timeOf r j)
theorem mono_time : Mono (rTime CR) := fun _ _ _ _ e ⟨p, j, r, o, a, h, b⟩ => ⟨p, j, r, o, a, e _ _ h, b⟩
theorem ok_time {f : Addr} {fd : FuncData} (D : C8.Fun K "time" "Rule.time" st_Rule_time f fd) (b : Binds K fd ["self", "j"] []) (me : Meth K CR "time" f) (T : Tb K mg CR aB aH) : C8.Met P w K mg base 2 CR "time" (spP (rTime CR)) [] := by
  refine C8.met0 T.cl me D b sc_Rule_time (fun vs H Q E h => ?_) (fun cdv A outer s H vs Q E hr h => ?_)
  · obtain ⟨v, ⟨_, _, _, _, rfl, _⟩, _⟩ := h
    rfl
  · obtain ⟨v, ⟨p, j, r, _, rfl, hp, ⟨dx, rfl⟩, ok, rfl⟩, k⟩ := h
    refine ⟨_, pss_one (ps_ret (pe_callB (call_min2 rfl) (by rfl) T.bi_min boot_min (pa_cons (pe_op op_add (pe_fld (pv 0) rfl) (pe_op op_mul (pe_fld (pv 0) rfl) (pe_op op_sub (pv 1) (pe_int)))) (pa_cons (pe_fld (pv 0) rfl) (pa_nil))))), ?_⟩
    have m1 := ok.more
    have m2 := ok.moreB
    refine' g_ret (mdE H) (Ex.refl H) (ev_cb (ea_cons (ev_op (ev_fld (ev_var rfl) hp T.cl T.n_base (fl_base r)) (ev_op (ev_fld (ev_var rfl) hp T.cl T.n_more (fl_more r)) (ev_op (ev_var rfl) ev_c rv_I0) (rv_I ?c)) rv_I0)
      (ea_cons (ev_fld (ev_var rfl) hp T.cl T.n_most (fl_most r)) ea_nil)) rc_min) k
    case c => exact Or.inl ⟨by omega, by omega⟩
theorem ev_time {σ : L2.St} {H : Hp} {ta tb : TE} {E : XK} {q dx : Addr} {r : RuleD} {n : Int} (h1 : Ev ta σ H (.ref q)) (hq : H q = some (.ins CR dx (flds r))) (ok : r.ok) (h2 : Ev tb σ H (.int n)) : Ev (tMeth CR "time" (spP (rTime CR)) [] E ta (tCons tb tNil)) σ H (.int (timeOf r n)) :=
  ev_meth h1 hq (fl_time r) (ea_cons h2 ea_nil) (spv mono_time ⟨q, n, r, _, rfl, hq, ⟨dx, rfl⟩, ok, rfl⟩)
end

/-! ### readings, step by step -/
section
variable {K : PySem.W.Frag}
theorem x_add {i j : Int} {H : Hp} {Q : VK} (q : Q (.int (i + j)) H) : (rI0 fun i j => V.int (i + j)) (.int i) (.int j) H Q := ⟨i, j, rfl, rfl, q⟩
theorem x_ret {te : TE} {D : Ends} {σ : L2.St} {H : Hp} (h : te σ H D.rt) : tRet te D σ H := h
theorem x_op {r : R2} {ta tb : TE} {σ : L2.St} {H : Hp} {Q : VK} (h : ta σ H fun x H1 => tb σ H1 fun y H2 => r x y H2 Q) : tOp r ta tb σ H Q := h
theorem x_asg {te : TE} {tz : TS} {i : Nat} {D : Ends} {σ : L2.St} {H : Hp} (h : te σ H fun v H1 => tz D (σ.set i (some v)) H1) : tSeq (tAsg te (gName i)) tz D σ H := h
theorem x_tup {ta : TA} {σ : L2.St} {H : Hp} {Q : VK} (h : ta σ H fun xs H1 => xs.length ≤ sizeLine ∧ ∀ p, H1 p = none → Q (.ref p) (upd H1 p (.tup xs))) : tTup ta σ H Q := h
theorem x_lst {ta : TA} {σ : L2.St} {H : Hp} {Q : VK} (h : ta σ H fun xs H1 => xs.length ≤ sizeLine ∧ ∀ p, H1 p = none → Q (.ref p) (upd H1 p (.lst xs))) : tLst ta σ H Q := h
theorem x_cons {te : TE} {tr : TA} {σ : L2.St} {H : Hp} {Q : List V → Hp → Prop} (h : te σ H fun x H1 => tr σ H1 fun xs H2 => Q (x :: xs) H2) : tCons te tr σ H Q := h
theorem x_nil {σ : L2.St} {H : Hp} {Q : List V → Hp → Prop} (h : Q [] H) : tNil σ H Q := h
theorem x_par {i j : Nat} {ta tb : TE} {tz : TS} {D : Ends} {σ : L2.St} {H : Hp} (h : ta σ H fun x H1 => tb σ H1 fun y H2 => tz D ((σ.set i (some x)).set j (some y)) H2) : tSeq (tPar i j (tCons ta (tCons tb tNil))) tz D σ H := by
  show tCons ta (tCons tb tNil) σ H fun vs H1 => ∃ v w, vs = [v, w] ∧ tz D ((σ.set i (some v)).set j (some w)) H1
  refine x_cons ?_
  exact cast (congrArg (fun q => ta σ H q) (funext fun x => funext fun H1 => by
    show (tb σ H1 fun y H2 => tz D ((σ.set i (some x)).set j (some y)) H2) = (tb σ H1 fun y H2 => ∃ v w, [x, y] = [v, w] ∧ tz D ((σ.set i (some v)).set j (some w)) H2)
    refine congrArg (fun q => tb σ H1 q) (funext fun y => funext fun H2 => propext ⟨fun h => ⟨x, y, rfl, h⟩, fun ⟨v, w, e, h⟩ => by cases e; exact h⟩))) h
theorem x_call {sp : Sp} {dvs : List V} {E : XK} {t : TA} {σ : L2.St} {H : Hp} {Q : VK} (h : t σ H fun vs H1 => sp (vs ++ dvs) H1 Q E) : tCall sp dvs E t σ H Q := h
end

/-! ### a law's own words -/
section
variable {P : Program} {w : World} {K : PySem.W.Frag} {mg : Str → Option Value} {base : Heap} {CR aB aH : Addr}
def spLaw (K : PySem.W.Frag) : Sp := fun vs H Q _ => ∃ (a : Addr) (ns : List Int), vs = [.ref a] ∧ SqL K H a (ns.map V.int) ∧ ns.length ≤ 63 ∧ ∀ H', Q (.bl true) H'
theorem x_deal {σ : L2.St} {a : Addr} {b : Int} {ns : List Int} {H : Hp} {E : XK} {ta : TA} {Q : VK} (h : EvA ta σ H [.ref a, .int b]) (hs : SqL K H a (ns.map V.int)) (hn : ns.length ≤ 63) (b0 : 0 ≤ b) (b1 : b ≤ 100) (k : ∀ d l H', In d l H H' → Q (.ref d) H') : tCall (spDeal K) [] E ta σ H Q :=
  h H (Ex.refl H) _ fun H2 e2 => ⟨a, b, ns, rfl, ex_l e2 hs, hn, b0, b1, fun d l H' nd nl e dk => k d l H' ⟨e2.trans e, fresh_back e2 nd, fresh_back e2 nl, dk⟩⟩
theorem x_meth {C : Addr} {m : Str} {sp : Sp} {dvs : List V} {E : XK} {ta : TE} {t : TA} {σ : L2.St} {H : Hp} {Q : VK} (h : ta σ H fun x H1 => ∃ a dx fs, x = .ref a ∧ H1 a = some (.ins C dx fs) ∧ fs.lookup m = none ∧ t σ H1 fun vs H2 => sp (x :: (vs ++ dvs)) H2 Q E) : tMeth C m sp dvs E ta t σ H Q := h
theorem x_asgG {te : TE} {g : TG} {tz : TS} {D : Ends} {σ : L2.St} {H : Hp} (h : te σ H fun v H1 => g v σ H1 fun σ2 H2 => tz D σ2 H2) : tSeq (tAsg te g) tz D σ H := h
end

/-! ### the text of a rule -/
structure RuleT (r : RuleD) : Prop where
  ok : r.ok
  of : r.of < 1000000
  most : r.most < 1000000
  calm : r.calm < 1000000
/-- numbers of at most two digits -/
structure RuleN (r : RuleD) : Prop where
  ok : r.ok
  of : r.of < 100
  most : r.most < 100
  calm : r.calm < 100
  more : r.more < 100
  under : r.under < 100
theorem RuleN.t {r : RuleD} (h : RuleN r) : RuleT r := ⟨h.ok, by have := h.of; omega, by have := h.most; omega, by have := h.calm; omega⟩
abbrev wl (s : String) : List Nat := s.toList.map Char.toNat
abbrev num (i : Int) : List Nat := TL.numL i.toNat
def sideW (up : Bool) : List Nat := if up = true then wl "up" else wl "down"
def ruleWords (r : RuleD) : List (List Nat) := [wl "leave", num r.need, wl "of", num r.of, wl "out", num r.base, wl "more", num r.more, wl "most", num r.most, wl "calm", num r.calm, wl "back", TL.tl r.back,
  wl "share", num r.top ++ ([47] ++ num r.under), sideW r.up, wl "hears", TL.tl r.hears]
def textOf (r : RuleD) : Str := SX.S (TL.joinL [32] (ruleWords r))
theorem num_no {s : Nat} (h : s < 48 ∨ 57 < s) (i : Int) : s ∉ num i := TL.numL_free h
theorem words_no (r : RuleD) (ok : r.ok) : ∀ p ∈ ruleWords r, 32 ∉ p := by
  have hb : 32 ∉ TL.tl r.back := by rcases ok.back with h | h | h <;> rw [h] <;> decide +kernel
  have hh : 32 ∉ TL.tl r.hears := by rcases ok.hears with h | h | h <;> rw [h] <;> decide +kernel
  have hs : 32 ∉ sideW r.up := by cases r.up <;> decide +kernel
  have hn := num_no (s := 32) (Or.inl (by decide))
  have ht : 32 ∉ num r.top ++ ([47] ++ num r.under) := by
    intro h
    rcases List.mem_append.mp h with h | h
    · exact hn _ h
    · rcases List.mem_append.mp h with h | h
      · revert h; decide
      · exact hn _ h
  have hl : ∀ s : String, decide (32 ∈ wl s) = false → 32 ∉ wl s := fun s h => of_decide_eq_false h
  intro p hp
  unfold ruleWords at hp
  simp only [List.mem_cons, List.not_mem_nil, or_false] at hp
  rcases hp with rfl | rfl | rfl | rfl | rfl | rfl | rfl | rfl | rfl | rfl | rfl | rfl | rfl | rfl | rfl | rfl | rfl | rfl | rfl
  all_goals first | exact hn _ | exact hb | exact hh | exact hs | exact ht | exact hl _ (by decide +kernel)
theorem text_words {r r' : RuleD} (ok : r.ok) (ok' : r'.ok) (h : textOf r = textOf r') : ruleWords r = ruleWords r' := by
  have e := SX.S_inj h
  have h1 := TL.spl_join (s := 32) (S := []) (parts := ruleWords r) (by unfold ruleWords; exact List.cons_ne_nil _ _) (words_no r ok)
  have h2 := TL.spl_join (s := 32) (S := []) (parts := ruleWords r') (by unfold ruleWords; exact List.cons_ne_nil _ _) (words_no r' ok')
  rw [← h1, ← h2, e]
theorem num_inj {i j : Int} (hi : 0 ≤ i) (hj : 0 ≤ j) (h : num i = num j) : i = j := by
  have := TL.numL_inj h
  omega
theorem side_inj {a b : Bool} (h : sideW a = sideW b) : a = b := by
  cases a <;> cases b <;> first | rfl | (exfalso; revert h; decide +kernel)
theorem text_inj {r r' : RuleD} (ok : r.ok) (ok' : r'.ok) (h : textOf r = textOf r') : r = r' := by
  have e := text_words ok ok' h
  unfold ruleWords at e
  simp only [List.cons.injEq, and_true, true_and] at e
  obtain ⟨e1, e2, e3, e4, e5, e6, e7, e8, e9, e10⟩ := e
  have sp : ∀ a b : Int, TL.spl [47] 0 [] (num a ++ ([47] ++ num b)) = [num a, num b] := fun a b =>
    TL.spl_join (s := 47) (S := []) (parts := [num a, num b]) (by simp) (fun p hp => by
      simp only [List.mem_cons, List.not_mem_nil, or_false] at hp
      rcases hp with rfl | rfl <;> exact num_no (Or.inl (by decide)) _)
  have es : [num r.top, num r.under] = [num r'.top, num r'.under] := by rw [← sp, ← sp, e8]
  simp only [List.cons.injEq, and_true] at es
  have n1 := num_inj (by have := ok.need; omega) (by have := ok'.need; omega) e1
  have n2 := num_inj (by have := ok.need; have := ok.of; omega) (by have := ok'.need; have := ok'.of; omega) e2
  have n3 := num_inj (by have := ok.base; omega) (by have := ok'.base; omega) e3
  have n4 := num_inj ok.more ok'.more e4
  have n5 := num_inj (by have := ok.base; have := ok.most; omega) (by have := ok'.base; have := ok'.most; omega) e5
  have n6 := num_inj ok.calm ok'.calm e6
  have n7 := TL.ext_tl e7
  have n8 := num_inj ok.top ok'.top es.1
  have n9 := num_inj (by have := ok.under; omega) (by have := ok'.under; omega) es.2
  have n10 := side_inj e9
  have n11 := TL.ext_tl e10
  cases r
  cases r'
  simp only at n1 n2 n3 n4 n5 n6 n7 n8 n9 n10 n11
  subst n1 n2 n3 n4 n5 n6 n7 n8 n9 n10 n11
  rfl
theorem numS {i : Int} (h : 0 ≤ i) : TL.tl ((toString i : String) : Str) = num i := by
  obtain ⟨n, rfl⟩ : ∃ n : Nat, i = (n : Int) := ⟨i.toNat, by omega⟩
  exact TL.tl_num n
theorem numLen {i : Int} (h : 0 ≤ i) (h1 : i < 1000000) : ((toString i : String) : Str).length ≤ 6 := by
  rw [TL.len_tl, numS h]
  exact TL.numL_len (by decide) (by omega)
theorem numLog {i : Int} (h : 0 ≤ i) (h1 : i < 1000000) : i.natAbs.log2 < 1920 := by
  by_cases h0 : i.natAbs = 0
  · rw [h0]; decide
  · exact (Nat.log2_lt h0).mpr (Nat.lt_of_lt_of_le (show i.natAbs < 2 ^ 20 by omega) (Nat.pow_le_pow_right (by decide) (by decide)))
theorem lenA (x y : Str) : (x ++ y).length = x.length + y.length := by rw [TL.len_tl, TL.tl_append, List.length_append, ← TL.len_tl, ← TL.len_tl]
theorem lenL (s : String) : (Str.ofString s).length = (wl s).length := by rw [TL.len_tl, TL.tl_ofString]
theorem len0 : Str.empty.length = 0 := rfl
theorem tl0 : TL.tl Str.empty = [] := rfl

section
variable {P : Program} {w : World} {K : PySem.W.Frag} {mg : Str → Option Value} {base : Heap} {CR aB aH : Addr}
def rSide : Hp → List V → V → Prop := fun _ vs v => ∃ up : Bool, vs = [.bl up] ∧ v = .str (if up = true then "up" else "down")
theorem mono_side : Mono rSide := fun _ _ _ _ _ h => h
theorem ok_side {f : Addr} {fd : FuncData} (D : C8.Def K mg "_side" st_side f fd) (b : Binds K fd ["up"] []) : C8.Cal P w K mg base 2 "_side" (spP rSide) [] := by
  refine C8.cal0 D b .nil sc_side (fun vs H Q E h => ?_) (fun cdv A outer s H vs Q E hr h => ?_)
  · obtain ⟨v, ⟨_, rfl, _⟩, _⟩ := h
    rfl
  · obtain ⟨v, ⟨up, rfl, rfl⟩, k⟩ := h
    refine ⟨_, pss_one (ps_ret (pe_ifExp (pt_val (pv 0)) (pe_str) (pe_str))), ?_⟩
    refine g_ret (mdE H) (Ex.refl H) (ev_is (ev_ifE (et_B (ev_var rfl)) ev_c ev_c) (by cases up <;> rfl)) k
def rStr (CR : Addr) : Hp → List V → V → Prop := fun H vs v => ∃ (p : Addr) (r : RuleD) (o : HO), vs = [.ref p] ∧ H p = some o ∧ RuleAt CR r o ∧ RuleT r ∧ v = .str (textOf r)
theorem mono_str : Mono (rStr CR) := fun _ _ _ _ e ⟨p, r, o, a, h, b⟩ => ⟨p, r, o, a, e _ _ h, b⟩
theorem ev_join {σ : L2.St} {H : Hp} {to te : TE} {a : Str} {ys : List Str} (h1 : Ev to σ H (.str a)) (h2 : EvL te σ H (ys.map V.str)) (hz : (ys.map (·.length)).sum + ys.length * a.length ≤ 16777216) :
    Ev (tM1 (fun x xs H Q => ∃ a p, ∃ ys : List Str, x = .str a ∧ xs = [.ref p] ∧ (SqL K H p (ys.map V.str) ∨ SqT K H p (ys.map V.str)) ∧ (ys.map (·.length)).sum + ys.length * a.length ≤ 16777216 ∧ Q (.str (Txt.join a ys)) H) to te) σ H (.str (Txt.join a ys)) := fun H1 e _ q =>
  h1 H1 e _ fun H2 e2 => ⟨⟨a, rfl⟩, h2 H2 (e.trans e2) _ fun p H3 _ e3 hp => ⟨a, p, ys, rfl, rfl, .inl (sq_of hp), hz, q H3 (e2.trans e3)⟩⟩
theorem ok_str {f : Addr} {fd : FuncData} (D : C8.Fun K "__str__" "Rule.__str__" st_Rule___str__ f fd) (b : Binds K fd ["self"] []) (hs : PySem.W.findIn K (.ref CR) "__str__" = some (some (.ref f))) (hf : PySem.W.isFn K (.ref f) = true) (T : Tb K mg CR aB aH)
    (c_side : C8.Cal P w K mg base 2 "_side" (spP rSide) []) : OwnM P w K mg base 3 CR "__str__" (rStr CR) := by
  refine ⟨f, fd, ["self"], C8.fn0 D sc_Rule___str__ (fun vs H Q E h => ?_) (fun cdv A outer s H vs Q E hr h => ?_), hs, hf, b⟩
  · obtain ⟨v, ⟨_, _, _, rfl, _⟩, _⟩ := h
    rfl
  · obtain ⟨v, ⟨p, r, _, rfl, hp, ⟨dx, rfl⟩, rt, rfl⟩, k⟩ := h
    refine ⟨_, pss_one (ps_ret (pe_join (pe_str) (pe_lst (pa_cons (pe_joined (.cons (pe_str) (.cons (pe_fmt (pe_fld (pv 0) rfl)) (.cons (pe_str) (.cons (pe_fmt (pe_fld (pv 0) rfl)) (.nil)))))) (pa_cons (pe_joined (.cons (pe_str) (.cons (pe_fmt (pe_fld (pv 0) rfl)) (.cons (pe_str) (.cons (pe_fmt (pe_fld (pv 0) rfl)) (.cons (pe_str) (.cons (pe_fmt (pe_fld (pv 0) rfl)) (.nil)))))))) (pa_cons (pe_joined (.cons (pe_str) (.cons (pe_fmt (pe_fld (pv 0) rfl)) (.cons (pe_str) (.cons (pe_fmt (pe_fld (pv 0) rfl)) (.nil)))))) (pa_cons (pe_joined (.cons (pe_str) (.cons (pe_fmt (pe_fld (pv 0) rfl)) (.cons (pe_str) (.cons (pe_fmt (pe_fld (pv 0) rfl)) (.cons (pe_str) (.cons (pe_fmt (C8.pe_c c_side hr (by decide) (by rfl) (pa_cons (pe_fld (pv 0) rfl) (pa_nil)))) (.nil)))))))) (pa_cons (pe_joined (.cons (pe_str) (.cons (pe_fmt (pe_fld (pv 0) rfl)) (.nil)))) (pa_nil))))))))), ?_⟩
    have ok := rt.ok
    have a1 : 0 ≤ r.need ∧ r.need < 1000000 := ⟨by have := ok.need; omega, by have := ok.of; have := rt.of; omega⟩
    have a2 : 0 ≤ r.of ∧ r.of < 1000000 := ⟨by have := ok.need; have := ok.of; omega, rt.of⟩
    have a3 : 0 ≤ r.base ∧ r.base < 1000000 := ⟨by have := ok.base; omega, by have := ok.most; have := rt.most; omega⟩
    have a4 : 0 ≤ r.more ∧ r.more < 1000000 := ⟨ok.more, ok.moreB⟩
    have a5 : 0 ≤ r.most ∧ r.most < 1000000 := ⟨by have := ok.base; have := ok.most; omega, rt.most⟩
    have a6 : 0 ≤ r.calm ∧ r.calm < 1000000 := ⟨ok.calm, rt.calm⟩
    have a7 : 0 ≤ r.under ∧ r.under < 1000000 := ⟨by have := ok.under; omega, ok.underB⟩
    have a8 : 0 ≤ r.top ∧ r.top < 1000000 := ⟨ok.top, by have := ok.topu; have := ok.underB; omega⟩
    have l1 := numLen a1.1 a1.2
    have l2 := numLen a2.1 a2.2
    have l3 := numLen a3.1 a3.2
    have l4 := numLen a4.1 a4.2
    have l5 := numLen a5.1 a5.2
    have l6 := numLen a6.1 a6.2
    have l7 := numLen a7.1 a7.2
    have l8 := numLen a8.1 a8.2
    have lb : r.back.length ≤ 5 := by rcases ok.back with h | h | h <;> rw [h] <;> decide +kernel
    have lh : r.hears.length ≤ 5 := by rcases ok.hears with h | h | h <;> rw [h] <;> decide +kernel
    have lu : ((if r.up = true then "up" else "down" : Str)).length ≤ 4 := by cases r.up <;> decide +kernel
    have q0 : ("leave " : Str).length = 6 := by decide +kernel
    have q1 : (" of " : Str).length = 4 := by decide +kernel
    have q2 : ("out " : Str).length = 4 := by decide +kernel
    have q3 : (" more " : Str).length = 6 := by decide +kernel
    have q4 : (" most " : Str).length = 6 := by decide +kernel
    have q5 : ("calm " : Str).length = 5 := by decide +kernel
    have q6 : (" back " : Str).length = 6 := by decide +kernel
    have q7 : ("share " : Str).length = 6 := by decide +kernel
    have q8 : ("/" : Str).length = 1 := by decide +kernel
    have q9 : (" " : Str).length = 1 := by decide +kernel
    have q10 : ("hears " : Str).length = 6 := by decide +kernel
    refine g_ret (mdE H) (Ex.refl H) (ev_is (ev_join (ys := [_, _, _, _, _]) ev_c (el_lst (ea_cons (ev_joined (ej_cons ev_c ?_ (ej_cons (ev_fmtI (ev_fld (ev_var rfl) hp T.cl T.n_need (fl_need r)) (numLog a1.1 a1.2)) ?_ (ej_cons ev_c ?_ (ej_cons (ev_fmtI (ev_fld (ev_var rfl) hp T.cl T.n_of (fl_of r)) (numLog a2.1 a2.2)) ?_ ej_nil)))))
      (ea_cons (ev_joined (ej_cons ev_c ?_ (ej_cons (ev_fmtI (ev_fld (ev_var rfl) hp T.cl T.n_base (fl_base r)) (numLog a3.1 a3.2)) ?_ (ej_cons ev_c ?_ (ej_cons (ev_fmtI (ev_fld (ev_var rfl) hp T.cl T.n_more (fl_more r)) (numLog a4.1 a4.2)) ?_ (ej_cons ev_c ?_ (ej_cons (ev_fmtI (ev_fld (ev_var rfl) hp T.cl T.n_most (fl_most r)) (numLog a5.1 a5.2)) ?_ ej_nil)))))))
      (ea_cons (ev_joined (ej_cons ev_c ?_ (ej_cons (ev_fmtI (ev_fld (ev_var rfl) hp T.cl T.n_calm (fl_calm r)) (numLog a6.1 a6.2)) ?_ (ej_cons ev_c ?_ (ej_cons (ev_fmtS (ev_fld (ev_var rfl) hp T.cl T.n_back (fl_back r)) (by omega)) ?_ ej_nil)))))
      (ea_cons (ev_joined (ej_cons ev_c ?_ (ej_cons (ev_fmtI (ev_fld (ev_var rfl) hp T.cl T.n_top (fl_top r)) (numLog a8.1 a8.2)) ?_ (ej_cons ev_c ?_ (ej_cons (ev_fmtI (ev_fld (ev_var rfl) hp T.cl T.n_under (fl_under r)) (numLog a7.1 a7.2)) ?_ (ej_cons ev_c ?_
        (ej_cons (ev_fmtS (ev_call (ea_cons (ev_fld (ev_var rfl) hp T.cl T.n_up (fl_up r)) ea_nil) (spv mono_side ⟨r.up, rfl, rfl⟩)) (by omega)) ?_ ej_nil)))))))
      (ea_cons (ev_joined (ej_cons ev_c ?_ (ej_cons (ev_fmtS (ev_fld (ev_var rfl) hp T.cl T.n_hears (fl_hears r)) (by omega)) ?_ ej_nil))) ea_nil))))) (by show 5 ≤ 100000; decide)) ?_) ?_) k
    all_goals try (simp only [lenA, len0, q0, q1, q2, q3, q4, q5, q6, q7, q8, q9, q10]; omega)
    · simp only [List.map_cons, List.map_nil, List.sum_cons, List.sum_nil, List.length_cons, List.length_nil, lenA, len0, q0, q1, q2, q3, q4, q5, q6, q7, q8, q9, q10]
      omega
    · refine congrArg V.str (TL.ext_tl ?_)
      have t0 : TL.tl ("leave " : Str) = wl "leave" ++ [32] := by decide +kernel
      have t1 : TL.tl (" of " : Str) = [32] ++ wl "of" ++ [32] := by decide +kernel
      have t2 : TL.tl ("out " : Str) = wl "out" ++ [32] := by decide +kernel
      have t3 : TL.tl (" more " : Str) = [32] ++ wl "more" ++ [32] := by decide +kernel
      have t4 : TL.tl (" most " : Str) = [32] ++ wl "most" ++ [32] := by decide +kernel
      have t5 : TL.tl ("calm " : Str) = wl "calm" ++ [32] := by decide +kernel
      have t6 : TL.tl (" back " : Str) = [32] ++ wl "back" ++ [32] := by decide +kernel
      have t7 : TL.tl ("share " : Str) = wl "share" ++ [32] := by decide +kernel
      have t8 : TL.tl ("/" : Str) = [47] := by decide +kernel
      have t9 : TL.tl (" " : Str) = [32] := by decide +kernel
      have t10 : TL.tl ("hears " : Str) = wl "hears" ++ [32] := by decide +kernel
      have tu : TL.tl (if r.up = true then ("up" : Str) else "down") = sideW r.up := by cases r.up <;> decide +kernel
      rw [TL.join_eq, TL.tl_join]
      unfold textOf
      rw [show TL.tl (SX.S (TL.joinL [32] (ruleWords r))) = TL.joinL [32] (ruleWords r) from rfl]
      simp only [List.map_cons, List.map_nil, TL.tl_append, tl0, t0, t1, t2, t3, t4, t5, t6, t7, t8, t9, t10, tu, numS a1.1, numS a2.1, numS a3.1, numS a4.1, numS a5.1, numS a6.1, numS a7.1, numS a8.1, ruleWords, TL.joinL, List.append_assoc, List.nil_append, List.cons_append]
def rEqR (CR : Addr) : Hp → List V → V → Prop := fun H vs v => ∃ (p q : Addr) (r r' : RuleD) (o o' : HO), vs = [.ref p, .ref q] ∧ H p = some o ∧ RuleAt CR r o ∧ RuleT r ∧ H q = some o' ∧ RuleAt CR r' o' ∧ RuleT r' ∧ v = .bl (decide (textOf r = textOf r'))
theorem mono_eqR : Mono (rEqR CR) := fun _ _ _ _ e ⟨p, q, r, r', o, o', a, h, b, c, h', d⟩ => ⟨p, q, r, r', o, o', a, e _ _ h, b, c, e _ _ h', d⟩
theorem kit_own {t : Value} : PySem.W.kitOne K t t = some true := by
  unfold PySem.W.kitOne
  exact if_pos (beq_self_eq_true t)
theorem ok_eqR {f : Addr} {fd : FuncData} (D : C8.Fun K "__eq__" "Rule.__eq__" st_Rule___eq__ f fd) (b : Binds K fd ["self", "other"] []) (hs : PySem.W.findIn K (.ref CR) "__eq__" = some (some (.ref f))) (hf : PySem.W.isFn K (.ref f) = true) (T : Tb K mg CR aB aH)
    (str_Rule : OwnM P w K mg base 3 CR "__str__" (rStr CR)) : OwnM P w K mg base 6 CR "__eq__" (rEqR CR) := by
  refine ⟨f, fd, ["self", "other"], C8.fn0 D sc_Rule___eq__ (fun vs H Q E h => ?_) (fun cdv A outer s H vs Q E hr h => ?_), hs, hf, b⟩
  · obtain ⟨v, ⟨_, _, _, _, _, _, rfl, _⟩, _⟩ := h
    rfl
  · obtain ⟨v, ⟨p, q, r, r', _, _, rfl, hp, ⟨dx, rfl⟩, rt, hq, ⟨dy, rfl⟩, rt', rfl⟩, k⟩ := h
    refine ⟨_, pss_one (ps_ret (pe_and (pe_callB call_isi (by rfl) T.bi_isinstance boot_isinstance (pa_cons (pv 1) (pa_cons (C8.pe_gc (by rfl) T.gc_Rule) (pa_nil)))) (pe_one (pe_cmpR (op_eq) (pe_callTy (call_strO str_Rule hr (by decide)) (by rfl) T.bi_str boot_str (pa_cons (pv 0) (pa_nil))) (pe_callTy (call_strO str_Rule hr (by decide)) (by rfl) T.bi_str boot_str (pa_cons (pv 1) (pa_nil))) (nomark _))))), ?_⟩
    refine g_ret (mdE H) (Ex.refl H) (ev_is (ev_and (ev_cb (ea_cons (ev_var rfl) (ea_cons ev_c ea_nil)) (rc_isi (b := true) (ClsV.own CR) (fun H1 e => TyX.base (TyOf.ins (e _ _ hq) T.cl T.cA T.cG T.cT T.cO)) kit_own))
      (ev_op (ev_cb (ea_cons (ev_var rfl) ea_nil) (rc_strO mono_str hp ⟨p, r, _, rfl, hp, ⟨dx, rfl⟩, rt, rfl⟩)) (ev_cb (ea_cons (ev_var rfl) ea_nil) (rc_strO mono_str hq ⟨q, r', _, rfl, hq, ⟨dy, rfl⟩, rt', rfl⟩)) (rv_eq rfl))) ?_) k
    rw [Bool.true_and]
    by_cases h : textOf r = textOf r'
    · rw [decide_eq_true h, decide_eq_true (congrArg V.str h)]
    · rw [decide_eq_false h, decide_eq_false (fun q => h (by injection q))]
end

/-! ### cls(..) by a local name, a method of a class, texts -/
section
variable {X : Cx} {k j i : Nat} {C : Addr} {x m : Str} {sp : Sp} {dvs : List V} {p pos apos : Pos} {e o : Expr} {es : List Expr} {ta : TE} {t : TA}
/-- the i-th name holds the class at C, which is made -/
def tMakeL (i : Nat) (C : Addr) (sp : Sp) (dvs : List V) (E : XK) (t : TA) : TE := fun σ H Q => σ[i]? = some (some (.ref C)) ∧ tMake C sp dvs E t σ H Q
theorem pe_mkL {y : Str} (c : C8.Mak X.prog X.w X.K X.mg X.base k y C sp dvs) (hr : Room j X.A) (hk : k + 1 ≤ j) (hN : X.N[i]? = some x) (hv : Vis X.env.scope x) (ha : PA X (e :: es) t)
    (hdb : (x == ("__debug__" : Str)) = false := by decide) (hcd : (x == ("__classdict__" : Str)) = false := by decide)
    (he : starEach (e :: es) X.env = (false, eval e X.env) :: starEach es X.env := by rfl) (hpl : (backTo pos (starEach es X.env)).any (·.1) = false := by rfl) : PE X (.Call (.Name x p) (e :: es) [] pos) (tMakeL i C sp dvs C8.E0 t) := by
  obtain ⟨f, fd, ps, ds, M, F, _, b, d⟩ := c.ex
  refine ⟨fun pins s σ H Q I h => ?_⟩
  obtain ⟨hs, ht⟩ := h
  refine wpAny_Call_Name_kw (thn ((pe_var (pos := p) hN hv hdb hcd).run pins s σ H (fun v H1 => v = .ref C ∧ H1 = H) I ⟨.ref C, hs, rfl, rfl⟩) fun u s1 ⟨v, H1, I1, r1, q1⟩ => ?_)
  obtain ⟨rfl, rfl⟩ := q1
  cases r1
  refine PySem.W.callWith_K (h₀ := X.base) I.ok.mod.kin M.kp (thn (ha.run pos pins s1 σ _ _ I1 ht) fun us s2 ⟨vs, H2, I2, r, q⟩ => ⟨I2.kIn, ?_⟩) he hpl
  exact run_make M F (hr.mono hk) b d C8.pass0 I2 r q
theorem evN_mkL {σ : L2.St} {H : Hp} {E : XK} {Pn : HO → Prop} (h : σ[i]? = some (some (.ref C))) (n : EvN (tMake C sp dvs E t) σ H Pn) : EvN (tMakeL i C sp dvs E t) σ H Pn := fun H1 e1 Q q => ⟨h, n H1 e1 Q q⟩
/-- a classmethod m of the class at C -/
structure ClM (P : Program) (w : World) (K : PySem.W.Frag) (mg : Str → Option Value) (base : Heap) (k : Nat) (C : Addr) (m : Str) (sp : Sp) : Prop where
  ex : ∃ (mc : Value) (p g : Addr), ClX.CRead K C mc ∧ ClX.CMet K C mc m p g ∧ FnR P w K mg base CX0 k g sp
theorem pe_cm (c : ClM X.prog X.w X.K X.mg X.base k C m sp) (hr : Room j X.A) (hk : k ≤ j) (he : PE X o ta) (ha : PA X (e :: es) t) {pl : Sem Bool}
    (hst : starEach (e :: es) X.env = (false, eval e X.env) :: starEach es X.env := by rfl) (hpl : (backTo pos (starEach es X.env)).any (·.1) = false := by rfl)
    (ht : eval (.Call (.Attribute o m apos) (e :: es) [] pos) X.env = (do
      let ov ← eval o X.env
      standAt apos.atName
      let (f, first) ← holding [ov] (getMethod ov m pl)
      callWith pos f first (backTo pos (starEach (e :: es) X.env)) (backToKw pos (keywordEach [] X.env))) := by rfl) :
    PE X (.Call (.Attribute o m apos) (e :: es) [] pos) (ClX.tCMeth C sp C8.E0 ta t) := by
  obtain ⟨mc, p, g, r, c, F⟩ := c.ex
  exact ClX.pe_cmeth (pl := pl) he r c F (hr.mono hk) C8.pass0 ha hst hpl ht
end
section
variable {K : PySem.W.Frag} {σ : L2.St} {H : Hp} {ta tb te to : TE} {x y z : V}
theorem evN_cm {C : Addr} {R : Hp → List V → (HO → Prop) → Prop} {E : XK} {t : TA} {vs : List V} {Pn : HO → Prop} (m : MonoN R) (ho : Ev to σ H (.ref C)) (ht : EvA t σ H vs) (hr : R H (.ref C :: vs) Pn) : EvN (ClX.tCMeth C (spN R) E to t) σ H Pn := fun H1 e Q q =>
  ho H1 e _ fun H2 e2 => ⟨rfl, ht H2 (e.trans e2) _ fun H3 e3 => ⟨Pn, m _ _ _ _ ((e.trans e2).trans e3) hr, fun p H' o np e4 hp hn => q p H' o (fresh_back (e2.trans e3) np) ((e2.trans e3).trans e4) hp hn⟩⟩
theorem rc_lenS {s : Str} (h : s.length ≤ 100000) : RC (fun xs H Q => ∃ z, xs = [V.str z] ∧ z.length ≤ sizeLine ∧ Q (.int z.length) H) [.str s] H (.int s.length) := fun H1 _ _ q => ⟨s, rfl, Nat.le_trans h (by decide), q H1 (Ex.refl H1)⟩
theorem rc_lenT {p : Addr} {xs : List V} (h : SqT K H p xs) : RC (fun xs H Q => ∃ p ys, xs = [V.ref p] ∧ (SqL K H p ys ∨ SqT K H p ys) ∧ Q (.int ys.length) H) [.ref p] H (.int xs.length) := fun H1 e _ q => ⟨p, xs, rfl, .inr (ex_t e h), q H1 (Ex.refl H1)⟩
theorem rc_intS {s : Str} {n : Int} (h : PySem.intText? s = some n) (hl : s.length ≤ 640) : RC (fun xs H Q => ∃ a n, xs = [V.str a] ∧ PySem.intText? a = some n ∧ a.length ≤ 640 ∧ Q (.int n) H) [.str s] H (.int n) := fun H1 _ _ q => ⟨s, n, rfl, h, hl, q H1 (Ex.refl H1)⟩
theorem rc_strI {i : Int} (h : i.natAbs.log2 < 1920) : RC (fun xs H Q => ∃ i, xs = [V.int i] ∧ i.natAbs.log2 < 1920 ∧ Q (.str (toString i)) H) [.int i] H (.str (toString i)) := fun H1 _ _ q => ⟨i, rfl, h, q H1 (Ex.refl H1)⟩
theorem ev_m0B {f : Str → Bool} {a : Str} (h : Ev to σ H (.str a)) : Ev (tM0 (fun x xs H Q => ∃ a, x = .str a ∧ xs = [] ∧ True ∧ Q (.bl (f a)) H) to) σ H (.bl (f a)) := fun H1 e _ q =>
  h H1 e _ fun H2 e2 => ⟨⟨a, rfl⟩, a, rfl, rfl, trivial, q H2 e2⟩
theorem el_split {a b : Str} (h1 : Ev to σ H (.str a)) (h2 : Ev te σ H (.str b)) (hb : (b.length == 0) = false) (hl : a.length ≤ 100000) :
    EvL (tM1 (fun x xs H Q => ∃ a b, x = .str a ∧ xs = [.str b] ∧ (b.length == 0) = false ∧ a.length + 2 ≤ sizeLine ∧ rNewStrs (Txt.split a b) H Q) to te) σ H ((Txt.split a b).map V.str) := fun H1 e _ q =>
  h1 H1 e _ fun H2 e2 => ⟨⟨a, rfl⟩, h2 H2 (e.trans e2) _ fun H3 e3 => ⟨a, b, rfl, rfl, hb, Nat.le_trans (Nat.add_le_add_right hl 2) (by decide), fun p np => q p _ (fresh_back (e2.trans e3) np) ((e2.trans e3).trans (Ex.new np)) upd_same⟩⟩
theorem el_cat {xs ys : List V} (h1 : EvL ta σ H xs) (h2 : EvL tb σ H ys) (hz : xs.length + ys.length ≤ 100000) : EvL (tOp rCat ta tb) σ H (xs ++ ys) := fun H1 e _ q =>
  h1 H1 e _ fun p H2 np e2 hp => h2 H2 (e.trans e2) _ fun p' H3 np' e3 hp' => ⟨p, p', xs, ys, rfl, rfl, e3 _ _ hp, hp', Nat.le_trans hz (by decide), fun r nr => q r _ (fresh_back (e2.trans e3) nr) ((e2.trans e3).trans (Ex.new nr)) upd_same⟩
/-- the ints that an expression makes of the texts of a new list -/
theorem el_strs {tl : TE} {j : Nat} {vs : List Nat} {xs : List Str} {ns : List Int} (hn : xs.length = ns.length) (h : EvL tl σ H (xs.map V.str)) (hz : xs.length ≤ 40000) (hw : ∀ x, wipe ((wipe σ vs).set j (some x)) vs = wipe σ vs)
    (he : ∀ (i : Nat) (s : Str) (n : Int) H1, Ex H H1 → xs[i]? = some s → ns[i]? = some n → Ev te ((wipe σ vs).set j (some (.str s))) H1 (.int n)) : EvL (tLc (iList K tl) (gName j) tYes te vs) σ H (ns.map V.int) := by
  refine el_is (el_lcNL (fun _ => true) (fun i => .int (ns.getD i 0)) h (by rw [List.length_map]; exact hz) hw (fun _ _ _ _ _ => et_yes0) (fun i x H1 e hx _ => ?_)) ?_
  · rw [List.getElem?_map] at hx
    cases e1 : xs[i]? with
    | none => rw [e1] at hx; cases hx
    | some q =>
      rw [e1] at hx
      obtain rfl := (Option.some.inj hx).symm
      have hi : i < ns.length := by rw [← hn]; exact (List.getElem?_eq_some_iff.mp e1).1
      have e2 : ns[i]? = some (ns.getD i 0) := by rw [List.getD_eq_getElem?_getD, List.getElem?_eq_getElem hi]; rfl
      exact he i q _ H1 e e1 e2
  · rw [given_all, List.length_map, hn]
    congr 1
    refine List.ext_getElem? fun i => ?_
    rw [List.getElem?_map]
    by_cases h1 : i < ns.length
    · rw [List.getElem?_range h1]
      show some (ns.getD i 0) = ns[i]?
      rw [List.getD_eq_getElem?_getD, List.getElem?_eq_getElem h1]
      rfl
    · rw [List.getElem?_eq_none (show ns.length ≤ i by omega), List.getElem?_eq_none (show (List.range ns.length).length ≤ i by rw [List.length_range]; omega)]
      rfl
/-- the loop over a list and a tuple of one length -/
theorem q_forZM {g : TG} {tb tz : TS} {D : Ends} {ta : TA} {a b : Addr} {xs ys : List V} (h : EvA ta σ H [.ref a, .ref b]) (hx : SqL K H a xs) (hy : SqT K H b ys) (hl : xs.length = ys.length) (Pv : Nat → L2.St → Hp → Prop) (h0 : ∀ H1, Ex H H1 → Pv 0 σ H1) (hq : ∀ i σ H, Pv i σ H → SqL K H a xs ∧ SqT K H b ys)
    (hs : ∀ (i : Nat) (x y : V) (T : Addr) (σ : L2.St) (H : Hp), xs[i]? = some x → ys[i]? = some y → Pv i σ H → H T = none → g (.ref T) σ (upd H T (.tup [x, y])) fun σ2 H2 => tb { D with nx := Pv (i + 1), ct := Pv (i + 1), bk := tz D } σ2 H2)
    (hd : ∀ σ H, Pv xs.length σ H → tz D σ H) : tSeq (tFor (iZipM K ta) g tb) tz D σ H :=
  h H (Ex.refl H) _ fun H1 e1 => ⟨a, b, xs, ys, rfl, ex_l e1 hx, ex_t e1 hy, for_zipM (D := { D with nx := tz D }) hl Pv (h0 H1 e1) hq hs hd⟩
end

/-! ### reading the text of a rule -/
def formV : List V := [.str "leave", .non, .str "of", .non, .str "out", .non, .str "more", .non, .str "most", .non, .str "calm", .non, .str "back", .non, .str "share", .non, .non, .str "hears", .non]
structure Tf (K : PySem.W.Frag) (mg : Str → Option Value) (aF aS : Addr) : Prop where
  gc_FORM : ∃ u, mg "_FORM" = some u ∧ RelV (.ref aF) u
  gc_SIDES : ∃ u, mg "_SIDES" = some u ∧ RelV (.ref aS) u
  sF : ∀ H, SqT K H aF formV
  sS : ∀ H, SqT K H aS [.str "down", .str "up"]
abbrev numT (n : Nat) : Str := SX.S (TL.numL n)
theorem num100 : ∀ n : Nat, n < 100 → (numT n).length ≤ 2 ∧ Txt.isascii (numT n) = true ∧ Txt.isdigit (numT n) = true ∧ PySem.intText? (numT n) = some (n : Int) ∧ ((toString (n : Int) : String) : Str) = numT n := by
  decide +kernel
section
variable {P : Program} {w : World} {K : PySem.W.Frag} {mg : Str → Option Value} {base : Heap} {CR aB aH aF aS : Addr}
def rNum : Hp → List V → V → Prop := fun _ vs v => ∃ n : Nat, n < 100 ∧ vs = [.str (numT n)] ∧ v = .int n
theorem mono_num : Mono rNum := fun _ _ _ _ _ h => h
theorem ok_num {f : Addr} {fd : FuncData} (D : C8.Def K mg "read_number" st_read_number f fd) (b : Binds K fd ["word"] []) (T : Tb K mg CR aB aH) : C8.Cal P w K mg base 2 "read_number" (spP rNum) [] := by
  refine C8.cal0 D b .nil sc_read_number (fun vs H Q E h => ?_) (fun cdv A outer s H vs Q E hr h => ?_)
  · obtain ⟨v, ⟨_, _, rfl, _⟩, _⟩ := h
    rfl
  · obtain ⟨v, ⟨n, hn, rfl, rfl⟩, k⟩ := h
    refine ⟨_, pss_cons (ps_if (PW.pt (pw_or (pt_cmpR (op_gt) (pe_callB call_len_str (by rfl) T.bi_len boot_len (pa_cons (pv 0) (pa_nil))) (pe_int) (nomark _)) (pw_or (pt_not (pt_val (pe_m0 PySem.F.slot_str_isascii PySem.F.type_str_isascii mt_isascii (pv 0)))) (pw_or1 (pt_not (pt_val (pe_m0 PySem.F.slot_str_isdigit PySem.F.type_str_isdigit mt_isdigit (pv 0)))))))) (pss_one (ps_ret (pe_non))) (pss_nil))
      (pss_cons (ps_set (i := 1) sc_read_number.nd rfl (Or.inl rfl) (pe_callTy call_int_str (by rfl) T.bi_int boot_int (pa_cons (pv 0) (pa_nil))))
      (pss_one (ps_ret (pe_ifExp (pt_cmpR (op_eq) (pe_callTy call_str_int (by rfl) T.bi_str boot_str (pa_cons (pv 1) (pa_nil))) (pv 0) (nomark _)) (pv 1) (pe_non))))), ?_⟩
    obtain ⟨h1, h2, h3, h4, h5⟩ := num100 n hn
    have md := mdE H
    have m := Ex.refl H
    refine' g_no md m (et_is (et_or2 (et_test (ev_op (ev_cb (ea_cons (ev_var rfl) ea_nil) (rc_lenS (by omega))) ev_c rv_I0)) (et_or2 (et_not (et_test (ev_m0B (ev_var rfl)))) (et_not (et_test (ev_m0B (ev_var rfl)))))) ?e) (fun H1 m => ?_)
    case e =>
      rw [h2, h3]
      simp
      omega
    refine g_asg md m (ev_cb (ea_cons (ev_var rfl) ea_nil) (rc_intS h4 (by omega))) fun H2 m => ?_
    refine g_ret md m (ev_is (ev_ifE (et_test (ev_op (ev_cb (ea_cons (ev_var rfl) ea_nil) (rc_strI (numLog (by omega) (by omega)))) (ev_var rfl) (rv_eq rfl))) (ev_var rfl) ev_c) ?_) k
    rw [h5, decide_eq_true rfl, if_pos rfl]
end
/-- of two rows, those of the first for which the second has None -/
def pickN : List V → List V → List V
  | x :: xs, y :: ys => if y = .non then x :: pickN xs ys else pickN xs ys
  | _, _ => []
def fitsN : List V → List V → Prop
  | x :: xs, y :: ys => (y = .non ∨ ∃ s, y = .str s ∧ x = .str s) ∧ fitsN xs ys
  | _, _ => True
theorem pick_len : ∀ xs ys : List V, (pickN xs ys).length ≤ xs.length
  | [], _ => Nat.zero_le _
  | _ :: _, [] => Nat.zero_le _
  | x :: xs, y :: ys => by
    have := pick_len xs ys
    rw [show pickN (x :: xs) (y :: ys) = if y = .non then x :: pickN xs ys else pickN xs ys from rfl]
    split
    · rw [List.length_cons, List.length_cons]; omega
    · rw [List.length_cons]; omega
theorem pick_step : ∀ {xs ys : List V} {i : Nat} {x y : V}, xs[i]? = some x → ys[i]? = some y → pickN (xs.take (i + 1)) (ys.take (i + 1)) = pickN (xs.take i) (ys.take i) ++ if y = .non then [x] else []
  | [], _, _, _, _, h, _ => by simp at h
  | _ :: _, [], _, _, _, _, h => by simp at h
  | a :: xs, b :: ys, 0, x, y, hx, hy => by
    simp only [List.getElem?_cons_zero, Option.some.injEq] at hx hy
    subst hx hy
    simp only [Nat.zero_add, List.take_succ_cons, List.take_zero, pickN]
    split <;> rfl
  | a :: xs, b :: ys, i + 1, x, y, hx, hy => by
    simp only [List.getElem?_cons_succ] at hx hy
    have := pick_step hx hy
    rw [List.take_succ_cons, List.take_succ_cons]
    rw [show pickN (a :: xs.take (i + 1)) (b :: ys.take (i + 1)) = if b = .non then a :: pickN (xs.take (i + 1)) (ys.take (i + 1)) else pickN (xs.take (i + 1)) (ys.take (i + 1)) from rfl]
    rw [List.take_succ_cons, List.take_succ_cons]
    rw [show pickN (a :: xs.take i) (b :: ys.take i) = if b = .non then a :: pickN (xs.take i) (ys.take i) else pickN (xs.take i) (ys.take i) from rfl]
    rw [this]
    by_cases e : b = .non
    · rw [if_pos e, if_pos e]; rfl
    · rw [if_neg e, if_neg e]
theorem fits_at : ∀ {xs ys : List V} {i : Nat} {x y : V}, fitsN xs ys → xs[i]? = some x → ys[i]? = some y → y = .non ∨ ∃ s, y = .str s ∧ x = .str s
  | [], _, _, _, _, _, h, _ => by simp at h
  | _ :: _, [], _, _, _, _, _, h => by simp at h
  | a :: xs, b :: ys, 0, x, y, f, hx, hy => by
    simp only [List.getElem?_cons_zero, Option.some.injEq] at hx hy
    subst hx hy
    exact f.1
  | a :: xs, b :: ys, i + 1, x, y, f, hx, hy => fits_at f.2 (by simpa using hx) (by simpa using hy)
theorem S_wl (s : String) : SX.S (wl s) = Str.ofString s := TL.ext_tl (TL.tl_ofString s).symm
def wordsS (r : RuleD) : List Str := (ruleWords r).map SX.S
def freeS (r : RuleD) : List Str := [SX.S (num r.need), SX.S (num r.of), SX.S (num r.base), SX.S (num r.more), SX.S (num r.most), SX.S (num r.calm), r.back, SX.S (num r.top ++ ([47] ++ num r.under)), SX.S (sideW r.up), r.hears]
theorem S_tl (s : Str) : SX.S (TL.tl s) = s := TL.ext_tl rfl
theorem words_split {r : RuleD} (ok : r.ok) : Txt.split (textOf r) " " = wordsS r := by
  have e : (" " : Str) = SX.S [32] := TL.ext_tl (by decide +kernel)
  unfold textOf
  rw [e, SX.split_S (List.cons_ne_nil _ _) (by decide), TL.spl_join (by unfold ruleWords; exact List.cons_ne_nil _ _) (words_no r ok)]
  rfl
theorem words_fit (r : RuleD) : fitsN ((wordsS r).map V.str) formV := by
  have h : ∀ s : String, ∃ z, V.str (Str.ofString s) = .str z ∧ V.str (SX.S (wl s)) = .str z := fun s => ⟨_, rfl, congrArg V.str (S_wl s)⟩
  exact ⟨.inr (h _), .inl rfl, .inr (h _), .inl rfl, .inr (h _), .inl rfl, .inr (h _), .inl rfl, .inr (h _), .inl rfl, .inr (h _), .inl rfl, .inr (h _), .inl rfl, .inr (h _), .inl rfl, .inl rfl, .inr (h _), .inl rfl, trivial⟩
theorem words_pick (r : RuleD) : pickN ((wordsS r).map V.str) formV = (freeS r).map V.str := by
  unfold freeS
  rw [← S_tl r.back, ← S_tl r.hears]
  rfl
section
variable {P : Program} {w : World} {K : PySem.W.Frag} {mg : Str → Option Value} {base : Heap} {CR aB aH aF aS : Addr}
def spFree : Sp := fun vs H Q _ => ∃ r : RuleD, RuleN r ∧ vs = [.str (textOf r)] ∧ ∀ p H', H p = none → Ex H H' → H' p = some (.lst ((freeS r).map V.str)) → Q (.ref p) H'
theorem numLen2 {i : Int} (h : 0 ≤ i) (h1 : i < 100) : (num i).length ≤ 2 := TL.numL_len (by decide) (by omega)
theorem join_len {c : Nat} : ∀ ps : List (List Nat), (∀ p ∈ ps, p.length ≤ c) → (TL.joinL [32] ps).length ≤ ps.length * (c + 1)
  | [], _ => Nat.zero_le _
  | [p], h => by
    have := h p (List.mem_cons_self ..)
    rw [show TL.joinL [32] [p] = p from rfl, List.length_singleton]
    omega
  | p :: q :: r, h => by
    have h1 := h p (List.mem_cons_self ..)
    have h2 := join_len (q :: r) (fun x hx => h x (List.mem_cons_of_mem _ hx))
    rw [show TL.joinL [32] (p :: q :: r) = p ++ ([32] ++ TL.joinL [32] (q :: r)) from rfl, List.length_append, List.length_append, List.length_cons (as := q :: r), Nat.succ_mul]
    have : ([32] : List Nat).length = 1 := rfl
    omega
theorem words_len {r : RuleD} (h : RuleN r) : ∀ p ∈ ruleWords r, p.length ≤ 5 := by
  have ok := h.ok
  have l1 := numLen2 (i := r.need) (by have := ok.need; omega) (by have := ok.of; have := h.of; omega)
  have l2 := numLen2 (i := r.of) (by have := ok.need; have := ok.of; omega) h.of
  have l3 := numLen2 (i := r.base) (by have := ok.base; omega) (by have := ok.most; have := h.most; omega)
  have l4 := numLen2 (i := r.more) ok.more h.more
  have l5 := numLen2 (i := r.most) (by have := ok.base; have := ok.most; omega) h.most
  have l6 := numLen2 (i := r.calm) ok.calm h.calm
  have l7 := numLen2 (i := r.under) (by have := ok.under; omega) h.under
  have l8 := numLen2 (i := r.top) ok.top (by have := ok.topu; have := h.under; omega)
  have lb : (TL.tl r.back).length ≤ 5 := by rcases ok.back with h | h | h <;> rw [h] <;> decide +kernel
  have lh : (TL.tl r.hears).length ≤ 5 := by rcases ok.hears with h | h | h <;> rw [h] <;> decide +kernel
  have lu : (sideW r.up).length ≤ 5 := by cases r.up <;> decide +kernel
  have ls : (num r.top ++ ([47] ++ num r.under)).length ≤ 5 := by
    rw [List.length_append, List.length_append]
    have : ([47] : List Nat).length = 1 := rfl
    omega
  have lw : ∀ s : String, decide ((wl s).length ≤ 5) = true → (wl s).length ≤ 5 := fun s h => of_decide_eq_true h
  intro p hp
  unfold ruleWords at hp
  simp only [List.mem_cons, List.not_mem_nil, or_false] at hp
  rcases hp with rfl | rfl | rfl | rfl | rfl | rfl | rfl | rfl | rfl | rfl | rfl | rfl | rfl | rfl | rfl | rfl | rfl | rfl | rfl
  all_goals first
    | exact lw _ (by decide +kernel)
    | exact Nat.le_trans l1 (by decide)
    | exact Nat.le_trans l2 (by decide)
    | exact Nat.le_trans l3 (by decide)
    | exact Nat.le_trans l4 (by decide)
    | exact Nat.le_trans l5 (by decide)
    | exact Nat.le_trans l6 (by decide)
    | exact lb
    | exact lh
    | exact lu
    | exact ls
theorem text_len {r : RuleD} (h : RuleN r) : (textOf r).length ≤ 1000 := by
  rw [TL.len_tl]
  exact Nat.le_trans (join_len (ruleWords r) (words_len h)) (by show 19 * 6 ≤ 1000; decide)
theorem ok_free {f : Addr} {fd : FuncData} (D : C8.Def K mg "_free_words" st_free_words f fd) (b : Binds K fd ["text"] []) (T : Tb K mg CR aB aH) (TF : Tf K mg aF aS) : C8.Cal P w K mg base 2 "_free_words" spFree [] := by
  refine C8.cal0 D b .nil sc_free_words (fun vs H Q E h => ?_) (fun cdv A outer s H vs Q E hr h => ?_)
  · obtain ⟨r, _, rfl, _⟩ := h
    rfl
  · obtain ⟨r, rn, rfl, k⟩ := h
    refine ⟨_, pss_cons (ps_set (i := 1) sc_free_words.nd rfl (Or.inl rfl) (pe_split (pv 0) (pe_str)))
      (pss_cons (ps_if (pt_cmpR (op_ne) (pe_callB call_len_seq (by rfl) T.bi_len boot_len (pa_cons (pv 1) (pa_nil))) (pe_callB call_len_seq (by rfl) T.bi_len boot_len (pa_cons (C8.pe_gc (by rfl) TF.gc_FORM) (pa_nil))) (nomark _)) (pss_one (ps_ret (pe_non))) (pss_nil))
      (pss_cons (ps_set (i := 2) sc_free_words.nd rfl (Or.inl rfl) (pe_lst (pa_nil)))
      (pss_cons (ps_for PassesOwn.never rfl (pi_zipM (by rfl) T.bi_zip (pa_cons (pv 1) (pa_cons (C8.pe_gc (by rfl) TF.gc_FORM) (pa_nil)))) (pg_tup (by rfl) (pgs_cons (pg_name (i := 3) sc_free_words.nd rfl (Or.inl rfl)) (pgs_cons (pg_name (i := 4) sc_free_words.nd rfl (Or.inl rfl)) (pgs_nil)))) (pss_one (ps_if (pt_cmpR (op_isN) (pv 4) (pe_non) (nomark _)) (pss_one (ps_expr (pe_bm PySem.F.plainAttrs_list PySem.F.slot_list_append PySem.F.type_list_append mt_append (pv 2) (pa_cons (pv 3) (pa_nil))))) (pss_one (ps_if (pt_cmpR (op_ne) (pv 3) (pv 4) (nomark _)) (pss_one (ps_ret (pe_non))) (pss_nil))))))
      (pss_one (ps_ret (pv 2)))))), ?_⟩
    have ok := rn.ok
    have hl := text_len rn
    refine q_asgL (el_split (ev_var rfl) ev_c (by decide +kernel) (by omega)) fun p H1 np e1 hp => ?_
    rw [words_split ok] at hp
    refine q_when (b := false) (et_is (et_test (ev_op (ev_cb (ea_cons (ev_var rfl) ea_nil) (rc_lenL (sq_of hp))) (ev_cb (ea_cons ev_c ea_nil) (rc_lenT (TF.sF H1))) (rv_ne rfl))) (by rfl)) (fun q => Bool.noConfusion q) fun _ H2 e2 => ?_
    refine q_asgL (el_lst ea_nil (by decide)) fun q H3 nq e3 hq => ?_
    have hp3 := (e2.trans e3) _ _ hp
    have nq2 := fresh_back (e1.trans e2) nq
    have nq2' : H2 q = none := nq
    have ne : p ≠ q := fun z => by subst z; rw [e2 _ _ hp] at nq; cases nq
    refine q_forZM (xs := (wordsS r).map V.str) (ys := formV) (ea_cons (ev_var rfl) (ea_cons ev_c ea_nil)) (sq_of hp3) (TF.sF _) (by rfl) (fun i σ' H' => ∃ a b : Option V, σ' = [some (.str (textOf r)), some (.ref p), some (.ref q), a, b] ∧ Ex H2 H' ∧ H' q = some (.lst (pickN (((wordsS r).map V.str).take i) (formV.take i))))
        (fun H4 e4 => ⟨_, _, rfl, e3.trans e4, by rw [e4 _ _ hq]; rfl⟩) (fun i σ' H' ⟨_, _, _, e, _⟩ => ⟨sq_of (e _ _ (e2 _ _ hp)), TF.sF _⟩) ?_ ?_
    · rintro i x y Tn σ' H' hx hy ⟨a, b, rfl, e, hq'⟩ nT
      have eT : Ex H' (upd H' Tn (.tup [x, y])) := Ex.new nT
      refine ⟨Tn, [x, y], rfl, st_of upd_same, rfl, x, [y], rfl, y, [], rfl, rfl, ?_⟩
      have hz : (pickN (((wordsS r).map V.str).take i) (formV.take i)).length < 100000 := by
        refine Nat.lt_of_le_of_lt (pick_len _ _) ?_
        rw [List.length_take, List.length_map]
        exact Nat.lt_of_le_of_lt (Nat.min_le_right _ _) (by show 19 < 100000; decide)
      have st := pick_step hx hy
      rcases fits_at (words_fit r) hx hy with rfl | ⟨s, rfl, rfl⟩
      · refine s_if (b := true) (et_is (et_test (ev_op (ev_var rfl) ev_c rv_isN)) (by rfl)) (fun _ H5 e5 => ?_) (fun z => Bool.noConfusion z)
        refine s_app ((eT.trans e5) _ _ hq') (ev_var rfl) (ev_var rfl) hz fun H6 e6 => ⟨_, _, rfl, Ex.mut (((e.trans eT).trans e5).trans e6) nq2', ?_⟩
        rw [upd_same, st, if_pos rfl]
      · refine s_if (b := false) (et_is (et_test (ev_op (ev_var rfl) ev_c rv_isN)) (by rfl)) (fun z => Bool.noConfusion z) (fun _ H5 e5 => ?_)
        refine s_when (b := false) (et_is (et_test (ev_op (ev_var rfl) (ev_var rfl) (rv_ne rfl))) (by simp)) (fun z => Bool.noConfusion z) (fun _ H6 e6 => ⟨_, _, rfl, ((e.trans eT).trans e5).trans e6, ?_⟩)
        rw [((eT.trans e5).trans e6) _ _ hq', st, if_neg (fun z => nomatch z), List.append_nil]
    · rintro σ' H' ⟨a, b, rfl, e, hq'⟩
      refine s_ret (ev_var rfl) fun H5 e5 => k q H5 nq2 ((e1.trans e2).trans (e.trans e5)) ?_
      rw [e5 _ _ hq', ← words_pick r]
      rfl
end

/-! ### Rule.read -/
def rRead (CR : Addr) : Hp → List V → (HO → Prop) → Prop := fun _ vs Pn => ∃ r : RuleD, RuleN r ∧ vs = [.ref CR, .str (textOf r)] ∧ Pn = RuleAt CR r
theorem mono_read {CR : Addr} : MonoN (rRead CR) := fun _ _ _ _ _ h => h
def shareL (r : RuleD) : List Nat := num r.top ++ ([47] ++ num r.under)
theorem share_split (r : RuleD) : Txt.split (SX.S (shareL r)) "/" = [SX.S (num r.top), SX.S (num r.under)] := by
  have e : ("/" : Str) = SX.S [47] := TL.ext_tl (by decide +kernel)
  rw [e, SX.split_S (List.cons_ne_nil _ _) (by decide)]
  have h := TL.spl_join (s := 47) (S := []) (parts := [num r.top, num r.under]) (by simp) (fun p hp => by
    simp only [List.mem_cons, List.not_mem_nil, or_false] at hp
    rcases hp with rfl | rfl <;> exact num_no (Or.inl (by decide)) _)
  rw [show shareL r = TL.joinL [47] [num r.top, num r.under] from rfl, h]
  rfl
def numsI (r : RuleD) : List Int := [r.need, r.of, r.base, r.more, r.most, r.calm, r.top, r.under]
def numsS (r : RuleD) : List Str := [SX.S (num r.need), SX.S (num r.of), SX.S (num r.base), SX.S (num r.more), SX.S (num r.most), SX.S (num r.calm), SX.S (num r.top), SX.S (num r.under)]
theorem nums_at {r : RuleD} (h : RuleN r) {i : Nat} {s : Str} {n : Int} (hs : (numsS r)[i]? = some s) (hn : (numsI r)[i]? = some n) : ∃ k : Nat, k < 100 ∧ s = numT k ∧ n = (k : Int) := by
  have ok := h.ok
  have m : ∀ z : Int, 0 ≤ z → z < 100 → ∃ k : Nat, k < 100 ∧ SX.S (num z) = numT k ∧ z = (k : Int) := fun z h0 h1 => ⟨z.toNat, by omega, rfl, by omega⟩
  have a1 := m r.need (by have := ok.need; omega) (by have := ok.of; have := h.of; omega)
  have a2 := m r.of (by have := ok.need; have := ok.of; omega) h.of
  have a3 := m r.base (by have := ok.base; omega) (by have := ok.most; have := h.most; omega)
  have a4 := m r.more ok.more h.more
  have a5 := m r.most (by have := ok.base; have := ok.most; omega) h.most
  have a6 := m r.calm ok.calm h.calm
  have a7 := m r.top ok.top (by have := ok.topu; have := h.under; omega)
  have a8 := m r.under (by have := ok.under; omega) h.under
  match i, hs, hn with
  | 0, hs, hn => cases hs; cases hn; exact a1
  | 1, hs, hn => cases hs; cases hn; exact a2
  | 2, hs, hn => cases hs; cases hn; exact a3
  | 3, hs, hn => cases hs; cases hn; exact a4
  | 4, hs, hn => cases hs; cases hn; exact a5
  | 5, hs, hn => cases hs; cases hn; exact a6
  | 6, hs, hn => cases hs; cases hn; exact a7
  | 7, hs, hn => cases hs; cases hn; exact a8
theorem in_sides (up : Bool) : inV (.str (SX.S (sideW up))) [.str "down", .str "up"] = true := by
  cases up <;> decide +kernel
theorem side_up (up : Bool) : decide (V.str (SX.S (sideW up)) = V.str "up") = up := by
  cases up <;> decide +kernel
section
variable {P : Program} {w : World} {K : PySem.W.Frag} {mg : Str → Option Value} {base : Heap} {CR aB aH aF aS : Addr}
theorem ok_read {mc : Value} {pc : Addr} {f : Addr} {fd : FuncData} (D : C8.Fun K "read" "Rule.read" st_Rule_read f fd) (b : Binds K fd ["cls", "text"] []) (T : Tb K mg CR aB aH) (TF : Tf K mg aF aS) (rd : ClX.CRead K CR mc) (cm : ClX.CMet K CR mc "read" pc f)
    (c_free_words : C8.Cal P w K mg base 2 "_free_words" spFree []) (c_read_number : C8.Cal P w K mg base 2 "read_number" (spP rNum) []) (mk_Rule : C8.Mak P w K mg base 4 "Rule" CR (spInit CR) []) : ClM P w K mg base 6 CR "read" (spN (rRead CR)) := by
  refine ⟨mc, pc, f, rd, cm, (FnOk.raw (C8.fn0 (sp := spN (rRead CR)) D sc_Rule_read (fun vs H Q E h => ?_) (fun cdv A outer s H vs Q E hr h => ?_)) b .nil).imp fun vs H Q E h => by rwa [List.append_nil]⟩
  · obtain ⟨_, ⟨r, _, rfl, _⟩, _⟩ := h
    rfl
  · obtain ⟨_, ⟨r, rn, rfl, rfl⟩, k⟩ := h
    refine ⟨_, pss_cons (ps_set (i := 2) sc_Rule_read.nd rfl (Or.inl rfl) (C8.pe_c c_free_words hr (by decide) (by rfl) (pa_cons (pv 1) (pa_nil))))
      (pss_cons (ps_if (pt_cmpR (op_isN) (pv 2) (pe_non) (nomark _)) (pss_never) (pss_nil))
      (pss_cons (ps_asg (pe_slice sl_list (pv 2) (po_some (pe_int)) po_none) (pg_unl (n := 4) rfl (pgs_cons (pg_name (i := 3) sc_Rule_read.nd rfl (Or.inl rfl)) (pgs_cons (pg_name (i := 4) sc_Rule_read.nd rfl (Or.inl rfl)) (pgs_cons (pg_name (i := 5) sc_Rule_read.nd rfl (Or.inl rfl)) (pgs_cons (pg_name (i := 6) sc_Rule_read.nd rfl (Or.inl rfl)) (pgs_nil)))))))
      (pss_cons (ps_setLc (i := 7) (own := [("word", 8)]) (g := gName 8) (tt := tYes) (by rfl) sc_Rule_read.nd rfl rfl (sw_true rfl rfl rfl (by decide +kernel)) (pi_list (pe_op op_cat (pe_slice sl_list (pv 2) po_none (po_some (pe_int))) (pe_split (pv 4) (pe_str)))) (blkOk_by (own := [("word", 8)]) (N := ["cls", "text", "words", "back", "share", "side", "hears", "numbers", "word", "need", "of", "base", "more", "most", "calm", "top", "under"]) (sc := C8.fnScope st_Rule_read) (by decide +kernel)) (fun _ _ _ _ _ => pg_name (i := 8) sc_Rule_read.nd rfl (Or.inl rfl)) (fun _ _ _ _ _ => pts_nil) (fun _ _ _ _ _ => C8.pe_c c_read_number hr (by decide) (by rfl) (pa_cons (pv 8) (pa_nil))))
      (pss_cons (ps_if (PW.pt (pw_or (pt_cmpR (op_ne) (pe_callB call_len_seq (by rfl) T.bi_len boot_len (pa_cons (pv 7) (pa_nil))) (pe_int) (nomark _)) (pw_or1 (pt_cmpR (op_in_seq) (pe_non) (pv 7) (by rfl))))) (pss_never) (pss_nil))
      (pss_cons (ps_if (PW.pt (pw_or (pt_cmpR (op_notIn_seq) (pv 3) (C8.pe_gc (by rfl) T.gc_BACKS) (by rfl)) (pw_or (pt_cmpR (op_notIn_seq) (pv 5) (C8.pe_gc (by rfl) TF.gc_SIDES) (by rfl)) (pw_or1 (pt_cmpR (op_notIn_seq) (pv 6) (C8.pe_gc (by rfl) T.gc_HEARINGS) (by rfl)))))) (pss_never) (pss_nil))
      (pss_cons (ps_asg (pv 7) (pg_unl (n := 8) rfl (pgs_cons (pg_name (i := 9) sc_Rule_read.nd rfl (Or.inl rfl)) (pgs_cons (pg_name (i := 10) sc_Rule_read.nd rfl (Or.inl rfl)) (pgs_cons (pg_name (i := 11) sc_Rule_read.nd rfl (Or.inl rfl)) (pgs_cons (pg_name (i := 12) sc_Rule_read.nd rfl (Or.inl rfl)) (pgs_cons (pg_name (i := 13) sc_Rule_read.nd rfl (Or.inl rfl)) (pgs_cons (pg_name (i := 14) sc_Rule_read.nd rfl (Or.inl rfl)) (pgs_cons (pg_name (i := 15) sc_Rule_read.nd rfl (Or.inl rfl)) (pgs_cons (pg_name (i := 16) sc_Rule_read.nd rfl (Or.inl rfl)) (pgs_nil)))))))))))
      (pss_one (ps_ret (pe_mkL (i := 0) mk_Rule hr (by decide) rfl (Or.inl rfl) (pa_cons (pv 9) (pa_cons (pv 10) (pa_cons (pv 11) (pa_cons (pv 12) (pa_cons (pv 13) (pa_cons (pv 14) (pa_cons (pv 3) (pa_cons (pv 15) (pa_cons (pv 16) (pa_cons (pe_cmpR (op_eq) (pv 5) (pe_str) (nomark _)) (pa_cons (pv 6) (pa_nil))))))))))))))))))))), ?_⟩
    have ok := rn.ok
    refine x_asg (x_call (ea_cons (ev_var rfl) ea_nil H (Ex.refl H) _ fun H1 e1 => ⟨r, rn, rfl, fun p H2 np e2 hp => ?_⟩))
    refine q_when (b := false) (et_is (et_test (ev_op (ev_var rfl) ev_c rv_isN)) (by rfl)) (fun q => Bool.noConfusion q) fun _ H3 e3 => ?_
    have hp3 := e3 _ _ hp
    have c1 : cutV ((freeS r).map V.str) (some 6) none = [.str r.back, .str (SX.S (shareL r)), .str (SX.S (sideW r.up)), .str r.hears] := rfl
    have c2 : cutV ((freeS r).map V.str) none (some 6) = [SX.S (num r.need), SX.S (num r.of), SX.S (num r.base), SX.S (num r.more), SX.S (num r.most), SX.S (num r.calm)].map V.str := rfl
    refine x_asgG (el_is (el_sl (ev_var rfl) (eo_some ev_c) eo_none (sq_of hp3)) c1 H3 (Ex.refl H3) _ fun p4 H4 _ e4 hp4 => ⟨p4, _, rfl, sq_of hp4, rfl, _, _, rfl, _, _, rfl, _, _, rfl, _, _, rfl, rfl, ?_⟩)
    have hp5 := e4 _ _ hp3
    refine q_asgL (el_strs (xs := numsS r) (ns := numsI r) rfl (el_is (el_cat (el_is (el_sl (ev_var rfl) eo_none (eo_some ev_c) (sq_of hp5)) c2) (el_split (a := SX.S (shareL r)) (b := "/") (ev_var rfl) ev_c (by decide +kernel) ?hl) ?hz) ?hx) (by show 8 ≤ 40000; decide) (fun _ => rfl) (fun i s n H5 e5 hs hn => ?he)) fun pn H6 npn e6 hn => ?_
    case hl =>
      rw [TL.len_tl]
      exact Nat.le_trans (words_len rn (shareL r) (by simp [ruleWords, shareL])) (by decide)
    case hz =>
      rw [share_split]
      show 6 + 2 ≤ 100000
      decide
    case hx =>
      rw [share_split]
      rfl
    case he =>
      obtain ⟨z, z1, rfl, rfl⟩ := nums_at rn hs hn
      exact ev_call (ea_cons (ev_var rfl) ea_nil) (spv mono_num ⟨z, z1, rfl, rfl⟩)
    refine q_when (b := false) (et_is (et_or2 (et_test (ev_op (ev_cb (ea_cons (ev_var rfl) ea_nil) (rc_lenL (sq_of hn))) ev_c (rv_ne rfl))) (et_test (ev_op ev_c (ev_var rfl) (rv_isL (sq_of hn) rfl rfl)))) (by rfl)) (fun q => Bool.noConfusion q) fun _ H7 e7 => ?_
    refine q_when (b := false) (et_is (et_or2 (et_test (ev_op (ev_var rfl) ev_c (rv_niT (T.sB H7) rfl rfl))) (et_or2 (et_test (ev_op (ev_var rfl) ev_c (rv_niT (TF.sS H7) rfl rfl))) (et_test (ev_op (ev_var rfl) ev_c (rv_niT (T.sH H7) rfl rfl))))) ?hb) (fun q => Bool.noConfusion q) fun _ H8 e8 => ?_
    case hb => rw [in_backs ok.back, in_hears ok.hears, in_sides]; rfl
    have hn8 : H8 pn = some (.lst [.int r.need, .int r.of, .int r.base, .int r.more, .int r.most, .int r.calm, .int r.top, .int r.under]) := (e7.trans e8) _ _ hn
    refine x_asgG (ev_var rfl H8 (Ex.refl H8) _ fun H9 e9 => ⟨pn, [.int r.need, .int r.of, .int r.base, .int r.more, .int r.most, .int r.calm, .int r.top, .int r.under], rfl, sq_of (e9 _ _ hn8), rfl, ?_⟩)
    refine ⟨_, _, rfl, _, _, rfl, _, _, rfl, _, _, rfl, _, _, rfl, _, _, rfl, _, _, rfl, _, _, rfl, rfl, ?_⟩
    show tRet _ _ [some (V.ref CR), some (.str (textOf r)), some (.ref p), some (.str r.back), some (.str (SX.S (shareL r))), some (.str (SX.S (sideW r.up))), some (.str r.hears), some (.ref pn), none, some (.int r.need), some (.int r.of), some (.int r.base), some (.int r.more), some (.int r.most), some (.int r.calm), some (.int r.top), some (.int r.under)] H9
    refine s_retN (evN_mkL rfl (evN_rule (r := r) (ea_cons (ev_var rfl) (ea_cons (ev_var rfl) (ea_cons (ev_var rfl) (ea_cons (ev_var rfl) (ea_cons (ev_var rfl) (ea_cons (ev_var rfl) (ea_cons (ev_var rfl) (ea_cons (ev_var rfl) (ea_cons (ev_var rfl)
      (ea_cons (ev_op (ev_var rfl) ev_c (rv_eq rfl)) (ea_cons (ev_var rfl) ea_nil))))))))))) ?_ ok)) fun p9 H10 o np9 e10 ho hp9 => ?_
    · rw [side_up]
      rfl
    · have e := ((((((e1.trans e2).trans e3).trans e4).trans e6).trans e7).trans e8).trans e9
      exact k p9 H10 o (fresh_back e np9) (e.trans e10) ho hp9
end

/-! ### x != y of own objects: the text's own ==, turned round -/
section
variable {M : Model} {A : Around} {E : Value → Shared → Prop} {s : Shared} {K : PySem.W.Frag} {x y C f : Addr} {ox oy : Obj} {od od' : Option Obj}
theorem ne_bound {Q : Option Value → Shared → Prop} (X : K.In s.heap) (I : PySem.W.InstAt s.heap x ox C od) (hs : PySem.W.findIn K (.ref C) "__ne__" = some (some (.builtin "object.__ne__")))
    (h : wpAny M A (call (.builtin "object.__ne__") [.ref x, .ref y]) (fun v => Q (some v)) E s) : wpAny M A (callSpecialIfBound? (.ref x) "__ne__" [.ref y]) Q E s := by
  simp only [callSpecialIfBound?, bindSpecialIfBound?]
  refine wpAny_holding (wpAny_bind (wpAny_bind (wpAny_bind (I.type.here ((PySem.W.looks_findIn X hs).here ?_)))))
  simp only [PySem.F.cmp_object.ne.bind]
  refine wpAny_bind (wpAny_askSetting (wpAny_ite ?_))
  have fin : wpAny M A (call (.builtin "object.__ne__") ([.ref x] ++ [.ref y]) >>= fun v => pure (some v)) Q E s := wpAny_bind (wpAny_mono h (fun v s' h' => wpAny_pure h') fun _ _ h' => h')
  split
  · exact wpAny_bind (wpAny_pure (wpAny_pure fin))
  · exact wpAny_tryCatch (wpAny_bind (wpAny_pure (wpAny_pure fin)))
end
section
variable {prog : Program} {w : World} {A : Around} {E : Value → Shared → Prop} {s : Shared} {K : PySem.W.Frag} {x y C f : Addr} {ox oy : Obj} {od od' : Option Obj}
theorem ne_K {Q : Value → Shared → Prop} (hu : A.units + 1 < cLine) (X : K.In s.heap) (I : PySem.W.InstAt s.heap x ox C od) (J : PySem.W.InstAt s.heap y oy C od') (hn : PySem.W.findIn K (.ref C) "__ne__" = some (some (.builtin "object.__ne__")))
    (ho : PySem.W.mroIn K C (.type "object") = some true) (hs : PySem.W.findIn K (.ref C) "__eq__" = some (some (.ref f))) (hf : PySem.W.isFn K (.ref f) = true)
    (h : wpAny (model prog w) A.in1 (call (.ref f) [.ref x, .ref y]) (fun v s' => ∃ b, v = .bool b ∧ Q (.bool (!b)) s') E s) : wpAny (model prog w) A (richCompare .NotEq (.ref x) (.ref y)) Q E s := by
  have body : wpAny (model prog w) A.in1 (Builtin.«object.__ne__» ⟨[.ref x, .ref y], []⟩) (fun fin s' => match fin with | .done (.ret v) => ∃ b, v = .bool b ∧ Q (.bool b) s' | _ => False) E s := by
    unfold Builtin.«object.__ne__»
    repeat (first
      | with_reducible refine wpAny_cRoomFor hu ?_
      | (refine wpAny_bind (m := callSpecialIfBound? (.ref x) (Str.ofString "__eq__") [.ref y])
          (PySem.W.ifBound_K X I hs hf (wpAny_mono h (fun r s' hr => by
            obtain ⟨b, rfl, hq⟩ := hr
            repeat (first | exact ⟨_, rfl, hq⟩ | exact wpAny_pure ⟨_, rfl, hq⟩ | exact wpAny_truthy_bool ⟨_, rfl, hq⟩ | (refine wpAny_bind (m := truthy (.bool _)) (wpAny_truthy_bool ?_)) | wp_step)) fun _ _ e => e)))
      | wp_step)
  have one : wpAny (model prog w) A (tryCompare (.ref x) "__ne__" (.ref y)) (fun r s' => ∃ b, r = some (.bool b) ∧ Q (.bool b) s') E s := by
    unfold tryCompare
    refine wpAny_bind (ne_bound X I hn (wpAny_call (codeAny_call_builtin PySem.F.cmp_object.ne.plain PySem.F.cmpEntry_ne
      (PySem.W.check_slot PySem.F.cmpKind_ne PySem.F.cmpSplit_ne (I.type.andThen (PySem.W.looks_mroIn X ho)) (PySem.F.cmpArgs_ne _ _) (wpAny_mono body (fun fin s' hv => ?_) fun _ _ e => e)))))
    cases fin with
    | done r =>
      cases r with
      | ret v =>
        obtain ⟨b, rfl, hq⟩ := hv
        exact wpAny_pure ⟨b, rfl, hq⟩
      | _ => exact hv.elim
    | again c => exact hv.elim
  unfold richCompare
  simp only [oneThing_ref]
  refine wpAny_holding (wpAny_bind (wpAny_cRoomFor (by omega) ?_))
  rw [cmpInfo_NotEq]
  dsimp only
  refine wpAny_bind (I.type.here (wpAny_bind (J.type.here ?_)))
  rw [show (Value.ref C != Value.ref C) = false from by simp]
  simp only [Bool.false_eq_true, if_false]
  refine wpAny_bind (wpAny_pure ?_)
  simp only [Bool.false_eq_true, if_false]
  refine wpAny_bind (wpAny_mono one (fun r s' z => ?_) fun _ _ e => e)
  obtain ⟨b, rfl, hq⟩ := z
  exact wpAny_pure hq
end
section
variable {X : Cx} {k j : Nat} {C : Addr} {R : Hp → List V → V → Prop}
def rNeO (C : Addr) (R : Hp → List V → V → Prop) : R2 := fun x y H Q => ∃ (a b dx dy : Addr) (fs gs : List (Str × V)) (k : Bool), x = .ref a ∧ y = .ref b ∧ H a = some (.ins C dx fs) ∧ H b = some (.ins C dy gs) ∧ R H [.ref a, .ref b] (.bl k) ∧ ∀ H', Ex H H' → Q (.bl (!k)) H'
theorem op_neO (M : OwnM X.prog X.w X.K X.mg X.base k C "__eq__" R) (hne : PySem.W.findIn X.K (.ref C) "__ne__" = some (some (.builtin "object.__ne__"))) (ho : PySem.W.mroIn X.K C (.type "object") = some true) (hr : Room j X.A) (hk : k + 1 ≤ j) : OpR X (compareOp .NotEq) (rNeO C R) := by
  intro pins s σ H x y v u Q I rx ry h
  obtain ⟨f, fd, ps, F, hs, hf, hb⟩ := M.ex
  obtain ⟨a, b, dx, dy, fs, gs, k, rfl, rfl, ha, hb', hR, q⟩ := h
  cases rx
  cases ry
  obtain ⟨mA, J, _⟩ := ins_get I.hok ha
  obtain ⟨mB, J', _⟩ := ins_get I.hok hb'
  obtain ⟨od, J, _⟩ := J.look
  obtain ⟨od', J', _⟩ := J'.look
  have r2 : Room _ X.A.in1 := (hr.mono hk).in1
  show wpAny (model X.prog X.w) X.A (richCompare .NotEq (.ref a) (.ref b)) (EP X pins σ Q) X.xe s
  refine ne_K r2.units0 I.kIn J J' hne ho hs hf ?_
  have hsp : spP R [.ref a, .ref b] H (fun v H' => v = .bl k ∧ Ex H H') C8.E0 := ⟨.bl k, hR, fun H' e => ⟨rfl, e⟩⟩
  have e0 : Env0 X.prog X.w X.K X.mg X.base X.A.in1 X.stack s H := by
    have e := I.env0
    exact ⟨e.frames, e.mod, e.bs, e.bsz, e.funs, e.frf, e.hok, e.bare⟩
  have hl := F.len _ _ _ _ hsp
  refine wpAny_call (codeAny_mono (F.run X.A.in1 X.stack s H ⟨[.ref a, .ref b], []⟩ [.ref a, .ref b] [.ref a, .ref b] _ C8.E0 r2 e0 (by
    have := hb s [.ref a, .ref b] I.kIn (by simpa using hl)
    simpa using this) (.cons rfl (.cons rfl .nil)) hsp) fun r s' hq => ?_)
  cases r with
  | error e => exact False.elim hq
  | ok fl =>
    cases fl with
    | ret w =>
      obtain ⟨z, H', I', rz, ez, ex⟩ := I.after hq
      subst ez
      cases rz
      exact ⟨k, rfl, .bl (!k), H', I', rfl, q H' ex⟩
    | next => exact False.elim hq
    | brk => exact False.elim hq
    | cont => exact False.elim hq
end
section
variable {K : PySem.W.Frag} {σ : L2.St} {H : Hp} {C : Addr} {R : Hp → List V → V → Prop}
theorem rv_neO (m : Mono R) {a b dx dy : Addr} {fs gs : List (Str × V)} {k : Bool} (h : H a = some (.ins C dx fs)) (h' : H b = some (.ins C dy gs)) (hR : R H [.ref a, .ref b] (.bl k)) : RV (rNeO C R) (.ref a) (.ref b) H (.bl (!k)) :=
  fun H1 e _ q => ⟨a, b, dx, dy, fs, gs, k, rfl, rfl, e _ _ h, e _ _ h', m _ _ _ _ e hR, q⟩
end

/-! ### new tuples, pairs of a dict, sorted, methods of new objects -/
section
variable {K : PySem.W.Frag} {σ : L2.St} {Kn H H' : Hp} {M : Hp → Prop} {ta tb te tl tx : TE} {t : TT} {tz : TS} {D : Ends} {x y z v : V}
theorem eu_of {xs : List V} (h : EvN te σ H (· = .tup xs)) : EvU te σ H xs := fun H1 e Q q => h H1 e Q fun p H2 _ np e2 hp ho => q p H2 np e2 (by rw [hp, ho])
theorem en_of {xs : List V} (h : EvU te σ H xs) : EvN te σ H (· = .tup xs) := fun H1 e Q q => h H1 e Q fun p H2 np e2 hp => q p H2 _ np e2 hp rfl
theorem eu_slT {lo hi : TO} {l h : Option Int} {a : Addr} {xs : List V} (ha : Ev te σ H (.ref a)) (h1 : EvO lo σ H l) (h2 : EvO hi σ H h) (hs : SqT K H a xs) (hw : ¬ (HT.sIx xs.length 0 l = 0 ∧ HT.sIx xs.length xs.length h = xs.length)) : EvU (tSl (rSlT K) te lo hi) σ H (cutV xs l h) := fun H1 e _ q =>
  ha H1 e _ fun H2 e2 => h1 H2 (e.trans e2) _ fun H3 e3 => h2 H3 ((e.trans e2).trans e3) _ fun H4 e4 =>
    ⟨a, xs, rfl, ex_t (((e.trans e2).trans e3).trans e4) hs, hw, fun p hp => q p _ (fresh_back ((e2.trans e3).trans e4) hp) (((e2.trans e3).trans e4).trans (Ex.new hp)) upd_same⟩
theorem eu_catT {xs ys : List V} (ha : EvU ta σ H xs) (hb : EvU tb σ H ys) (x0 : xs ≠ []) (y0 : ys ≠ []) (hz : xs.length + ys.length ≤ 100000) : EvU (tOp (rCatT K) ta tb) σ H (xs ++ ys) := fun H1 e _ q =>
  ha H1 e _ fun p H2 np e2 hp => hb H2 (e.trans e2) _ fun p' H3 np' e3 hp' => ⟨p, p', xs, ys, rfl, rfl, st_of (e3 _ _ hp), st_of hp', x0, Nat.le_trans hz (by decide), fun z => (y0 z).elim, fun _ r nr => q r _ (fresh_back (e2.trans e3) nr) ((e2.trans e3).trans (Ex.new nr)) upd_same⟩
theorem ev_methN {C : Addr} {m : Str} {sp : Sp} {E : XK} {tq : TA} {vs : List V} {Pn : HO → Prop} (hn : EvN ta σ H Pn) (ho : ∀ o, Pn o → ∃ dx fs, o = .ins C dx fs ∧ fs.lookup m = none) (ht : EvA tq σ H vs)
    (hs : ∀ a o H1, Ex H H1 → H1 a = some o → Pn o → SpV sp (.ref a :: (vs ++ [])) H1 z) : Ev (tMeth C m sp [] E ta tq) σ H z := fun H1 e Q q =>
  hn H1 e _ fun a H2 o na e2 ha hp => by
    obtain ⟨dx, fs, rfl, hl⟩ := ho _ hp
    exact ⟨a, dx, fs, rfl, ha, hl, ht H2 (e.trans e2) _ fun H3 e3 => hs a _ H3 ((e.trans e2).trans e3) (e3 _ _ ha) hp H3 (Ex.refl H3) _ (fun H4 e4 => q H4 ((e2.trans e3).trans e4)) E⟩
theorem el_sorted {ns : List Int} (h : EvL te σ H (ns.map V.int)) (hs : ns.Pairwise (· ≤ ·)) : EvL (tCB (rSortedI K) (tCons te tNil)) σ H (ns.map V.int) := fun H1 e _ q =>
  h H1 e _ fun p H2 np e2 hp => ⟨p, ns, rfl, sq_of hp, fun ns' p' hP hS np' => by
    have en : ns' = ns := List.Perm.eq_of_pairwise (le := fun a b : Int => a ≤ b) (fun a b _ _ h1 h2 => Int.le_antisymm h1 h2) hS hs hP
    subst en
    exact q p' _ (fresh_back e2 np') (e2.trans (Ex.new np')) upd_same⟩
theorem el_mapV {a : Addr} {j : Nat} {vs : List Nat} {zs : List Int} (g : Int → Int) (h : Ev tl σ H (.ref a)) (hx : SqL K H a (zs.map V.int)) (hz : zs.length ≤ 40000) (hw : ∀ x, wipe ((wipe σ vs).set j (some x)) vs = wipe σ vs)
    (he : ∀ (z : Int) H1, Ex H H1 → z ∈ zs → Ev te ((wipe σ vs).set j (some (.int z))) H1 (.int (g z))) : EvL (tLc (iList K tl) (gName j) tYes te vs) σ H ((zs.map g).map V.int) := by
  refine el_is (el_lcL (fun _ => true) (fun i => .int (g (zs.getD i 0))) h hx (by rw [List.length_map]; exact hz) hw (fun _ _ _ _ _ => et_yes0) (fun i x H1 e hx _ => ?_)) ?_
  · rw [List.getElem?_map] at hx
    cases e1 : zs[i]? with
    | none => rw [e1] at hx; cases hx
    | some q =>
      rw [e1] at hx
      obtain rfl := (Option.some.inj hx).symm
      have : zs.getD i 0 = q := by rw [List.getD_eq_getElem?_getD, e1]; rfl
      rw [this]
      exact he q H1 e (List.mem_of_getElem? e1)
  · rw [given_all, List.length_map]
    congr 1
    refine List.ext_getElem? fun i => ?_
    rw [List.getElem?_map, List.getElem?_map]
    by_cases h1 : i < zs.length
    · rw [List.getElem?_eq_getElem h1, List.getElem?_range h1]
      show some (g (zs.getD i 0)) = some (g zs[i])
      rw [List.getD_eq_getElem?_getD, List.getElem?_eq_getElem h1]
      rfl
    · rw [List.getElem?_eq_none (show zs.length ≤ i by omega), List.getElem?_eq_none (show (List.range zs.length).length ≤ i by rw [List.length_range]; omega)]
      rfl
theorem el_mapR2 {tq : TA} {j : Nat} {vs : List Nat} {lo n : Int} (g : Int → Int) (h : EvA tq σ H [.int lo, .int n]) (hn : 0 ≤ lo ∧ lo ≤ 40000 ∧ -40000 ≤ n ∧ n ≤ 40000) (hw : ∀ x, wipe ((wipe σ vs).set j (some x)) vs = wipe σ vs)
    (he : ∀ (i : Nat) H1, Ex H H1 → lo + (i : Int) < n → Ev te ((wipe σ vs).set j (some (.int (lo + (i : Int))))) H1 (.int (g (lo + (i : Int))))) : EvL (tLc (iRng2 tq) (gName j) tYes te vs) σ H (((List.range (n - lo).toNat).map fun (i : Nat) => g (lo + (i : Int))).map V.int) :=
  el_is (el_lcR2 (fun _ => true) (fun i => .int (g (lo + (i : Int)))) h hn hw (fun _ _ _ _ => et_yes0) (fun i H1 e hi _ => he i H1 e hi)) (given_all _ _)
/-! pairs -/
def EvP (te : TE) (σ : L2.St) (H : Hp) (kvs : List (Key × V)) : Prop := ∀ H1, Ex H H1 → ∀ Q : VK, (∀ p (ps : List Addr) H2, H1 p = none → Ex H1 H2 → H2 p = some (.lst (ps.map V.ref)) → Paired (fun p (kv : Key × V) => H2 p = some (.tup [kV kv.1, kv.2])) ps kvs → Q (.ref p) H2) → te σ H1 Q
theorem Paired.imp {α β : Type} {F G : α → β → Prop} (h : ∀ a b, F a b → G a b) : ∀ {l1 : List α} {l2 : List β}, Paired F l1 l2 → Paired G l1 l2
  | _, _, .nil => .nil
  | _, _, .cons a t => .cons (h _ _ a) (Paired.imp h t)
theorem Paired.len {α β : Type} {F : α → β → Prop} : ∀ {l1 : List α} {l2 : List β}, Paired F l1 l2 → l1.length = l2.length
  | _, _, .nil => rfl
  | _, _, .cons _ t => by rw [List.length_cons, List.length_cons, Paired.len t]
theorem ep_lcL {a : Addr} {xs : List V} {j : Nat} {vs : List Nat} (kv : Nat → Key × V) (h : Ev tl σ H (.ref a)) (hx : SqL K H a xs) (hz : xs.length ≤ 40000) (hw : ∀ x, wipe ((wipe σ vs).set j (some x)) vs = wipe σ vs)
    (he : ∀ (i : Nat) (x : V) H1, Ex H H1 → xs[i]? = some x → EvU te ((wipe σ vs).set j (some x)) H1 [kV (kv i).1, (kv i).2]) : EvP (tLc (iList K tl) (gName j) tYes te vs) σ H ((List.range xs.length).map kv) := fun H0 e Q q => h H0 e _ fun H1 e1 => ⟨a, rfl, ⟨xs, ex_l (e.trans e1) hx⟩, fun Dl hD =>
  lc_list (xs := xs) (fun i H' => H1 Dl = none ∧ Ex H1 H' ∧ ∃ ps : List Addr, H' Dl = some (.lst (ps.map V.ref)) ∧ Paired (fun p (kv : Key × V) => H' p = some (.tup [kV kv.1, kv.2]) ∧ p ≠ Dl) ps ((List.range i).map kv))
    ⟨hD, Ex.new hD, [], upd_same, .nil⟩ (fun i H' _ p => ex_l ((e.trans e1).trans p.2.1) hx) (fun i x H' hi ⟨_, e2, ps, hps, hP⟩ => ⟨hw x, by
      show te ((wipe σ vs).set j (some x)) H' fun y H4 => ∃ acc, H4 Dl = some (.lst acc) ∧ acc.length < sizeLine ∧ _
      refine he i x H' ((e.trans e1).trans e2) hi H' (Ex.refl H') _ fun p H4 np e4 hp => ?_
      have nD : p ≠ Dl := fun z => by subst z; rw [hps] at np; cases np
      have hl := Paired.len hP
      rw [List.length_map, List.length_range] at hl
      have hlt := (List.getElem?_eq_some_iff.mp hi).1
      refine ⟨ps.map V.ref, e4 _ _ hps, sz_lt (by rw [List.length_map]; omega), hD, Ex.mut (e2.trans e4) hD, ps ++ [p], ?_, ?_⟩
      · rw [upd_same, List.map_append]
        rfl
      · rw [List.range_succ, List.map_append]
        refine Paired.snoc (Paired.imp (fun a b ⟨h1, h2⟩ => ⟨by rw [upd_ne h2]; exact e4 _ _ h1, h2⟩) hP) ⟨?_, nD⟩
        rw [upd_ne nD]
        exact hp⟩) (fun H' ⟨_, e2, ps, hps, hP⟩ => q Dl ps H' (fresh_back e1 hD) (e1.trans e2) hps (Paired.imp (fun _ _ h => h.1) hP))⟩
def rDictP (K : PySem.W.Frag) : List V → Hp → VK → Prop := fun xs H Q => ∃ (a : Addr) (ps : List Addr) (kvs : List (Key × V)), xs = [.ref a] ∧ SqL K H a (ps.map V.ref) ∧ Paired (fun p (kv : Key × V) => SqT K H p [kV kv.1, kv.2]) ps kvs ∧ ∀ p, H p = none → Q (.ref p) (upd H p (.dK (mergeK [] kvs)))
def rLenD : List V → Hp → VK → Prop := fun xs H Q => ∃ a kvs, xs = [V.ref a] ∧ H a = some (.dK kvs) ∧ Q (.int kvs.length) H
theorem ev_lenDict {kvs : List (Key × V)} (h : EvP te σ H kvs) : Ev (tCB rLenD (tCons (tCB (rDictP K) (tCons te tNil)) tNil)) σ H (.int ((mergeK [] kvs).length : Int)) := fun H1 e _ q =>
  h H1 e _ fun p ps H2 np e2 hp hP => ⟨p, ps, kvs, rfl, sq_of hp, Paired.imp (fun _ _ h => st_of h) hP, fun d nd => ⟨d, _, rfl, upd_same, q _ (e2.trans (Ex.new nd))⟩⟩
theorem cr_dictP {X : Cx} (hc : X.calm = true) : CallR X (.type "dict") (rDictP X.K) := call_dictP hc
theorem cr_lenD {X : Cx} : CallR X (.builtin "len") rLenD := call_lenD
/-- how many keys: rising up to the c-th, then the same -/
theorem merge_count {g : Nat → Int} {v : V} {c : Nat} (c0 : 1 ≤ c) (up : ∀ i j, i < j → j < c → g i < g j) (st : ∀ i, c ≤ i → g i = g (c - 1)) : ∀ n, (mergeK [] ((List.range n).map fun i => ((Sum.inl (g i) : Key), v))).length = min n c ∧
    ∀ z, (valV (mergeK [] ((List.range n).map fun i => ((Sum.inl (g i) : Key), v))) (Sum.inl z)).isSome = true ↔ ∃ j, j < n ∧ g j = z := by
  intro n
  induction n with
  | zero => exact ⟨by rw [Nat.zero_min]; rfl, fun z => ⟨fun h => (by cases h), fun ⟨j, h, _⟩ => absurd h (Nat.not_lt_zero _)⟩⟩
  | succ n ih =>
    obtain ⟨h1, h2⟩ := ih
    have es : mergeK [] ((List.range (n + 1)).map fun i => ((Sum.inl (g i) : Key), v)) = putK (mergeK [] ((List.range n).map fun i => ((Sum.inl (g i) : Key), v))) (Sum.inl (g n)) v := by
      unfold mergeK
      rw [List.range_succ, List.map_append, List.foldl_append]
      rfl
    rw [es]
    generalize mergeK [] ((List.range n).map fun i => ((Sum.inl (g i) : Key), v)) = acc at *
    refine ⟨?_, fun z => ?_⟩
    · by_cases hn : n < c
      · have no : valV acc (Sum.inl (g n)) = none := by
          cases e : valV acc (Sum.inl (g n)) with
          | none => rfl
          | some u =>
            obtain ⟨j, hj, ej⟩ := (h2 (g n)).mp (by rw [e]; rfl)
            have := up j n hj hn
            omega
        unfold putK
        rw [valV_any, no, if_neg (by decide), List.length_append, h1, List.length_singleton]
        omega
      · have yes : (valV acc (Sum.inl (g n))).isSome = true := (h2 _).mpr ⟨c - 1, by omega, (st n (by omega)).symm⟩
        obtain ⟨u, hu⟩ := Option.isSome_iff_exists.mp yes
        rw [putK_len v hu, h1]
        omega
    · rw [valV_put]
      constructor
      · intro h
        by_cases e : (Sum.inl z : Key) = Sum.inl (g n)
        · injection e with e
          exact ⟨n, Nat.lt_succ_self n, e.symm⟩
        · rw [if_neg e] at h
          obtain ⟨j, hj, ej⟩ := (h2 z).mp h
          exact ⟨j, Nat.lt_succ_of_lt hj, ej⟩
      · rintro ⟨j, hj, rfl⟩
        by_cases e : (Sum.inl (g j) : Key) = Sum.inl (g n)
        · rw [if_pos e]; rfl
        · rw [if_neg e]
          refine (h2 _).mpr ⟨j, ?_, rfl⟩
          rcases Nat.lt_or_ge j n with h | h
          · exact h
          · exact absurd (by rw [show j = n by omega]) e
/-- a list that may grow by one thing -/
theorem g_ifApp {d l L : Addr} {ws : List V} {b : Bool} {Pn : HO → Prop} (I : In d l Kn H) (hL : H L = some (.lst ws)) (kL : Kn L = none) (nd : L ≠ d) (nl : L ≠ l) (h : EvT t σ Kn b) (ha : Ev ta σ Kn (.ref L)) (hv : b = true → EvN te σ Kn Pn) (hz : ws.length < 1000)
    (k : ∀ ws' K1 H1, Ex Kn K1 → K1 L = some (.lst ws') → (ws' = ws ∨ b = true ∧ ∃ p o, ws' = ws ++ [.ref p] ∧ K1 p = some o ∧ Pn o) → In d l K1 H1 → tz D σ H1) :
    tSeq (tIfS t (tDrop (tBM K "list" rAppend ta (tCons te tNil))) tNext) tz D σ H := by
  refine q_when (h.mono I.ex) (fun hb H1 e1 => ?_) (fun hb H1 e1 => ?_)
  · have I1 := I.to e1
    refine ha H1 I1.ex _ fun H2 e2 => ⟨Or.inl ⟨rfl, ws, sq_of (e2 _ _ (e1 _ _ hL))⟩, hv hb H2 (I1.to e2).ex _ fun p H3 o np e3 hp ho => ⟨L, ws, .ref p, rfl, rfl, e3 _ _ (e2 _ _ (e1 _ _ hL)), sz_lt (by omega), ?_⟩⟩
    have I3 := (I1.to e2).to e3
    have hL2 := e2 _ _ (e1 _ _ hL)
    have np0 : H p = none := fresh_back (e1.trans e2) np
    have pL : p ≠ L := fun z => by subst z; rw [hL2] at np; cases np
    have I4 := ((I1.to e2).new np e3 hp)
    have kp : Kn p = none := fresh_back I.ex np0
    have hk : Ex Kn (upd Kn p o) := I4.2
    -- the list is known now
    refine k (ws ++ [.ref p]) (upd (upd Kn p o) L (.lst (ws ++ [.ref p]))) _ (hk.trans (Ex.new (by rw [upd_ne pL.symm]; exact kL))) upd_same (.inr ⟨hb, p, o, rfl, by rw [upd_ne pL, upd_same], ho⟩) ?_
    have m : Ex (upd Kn p o) (upd H3 L (.lst (ws ++ [.ref p]))) := Ex.mut I4.1.ex (by rw [upd_ne pL.symm]; exact kL)
    have dk : Dk d l (upd H3 L (.lst (ws ++ [.ref p]))) := by
      obtain ⟨kvs, ms, g1, g2, g3⟩ := I3.dk
      exact ⟨kvs, ms, by rw [upd_ne nd.symm]; exact g1, g2, by rw [upd_ne nl.symm]; exact g3⟩
    exact In.more (⟨m, I4.1.dn, I4.1.ln, dk⟩ : In d l (upd Kn p o) _) upd_same (by rw [upd_ne pL.symm]; exact kL) nd nl
  · have I1 := I.to e1
    exact k ws (upd Kn L (.lst ws)) H1 (Ex.new kL) upd_same (.inl rfl) (I1.more (e1 _ _ hL) kL nd nl)
end
section
variable {K : PySem.W.Frag} {σ : L2.St} {H : Hp} {ta tb : TE} {y z : V}
theorem ev_opN {r : R2} {Pn : HO → Prop} (ha : EvN ta σ H Pn) (hb : Ev tb σ H y) (hr : ∀ p o H1, H1 p = some o → Pn o → Ex H H1 → RV r (.ref p) y H1 z) : Ev (tOp r ta tb) σ H z := fun H1 e Q q =>
  ha H1 e _ fun p H2 o np e2 hp ho => hb H2 (e.trans e2) _ fun H3 e3 => hr p o H3 (e3 _ _ hp) ho ((e.trans e2).trans e3) H3 (Ex.refl H3) Q fun H4 e4 => q H4 ((e2.trans e3).trans e4)
end

/-! ### the law's own def, called at the top: nothing is under way there, so repr of data can be told -/
section
variable {P : Program} {w : World} {K : PySem.W.Frag} {mg mb : Str → Option Value} {k : Nat} {fa a : Addr} {qn nm x : Str} {prms : Arguments} {code : List Stmt} {sc : Scope} {dV kV doc pm cdv ct oc : Value} {an od : Option Addr} {osl : Array (Option Value)} {N : List Str}
/-- the body of the law's def, run at the top over base -/
def BodyAt (P : Program) (w : World) (K : PySem.W.Frag) (mg : Str → Option Value) (base : Heap) (k : Nat) (fa a : Addr) (qn : Str) (code : List Stmt) (sc : Scope) (cdv : Value) (N : List Str) (ns : List Int) : Prop :=
  ∀ (s : Shared) (H : Hp), Room k (callerA.deeper (envOfC qn sc s.heap.objs.size fa cdv)) → SqL K H a (ns.map V.int) →
    ∃ t, PSs (cxOf C8.CX0 P w K mg base N qn sc fa cdv callerA [] s H C8.E0).nox code t ∧ t { nx := fun _ _ => False, rt := fun v _ => v = .bl true } (start N [.ref a]) H
theorem top_at {base : Heap} {s : Shared} {H : Hp} {ns : List Int} (lk : K.lookup fa = some ⟨oc, od, .func (PySem.W.fnOf nm qn prms code sc dV kV doc pm an cdv ct), osl⟩) (hc : PySem.W.codeIn K cdv qn = true) (S : FnScope N [x] sc) (hr : Room (k + 1) callerA)
    (hb : ∀ (s : Shared) (u : Value), BindsTo s (PySem.W.fnOf nm qn prms code sc dV kV doc pm an cdv ct) ⟨[u], []⟩ [(x, u)]) (B : BodyAt P w K mg base k fa a qn code sc cdv N ns) (e0 : Env0 P w K mg base callerA [] s H) (hs : SqL K H a (ns.map V.int)) :
    codeAny (model P w) callerA (.call (.ref fa) ⟨[.ref a], []⟩) (CR C8.CX0 [] P w H s (fun v _ => v = .bl true) C8.E0) s := by
  have stay : ∀ b o, base.get? b = some o → s.heap.get? b = some o := fun b o e => (e0.bs b o e).1
  have kin : K.In s.heap := e0.mod.kin.keeps stay
  have one : Vals [V.ref a] [Value.ref a] := .cons rfl .nil
  have names : ∀ y ∈ [x].zip [Value.ref a], sc.names.lookup y.1 = some .local ∨ (sc.names.lookup y.1 = some .cell ∧ ((cellsFrom (s.heap.objs.size + 1) sc.names []).lookup y.1).isSome = true) := by
    intro y hy
    obtain ⟨m, v⟩ := y
    exact (S.par m (List.of_mem_zip hy).1).imp id fun q => ⟨q, PySem.W.cellsFrom_some _ _ _ (.inl q)⟩
  apply codeAny_call_function hr.depth (kin _ _ lk) rfl S.co S.gen rfl (PySem.W.codeRec_of kin hc) (hb _ _ _ _ _ _ ?_)
  refine wpAny_newFunctionEnv_cells S.kind names fun env he s1 entered => ?_
  cases he
  have lim := (e0.mod.nolimit.keeps stay).keeps entered.toInCall.keep
  refine ⟨lim, codeAny_func ?_⟩
  obtain ⟨t, ht, go⟩ := B s H (hr.deeper _) hs
  have I0 := inv_start (CX := C8.CX0) (E := C8.E0) S hr.hd e0 rfl one entered
  refine wpAny_mono (ht.nox.run [] s1 (start N [.ref a]) H _ I0 go) (fun way s' back => ?_) fun _ _ h => h
  cases way with
  | ret u =>
    obtain ⟨v, σ', H', J, rv, q⟩ := back
    exact ⟨v, H', J.os, J.bare, J.base, J.hok, rv, q⟩
  | next =>
    obtain ⟨_, _, _, q⟩ := back
    exact q.elim
  | brk =>
    obtain ⟨_, _, _, q⟩ := back
    exact q.elim
  | cont =>
    obtain ⟨_, _, _, q⟩ := back
    exact q.elim
end
section
variable {P : Program} {w : World} {K : PySem.W.Frag} {mg mb : Str → Option Value} {k : Nat} {fa a : Addr} {qn nm x : Str} {prms : Arguments} {code : List Stmt} {sc : Scope} {dV kV doc pm cdv ct oc : Value} {an od : Option Addr} {osl : Array (Option Value)} {N : List Str}
/-- the script's list as it stands -/
abbrev scr (vs : List Value) : Obj := { cls := .type "list", data := .seq vs.toArray }
/-- H tells of the script or of nothing -/
def OnlyScr (K : PySem.W.Frag) (a : Addr) (vs : List Value) (ns : List Int) (H : Hp) : Prop := ∀ b u, H b = some u → b = a ∧ u = .frz (scr vs) (.lst (ns.map V.int)) ∧ K.lookup a = none
theorem top_law {s : Shared} {vs : List Value} {ns : List Int} (lk : K.lookup fa = some ⟨oc, od, .func (PySem.W.fnOf nm qn prms code sc dV kV doc pm an cdv ct), osl⟩) (hc : PySem.W.codeIn K cdv qn = true) (S : FnScope N [x] sc) (hr : Room (k + 1) callerA)
    (hb : ∀ (s : Shared) (u : Value), BindsTo s (PySem.W.fnOf nm qn prms code sc dV kV doc pm an cdv ct) ⟨[u], []⟩ [(x, u)]) (B : ∀ base : Heap, K.In base → base.Ns mainGlobals mg → BodyAt P w K mg base k fa a qn code sc cdv N ns)
    (KX : K.In s.heap) (g1 : s.heap.Ns mainGlobals mg) (g2 : s.heap.Ns builtinsNs mb) (g3 : ∀ x : Str, x ≠ "__name__" → mb x = bootBuiltins x) (g4 : s.heap.NoLimit) (g5 : s.gens = #[])
    (ha : s.heap.get? a = some (scr vs)) (hi : IntsAre vs ns) (hl : ns.length ≤ sizeLine) :
    codeAny (model P w) callerA (.call (.ref fa) ⟨[.ref a], []⟩) (fun r s' => r = .ok (.ret (.bool true)) ∧ OldK s.heap s'.heap ∧ s'.os = s.os ∧ AllBare s'.gens) s := by
  have rel := vals_ints hi
  have over : ∀ H : Hp, OnlyScr K a vs ns H → HOk P w H s.heap → SqL K H a (ns.map V.int) →
      codeAny (model P w) callerA (.call (.ref fa) ⟨[.ref a], []⟩) (fun r s' => r = .ok (.ret (.bool true)) ∧ OldK s.heap s'.heap ∧ s'.os = s.os ∧ AllBare s'.gens) s := by
    intro H tells good hs
    have out : ∀ {b : Addr} {o : Obj}, s.heap.get? b = some o → o ≠ scr vs → H b = none := by
      intro b o e ne
      rcases hH : H b with _ | u
      · rfl
      · obtain ⟨rfl, _, _⟩ := tells b u hH
        exact absurd (Option.some.inj (e.symm.trans ha)) ne
    have ns_in : ∀ {b : Addr} {m : Str → Option Value}, s.heap.Ns b m → (hidT s.heap H).Ns b m := by
      rintro b m ⟨o, es, ep, e, d, r⟩
      refine ⟨o, es, ep, hidT_get e (out e fun z => ?_), d, r⟩
      rw [z] at d
      exact nomatch d
    have k_in : K.In (hidT s.heap H) := by
      intro b o e
      refine hidT_get (KX b o e) ?_
      rcases hH : H b with _ | u
      · rfl
      · obtain ⟨rfl, _, z⟩ := tells b u hH
        rw [z] at e
        exact nomatch e
    have modOk : Mod K mg (hidT s.heap H) := ⟨k_in, ns_in g1, ⟨mb, ns_in g2, g3⟩, g4.elim fun mc z => ⟨mc, ns_in z.1, z.2⟩⟩
    have e0 : Env0 P w K mg (hidT s.heap H) callerA [] s H := ⟨rfl, modOk, fun _ _ e => of_hidT e, Nat.le_of_eq (hidT_size _ _), trivial, fun _ hb => (nomatch hb), good, .of_eq g5⟩
    refine codeAny_mono (top_at lk hc S hr hb (B _ k_in (ns_in g1)) e0 hs) fun res s' h => ?_
    match res, h with
    | .ok (.ret u), h =>
      obtain ⟨v, H', os, bare, un, good', ru, rfl⟩ := h
      cases ru
      refine ⟨rfl, OldK.of_keep fun b o e => ?_, os, bare⟩
      rcases hH : H b with _ | u
      · exact un.keep b o e hH (fun z => (nomatch z)) (fun z => (nomatch z))
      · obtain ⟨rfl, rfl, _⟩ := tells b u hH
        obtain ⟨still, _⟩ := good' b _ (un.frzs b _ _ hH)
        rw [ha] at e
        rw [still]
        exact e
    | .ok .next, h => exact False.elim h
    | .ok .brk, h => exact False.elim h
    | .ok .cont, h => exact False.elim h
    | .error e, h => exact False.elim h
  rcases hk : K.lookup a with _ | o
  · refine over (fun b => if b = a then some (.frz (scr vs) (.lst (ns.map V.int))) else none) (fun b u z => ?_) (fun b u z => ?_) (.inl (.inr ⟨scr vs, if_pos rfl⟩))
    · change (if b = a then some (HO.frz (scr vs) (.lst (ns.map V.int))) else none) = some u at z
      by_cases q : b = a
      · rw [if_pos q] at z
        exact ⟨q, (Option.some.inj z).symm, hk⟩
      · rw [if_neg q] at z
        exact nomatch z
    · change (if b = a then some (HO.frz (scr vs) (.lst (ns.map V.int))) else none) = some u at z
      by_cases q : b = a
      · rw [if_pos q] at z
        subst q
        obtain rfl := Option.some.inj z
        exact ⟨ha, by rw [List.length_map]; exact hl, vs, _, rel, ha⟩
      · rw [if_neg q] at z
        exact nomatch z
  · have e := KX a o hk
    obtain rfl := Option.some.inj (e.symm.trans ha)
    exact over (fun _ => none) (fun _ _ z => (nomatch z)) (fun _ _ z => (nomatch z)) (.inr ⟨_, vs.toArray, _, hk, rfl, rfl, rfl, by rw [List.size_toArray, hi.length]; exact hl, by simpa using rel⟩)
end
/-- what the head wants of a law whose def runs at the top -/
theorem top_walk {l : PySem.W.OpenLaw} {n k : Nat} {q : Program} {loose : List Str} {XP : (Str → Option Value) → Heap → Prop} {YP : World → Heap → Prop} {d : DefRec} {K : Params → PySem.W.Frag} {x : Str}
    (hn : l.most = some n) (hn2 : n ≤ sizeLine) (hdf : d.params.defaults = []) (hr : Room (k + 1) callerA) (hY : ∀ (w : World) (h : Heap), YP w h → (K w.params).In h)
    (F : ∀ (w : World) (mg : Str → Option Value) (fa : Addr) (h : Heap), (K w.params).In h → h.Ns mainGlobals mg → mg d.name = some (.ref fa) →
      ∃ (nm qn : Str) (prms : Arguments) (code : List Stmt) (sc : Scope) (dV kV doc pm cdv ct oc : Value) (an od : Option Addr) (osl : Array (Option Value)) (N : List Str),
        (K w.params).lookup fa = some ⟨oc, od, .func (PySem.W.fnOf nm qn prms code sc dV kV doc pm an cdv ct), osl⟩ ∧ PySem.W.codeIn (K w.params) cdv qn = true ∧ FnScope N [x] sc ∧
        (∀ (s : Shared) (u : Value), BindsTo s (PySem.W.fnOf nm qn prms code sc dV kV doc pm an cdv ct) ⟨[u], []⟩ [(x, u)]) ∧
        ∀ base : Heap, (K w.params).In base → base.Ns mainGlobals mg → ∀ (a : Addr) (ns : List Int), ns.length ≤ n → BodyAt l.prog w (K w.params) mg base k fa a qn code sc cdv N ns) :
    PySem.W.WalkO q loose XP YP l.row.toRowW d [] (fun f vs => PySem.call f vs) := by
  refine Att.attach_call hn hdf fun w s0 s1 mg mb fa o pm cd doc a vs ns G Y _ _ _ hmg hobj hints hlen hg => ?_
  obtain ⟨nm, qn, prms, code, sc, dV, kV, doc, pm, cdv, ct, oc, an, od, osl, N, lk, hc, S, hb, B⟩ := F w mg fa _ (hY w _ Y) G.T.g hmg
  exact top_law lk hc S hr hb (fun base k1 k2 => B base k1 k2 a ns hlen) (hY w _ Y) G.T.g G.T.b G.T.builtins G.T.nolimit hg hobj hints (Nat.le_trans hlen hn2)

/-! ### repr of data at the top, what both ways of an if share -/
def rRepr (K : PySem.W.Frag) : List V → Hp → VK → Prop := fun xs H Q => ∃ (a : Addr) (d : PyData), xs = [.ref a] ∧ Dp K H (.ref a) d ∧ d.showable = true ∧ d.hasDict = false ∧ d.depth ≤ 64 ∧ d.shown.length ≤ 100000 ∧ Q (.str d.shown) H
theorem cr_repr {X : Cx} {j : Nat} (hg : X.A.guards = some []) (hr : Room j X.A) : CallR X (.builtin "repr") (rRepr X.K) := by
  intro pins s σ H xs us Q I rx h
  obtain ⟨a, d, rfl, hd, s1, s2, s3, s4, q⟩ := h
  obtain ⟨u, rfl, ru⟩ := Vals.one rx
  obtain rfl : u = Value.ref a := ru
  obtain ⟨as, r⟩ := Dp.reads I d _ _ hd rfl
  have un := hr.un
  exact repr_of_reads' r s1 (PyData.noDict_hsm s2) hg (by omega) (fun _ _ e => e) (fun h' u tk k => ⟨.str d.shown, H, I.kept (t' := tk) k, ⟨u, rfl⟩, q⟩) (Nat.le_trans s4 (by decide))
section
variable {K : PySem.W.Frag} {σ : L2.St} {H : Hp} {ta tb te : TE} {x y z : V}
theorem rc_repr {a : Addr} {d : PyData} (hd : Dp K H (.ref a) d) (s1 : d.showable = true) (s2 : d.hasDict = false) (s3 : d.depth ≤ 64) (s4 : d.shown.length ≤ 100000) : RC (rRepr K) [.ref a] H (.str d.shown) := fun H1 e _ q => ⟨a, d, rfl, dp_up e hd, s1, s2, s3, s4, q H1 (Ex.refl H1)⟩
theorem ev_reprN {xs : List V} {d : PyData} (h : EvU te σ H xs) (hd : ∀ a H1, H1 a = some (.tup xs) → Ex H H1 → Dp K H1 (.ref a) d) (s1 : d.showable = true) (s2 : d.hasDict = false) (s3 : d.depth ≤ 64) (s4 : d.shown.length ≤ 100000) : Ev (tCB (rRepr K) (tCons te tNil)) σ H (.str d.shown) := fun H1 e _ q =>
  h H1 e _ fun p H2 _ e2 hp => ⟨p, d, rfl, hd p H2 hp (e.trans e2), s1, s2, s3, s4, q H2 e2⟩
theorem ev_strN {C : Addr} {R : Hp → List V → V → Prop} {s : Str} {Pn : HO → Prop} (h : EvN te σ H Pn) (hp : ∀ a o H1, H1 a = some o → Pn o → Ex H H1 → (∃ dx fs, o = .ins C dx fs) ∧ R H1 [.ref a] (.str s)) : Ev (tCB (rStrO C R) (tCons te tNil)) σ H (.str s) := fun H1 e _ q =>
  h H1 e _ fun a H2 o _ e2 ha ho => by
    obtain ⟨⟨dx, fs, rfl⟩, hR⟩ := hp a o H2 ha ho (e.trans e2)
    exact ⟨a, dx, fs, s, rfl, ha, hR, fun H' e3 => q H' (e2.trans e3)⟩
theorem el_catV {a : Addr} {xs ys : List V} (h1 : Ev ta σ H (.ref a)) (ha : H a = some (.lst xs)) (h2 : EvL tb σ H ys) (hz : xs.length + ys.length ≤ 100000) : EvL (tOp rCat ta tb) σ H (xs ++ ys) := fun H1 e _ q =>
  h1 H1 e _ fun H2 e2 => h2 H2 (e.trans e2) _ fun p' H3 np' e3 hp' => ⟨a, p', xs, ys, rfl, rfl, ((e.trans e2).trans e3) _ _ ha, hp', Nat.le_trans hz (by decide), fun r nr => q r _ (fresh_back (e2.trans e3) nr) ((e2.trans e3).trans (Ex.new nr)) upd_same⟩
theorem rv_addS {a b : Str} (h : a.length + b.length ≤ 100000) : RV (fun x y H Q => ∃ i j, x = V.str i ∧ y = V.str j ∧ i.length + j.length ≤ sizeLine ∧ Q (.str (i ++ j)) H) (.str a) (.str b) H (.str (a ++ b)) := fun H1 _ _ q => ⟨a, b, rfl, rfl, Nat.le_trans h (by decide), q H1 (Ex.refl H1)⟩
/-- an if that may set a name: the rest is shown once -/
theorem x_ifShare {i : Nat} {t : TT} {tz : TS} {D : Ends} (C : V → Hp → Prop) (rest : ∀ v H', C v H' → tz D (σ.set i (some v)) H') (h : (∀ v H', C v H' → tz D (σ.set i (some v)) H') → t σ H fun b H1 => if b = true then te σ H1 (fun v H2 => tz D (σ.set i (some v)) H2) else tz D σ H1) :
    tSeq (tIfS t (tAsg te (gName i)) tNext) tz D σ H := h rest
theorem x_test {Q : Bool → Hp → Prop} (h : te σ H fun v H1 => ∃ b, v = .bl b ∧ Q b H1) : tTest te σ H Q := h
end
/-! ### a rule's arguments as data -/
def RuleD.data (r : RuleD) : PyData := .tuple [.int r.need, .int r.of, .int r.base, .int r.more, .int r.most, .int r.calm, .str r.back, .int r.top, .int r.under, .bool r.up, .str r.hears]
theorem dp_rule {K : PySem.W.Frag} {H : Hp} {p : Addr} {r : RuleD} (h : SqT K H p r.vals) : Dp K H (.ref p) r.data := .tup h (.cons (.int _) (.cons (.int _) (.cons (.int _) (.cons (.int _) (.cons (.int _) (.cons (.int _) (.cons (.str _) (.cons (.int _) (.cons (.int _) (.cons (.bl _) (.cons (.str _) .nil)))))))))))
theorem eqv_rule (r r' : RuleD) : PyData.eqv r.data r'.data = true ↔ r = r' := by
  cases r
  cases r'
  simp [RuleD.data, PyData.eqv, PyData.eqvAll]
theorem shaped_rule {r : RuleD} (ok : r.ok) : SeqAt.shaped r.data = true := by
  have sb : PyData.canLay0 (.str r.back) = true := by rcases ok.back with h | h | h <;> rw [h] <;> decide +kernel
  have sh : PyData.canLay0 (.str r.hears) = true := by rcases ok.hears with h | h | h <;> rw [h] <;> decide +kernel
  have si : ∀ i, PyData.canLay0 (.int i) = true := fun _ => rfl
  have su : ∀ i, PyData.canLay0 (.bool i) = true := fun _ => rfl
  have e1 : PyData.canLay0 r.data = true := by
    show PyData.canLayAll0 [_, _, _, _, _, _, _, _, _, _, _] = true
    simp only [PyData.canLayAll0, si, su, sb, sh, Bool.and_self]
  have e2 : PyData.depth r.data = 1 := by
    simp [RuleD.data, PyData.depth, PyData.depthAll]
  unfold SeqAt.shaped
  rw [e1, e2]
  decide
theorem show_rule {r : RuleD} (h : RuleN r) : r.data.showable = true ∧ r.data.hasDict = false ∧ r.data.depth ≤ 64 ∧ r.data.shown.length ≤ 100000 := by
  have ok := h.ok
  have a : ∀ z : Int, 0 ≤ z → z < 100 → PyData.showable (.int z) = true ∧ (PyData.shown (.int z)).length ≤ 6 := fun z h0 h1 => ⟨decide_eq_true (numLog h0 (by omega)), numLen h0 (by omega)⟩
  have a1 := a r.need (by have := ok.need; omega) (by have := ok.of; have := h.of; omega)
  have a2 := a r.of (by have := ok.need; have := ok.of; omega) h.of
  have a3 := a r.base (by have := ok.base; omega) (by have := ok.most; have := h.most; omega)
  have a4 := a r.more ok.more h.more
  have a5 := a r.most (by have := ok.base; have := ok.most; omega) h.most
  have a6 := a r.calm ok.calm h.calm
  have a7 := a r.top ok.top (by have := ok.topu; have := h.under; omega)
  have a8 := a r.under (by have := ok.under; omega) h.under
  have lb : (PyData.shown (.str r.back)).length ≤ 10 := by rcases ok.back with h | h | h <;> rw [h] <;> decide +kernel
  have lh : (PyData.shown (.str r.hears)).length ≤ 10 := by rcases ok.hears with h | h | h <;> rw [h] <;> decide +kernel
  have lu : (PyData.shown (.bool r.up)).length ≤ 10 := by cases r.up <;> decide +kernel
  have ss : ∀ s, PyData.showable (.str s) = true := fun _ => rfl
  have su : ∀ b, PyData.showable (.bool b) = true := fun _ => rfl
  refine ⟨?_, ?_, ?_, ?_⟩
  · show PyData.showableAll [_, _, _, _, _, _, _, _, _, _, _] = true
    simp only [PyData.showableAll, a1.1, a2.1, a3.1, a4.1, a5.1, a6.1, a7.1, a8.1, ss, su, Bool.and_self]
  · simp [RuleD.data, PyData.hasDict, PyData.hasDictAll]
  · simp [RuleD.data, PyData.depth, PyData.depthAll]
  · show (tupleText (PyData.shownAll [_, _, _, _, _, _, _, _, _, _, _])).length ≤ 100000
    refine Nat.le_trans (tupleText_len_le _) ?_
    simp only [PyData.shownAll, List.map_cons, List.map_nil, List.sum_cons, List.sum_nil, List.length_cons, List.length_nil]
    have := a1.2
    have := a2.2
    have := a3.2
    have := a4.2
    have := a5.2
    have := a6.2
    have := a7.2
    have := a8.2
    omega
section
variable {K : PySem.W.Frag}
theorem eu_catV {σ : L2.St} {H : Hp} {ta tb : TE} {a : Addr} {xs ys : List V} (h1 : Ev ta σ H (.ref a)) (ha : SqT K H a xs) (h2 : EvU tb σ H ys) (x0 : xs ≠ []) (y0 : ys ≠ []) (hz : xs.length + ys.length ≤ 100000) : EvU (tOp (rCatT K) ta tb) σ H (xs ++ ys) := fun H1 e _ q =>
  h1 H1 e _ fun H2 e2 => h2 H2 (e.trans e2) _ fun p' H3 np' e3 hp' => ⟨a, p', xs, ys, rfl, rfl, ex_t ((e.trans e2).trans e3) ha, st_of hp', x0, Nat.le_trans hz (by decide), fun z => (y0 z).elim, fun _ r nr => q r _ (fresh_back (e2.trans e3) nr) ((e2.trans e3).trans (Ex.new nr)) upd_same⟩
theorem eq_text {r r' : RuleD} (ok : r.ok) (ok' : r'.ok) : decide (textOf r = textOf r') = PyData.eqv r.data r'.data := by
  by_cases h : r = r'
  · subst h
    rw [decide_eq_true rfl, (eqv_rule r r).mpr rfl]
  · rw [decide_eq_false fun z => h (text_inj ok ok' z)]
    cases e : PyData.eqv r.data r'.data with
    | false => rfl
    | true => exact absurd ((eqv_rule r r').mp e) h
end

/-! ### tuple * int of any size, tuple.count of bools, dict.update -/
section
open PySem.Spec PyProof.Rows
theorem tuple_mulS (l : Addr) (items : Array Value) (n : Nat) (dd : Option Addr) (sl : Array (Option Value)) (u : Tok) :
    Meets (Builtin.«tuple.__mul__» ⟨[.ref l, .int 1 u], []⟩) (fun _ R s => s.heap.get? l = some { cls := .type "tuple", dict := dd, data := .seq items n, slots := sl } ∧ R (.ok (.ret (Value.ref l))) s) :=
  .of_wp fun prog w A R s h => by
    obtain ⟨hp, g, d, tk, os⟩ := s
    obtain ⟨hl, h⟩ := h
    have f1 := AutoSeq1.idx_int
    have c1 : (items.isEmpty || (1 : Int) == 1) = true := by simp
    wp_walk using wpAny_loadPart' hl
    repeat (first
      | (refine wpAny_ite_true (by rw [c1]) ?_; wp_walk using wpAny_loadPart' hl)
      | (refine wpAny_ite_false (decide_eq_false (by decide)) ?_; wp_walk using wpAny_loadPart' hl))
    exact ⟨_, rfl, h⟩
theorem tuple_mulZ (l : Addr) (items : Array Value) (n : Nat) (dd : Option Addr) (sl : Array (Option Value)) (x : Int) (u : Tok) (c0 : (decide (x < -(2 ^ 63)) || decide (x ≥ 2 ^ 63)) = false) (c1 : (items.isEmpty || x == 1) = false) (c2 : (decide (x ≤ 0) || items.isEmpty) = true) :
    Meets (Builtin.«tuple.__mul__» ⟨[.ref l, .int x u], []⟩) (fun _ R s => s.heap.get? l = some { cls := .type "tuple", dict := dd, data := .seq items n, slots := sl } ∧
      R (.ok (.ret (Value.ref s.heap.objs.size))) { s with heap := s.heap.push { cls := Value.type "tuple", data := Data.seq #[] }, toks := s.toks }) :=
  .of_wp fun prog w A R s h => by
    obtain ⟨hp, g, d, tk, os⟩ := s
    obtain ⟨hl, h⟩ := h
    have f1 := AutoSeq1.idx_int
    wp_walk using wpAny_loadPart' hl
    repeat (first
      | (refine wpAny_ite_false (decide_eq_false (by rw [c0]; exact Bool.false_ne_true)) ?_; wp_walk using wpAny_loadPart' hl)
      | (refine wpAny_ite_false (decide_eq_false (by rw [c1]; exact Bool.false_ne_true)) ?_; wp_walk using wpAny_loadPart' hl)
      | (refine wpAny_ite_true (decide_eq_true c2) ?_; wp_walk using wpAny_loadPart' hl))
    exact ⟨_, rfl, h⟩
end
def rRepA (K : PySem.W.Frag) : R2 := fun x y H Q => ∃ l k xs, x = .ref l ∧ y = .int k ∧ SqT K H l xs ∧ xs ≠ [] ∧ 0 ≤ k ∧ k ≤ 1000 ∧ xs.length ≤ 1000 ∧ (k = 1 → Q (.ref l) H) ∧ (k ≠ 1 → ∀ p, H p = none → Q (.ref p) (upd H p (.tup (List.replicate k.toNat xs).flatten)))
section
open PySem.Spec PyProof.Rows
variable {X : Cx}
theorem op_repTA : OpR X (binaryOp .Mult) (rRepA X.K) := by
  intro pins s σ H x y v u Q I rx ry h
  obtain ⟨l, k, xs, rfl, rfl, hT, hne, h1, h2, hz, q1, qn⟩ := h
  by_cases k2 : 2 ≤ k
  · exact op_repT pins s σ H _ _ v u Q I rx ry ⟨l, k, xs, rfl, rfl, hT, hne, k2, h2, hz, qn (by omega)⟩
  cases rx
  obtain ⟨t, rfl⟩ := ry
  obtain ⟨its, r, ⟨⟨cls, dd, data, sl⟩, ho, hc, n, hd⟩, hs⟩ := I.tuple hT
  simp only at hc hd
  subst hc hd
  have hle : its.length = xs.length := r.length.symm
  have hn : its ≠ [] := fun e => hne (by
    rw [e] at hle
    exact List.eq_nil_of_length_eq_zero hle.symm)
  have hi : its.toArray.isEmpty = false := by
    cases its with
    | nil => exact absurd rfl hn
    | cons a b => rfl
  have c0 : (decide (k < -(2 ^ 63)) || decide (k ≥ 2 ^ 63)) = false := by
    rw [decide_eq_false (by omega), decide_eq_false (by omega)] <;> rfl
  by_cases k1 : k = 1
  · subst k1
    refine wpAny_binaryOp_repeat_ref (T := "tuple") (U := "int") (by decide) ⟨_, ho, rfl⟩ (fun s' => typeIs_int s' 1 t) noFill_tuple_mul F.fills_int_mul F.slot_int_rmul repeat_tuple F.slot_int_index.lookup
      (call_meets F.slot_int_rmul (typeIs_int s 1 t) F.entry_int_rmul (F.args_int_rmul_2 _ _) (int_rmul_tuple 1 t l its.toArray n dd sl)
        ⟨ho, rfl, ⟨_, ho, rfl⟩, call_meets F.slot_tuple_mul ⟨_, ho, rfl⟩ F.entry_tuple_mul (F.args_tuple_mul_2 _ _) (tuple_mulS l its.toArray n dd sl t) ⟨ho, ?_⟩⟩)
    exact ⟨.ref l, H, I, rfl, q1 rfl⟩
  · have k0 : k = 0 := by omega
    subst k0
    have c1 : (its.toArray.isEmpty || (0 : Int) == 1) = false := by rw [hi]; rfl
    refine wpAny_binaryOp_repeat_ref (T := "tuple") (U := "int") (by decide) ⟨_, ho, rfl⟩ (fun s' => typeIs_int s' 0 t) noFill_tuple_mul F.fills_int_mul F.slot_int_rmul repeat_tuple F.slot_int_index.lookup
      (call_meets F.slot_int_rmul (typeIs_int s 0 t) F.entry_int_rmul (F.args_int_rmul_2 _ _) (int_rmul_tuple 0 t l its.toArray n dd sl)
        ⟨ho, rfl, ⟨_, ho, rfl⟩, call_meets F.slot_tuple_mul ⟨_, ho, rfl⟩ F.entry_tuple_mul (F.args_tuple_mul_2 _ _) (tuple_mulZ l its.toArray n dd sl 0 t c0 c1 (by rfl)) ⟨ho, ?_⟩⟩)
    refine ⟨.ref s.heap.objs.size, _, I.laid (t' := s.toks) (o := .tup []) (fun b ob q => Heap.get?_push_of_some _ q) (Nat.le_refl _) ?_, rfl, qn (by decide) _ (I.hok.fresh (Nat.le_refl _))⟩
    exact ⟨Nat.zero_le _, _, .nil, IsTup.new _ _⟩
def rCntB (K : PySem.W.Frag) : V → List V → Hp → VK → Prop := fun x xs H Q => ∃ (p : Addr) (bs : List Bool) (k : Bool), x = .ref p ∧ xs = [.bl k] ∧ SqT K H p (bs.map V.bl) ∧ Q (.int (bs.count k : Nat)) H
theorem dpAll_bools {K : PySem.W.Frag} {H : Hp} : ∀ bs : List Bool, DpAll K H (bs.map V.bl) (bs.map PyData.bool)
  | [] => .nil
  | _ :: bs => .cons (.bl _) (dpAll_bools bs)
theorem plain_bools : ∀ bs : List Bool, PyData.plainAll (bs.map PyData.bool) = true
  | [] => rfl
  | b :: bs => by
    show (PyData.plain (.bool b) && PyData.plainAll (bs.map PyData.bool)) = true
    rw [plain_bools bs]
    rfl
theorem depth_bools : ∀ bs : List Bool, PyData.depthAll (bs.map PyData.bool) = 0
  | [] => rfl
  | b :: bs => by
    show max (PyData.depth (.bool b)) (PyData.depthAll (bs.map PyData.bool)) = 0
    rw [depth_bools bs]
    rfl
theorem count_bools (k : Bool) : ∀ bs : List Bool, ((bs.map PyData.bool).countP fun y => PyData.eqv y (.bool k)) = bs.count k
  | [] => rfl
  | b :: bs => by
    rw [List.map_cons, List.countP_cons, count_bools k bs, List.count_cons]
    cases b <;> cases k <;> rfl
theorem mt_tcountB (hu : X.A.units + 1 < cLine) : MtR X "tuple.count" (rCntB X.K) := by
  intro pins s σ H x xs v us Q I rx rxs h
  obtain ⟨p, bs, k, rfl, rfl, hs, q⟩ := h
  cases rx
  obtain ⟨u, rfl, ru⟩ := rxs.one
  cases ru
  obtain ⟨its, rv, pl, hlen⟩ := I.tuple hs
  obtain ⟨as, rs⟩ := Dp.readsAll I (bs.map PyData.bool) _ its (dpAll_bools bs) rv
  obtain ⟨as2, rb⟩ := Dp.reads I (.bool k) (.bl k) (.bool k) (.bl k) rfl
  refine PySem.SeqAt.count_tuple_data pl (by simpa using rs) rb (plain_bools bs) rfl (by
    rw [depth_bools]
    show _ + 1 + min 0 _ < cLine
    omega) ?_
  refine ⟨.int (bs.count k : Nat), H, I.tok _, ⟨s.toks, ?_⟩, q⟩
  rw [count_bools]
def rUpdD : V → List V → Hp → VK → Prop := fun x vs H Q => ∃ (a b : Addr) (kvs more : List (Key × V)), x = .ref a ∧ vs = [.ref b] ∧ a ≠ b ∧ H a = some (.dK kvs) ∧ H b = some (.dK more) ∧ kvs.length + more.length ≤ 1000 ∧ Q .non (upd H a (.dK (mergeK kvs more)))
theorem mtd_update : MtR X "dict.update" rUpdD := by
  intro pins s σ H x vs v us Q I rx rv h
  obtain ⟨a, b, kvs, more, rfl, rfl, hab, ha, hb, hz, q⟩ := h
  obtain rfl : v = Value.ref a := rx
  obtain ⟨u, rfl, ru⟩ := rv.one
  obtain rfl : u = Value.ref b := ru
  obtain ⟨z, hd, xs, rel, dd⟩ := dk_of I.hok ha
  obtain ⟨z2, hd2, ys, rel2, dd2⟩ := dk_of I.hok hb
  refine call_meetsIn PySem.F.slot_dict_update dd.typeIs PySem.F.entry_dict_update (PySem.F.args_dict_update_2 _ _) (meets_dict_update (mixKind X.prog X.w) a b hab hd2) ⟨xs, ys, dd, dd2, by rw [← rel.length, ← rel2.length]; exact Nat.le_trans hz (by decide), fun h' dd' _ hs => ?_⟩
  have he : ∃ q, h'.get? a = some q := let ⟨q, _, _, hq, _⟩ := dd'; ⟨q, hq⟩
  exact ⟨.non, _, d_write (t' := s.toks) I (by rw [ha]; exact True.intro) hs he (dk_new (Nat.le_trans (length_mergeK more kvs) (Nat.le_trans hz (by decide))) hd (KV.merge rel2 rel) dd'), rfl, q⟩
end
/-! ### tuples whose own record is told, too: they have no dict, so that their methods are found -/
def FzT (H : Hp) (p : Addr) (xs : List V) : Prop := ∃ o : Obj, H p = some (.frz o (.tup xs)) ∧ o.dict = none
theorem FzT.sq {K : PySem.W.Frag} {H : Hp} {p : Addr} {xs : List V} (h : FzT H p xs) : SqT K H p xs := by
  obtain ⟨o, h, _⟩ := h
  exact .inl (.inr ⟨o, h⟩)
theorem FzT.up {H H' : Hp} {p : Addr} {xs : List V} (h : FzT H p xs) (e : Ex H H') : FzT H' p xs := by
  obtain ⟨o, h, d⟩ := h
  exact ⟨o, e _ _ h, d⟩
def tTupZ (t : TA) : TE := fun σ H Q => t σ H fun xs H1 => xs.length ≤ sizeLine ∧ ∀ (p : Addr) (o : Obj), H1 p = none → o.dict = none → Q (.ref p) (upd H1 p (.frz o (.tup xs)))
def rSlZ : V → Option Int → Option Int → Hp → VK → Prop := fun x lo hi H Q => ∃ a xs, x = .ref a ∧ FzT H a xs ∧
  (HT.sIx xs.length 0 lo = 0 ∧ HT.sIx xs.length xs.length hi = xs.length → Q (.ref a) H) ∧ (¬ (HT.sIx xs.length 0 lo = 0 ∧ HT.sIx xs.length xs.length hi = xs.length) → ∀ (p : Addr) (o : Obj), H p = none → o.dict = none → Q (.ref p) (upd H p (.frz o (.tup (cutV xs lo hi)))))
def rCatZ (K : PySem.W.Frag) : R2 := fun x y H Q => ∃ a b xs ys, x = .ref a ∧ y = .ref b ∧ SqT K H a xs ∧ FzT H b ys ∧ ys ≠ [] ∧ xs.length + ys.length ≤ sizeLine ∧
  (xs = [] → Q (.ref b) H) ∧ (xs ≠ [] → ∀ (p : Addr) (o : Obj), H p = none → o.dict = none → Q (.ref p) (upd H p (.frz o (.tup (xs ++ ys)))))
def tBMZ (r : V → List V → Hp → VK → Prop) (to : TE) (t : TA) : TE := fun σ H Q => to σ H fun x H1 => (∃ p xs, x = .ref p ∧ FzT H1 p xs) ∧ t σ H1 fun ys H2 => r x ys H2 Q
section
open PySem.Spec PyProof.Rows
variable {X : Cx}
theorem pe_tupZ {es : List Expr} {t : TA} {x1} {pos : Pos} (h : PA X es t) : PE X (.Tuple es x1 pos) (tTupZ t) := by
  refine ⟨fun pins s σ H Q I hq => ?_⟩
  refine wpAny_Tuple_spliced (thn (h.run pos pins s σ H _ I hq) fun us s1 ⟨xs, H1, I1, r, z, q⟩ => ⟨by rw [← r.length]; exact z, ?_⟩)
  have hf : H1 s1.heap.objs.size = none := I1.hok.fresh (Nat.le_refl _)
  refine ⟨.ref s1.heap.objs.size, upd H1 s1.heap.objs.size (.frz { cls := .type "tuple", data := .seq us.toArray } (.tup xs)), I1.laid (t' := s1.toks) (fun b u e => Heap.get?_push_of_some _ e) (Nat.le_refl _) ?_, rfl, q _ _ hf rfl⟩
  exact ⟨Heap.get?_push_size _ rfl, z, us, r, ⟨_, Heap.get?_push_size _ rfl, rfl, _, rfl⟩⟩
theorem sl_tupZ : SlR X rSlZ := by
  intro pins s σ H x v vl vu lo hi sl Q I rx hs pl pu h
  obtain ⟨a, xs, rfl, hx, q1, q2⟩ := h
  by_cases hw : HT.sIx xs.length 0 lo = 0 ∧ HT.sIx xs.length xs.length hi = xs.length
  · exact sl_tupA pins s σ H _ v vl vu lo hi sl Q I rx hs pl pu ⟨a, xs, rfl, hx.sq, q1, fun z => absurd hw z⟩
  · cases rx
    obtain ⟨its, r, ht, hz⟩ := I.tuple (hx.sq (K := X.K))
    have hlen : its.toArray.size = xs.length := by rw [List.size_toArray]; exact r.length.symm
    refine ⟨"tuple", _, PyProof.Rows.slot_tuple_getitem.lookup, ht.typeIs, ?_⟩
    refine HT.getItem_tuple_cut ht hs pl pu (by rw [hlen]; exact hw) ?_ (by rw [hlen]; exact hz)
    rw [hlen]
    refine' ⟨.ref s.heap.objs.size, _, I.laid (t' := s.toks) (o := .frz ({ cls := .type "tuple", data := .seq (List.take (HT.sIx xs.length xs.length hi - HT.sIx xs.length 0 lo) (List.drop (HT.sIx xs.length 0 lo) its.toArray.toList)).toArray } : Obj) (.tup (cutV xs lo hi))) (fun b ob q => Heap.get?_push_of_some _ q) (Nat.le_refl _) ?new, rfl, q2 hw _ ({ cls := .type "tuple", data := .seq (List.take (HT.sIx xs.length xs.length hi - HT.sIx xs.length 0 lo) (List.drop (HT.sIx xs.length 0 lo) its.toArray.toList)).toArray } : Obj) (I.hok.fresh (Nat.le_refl _)) ?dn⟩
    case new => exact ⟨Heap.get?_push_size _ rfl, Nat.le_trans (cutV_length xs lo hi) hz, _, (r.drop (HT.sIx xs.length 0 lo)).take (HT.sIx xs.length xs.length hi - HT.sIx xs.length 0 lo), IsTup.new _ _⟩
    case dn => rfl
theorem op_catZ : OpR X (binaryOp .Add) (rCatZ X.K) := by
  intro pins s σ H x y v u Q I rx ry h
  obtain ⟨a, b, xs, ys, rfl, rfl, ha, hb, y0, hz, q0, q2⟩ := h
  by_cases hx : xs = []
  · subst hx
    exact op_catA pins s σ H _ _ v u Q I rx ry ⟨a, b, [], ys, rfl, rfl, ha, hb.sq, hz, q0, fun z => absurd rfl z, fun z => absurd rfl z⟩
  · cases rx
    cases ry
    obtain ⟨its, r1, p1, _⟩ := I.tuple ha
    obtain ⟨its2, r2, p2, _⟩ := I.tuple (hb.sq (K := X.K))
    refine HT.cat_tup p1 p2 (fun z => hx (r1.nil_iff.mp z)) (fun z => absurd (r2.nil_iff.mp z) y0) (fun z => ?_) (by rw [← r1.length, ← r2.length]; exact hz)
    refine' ⟨.ref s.heap.objs.size, _, I.laid (t' := s.toks) (o := .frz ({ cls := .type "tuple", data := .seq (its ++ its2).toArray } : Obj) (.tup (xs ++ ys))) (fun b ob q => Heap.get?_push_of_some _ q) (Nat.le_refl _) ?new, rfl, q2 hx _ ({ cls := .type "tuple", data := .seq (its ++ its2).toArray } : Obj) (I.hok.fresh (Nat.le_refl _)) ?dn⟩
    case new => exact ⟨Heap.get?_push_size _ rfl, by rw [List.length_append]; exact hz, _, r1.append r2, IsTup.new _ _⟩
    case dn => rfl
theorem pe_bmZ {o e : Expr} {es : List Expr} {to : TE} {t : TA} {name : Str} {apos cpos : Pos} {id : String} {r : V → List V → Hp → VK → Prop} (pa : PlainAttrs "tuple") (slot : Slot "tuple" name id) (hty : typeOf (.builtin id) = pure (.type "method_descriptor")) (hm : MtR X id r) (ho : PE X o to) (ha : PA X (e :: es) t)
    (hbase : attributeBase o name X.env (eval o X.env) = eval o X.env := by rfl)
    (hfew : ((backTo cpos (starEach (e :: es) X.env)).all (fun x => !x.1) && (backToKw cpos (keywordEach [] X.env)).all (fun x => x.1.isSome)
      && decide ((e :: es).length + ([] : List Keyword).length + (if ([] : List Keyword).isEmpty then 0 else 1) < 30)) = true := by rfl)
    (hline : (apos.endLine == cpos.line) = true := by rfl) (hs : starEach (e :: es) X.env = (false, eval e X.env) :: starEach es X.env := by rfl) (hplain : (backTo cpos (starEach es X.env)).any (·.1) = false := by rfl) :
    PE X (.Call (.Attribute o name apos) (e :: es) [] cpos) (tBMZ r to t) := by
  refine ⟨fun pins s σ H Q I h => ?_⟩
  refine wpAny_Call_method_late hbase hfew hline rfl (thn (ho.run pins s σ H _ I h) fun v s1 ⟨x, H1, I1, r1, ⟨p, xs, ex, ob, ho, hd⟩, q1⟩ => ?_)
  subst ex
  obtain rfl : v = Value.ref p := r1
  obtain ⟨hg, _, its, _, ⟨o2, g2, c2, _⟩⟩ := I1.hok p _ ho
  have hc : ob.cls = .type "tuple" := by
    rw [g2] at hg
    rw [← Option.some.inj hg]
    exact c2
  refine ⟨"tuple", id, pa, slot, hty, ⟨ob, hg, hc⟩, fun a e => by cases e; exact ⟨ob, hg, hd⟩, ?_⟩
  have hA := ha.run cpos pins s1 σ H1 _ I1 q1
  rw [hs] at hA ⊢
  refine Calls.callWith_builtin (by show (false || (backTo cpos (starEach es X.env)).any (·.1)) = false; rw [hplain] <;> rfl) (Calls.evalArgs_plain ?_)
  exact thn hA fun us s2 ⟨vs, H2, I2, r2, q2⟩ => hm pins s2 σ H2 (.ref p) vs (.ref p) us Q I2 rfl r2 q2
end

/-! ### what is some data -/
section
variable {X : Cx} {k j : Nat} {x : Str} {sp : Sp} {dvs : List V} {p pos : Pos}
theorem pe_c0 (c : C8.Cal X.prog X.w X.K X.mg X.base k x sp dvs) (hr : Room j X.A) (hk : k ≤ j) (hg : Gl X x) (hdb : (x == ("__debug__" : Str)) = false := by decide) : PE X (.Call (.Name x p) [] [] pos) (tCall sp dvs C8.E0 tNil) := by
  obtain ⟨f, fd, ps, ds, F, hm, kp, b, d⟩ := c.ex
  exact pe_call0 F (hr.mono hk) hg hm kp b d C8.pass0 hdb
end
def EvD (K : PySem.W.Frag) (te : TE) (σ : L2.St) (H : Hp) (d : PyData) : Prop := ∀ H1, Ex H H1 → ∀ Q : VK, (∀ v H2, Ex H1 H2 → Dp K H2 v d → Q v H2) → te σ H1 Q
def EvAD (K : PySem.W.Frag) (ta : TA) (σ : L2.St) (H : Hp) (ds : List PyData) : Prop := ∀ H1, Ex H H1 → ∀ Q : List V → Hp → Prop, (∀ vs H2, Ex H1 H2 → DpAll K H2 vs ds → Q vs H2) → ta σ H1 Q
/-- a tuple of these values, new or not -/
def EvQ (K : PySem.W.Frag) (te : TE) (σ : L2.St) (H : Hp) (xs : List V) : Prop := ∀ H1, Ex H H1 → ∀ Q : VK, (∀ p H2, Ex H1 H2 → SqT K H2 p xs → Q (.ref p) H2) → te σ H1 Q
theorem dpA_up {K : PySem.W.Frag} {H H' : Hp} (e : Ex H H') : ∀ {vs : List V} {ds : List PyData}, DpAll K H vs ds → DpAll K H' vs ds
  | _, _, .nil => .nil
  | _, _, .cons h t => .cons (dp_up e h) (dpA_up e t)
theorem dpA_len {K : PySem.W.Frag} {H : Hp} : ∀ {vs : List V} {ds : List PyData}, DpAll K H vs ds → vs.length = ds.length
  | _, _, .nil => rfl
  | _, _, .cons _ t => by rw [List.length_cons, List.length_cons, dpA_len t]
theorem dp_tup {K : PySem.W.Frag} {H : Hp} {v : V} {ds : List PyData} (h : Dp K H v (.tuple ds)) : ∃ p vs, v = .ref p ∧ SqT K H p vs ∧ DpAll K H vs ds := by
  cases h with
  | tup hs ha => exact ⟨_, _, rfl, hs, ha⟩
theorem dp_int {K : PySem.W.Frag} {H : Hp} {v : V} {i : Int} (h : Dp K H v (.int i)) : v = .int i := by cases h; rfl
theorem dp_str {K : PySem.W.Frag} {H : Hp} {v : V} {s : Str} (h : Dp K H v (.str s)) : v = .str s := by cases h; rfl
theorem dp_bl {K : PySem.W.Frag} {H : Hp} {v : V} {b : Bool} (h : Dp K H v (.bool b)) : v = .bl b := by cases h; rfl
theorem dpA_cons {K : PySem.W.Frag} {H : Hp} {vs : List V} {d : PyData} {ds : List PyData} (h : DpAll K H vs (d :: ds)) : ∃ v us, vs = v :: us ∧ Dp K H v d ∧ DpAll K H us ds := by
  cases h with
  | cons h t => exact ⟨_, _, rfl, h, t⟩
theorem dpA_nil {K : PySem.W.Frag} {H : Hp} {vs : List V} (h : DpAll K H vs []) : vs = [] := by cases h; rfl
theorem dpA_bools {K : PySem.W.Frag} {H : Hp} : ∀ {bs : List Bool} {vs : List V}, DpAll K H vs (bs.map PyData.bool) → vs = bs.map V.bl
  | [], _, h => by cases h; rfl
  | b :: bs, _, h => by
    cases h with
    | cons h t =>
      rw [dp_bl h, dpA_bools t]
      rfl
section
variable {K : PySem.W.Frag} {σ : L2.St} {H H' Kn : Hp} {ta tb te : TE} {t : TT} {tz tu tw : TS} {D : Ends} {v : V} {d : PyData} {ds : List PyData} {i : Nat} {Q : VK}
theorem EvD.mono (e : Ex H H') (h : EvD K te σ H d) : EvD K te σ H' d := fun H1 a Q q => h H1 (e.trans a) Q q
theorem evd_of (h : Ev te σ H v) (hd : Dp K H v d) : EvD K te σ H d := fun H1 e Q q => h H1 e _ fun H2 e2 => q v H2 e2 (dp_up (e.trans e2) hd)
theorem evd_int {i : Int} (h : Ev te σ H (.int i)) : EvD K te σ H (.int i) := evd_of h (.int i)
theorem evd_str {z : Str} (h : Ev te σ H (.str z)) : EvD K te σ H (.str z) := evd_of h (.str z)
theorem evd_bl {b : Bool} (h : Ev te σ H (.bl b)) : EvD K te σ H (.bool b) := evd_of h (.bl b)
theorem ead_nil : EvAD K tNil σ H [] := fun H1 _ _ q => q [] H1 (Ex.refl H1) .nil
theorem ead_cons {ta : TA} (h : EvD K te σ H d) (hr : EvAD K ta σ H ds) : EvAD K (tCons te ta) σ H (d :: ds) := fun H1 e Q q =>
  h H1 e _ fun v H2 e2 hd => hr H2 (e.trans e2) _ fun vs H3 e3 ha => q (v :: vs) H3 (e2.trans e3) (.cons (dp_up e3 hd) ha)
theorem evd_tup {ta : TA} (h : EvAD K ta σ H ds) (hl : ds.length ≤ 1000) : EvD K (tTup ta) σ H (.tuple ds) := fun H1 e Q q =>
  h H1 e _ fun vs H2 e2 ha => ⟨by rw [dpA_len ha]; exact Nat.le_trans hl (by decide), fun p np => q (.ref p) _ (e2.trans (Ex.new np)) (.tup (st_of upd_same) (dpA_up (Ex.new np) ha))⟩
theorem evd_U {xs : List V} (h : EvU te σ H xs) (ha : DpAll K H xs ds) : EvD K te σ H (.tuple ds) := fun H1 e Q q => h H1 e _ fun p H2 _ e2 hp => q (.ref p) H2 e2 (.tup (st_of hp) (dpA_up (e.trans e2) ha))
theorem evd_L {xs : List V} (h : EvL te σ H xs) (ha : DpAll K H xs ds) : EvD K te σ H (.list ds) := fun H1 e Q q => h H1 e _ fun p H2 _ e2 hp => q (.ref p) H2 e2 (.lst (sq_of hp) (dpA_up (e.trans e2) ha))
theorem evd_Q {xs : List V} (h : EvQ K te σ H xs) (ha : DpAll K H xs ds) : EvD K te σ H (.tuple ds) := fun H1 e Q q => h H1 e _ fun p H2 e2 hp => q (.ref p) H2 e2 (.tup hp (dpA_up (e.trans e2) ha))
theorem evq_U {xs : List V} (h : EvU te σ H xs) : EvQ K te σ H xs := fun H1 e Q q => h H1 e _ fun p H2 _ e2 hp => q p H2 e2 (st_of hp)
theorem evq_V {xs : List V} {p : Addr} (h : Ev te σ H (.ref p)) (hp : SqT K H p xs) : EvQ K te σ H xs := fun H1 e Q q => h H1 e _ fun H2 e2 => q p H2 e2 (ex_t (e.trans e2) hp)
theorem evd_if {b : Bool} {d2 : PyData} (h : EvT t σ H b) (h1 : EvD K ta σ H d) (h2 : EvD K tb σ H d2) : EvD K (tIf t ta tb) σ H (if b = true then d else d2) := fun H1 e Q q => h H1 e _ fun H2 e2 => by
  cases b with
  | true =>
    show ta σ H2 Q
    exact h1 H2 (e.trans e2) Q fun v H3 e3 hd => q v H3 (e2.trans e3) hd
  | false =>
    show tb σ H2 Q
    exact h2 H2 (e.trans e2) Q fun v H3 e3 hd => q v H3 (e2.trans e3) hd
theorem evd_is {d2 : PyData} (h : EvD K te σ H d) (e : d = d2) : EvD K te σ H d2 := by
  rw [← e]
  exact h
/-- both sides data, compared -/
theorem ev_neDD {d2 : PyData} (h1 : EvD K ta σ H d) (h2 : EvD K tb σ H d2) (sd : SeqAt.shaped d = true) (se : SeqAt.shaped d2 = true) : Ev (tOp (rNeD K) ta tb) σ H (.bl (!PyData.eqv d d2)) := fun H1 e Q q =>
  h1 H1 e _ fun v H2 e2 hd => h2 H2 (e.trans e2) _ fun w H3 e3 he => ⟨d, d2, dp_up e3 hd, he, sd, se, q H3 (e2.trans e3)⟩
theorem ev_eqDD {d2 : PyData} (h1 : EvD K ta σ H d) (h2 : EvD K tb σ H d2) (sd : SeqAt.shaped d = true) (se : SeqAt.shaped d2 = true) : Ev (tOp (rEqD K) ta tb) σ H (.bl (PyData.eqv d d2)) := fun H1 e Q q =>
  h1 H1 e _ fun v H2 e2 hd => h2 H2 (e.trans e2) _ fun w H3 e3 he => ⟨d, d2, dp_up e3 hd, he, sd, se, q H3 (e2.trans e3)⟩
/-- statements, where nothing but what is known matters -/
theorem y_ret (h : EvD K te σ H d) (k : ∀ v H1, Ex H H1 → Dp K H1 v d → D.rt v H1) : tRet te D σ H := h H (Ex.refl H) _ k
theorem y_asg (h : EvD K te σ H d) (k : ∀ v H1, Ex H H1 → Dp K H1 v d → tz D (σ.set i (some v)) H1) : tSeq (tAsg te (gName i)) tz D σ H := h H (Ex.refl H) _ k
theorem y_ev (h : Ev te σ H v) (k : ∀ H1, Ex H H1 → tz D (σ.set i (some v)) H1) : tSeq (tAsg te (gName i)) tz D σ H := h H (Ex.refl H) _ k
theorem y_no (h : EvT t σ H false) (k : ∀ H1, Ex H H1 → tz D σ H1) : tSeq (tIfS t tu tNext) tz D σ H := g_no (mdE H) (Ex.refl H) h k
theorem y_yes (h : EvT t σ H true) (k : ∀ H1, Ex H H1 → tu { D with nx := tz D } σ H1) : tSeq (tIfS t tu tNext) tz D σ H := g_yes (mdE H) (Ex.refl H) h k
end
/-- a def that changes nothing and gives some data -/
def spD (K : PySem.W.Frag) (R : Hp → List V → PyData → Prop) : Sp := fun vs H Q _ => ∃ d, R H vs d ∧ ∀ v H', Ex H H' → Dp K H' v d → Q v H'
def MonoD (R : Hp → List V → PyData → Prop) : Prop := ∀ H H' vs d, Ex H H' → R H vs d → R H' vs d
theorem evd_call {K : PySem.W.Frag} {σ : L2.St} {H : Hp} {R : Hp → List V → PyData → Prop} {E : XK} {ta : TA} {vs : List V} {d : PyData} (m : MonoD R) (h : EvA ta σ H vs) (hr : R H (vs ++ []) d) : EvD K (tCall (spD K R) [] E ta) σ H d := fun H1 e Q q =>
  h H1 e _ fun H2 e2 => ⟨d, m _ _ _ _ (e.trans e2) hr, fun v H3 e3 hd => q v H3 (e2.trans e3) hd⟩
section
variable {K : PySem.W.Frag} {σ : L2.St} {H : Hp} {te ta tb : TE}
theorem cutV_full {xs : List V} {lo hi : Option Int} (h : HT.sIx xs.length 0 lo = 0 ∧ HT.sIx xs.length xs.length hi = xs.length) : cutV xs lo hi = xs := by
  unfold cutV
  rw [h.1, h.2, List.drop_zero, Nat.sub_zero, List.take_length]
theorem evq_sl {lo hi : TO} {l h : Option Int} {xs : List V} (ht : EvQ K te σ H xs) (h1 : EvO lo σ H l) (h2 : EvO hi σ H h) : EvQ K (tSl (rSlA K) te lo hi) σ H (cutV xs l h) := fun H1 e Q q =>
  ht H1 e _ fun p H2 e2 hp => h1 H2 (e.trans e2) _ fun H3 e3 => h2 H3 ((e.trans e2).trans e3) _ fun H4 e4 =>
    ⟨p, xs, rfl, ex_t (e3.trans e4) hp, fun hf => q p H4 ((e2.trans e3).trans e4) (by rw [cutV_full hf]; exact ex_t (e3.trans e4) hp), fun _ p' np => q p' _ (((e2.trans e3).trans e4).trans (Ex.new np)) (st_of upd_same)⟩
/-- a tuple of these values whose record is told -/
def EvZ (te : TE) (σ : L2.St) (H : Hp) (xs : List V) : Prop := ∀ H1, Ex H H1 → ∀ Q : VK, (∀ p H2, Ex H1 H2 → FzT H2 p xs → Q (.ref p) H2) → te σ H1 Q
theorem evq_Z {xs : List V} (h : EvZ te σ H xs) : EvQ K te σ H xs := fun H1 e Q q => h H1 e _ fun p H2 e2 hp => q p H2 e2 hp.sq
theorem ez_star {i : Nat} {p : Addr} {xs : List V} {ta : TA} {ys : List V} (hi : σ[i]? = some (some (.ref p))) (hp : SqT K H p xs) (ha : EvA ta σ H ys) (hz : xs.length + ys.length ≤ 1000) : EvZ (tTupZ (StX.tStar K (tVar i) ta)) σ H (xs ++ ys) := fun H1 e Q q =>
  ⟨.ref p, hi, p, xs, rfl, .inl (ex_t e hp), ha H1 e _ fun H2 e2 => ⟨by rw [List.length_append]; exact Nat.le_trans hz (by decide), fun p' o np od => q p' _ (e2.trans (Ex.new np)) ⟨o, upd_same, od⟩⟩⟩
theorem ez_tup {ta : TA} {xs : List V} (ha : EvA ta σ H xs) (hz : xs.length ≤ 1000) : EvZ (tTupZ ta) σ H xs := fun H1 e Q q => ha H1 e _ fun H2 e2 => ⟨Nat.le_trans hz (by decide), fun p' o np od => q p' _ (e2.trans (Ex.new np)) ⟨o, upd_same, od⟩⟩
theorem ez_sl {lo hi : TO} {l h : Option Int} {xs : List V} (ht : EvZ te σ H xs) (h1 : EvO lo σ H l) (h2 : EvO hi σ H h) : EvZ (tSl rSlZ te lo hi) σ H (cutV xs l h) := fun H1 e Q q =>
  ht H1 e _ fun p H2 e2 hp => h1 H2 (e.trans e2) _ fun H3 e3 => h2 H3 ((e.trans e2).trans e3) _ fun H4 e4 =>
    ⟨p, xs, rfl, hp.up (e3.trans e4), fun hf => q p H4 ((e2.trans e3).trans e4) (by rw [cutV_full hf]; exact hp.up (e3.trans e4)), fun _ p' o np od => q p' _ (((e2.trans e3).trans e4).trans (Ex.new np)) ⟨o, upd_same, od⟩⟩
theorem ez_cat {a : Addr} {xs ys : List V} (h1 : Ev ta σ H (.ref a)) (ha : SqT K H a xs) (h2 : EvZ tb σ H ys) (y0 : ys ≠ []) (hz : xs.length + ys.length ≤ 1000) : EvZ (tOp (rCatZ K) ta tb) σ H (xs ++ ys) := fun H1 e Q q =>
  h1 H1 e _ fun H2 e2 => h2 H2 (e.trans e2) _ fun p H3 e3 hp => ⟨a, p, xs, ys, rfl, rfl, ex_t ((e.trans e2).trans e3) ha, hp, y0, Nat.le_trans hz (by decide), fun x0 => q p H3 (e2.trans e3) (by rw [x0]; exact hp), fun _ p' o np od => q p' _ ((e2.trans e3).trans (Ex.new np)) ⟨o, upd_same, od⟩⟩
theorem ev_countZ {i : Nat} {p : Addr} {bs : List Bool} {k : Bool} (hi : σ[i]? = some (some (.ref p))) (hp : FzT H p (bs.map V.bl)) : Ev (tBMZ (rCntB K) (tVar i) (tCons (tC (.bl k)) tNil)) σ H (.int (bs.count k : Nat)) := fun H1 e Q q =>
  ⟨.ref p, hi, ⟨p, _, rfl, hp.up e⟩, p, bs, k, rfl, rfl, (hp.up e).sq, q H1 (Ex.refl H1)⟩
theorem evq_rep {x : V} {k : Int} (h : EvU ta σ H [x]) (hk : Ev tb σ H (.int k)) (k0 : 0 ≤ k) (k1 : k ≤ 1000) : EvQ K (tOp (rRepA K) ta tb) σ H (List.replicate k.toNat x) := fun H1 e Q q =>
  h H1 e _ fun p H2 _ e2 hp => hk H2 (e.trans e2) _ fun H3 e3 => by
    have ef : (List.replicate k.toNat [x]).flatten = List.replicate k.toNat x := by
      generalize k.toNat = n
      induction n with
      | zero => rfl
      | succ n ih => rw [List.replicate_succ, List.flatten_cons, ih, List.replicate_succ]; rfl
    exact ⟨p, k, [x], rfl, rfl, st_of (e3 _ _ hp), List.cons_ne_nil _ _, k0, k1, by show 1 ≤ 1000; decide, fun k1 => q p H3 (e2.trans e3) (by subst k1; exact st_of (e3 _ _ hp)), fun _ p' np => q p' _ ((e2.trans e3).trans (Ex.new np)) (by rw [ef]; exact st_of upd_same)⟩
theorem evq_cat {a b : Addr} {xs ys : List V} (h1 : Ev ta σ H (.ref a)) (ha : SqT K H a xs) (h2 : EvU tb σ H ys) (hz : xs.length + ys.length ≤ 1000) : EvQ K (tOp (rCatA K) ta tb) σ H (xs ++ ys) := fun H1 e Q q =>
  h1 H1 e _ fun H2 e2 => h2 H2 (e.trans e2) _ fun p H3 _ e3 hp => ⟨a, p, xs, ys, rfl, rfl, ex_t ((e.trans e2).trans e3) ha, st_of hp, Nat.le_trans hz (by decide), fun x0 => q p H3 (e2.trans e3) (by rw [x0]; exact st_of hp), fun _ y0 => q a H3 (e2.trans e3) (by rw [y0, List.append_nil]; exact ex_t ((e.trans e2).trans e3) ha),
    fun _ _ r nr => q r _ ((e2.trans e3).trans (Ex.new nr)) (st_of upd_same)⟩
end

/-! ### standings -/
inductive St
  | inn (w : List Bool) (t c : Int)
  | out (l t : Int)
  | tri (t : Int)
def St.data : St → PyData
  | .inn w t c => .tuple [.str "in", .tuple (w.map .bool), .int t, .int c]
  | .out l t => .tuple [.str "out", .int l, .int t]
  | .tri t => .tuple [.str "trial", .int t]
def St.word : St → Str
  | .inn _ _ _ => "in"
  | .out _ _ => "out"
  | .tri _ => "trial"
section
variable {K : PySem.W.Frag} {H : Hp} {v : V} {w : List Bool} {l t c : Int}
theorem st_inn (h : Dp K H v (St.inn w t c).data) : ∃ p q, v = .ref p ∧ SqT K H p [.str "in", .ref q, .int t, .int c] ∧ SqT K H q (w.map V.bl) := by
  obtain ⟨p, vs, rfl, hp, ha⟩ := dp_tup h
  obtain ⟨v1, us, rfl, h1, ha⟩ := dpA_cons ha
  obtain ⟨v2, us, rfl, h2, ha⟩ := dpA_cons ha
  obtain ⟨v3, us, rfl, h3, ha⟩ := dpA_cons ha
  obtain ⟨v4, us, rfl, h4, ha⟩ := dpA_cons ha
  obtain rfl := dpA_nil ha
  obtain rfl := dp_str h1
  obtain rfl := dp_int h3
  obtain rfl := dp_int h4
  obtain ⟨q, ws, rfl, hq, hb⟩ := dp_tup h2
  obtain rfl := dpA_bools hb
  exact ⟨p, q, rfl, hp, hq⟩
theorem st_out (h : Dp K H v (St.out l t).data) : ∃ p, v = .ref p ∧ SqT K H p [.str "out", .int l, .int t] := by
  obtain ⟨p, vs, rfl, hp, ha⟩ := dp_tup h
  obtain ⟨v1, us, rfl, h1, ha⟩ := dpA_cons ha
  obtain ⟨v2, us, rfl, h2, ha⟩ := dpA_cons ha
  obtain ⟨v3, us, rfl, h3, ha⟩ := dpA_cons ha
  obtain rfl := dpA_nil ha
  obtain rfl := dp_str h1
  obtain rfl := dp_int h2
  obtain rfl := dp_int h3
  exact ⟨p, rfl, hp⟩
theorem st_tri (h : Dp K H v (St.tri t).data) : ∃ p, v = .ref p ∧ SqT K H p [.str "trial", .int t] := by
  obtain ⟨p, vs, rfl, hp, ha⟩ := dp_tup h
  obtain ⟨v1, us, rfl, h1, ha⟩ := dpA_cons ha
  obtain ⟨v2, us, rfl, h2, ha⟩ := dpA_cons ha
  obtain rfl := dpA_nil ha
  obtain rfl := dp_str h1
  obtain rfl := dp_int h2
  exact ⟨p, rfl, hp⟩
theorem st_head {st : St} (h : Dp K H v st.data) : ∃ p xs, v = .ref p ∧ SqT K H p xs ∧ atI xs 0 = some (.str st.word) := by
  cases st with
  | inn w t c => obtain ⟨p, q, rfl, hp, _⟩ := st_inn h; exact ⟨p, _, rfl, hp, rfl⟩
  | out l t => obtain ⟨p, rfl, hp⟩ := st_out h; exact ⟨p, _, rfl, hp, rfl⟩
  | tri t => obtain ⟨p, rfl, hp⟩ := st_tri h; exact ⟨p, _, rfl, hp, rfl⟩
theorem ev_head {σ : L2.St} {te : TE} {st : St} (h : Dp K H v st.data) (hv : Ev te σ H v) : Ev (tOp (rIxT K) te (tC (.int 0))) σ H (.str st.word) := by
  obtain ⟨p, xs, rfl, hp, h0⟩ := st_head h
  exact ev_op hv ev_c (rv_ixT hp h0)
theorem evd_inn {σ : L2.St} {tw : TE} {tt tc : TE} {q : Addr} (hw : Ev tw σ H (.ref q)) (hq : SqT K H q (w.map V.bl)) (ht : Ev tt σ H (.int t)) (hc : Ev tc σ H (.int c)) : EvD K (tTup (tCons (tC (.str "in")) (tCons tw (tCons tt (tCons tc tNil))))) σ H (St.inn w t c).data :=
  evd_tup (ead_cons (evd_str ev_c) (ead_cons (evd_of hw (.tup hq (dpAll_bools w))) (ead_cons (evd_int ht) (ead_cons (evd_int hc) ead_nil)))) (by show 4 ≤ 1000; decide)
theorem evd_out {σ : L2.St} {tt tc : TE} (ht : Ev tt σ H (.int l)) (hc : Ev tc σ H (.int t)) : EvD K (tTup (tCons (tC (.str "out")) (tCons tt (tCons tc tNil)))) σ H (St.out l t).data :=
  evd_tup (ead_cons (evd_str ev_c) (ead_cons (evd_int ht) (ead_cons (evd_int hc) ead_nil))) (by show 3 ≤ 1000; decide)
theorem evd_tri {σ : L2.St} {tt : TE} (ht : Ev tt σ H (.int t)) : EvD K (tTup (tCons (tC (.str "trial")) (tCons tt tNil))) σ H (St.tri t).data :=
  evd_tup (ead_cons (evd_str ev_c) (ead_cons (evd_int ht) ead_nil)) (by show 2 ≤ 1000; decide)
end
theorem str_eq {a b : Str} (h : a = b) : decide (V.str a = V.str b) = true := decide_eq_true (by rw [h])
theorem str_ne {a b : Str} (h : ¬ a = b) : decide (V.str a = V.str b) = false := decide_eq_false (fun z => h (by cases z; rfl))
/-! ### what a rule does, told once -/
def capR (r : RuleD) : Int := capOf r.base r.more r.most
def outOf (r : RuleD) (t : Int) : St := .out (timeOf r (if capR r < t + 1 then capR r else t + 1)) (if capR r < t + 1 then capR r else t + 1)
def takeW (of : Int) (w : List Bool) (f : Bool) : List Bool := (w ++ [f]).drop (w.length + 1 - of.toNat)
def tryI (r : RuleD) (w : List Bool) (t c : Int) (room : Bool) : St × Bool := if room = true then (outOf r t, false) else (.inn w t c, true)
def faultI (r : RuleD) (w : List Bool) (t : Int) (room : Bool) : St × Bool := if ((takeW r.of w true).count true : Int) < r.need then (.inn (takeW r.of w true) t 0, false) else tryI r (takeW r.of w true) t 0 room
def okI (r : RuleD) (w : List Bool) (t c : Int) : St := if t = 0 ∨ r.calm = 0 then .inn (takeW r.of w false) t 0 else if c + 1 = r.calm then .inn (takeW r.of w false) 0 0 else .inn (takeW r.of w false) t (c + 1)
def cntR (r : RuleD) : Int := if r.back = "half" then r.need - (r.need + 1) / 2 else 0
def sitO (r : RuleD) (l t : Int) : St := if 1 < l then .out (l - 1) t else if r.back = "trial" then .tri t else .inn (List.replicate (cntR r).toNat true) t 0
def hearS (r : RuleD) (st : St) (room : Bool) : St × Bool := match st with
  | .inn w t c => if r.hears = "no" then (st, false) else if r.hears = "fault" then faultI r w t room else tryI r w t c room
  | _ => (st, false)
def okS (r : RuleD) : St → St
  | .inn w t c => okI r w t c
  | .tri t => .inn [] t 0
  | .out l t => .out l t
inductive Wd
  | ok
  | fault
  | told
def Wd.str : Wd → Str
  | .ok => "ok"
  | .fault => "fault"
  | .told => "told"
def moveS (r : RuleD) (st : St) (wd : Wd) (room : Bool) : St × Str × Bool := match wd, st with
  | .told, st => ((hearS r st room).1, "told", (hearS r st room).2)
  | .ok, .out l t => (sitO r l t, "missed", false)
  | .fault, .out l t => (sitO r l t, "skip", false)
  | .ok, st => (okS r st, "ok", false)
  | .fault, .tri t => (outOf r t, "felt", false)
  | .fault, .inn w t _ => ((faultI r w t room).1, "felt", (faultI r w t room).2)
def roomR (r : RuleD) (full : Bool) : Bool := decide (r.top = r.under) || (decide (0 < r.top) && !full)
def stepS (r : RuleD) (st : St) (wd : Wd) (full : Bool) : St × Str := ((moveS r st wd (roomR r full)).1, (moveS r st wd (roomR r full)).2.1)
def pairB (p : St × Bool) : PyData := .tuple [p.1.data, .bool p.2]
def pairS (p : St × Str) : PyData := .tuple [p.1.data, .str p.2]
def tripS (p : St × Str × Bool) : PyData := .tuple [p.1.data, .str p.2.1, .bool p.2.2]
def St.len : St → Nat
  | .inn w _ _ => w.length
  | _ => 0
def letterOf : Wd → Bool → Str
  | .ok, false => "ok"
  | .ok, true => "ok full"
  | .fault, false => "fault"
  | .fault, true => "fault full"
  | .told, false => "told"
  | .told, true => "told full"
theorem cut_take (of : Int) (h : 1 ≤ of) (w : List Bool) (f : Bool) : cutV (w.map V.bl ++ [V.bl f]) (some (-of)) none = (takeW of w f).map V.bl := by
  unfold cutV takeW
  have n : (w.map V.bl ++ [V.bl f]).length = w.length + 1 := by rw [List.length_append, List.length_map]; rfl
  have a : HT.sIx (w.map V.bl ++ [V.bl f]).length 0 (some (-of)) = w.length + 1 - of.toNat := by
    rw [n]
    show (if -of < 0 then (-of + ((w.length + 1 : Nat) : Int)).toNat else _) = _
    rw [if_pos (by omega)]
    omega
  have b : HT.sIx (w.map V.bl ++ [V.bl f]).length (w.map V.bl ++ [V.bl f]).length none = w.length + 1 := n
  rw [a, b, List.map_drop, List.map_append, List.map_cons, List.map_nil]
  refine List.take_of_length_le ?_
  rw [List.length_drop, n]
  exact Nat.le_refl _
theorem takeW_len (of : Int) (w : List Bool) (f : Bool) : (takeW of w f).length ≤ w.length + 1 := by
  unfold takeW
  rw [List.length_drop, List.length_append]
  exact Nat.sub_le _ _
/-- the rule r stands at q -/
def RIn (CR : Addr) (H : Hp) (q : Addr) (r : RuleD) : Prop := RuleN r ∧ ∃ dx, H q = some (.ins CR dx (flds r))
theorem RIn.up {CR : Addr} {H H' : Hp} {q : Addr} {r : RuleD} (h : RIn CR H q r) (e : Ex H H') : RIn CR H' q r := ⟨h.1, h.2.imp fun _ z => e _ _ z⟩
/-- a def that changes nothing and gives a tuple whose record is told -/
def spZ (R : Hp → List V → List V → Prop) : Sp := fun vs H Q _ => ∃ xs, R H vs xs ∧ ∀ p H', Ex H H' → FzT H' p xs → Q (.ref p) H'
theorem ez_call {σ : L2.St} {H : Hp} {R : Hp → List V → List V → Prop} {E : XK} {ta : TA} {vs xs : List V} (m : ∀ H H' vs v, Ex H H' → R H vs v → R H' vs v) (h : EvA ta σ H vs) (hr : R H (vs ++ []) xs) : EvZ (tCall (spZ R) [] E ta) σ H xs := fun H1 e Q q =>
  h H1 e _ fun H2 e2 => ⟨xs, m _ _ _ _ (e.trans e2) hr, fun p H3 e3 hp => q p H3 (e2.trans e3) hp⟩
section
variable {P : Program} {w : World} {K : PySem.W.Frag} {mg : Str → Option Value} {base : Heap} {CR aB aH : Addr}
def rTaken (K : PySem.W.Frag) (CR : Addr) : Hp → List V → List V → Prop := fun H vs xs => ∃ (q p : Addr) (r : RuleD) (w : List Bool) (f : Bool), vs = [.ref q, .ref p, .bl f] ∧ RIn CR H q r ∧ SqT K H p (w.map V.bl) ∧ w.length ≤ 100 ∧ xs = (takeW r.of w f).map V.bl
theorem mono_taken : ∀ H H' vs v, Ex H H' → rTaken K CR H vs v → rTaken K CR H' vs v := fun _ _ _ _ e ⟨q, p, r, w, f, a, b, c, d⟩ => ⟨q, p, r, w, f, a, b.up e, ex_t e c, d⟩
theorem ok_taken {f : Addr} {fd : FuncData} (D : C8.Def K mg "_taken" st_taken f fd) (b : Binds K fd ["rule", "window", "fault"] []) (T : Tb K mg CR aB aH) : C8.Cal P w K mg base 2 "_taken" (spZ (rTaken K CR)) [] := by
  refine C8.cal0 D b .nil sc_taken (fun vs H Q E h => ?_) (fun cdv A outer s H vs Q E hr h => ?_)
  · obtain ⟨_, ⟨_, _, _, _, _, rfl, _⟩, _⟩ := h
    rfl
  · obtain ⟨_, ⟨q, p, r, w, f, rfl, ⟨rn, dx, hq⟩, hp, hl, rfl⟩, k⟩ := h
    refine ⟨_, pss_one (ps_ret (pe_slice sl_tupZ (pe_tupZ (StX.pa_star (pv 1) (pa_cons (pv 2) (pa_nil)))) (po_some (pe_un un_neg (pe_fld (pv 0) rfl))) po_none)), ?_⟩
    refine x_ret (ez_sl (ez_star rfl hp (ea_cons (ev_var rfl) ea_nil) (by rw [List.length_map]; show w.length + 1 ≤ 1000; omega)) (eo_some (ev_un (ev_fld (ev_var rfl) hq T.cl T.n_of (fl_of r)) ru_neg)) eo_none H (Ex.refl H) _ fun p2 H2 e2 hz => k p2 H2 e2 ?_)
    rw [cut_take _ (by have := rn.ok.need; have := rn.ok.of; omega)] at hz
    exact hz
def rOutD (CR : Addr) : Hp → List V → PyData → Prop := fun H vs d => ∃ (q : Addr) (r : RuleD) (t : Int), vs = [.ref q, .int t] ∧ RIn CR H q r ∧ d = (outOf r t).data
theorem mono_outD : MonoD (rOutD CR) := fun _ _ _ _ e ⟨q, r, t, a, b, c⟩ => ⟨q, r, t, a, b.up e, c⟩
theorem ok_leave {f : Addr} {fd : FuncData} (D : C8.Def K mg "_leave_out" st_leave_out f fd) (b : Binds K fd ["rule", "times"] []) (T : Tb K mg CR aB aH) (m_time : C8.Met P w K mg base 2 CR "time" (spP (rTime CR)) []) : C8.Cal P w K mg base 3 "_leave_out" (spD K (rOutD CR)) [] := by
  refine C8.cal0 D b .nil sc_leave_out (fun vs H Q E h => ?_) (fun cdv A outer s H vs Q E hr h => ?_)
  · obtain ⟨_, ⟨_, _, _, rfl, _⟩, _⟩ := h
    rfl
  · obtain ⟨_, ⟨q, r, t, rfl, ⟨rn, dx, hq⟩, rfl⟩, k⟩ := h
    refine ⟨_, pss_cons (ps_set (i := 2) sc_leave_out.nd rfl (Or.inl rfl) (pe_callB (call_min2 rfl) (by rfl) T.bi_min boot_min (pa_cons (pe_op op_add (pv 1) (pe_int)) (pa_cons (pe_fld (pv 0) rfl) (pa_nil)))))
      (pss_one (ps_ret (pe_tup (pa_cons (pe_str) (pa_cons (C8.pe_mt m_time hr (by decide) (pv 0) (pa_cons (pv 2) (pa_nil))) (pa_cons (pv 2) (pa_nil))))))), ?_⟩
    refine y_ev (ev_cb (ea_cons (ev_op (ev_var rfl) ev_c rv_I0) (ea_cons (ev_fld (ev_var rfl) hq T.cl T.n_cap (fl_cap r)) ea_nil)) rc_min) fun H1 e1 => ?_
    exact y_ret (evd_out (ev_time (ev_var rfl) (e1 _ _ hq) rn.ok (ev_var rfl)) (ev_var rfl)) fun v H2 e2 hd => k v H2 (e1.trans e2) hd
def rTry (K : PySem.W.Frag) (CR : Addr) : Hp → List V → PyData → Prop := fun H vs d => ∃ (q : Addr) (v : V) (r : RuleD) (w : List Bool) (t c : Int) (room : Bool), vs = [.ref q, v, .bl room] ∧ RIn CR H q r ∧ Dp K H v (St.inn w t c).data ∧ d = pairB (tryI r w t c room)
theorem mono_try : MonoD (rTry K CR) := fun _ _ _ _ e ⟨q, v, r, w, t, c, o, a, b, h, z⟩ => ⟨q, v, r, w, t, c, o, a, b.up e, dp_up e h, z⟩
theorem ok_try {f : Addr} {fd : FuncData} (D : C8.Def K mg "_try" st_try f fd) (b : Binds K fd ["rule", "standing", "room"] []) (c_leave_out : C8.Cal P w K mg base 3 "_leave_out" (spD K (rOutD CR)) []) : C8.Cal P w K mg base 4 "_try" (spD K (rTry K CR)) [] := by
  refine C8.cal0 D b .nil sc_try (fun vs H Q E h => ?_) (fun cdv A outer s H vs Q E hr h => ?_)
  · obtain ⟨_, ⟨_, _, _, _, _, _, _, rfl, _⟩, _⟩ := h
    rfl
  · obtain ⟨_, ⟨q, v, r, w, t, c, room, rfl, hq, hv, rfl⟩, k⟩ := h
    refine ⟨_, pss_cons (ps_if (pt_not (pt_val (pv 2))) (pss_one (ps_ret (pe_tup (pa_cons (pv 1) (pa_cons (pe_bl) (pa_nil)))))) (pss_nil))
      (pss_one (ps_ret (pe_tup (pa_cons (C8.pe_c c_leave_out hr (by decide) (by rfl) (pa_cons (pv 0) (pa_cons (pe_ix ix_tup (pv 1) (pe_int) (fun _ _ => rfl)) (pa_nil)))) (pa_cons (pe_bl) (pa_nil)))))), ?_⟩
    obtain ⟨p, wq, rfl, hp, hw⟩ := st_inn hv
    cases room with
    | false =>
      refine y_yes (et_is (et_not (et_B (ev_var rfl))) (by rfl)) fun H1 e1 => ?_
      exact y_ret (evd_tup (ead_cons (evd_of (ev_var rfl) (dp_up e1 hv)) (ead_cons (evd_bl ev_c) ead_nil)) (by show 2 ≤ 1000; decide)) fun v H2 e2 hd => k v H2 (e1.trans e2) hd
    | true =>
      refine y_no (et_is (et_not (et_B (ev_var rfl))) (by rfl)) fun H1 e1 => ?_
      exact y_ret (evd_tup (ead_cons (evd_call mono_outD (ea_cons (ev_var rfl) (ea_cons (ev_op (ev_var rfl) ev_c (rv_ixT (ex_t e1 hp) rfl)) ea_nil)) ⟨q, r, t, rfl, hq.up e1, rfl⟩) (ead_cons (evd_bl ev_c) ead_nil)) (by show 2 ≤ 1000; decide)) fun v H2 e2 hd => k v H2 (e1.trans e2) hd
def rFault (K : PySem.W.Frag) (CR : Addr) : Hp → List V → PyData → Prop := fun H vs d => ∃ (q : Addr) (v : V) (r : RuleD) (w : List Bool) (t c : Int) (room : Bool), vs = [.ref q, v, .bl room] ∧ RIn CR H q r ∧ Dp K H v (St.inn w t c).data ∧ w.length ≤ 100 ∧ d = pairB (faultI r w t room)
theorem mono_fault : MonoD (rFault K CR) := fun _ _ _ _ e ⟨q, v, r, w, t, c, o, a, b, h, l, z⟩ => ⟨q, v, r, w, t, c, o, a, b.up e, dp_up e h, l, z⟩
theorem ok_fault {f : Addr} {fd : FuncData} (D : C8.Def K mg "_take_fault" st_take_fault f fd) (b : Binds K fd ["rule", "standing", "room"] []) (T : Tb K mg CR aB aH) (c_taken : C8.Cal P w K mg base 2 "_taken" (spZ (rTaken K CR)) []) (c_try : C8.Cal P w K mg base 4 "_try" (spD K (rTry K CR)) []) : C8.Cal P w K mg base 5 "_take_fault" (spD K (rFault K CR)) [] := by
  refine C8.cal0 D b .nil sc_take_fault (fun vs H Q E h => ?_) (fun cdv A outer s H vs Q E hr h => ?_)
  · obtain ⟨_, ⟨_, _, _, _, _, _, _, rfl, _⟩, _⟩ := h
    rfl
  · obtain ⟨_, ⟨q, v, r, w, t, c, room, rfl, hq, hv, hl, rfl⟩, k⟩ := h
    refine ⟨_, pss_cons (ps_asg (pv 1) (pg_tup (by rfl) (pgs_cons (pg_name (i := 3) sc_take_fault.nd rfl (Or.inl rfl)) (pgs_cons (pg_name (i := 4) sc_take_fault.nd rfl (Or.inl rfl)) (pgs_cons (pg_name (i := 5) sc_take_fault.nd rfl (Or.inl rfl)) (pgs_cons (pg_name (i := 3) sc_take_fault.nd rfl (Or.inl rfl)) (pgs_nil)))))))
      (pss_cons (ps_set (i := 6) sc_take_fault.nd rfl (Or.inl rfl) (C8.pe_c c_taken hr (by decide) (by rfl) (pa_cons (pv 0) (pa_cons (pv 4) (pa_cons (pe_bl) (pa_nil))))))
      (pss_cons (ps_set (i := 7) sc_take_fault.nd rfl (Or.inl rfl) (pe_tup (pa_cons (pe_str) (pa_cons (pv 6) (pa_cons (pv 5) (pa_cons (pe_int) (pa_nil)))))))
      (pss_cons (ps_if (pt_cmpR (op_lt) (pe_bmZ PySem.F.plainAttrs_tuple PySem.F.slot_tuple_count PySem.F.type_tuple_count (mt_tcountB (hu_of hr)) (pv 6) (pa_cons (pe_bl) (pa_nil))) (pe_fld (pv 0) rfl) (nomark _)) (pss_one (ps_ret (pe_tup (pa_cons (pv 7) (pa_cons (pe_bl) (pa_nil)))))) (pss_nil))
      (pss_one (ps_ret (C8.pe_c c_try hr (by decide) (by rfl) (pa_cons (pv 0) (pa_cons (pv 7) (pa_cons (pv 2) (pa_nil)))))))))), ?_⟩
    obtain ⟨p, wq, rfl, hp, hw⟩ := st_inn hv
    refine x_asgG ((ev_var rfl) H (Ex.refl H) _ fun H1 e1 => ⟨p, _, rfl, ex_t e1 hp, rfl, _, _, rfl, _, _, rfl, _, _, rfl, _, _, rfl, rfl, ?_⟩)
    show tSeq _ _ _ [some (.ref q), some (.ref p), some (.bl room), some (.int c), some (.ref wq), some (.int t), none, none] H1
    refine x_asg (ez_call mono_taken (ea_cons (ev_var rfl) (ea_cons (ev_var rfl) (ea_cons ev_c ea_nil))) ⟨q, wq, r, w, true, rfl, hq.up e1, ex_t e1 hw, hl, rfl⟩ H1 (Ex.refl H1) _ fun tp H2 e2 hz => ?_)
    refine y_asg (K := K) (evd_inn (w := takeW r.of w true) (ev_var rfl) hz.sq (ev_var rfl) ev_c) fun v2 H3 e3 hd => ?_
    have hz3 := hz.up e3
    have e13 := (e1.trans e2).trans e3
    obtain ⟨rn, dx, hq3⟩ := hq.up e13
    by_cases hc : ((takeW r.of w true).count true : Int) < r.need
    · refine y_yes (et_is (et_test (ev_op (ev_countZ rfl hz3) (ev_fld (ev_var rfl) hq3 T.cl T.n_need (fl_need r)) rv_I0)) (decide_eq_true hc)) fun H4 e4 => ?_
      refine y_ret (evd_tup (ead_cons (evd_of (ev_var rfl) (dp_up e4 hd)) (ead_cons (evd_bl ev_c) ead_nil)) (by show 2 ≤ 1000; decide)) fun v H5 e5 hd => k v H5 (e13.trans (e4.trans e5)) ?_
      unfold faultI
      rw [if_pos hc]
      exact hd
    · refine y_no (et_is (et_test (ev_op (ev_countZ rfl hz3) (ev_fld (ev_var rfl) hq3 T.cl T.n_need (fl_need r)) rv_I0)) (decide_eq_false hc)) fun H4 e4 => ?_
      refine y_ret (evd_call mono_try (ea_cons (ev_var rfl) (ea_cons (ev_var rfl) (ea_cons (ev_var rfl) ea_nil))) ⟨q, v2, r, takeW r.of w true, t, 0, room, rfl, hq.up (e13.trans e4), dp_up e4 hd, rfl⟩) fun v H5 e5 hd => k v H5 (e13.trans (e4.trans e5)) ?_
      unfold faultI
      rw [if_neg hc]
      exact hd
end

section
variable {P : Program} {w : World} {K : PySem.W.Frag} {mg : Str → Option Value} {base : Heap} {CR aB aH : Addr}
def rOkD (K : PySem.W.Frag) (CR : Addr) : Hp → List V → PyData → Prop := fun H vs d => ∃ (q : Addr) (v : V) (r : RuleD) (st : St), vs = [.ref q, v] ∧ RIn CR H q r ∧ Dp K H v st.data ∧ st.len ≤ 100 ∧ st.word ≠ "out" ∧ d = (okS r st).data
theorem mono_okD : MonoD (rOkD K CR) := fun _ _ _ _ e ⟨q, v, r, st, a, b, h, l, n, z⟩ => ⟨q, v, r, st, a, b.up e, dp_up e h, l, n, z⟩
theorem ok_takeok {f : Addr} {fd : FuncData} (D : C8.Def K mg "_take_ok" st_take_ok f fd) (b : Binds K fd ["rule", "standing"] []) (T : Tb K mg CR aB aH) (c_taken : C8.Cal P w K mg base 2 "_taken" (spZ (rTaken K CR)) []) : C8.Cal P w K mg base 3 "_take_ok" (spD K (rOkD K CR)) [] := by
  refine C8.cal0 D b .nil sc_take_ok (fun vs H Q E h => ?_) (fun cdv A outer s H vs Q E hr h => ?_)
  · obtain ⟨_, ⟨_, _, _, _, rfl, _⟩, _⟩ := h
    rfl
  · obtain ⟨_, ⟨q, v, r, st, rfl, hq, hv, hl, hn, rfl⟩, k⟩ := h
    refine ⟨_, pss_cons (ps_if (pt_cmpR (op_eq) (pe_ix ix_tup (pv 1) (pe_int) (fun _ _ => rfl)) (pe_str) (nomark _)) (pss_one (ps_ret (pe_tup (pa_cons (pe_str) (pa_cons (pe_tup (pa_nil)) (pa_cons (pe_ix ix_tup (pv 1) (pe_int) (fun _ _ => rfl)) (pa_cons (pe_int) (pa_nil)))))))) (pss_nil))
      (pss_cons (ps_asg (pv 1) (pg_tup (by rfl) (pgs_cons (pg_name (i := 2) sc_take_ok.nd rfl (Or.inl rfl)) (pgs_cons (pg_name (i := 3) sc_take_ok.nd rfl (Or.inl rfl)) (pgs_cons (pg_name (i := 4) sc_take_ok.nd rfl (Or.inl rfl)) (pgs_cons (pg_name (i := 5) sc_take_ok.nd rfl (Or.inl rfl)) (pgs_nil)))))))
      (pss_cons (ps_set (i := 6) sc_take_ok.nd rfl (Or.inl rfl) (C8.pe_c c_taken hr (by decide) (by rfl) (pa_cons (pv 0) (pa_cons (pv 3) (pa_cons (pe_bl) (pa_nil))))))
      (pss_cons (ps_if (PW.pt (pw_or (pt_cmpR (op_eq) (pv 4) (pe_int) (nomark _)) (pw_or1 (pt_cmpR (op_eq) (pe_fld (pv 0) rfl) (pe_int) (nomark _))))) (pss_one (ps_ret (pe_tup (pa_cons (pe_str) (pa_cons (pv 6) (pa_cons (pv 4) (pa_cons (pe_int) (pa_nil)))))))) (pss_nil))
      (pss_cons (ps_if (pt_cmpR (op_eq) (pe_op op_add (pv 5) (pe_int)) (pe_fld (pv 0) rfl) (nomark _)) (pss_one (ps_ret (pe_tup (pa_cons (pe_str) (pa_cons (pv 6) (pa_cons (pe_int) (pa_cons (pe_int) (pa_nil)))))))) (pss_nil))
      (pss_one (ps_ret (pe_tup (pa_cons (pe_str) (pa_cons (pv 6) (pa_cons (pv 4) (pa_cons (pe_op op_add (pv 5) (pe_int)) (pa_nil)))))))))))), ?_⟩
    cases st with
    | out l t => exact absurd rfl hn
    | tri t =>
      obtain ⟨p, rfl, hp⟩ := st_tri hv
      refine y_yes (et_is (et_test (ev_op (ev_head hv (ev_var rfl)) ev_c (rv_eq rfl))) (str_eq rfl)) fun H1 e1 => ?_
      exact y_ret (K := K) (evd_tup (ead_cons (evd_str ev_c) (ead_cons (evd_tup ead_nil (by decide)) (ead_cons (evd_int (ev_op (ev_var rfl) ev_c (rv_ixT (ex_t e1 hp) rfl))) (ead_cons (evd_int ev_c) ead_nil)))) (by show 4 ≤ 1000; decide)) fun v H2 e2 hd => k v H2 (e1.trans e2) hd
    | inn w t c =>
      obtain ⟨p, wq, rfl, hp, hw⟩ := st_inn hv
      refine y_no (et_is (et_test (ev_op (ev_head hv (ev_var rfl)) ev_c (rv_eq rfl))) (str_ne (show ¬ (("in" : Str) = "trial") by decide +kernel))) fun H0 e0 => ?_
      refine x_asgG ((ev_var rfl) H0 (Ex.refl H0) _ fun H1 e1 => ⟨p, _, rfl, ex_t (e0.trans e1) hp, rfl, _, _, rfl, _, _, rfl, _, _, rfl, _, _, rfl, rfl, ?_⟩)
      have e1 := e0.trans e1
      show tSeq _ _ _ [some (.ref q), some (.ref p), some (.str "in"), some (.ref wq), some (.int t), some (.int c), none] H1
      refine x_asg (ez_call mono_taken (ea_cons (ev_var rfl) (ea_cons (ev_var rfl) (ea_cons ev_c ea_nil))) ⟨q, wq, r, w, false, rfl, hq.up e1, ex_t e1 hw, hl, rfl⟩ H1 (Ex.refl H1) _ fun tp H2 e2 hz => ?_)
      have e12 := e1.trans e2
      obtain ⟨rn, dx, hq2⟩ := hq.up e12
      have tt : EvT (tOr (tTest (tOp rEq (tVar 4) (tC (.int 0)))) (tTest (tOp rEq (tFld K (tVar 0) "calm") (tC (.int 0))))) [some (.ref q), some (.ref p), some (.str "in"), some (.ref wq), some (.int t), some (.int c), some (.ref tp)] H2 (decide (V.int t = V.int 0) || decide (V.int r.calm = V.int 0)) :=
        et_or2 (et_test (ev_op (ev_var rfl) ev_c (rv_eq rfl))) (et_test (ev_op (ev_fld (ev_var rfl) hq2 T.cl T.n_calm (fl_calm r)) ev_c (rv_eq rfl)))
      have ie : ∀ i j : Int, decide (V.int i = V.int j) = decide (i = j) := fun i j => decide_eq_decide.mpr ⟨fun h => by cases h; rfl, fun h => by rw [h]⟩
      by_cases h0 : t = 0 ∨ r.calm = 0
      · refine y_yes (et_is tt (by
          rw [ie, ie, ← Bool.decide_or]
          exact decide_eq_true h0)) fun H3 e3 => ?_
        refine y_ret (K := K) (evd_inn (w := takeW r.of w false) (ev_var rfl) (hz.up e3).sq (ev_var rfl) ev_c) fun v H4 e4 hd => k v H4 (e12.trans (e3.trans e4)) ?_
        show Dp K H4 v (okI r w t c).data
        unfold okI
        rw [if_pos h0]
        exact hd
      refine y_no (et_is tt (by
          rw [ie, ie, ← Bool.decide_or]
          exact decide_eq_false h0)) fun H3 e3 => ?_
      have t2 : EvT (tTest (tOp rEq (tOp (rI0 fun i j => V.int (i + j)) (tVar 5) (tC (.int 1))) (tFld K (tVar 0) "calm"))) [some (.ref q), some (.ref p), some (.str "in"), some (.ref wq), some (.int t), some (.int c), some (.ref tp)] H3 (decide (V.int (c + 1) = V.int r.calm)) :=
        et_test (ev_op (ev_op (ev_var rfl) ev_c rv_I0) (ev_fld (ev_var rfl) (e3 _ _ hq2) T.cl T.n_calm (fl_calm r)) (rv_eq rfl))
      by_cases h1 : c + 1 = r.calm
      · refine y_yes (et_is t2 (by rw [ie]; exact decide_eq_true h1)) fun H4 e4 => ?_
        refine y_ret (K := K) (evd_inn (w := takeW r.of w false) (ev_var rfl) (hz.up (e3.trans e4)).sq ev_c ev_c) fun v H5 e5 hd => k v H5 (e12.trans (e3.trans (e4.trans e5))) ?_
        show Dp K H5 v (okI r w t c).data
        unfold okI
        rw [if_neg h0, if_pos h1]
        exact hd
      · refine y_no (et_is t2 (by rw [ie]; exact decide_eq_false h1)) fun H4 e4 => ?_
        refine y_ret (K := K) (evd_inn (w := takeW r.of w false) (ev_var rfl) (hz.up (e3.trans e4)).sq (ev_var rfl) (ev_op (ev_var rfl) ev_c rv_I0)) fun v H5 e5 hd => k v H5 (e12.trans (e3.trans (e4.trans e5))) ?_
        show Dp K H5 v (okI r w t c).data
        unfold okI
        rw [if_neg h0, if_neg h1]
        exact hd
def rSit (K : PySem.W.Frag) (CR : Addr) : Hp → List V → PyData → Prop := fun H vs d => ∃ (q : Addr) (v : V) (r : RuleD) (l t : Int), vs = [.ref q, v] ∧ RIn CR H q r ∧ Dp K H v (St.out l t).data ∧ d = (sitO r l t).data
theorem mono_sit : MonoD (rSit K CR) := fun _ _ _ _ e ⟨q, v, r, l, t, a, b, h, z⟩ => ⟨q, v, r, l, t, a, b.up e, dp_up e h, z⟩
theorem ok_sit {f : Addr} {fd : FuncData} (D : C8.Def K mg "_sit" st_sit f fd) (b : Binds K fd ["rule", "standing"] []) (T : Tb K mg CR aB aH) : C8.Cal P w K mg base 2 "_sit" (spD K (rSit K CR)) [] := by
  refine C8.cal0 D b .nil sc_sit (fun vs H Q E h => ?_) (fun cdv A outer s H vs Q E hr h => ?_)
  · obtain ⟨_, ⟨_, _, _, _, _, rfl, _⟩, _⟩ := h
    rfl
  · obtain ⟨_, ⟨q, v, r, l, t, rfl, hq, hv, rfl⟩, k⟩ := h
    refine ⟨_, pss_cons (ps_asg (pv 1) (pg_tup (by rfl) (pgs_cons (pg_name (i := 2) sc_sit.nd rfl (Or.inl rfl)) (pgs_cons (pg_name (i := 3) sc_sit.nd rfl (Or.inl rfl)) (pgs_cons (pg_name (i := 4) sc_sit.nd rfl (Or.inl rfl)) (pgs_nil))))))
      (pss_cons (ps_if (pt_cmpR (op_gt) (pv 3) (pe_int) (nomark _)) (pss_one (ps_ret (pe_tup (pa_cons (pe_str) (pa_cons (pe_op op_sub (pv 3) (pe_int)) (pa_cons (pv 4) (pa_nil))))))) (pss_nil))
      (pss_cons (ps_if (pt_cmpR (op_eq) (pe_fld (pv 0) rfl) (pe_str) (nomark _)) (pss_one (ps_ret (pe_tup (pa_cons (pe_str) (pa_cons (pv 4) (pa_nil)))))) (pss_nil))
      (pss_cons (ps_set (i := 5) sc_sit.nd rfl (Or.inl rfl) (pe_ifExp (pt_cmpR (op_eq) (pe_fld (pv 0) rfl) (pe_str) (nomark _)) (pe_op op_sub (pe_fld (pv 0) rfl) (pe_op op_fdiv (pe_op op_add (pe_fld (pv 0) rfl) (pe_int)) (pe_int))) (pe_int)))
      (pss_one (ps_ret (pe_tup (pa_cons (pe_str) (pa_cons (pe_op op_repTA (pe_tup (pa_cons (pe_bl) (pa_nil))) (pv 5)) (pa_cons (pv 4) (pa_cons (pe_int) (pa_nil))))))))))), ?_⟩
    obtain ⟨p, rfl, hp⟩ := st_out hv
    refine x_asgG ((ev_var rfl) H (Ex.refl H) _ fun H1 e1 => ⟨p, _, rfl, ex_t e1 hp, rfl, _, _, rfl, _, _, rfl, _, _, rfl, rfl, ?_⟩)
    show tSeq _ _ _ [some (.ref q), some (.ref p), some (.str "out"), some (.int l), some (.int t), none] H1
    obtain ⟨rn, dx, hq1⟩ := hq.up e1
    by_cases h1 : 1 < l
    · refine y_yes (et_is (et_test (ev_op (ev_var rfl) ev_c rv_I0)) (decide_eq_true h1)) fun H2 e2 => ?_
      refine y_ret (K := K) (evd_out (ev_op (ev_var rfl) ev_c rv_I0) (ev_var rfl)) fun v H3 e3 hd => k v H3 (e1.trans (e2.trans e3)) ?_
      unfold sitO
      rw [if_pos h1]
      exact hd
    refine y_no (et_is (et_test (ev_op (ev_var rfl) ev_c rv_I0)) (decide_eq_false h1)) fun H2 e2 => ?_
    have hq2 := e2 _ _ hq1
    by_cases h2 : r.back = "trial"
    · refine y_yes (et_is (et_test (ev_op (ev_fld (ev_var rfl) hq2 T.cl T.n_back (fl_back r)) ev_c (rv_eq rfl))) (str_eq h2)) fun H3 e3 => ?_
      refine y_ret (K := K) (evd_tri (ev_var rfl)) fun v H4 e4 hd => k v H4 (e1.trans (e2.trans (e3.trans e4))) ?_
      unfold sitO
      rw [if_neg h1, if_pos h2]
      exact hd
    refine y_no (et_is (et_test (ev_op (ev_fld (ev_var rfl) hq2 T.cl T.n_back (fl_back r)) ev_c (rv_eq rfl))) (str_ne h2)) fun H3 e3 => ?_
    have hq3 := e3 _ _ hq2
    have cv : Ev (tIf (tTest (tOp rEq (tFld K (tVar 0) "back") (tC (.str "half")))) (tOp (rI0 fun i j => V.int (i - j)) (tFld K (tVar 0) "need") (tOp (rI (fun _ j => 0 < j ∧ j < 1073741824) fun i j => V.int (i / j)) (tOp (rI0 fun i j => V.int (i + j)) (tFld K (tVar 0) "need") (tC (.int 1))) (tC (.int 2)))) (tC (.int 0)))
        [some (.ref q), some (.ref p), some (.str "out"), some (.int l), some (.int t), none] H3 (.int (cntR r)) := by
      by_cases h3 : r.back = "half"
      · refine ev_if (b := true) (et_is (et_test (ev_op (ev_fld (ev_var rfl) hq3 T.cl T.n_back (fl_back r)) ev_c (rv_eq rfl))) (str_eq h3)) (fun _ => ev_is (ev_op (ev_fld (ev_var rfl) hq3 T.cl T.n_need (fl_need r)) (ev_op (ev_op (ev_fld (ev_var rfl) hq3 T.cl T.n_need (fl_need r)) ev_c rv_I0) ev_c (rv_I ⟨by decide, by decide⟩)) rv_I0) ?_) (fun z => Bool.noConfusion z)
        unfold cntR
        rw [if_pos h3]
      · refine ev_if (b := false) (et_is (et_test (ev_op (ev_fld (ev_var rfl) hq3 T.cl T.n_back (fl_back r)) ev_c (rv_eq rfl))) (str_ne h3)) (fun z => Bool.noConfusion z) (fun _ => ev_is ev_c ?_)
        unfold cntR
        rw [if_neg h3]
    refine y_ev cv fun H4 e4 => ?_
    have n1 := rn.ok.need
    have n2 := rn.ok.of
    have n3 := rn.of
    have c0 : 0 ≤ cntR r ∧ cntR r ≤ 1000 := by
      unfold cntR
      split <;> omega
    refine y_ret (K := K) (evd_tup (ead_cons (evd_str ev_c) (ead_cons (evd_Q (ds := (List.replicate (cntR r).toNat true).map PyData.bool) (evq_rep (eu_tup (ea_cons ev_c ea_nil) (by show 1 ≤ 100000; decide)) (ev_var rfl) c0.1 c0.2) ?_) (ead_cons (evd_int (ev_var rfl)) (ead_cons (evd_int ev_c) ead_nil)))) (by show 4 ≤ 1000; decide)) fun v H5 e5 hd => k v H5 (e1.trans (e2.trans (e3.trans (e4.trans e5)))) ?_
    · have := dpAll_bools (K := K) (H := H4) (List.replicate (cntR r).toNat true)
      rw [List.map_replicate] at this
      exact this
    · unfold sitO
      rw [if_neg h1, if_neg h2]
      exact hd
def rHear (K : PySem.W.Frag) (CR : Addr) : Hp → List V → PyData → Prop := fun H vs d => ∃ (q : Addr) (v : V) (r : RuleD) (st : St) (room : Bool), vs = [.ref q, v, .bl room] ∧ RIn CR H q r ∧ Dp K H v st.data ∧ st.len ≤ 100 ∧ d = pairB (hearS r st room)
theorem mono_hear : MonoD (rHear K CR) := fun _ _ _ _ e ⟨q, v, r, st, o, a, b, h, l, z⟩ => ⟨q, v, r, st, o, a, b.up e, dp_up e h, l, z⟩
theorem ok_hear {f : Addr} {fd : FuncData} (D : C8.Def K mg "_hear" st_hear f fd) (b : Binds K fd ["rule", "standing", "room"] []) (T : Tb K mg CR aB aH) (c_take_fault : C8.Cal P w K mg base 5 "_take_fault" (spD K (rFault K CR)) []) (c_try : C8.Cal P w K mg base 4 "_try" (spD K (rTry K CR)) []) : C8.Cal P w K mg base 6 "_hear" (spD K (rHear K CR)) [] := by
  refine C8.cal0 D b .nil sc_hear (fun vs H Q E h => ?_) (fun cdv A outer s H vs Q E hr h => ?_)
  · obtain ⟨_, ⟨_, _, _, _, _, rfl, _⟩, _⟩ := h
    rfl
  · obtain ⟨_, ⟨q, v, r, st, room, rfl, hq, hv, hl, rfl⟩, k⟩ := h
    refine ⟨_, pss_cons (ps_if (PW.pt (pw_or (pt_cmpR (op_ne) (pe_ix ix_tup (pv 1) (pe_int) (fun _ _ => rfl)) (pe_str) (nomark _)) (pw_or1 (pt_cmpR (op_eq) (pe_fld (pv 0) rfl) (pe_str) (nomark _))))) (pss_one (ps_ret (pe_tup (pa_cons (pv 1) (pa_cons (pe_bl) (pa_nil)))))) (pss_nil))
      (pss_cons (ps_if (pt_cmpR (op_eq) (pe_fld (pv 0) rfl) (pe_str) (nomark _)) (pss_one (ps_ret (C8.pe_c c_take_fault hr (by decide) (by rfl) (pa_cons (pv 0) (pa_cons (pv 1) (pa_cons (pv 2) (pa_nil))))))) (pss_nil))
      (pss_one (ps_ret (C8.pe_c c_try hr (by decide) (by rfl) (pa_cons (pv 0) (pa_cons (pv 1) (pa_cons (pv 2) (pa_nil)))))))), ?_⟩
    obtain ⟨rn, dx, hqq⟩ := id hq
    have tt : EvT (tOr (tTest (tOp rNe (tOp (rIxT K) (tVar 1) (tC (.int 0))) (tC (.str "in")))) (tTest (tOp rEq (tFld K (tVar 0) "hears") (tC (.str "no"))))) (start ["rule", "standing", "room"] [.ref q, v, .bl room]) H ((!decide (V.str st.word = V.str "in")) || decide (V.str r.hears = V.str "no")) :=
      et_or2 (et_test (ev_op (ev_head hv (ev_var rfl)) ev_c (rv_ne rfl))) (et_test (ev_op (ev_fld (ev_var rfl) hqq T.cl T.n_hears (fl_hears r)) ev_c (rv_eq rfl)))
    have stay : ((!decide (V.str st.word = V.str "in")) || decide (V.str r.hears = V.str "no")) = true → hearS r st room = (st, false) → ∀ tz : TS, tSeq (tIfS (tOr (tTest (tOp rNe (tOp (rIxT K) (tVar 1) (tC (.int 0))) (tC (.str "in")))) (tTest (tOp rEq (tFld K (tVar 0) "hears") (tC (.str "no"))))) (tRet (tTup (tCons (tVar 1) (tCons (tC (.bl false)) tNil)))) tNext) tz { nx := fun _ H' => Q .non H', rt := Q } (start ["rule", "standing", "room"] [.ref q, v, .bl room]) H := fun h e tz => by
      refine y_yes (et_is tt h) fun H1 e1 => ?_
      refine y_ret (K := K) (evd_tup (ead_cons (evd_of (ev_var rfl) (dp_up e1 hv)) (ead_cons (evd_bl ev_c) ead_nil)) (by show 2 ≤ 1000; decide)) fun v H2 e2 hd => k v H2 (e1.trans e2) ?_
      rw [e]
      exact hd
    cases st with
    | out l t => exact stay (by rw [str_ne (show ¬ (St.word (.out l t) = "in") from (by decide +kernel : ¬ ("out" : Str) = "in"))]; rfl) rfl _
    | tri t => exact stay (by rw [str_ne (show ¬ (St.word (.tri t) = "in") from (by decide +kernel : ¬ ("trial" : Str) = "in"))]; rfl) rfl _
    | inn w t c =>
      by_cases h1 : r.hears = "no"
      · refine stay (by rw [str_eq h1]; exact Bool.or_true _) ?_ _
        show (if r.hears = "no" then _ else _) = _
        rw [if_pos h1]
      refine y_no (et_is tt (by rw [str_ne h1, str_eq (show St.word (.inn w t c) = "in" from rfl)]; rfl)) fun H1 e1 => ?_
      have hq1 := e1 _ _ hqq
      have hs : hearS r (.inn w t c) room = if r.hears = "fault" then faultI r w t room else tryI r w t c room := by
        show (if r.hears = "no" then _ else _) = _
        rw [if_neg h1]
      rw [hs] at k
      by_cases h2 : r.hears = "fault"
      · refine y_yes (et_is (et_test (ev_op (ev_fld (ev_var rfl) hq1 T.cl T.n_hears (fl_hears r)) ev_c (rv_eq rfl))) (str_eq h2)) fun H2 e2 => ?_
        rw [if_pos h2] at k
        exact y_ret (K := K) (evd_call mono_fault (ea_cons (ev_var rfl) (ea_cons (ev_var rfl) (ea_cons (ev_var rfl) ea_nil))) ⟨q, v, r, w, t, c, room, rfl, hq.up (e1.trans e2), dp_up (e1.trans e2) hv, hl, rfl⟩) fun v H3 e3 hd => k v H3 (e1.trans (e2.trans e3)) hd
      · refine y_no (et_is (et_test (ev_op (ev_fld (ev_var rfl) hq1 T.cl T.n_hears (fl_hears r)) ev_c (rv_eq rfl))) (str_ne h2)) fun H2 e2 => ?_
        rw [if_neg h2] at k
        exact y_ret (K := K) (evd_call mono_try (ea_cons (ev_var rfl) (ea_cons (ev_var rfl) (ea_cons (ev_var rfl) ea_nil))) ⟨q, v, r, w, t, c, room, rfl, hq.up (e1.trans e2), dp_up (e1.trans e2) hv, rfl⟩) fun v H3 e3 hd => k v H3 (e1.trans (e2.trans e3)) hd
end

section
variable {K : PySem.W.Frag} {H : Hp} {v : V}
theorem pairB_of {x : St × Bool} (h : Dp K H v (pairB x)) : ∃ p v1, v = .ref p ∧ SqT K H p [v1, .bl x.2] ∧ Dp K H v1 x.1.data := by
  obtain ⟨p, vs, rfl, hp, ha⟩ := dp_tup h
  obtain ⟨v1, us, rfl, h1, ha⟩ := dpA_cons ha
  obtain ⟨v2, us, rfl, h2, ha⟩ := dpA_cons ha
  obtain rfl := dpA_nil ha
  obtain rfl := dp_bl h2
  exact ⟨p, v1, rfl, hp, h1⟩
theorem pairS_of {x : St × Str} (h : Dp K H v (pairS x)) : ∃ p v1, v = .ref p ∧ SqT K H p [v1, .str x.2] ∧ Dp K H v1 x.1.data := by
  obtain ⟨p, vs, rfl, hp, ha⟩ := dp_tup h
  obtain ⟨v1, us, rfl, h1, ha⟩ := dpA_cons ha
  obtain ⟨v2, us, rfl, h2, ha⟩ := dpA_cons ha
  obtain rfl := dpA_nil ha
  obtain rfl := dp_str h2
  exact ⟨p, v1, rfl, hp, h1⟩
theorem tripS_of {x : St × Str × Bool} (h : Dp K H v (tripS x)) : ∃ p v1, v = .ref p ∧ SqT K H p [v1, .str x.2.1, .bl x.2.2] ∧ Dp K H v1 x.1.data := by
  obtain ⟨p, vs, rfl, hp, ha⟩ := dp_tup h
  obtain ⟨v1, us, rfl, h1, ha⟩ := dpA_cons ha
  obtain ⟨v2, us, rfl, h2, ha⟩ := dpA_cons ha
  obtain ⟨v3, us, rfl, h3, ha⟩ := dpA_cons ha
  obtain rfl := dpA_nil ha
  obtain rfl := dp_str h2
  obtain rfl := dp_bl h3
  exact ⟨p, v1, rfl, hp, h1⟩
end
theorem letter_word (wd : Wd) (full : Bool) : (Txt.split (letterOf wd full) " ").head? = some wd.str := by cases wd <;> cases full <;> decide +kernel
theorem letter_full (wd : Wd) (full : Bool) : decide (wd.str = letterOf wd full) = !full := by cases wd <;> cases full <;> decide +kernel
theorem letter_len (wd : Wd) (full : Bool) : (letterOf wd full).length ≤ 100 := by cases wd <;> cases full <;> decide +kernel
section
variable {P : Program} {w : World} {K : PySem.W.Frag} {mg : Str → Option Value} {base : Heap} {CR aB aH : Addr}
def rBegun : Hp → List V → PyData → Prop := fun _ vs d => vs = [] ∧ d = (St.inn [] 0 0).data
theorem mono_begun : MonoD rBegun := fun _ _ _ _ _ h => h
theorem ok_begun {f : Addr} {fd : FuncData} (D : C8.Def K mg "begun" st_begun f fd) (b : Binds K fd [] []) : C8.Cal P w K mg base 2 "begun" (spD K rBegun) [] := by
  refine C8.cal0 D b .nil sc_begun (fun vs H Q E h => ?_) (fun cdv A outer s H vs Q E hr h => ?_)
  · obtain ⟨_, ⟨rfl, _⟩, _⟩ := h
    rfl
  · obtain ⟨_, ⟨rfl, rfl⟩, k⟩ := h
    refine ⟨_, pss_one (ps_ret (pe_tup (pa_cons (pe_str) (pa_cons (pe_tup (pa_nil)) (pa_cons (pe_int) (pa_cons (pe_int) (pa_nil))))))), ?_⟩
    exact y_ret (K := K) (evd_tup (ead_cons (evd_str ev_c) (ead_cons (evd_tup ead_nil (by decide)) (ead_cons (evd_int ev_c) (ead_cons (evd_int ev_c) ead_nil)))) (by show 4 ≤ 1000; decide)) k
def rMove (K : PySem.W.Frag) (CR : Addr) : Hp → List V → PyData → Prop := fun H vs d => ∃ (q : Addr) (v : V) (r : RuleD) (st : St) (wd : Wd) (room : Bool), vs = [.ref q, v, .str wd.str, .bl room] ∧ RIn CR H q r ∧ Dp K H v st.data ∧ st.len ≤ 100 ∧ d = tripS (moveS r st wd room)
theorem mono_move : MonoD (rMove K CR) := fun _ _ _ _ e ⟨q, v, r, st, wd, o, a, b, h, l, z⟩ => ⟨q, v, r, st, wd, o, a, b.up e, dp_up e h, l, z⟩
theorem ok_move {f : Addr} {fd : FuncData} (D : C8.Def K mg "move" st_move f fd) (b : Binds K fd ["rule", "standing", "word", "room"] []) (T : Tb K mg CR aB aH) (c_hear : C8.Cal P w K mg base 6 "_hear" (spD K (rHear K CR)) []) (c_sit : C8.Cal P w K mg base 2 "_sit" (spD K (rSit K CR)) []) (c_take_ok : C8.Cal P w K mg base 3 "_take_ok" (spD K (rOkD K CR)) [])
    (c_leave_out : C8.Cal P w K mg base 3 "_leave_out" (spD K (rOutD CR)) []) (c_take_fault : C8.Cal P w K mg base 5 "_take_fault" (spD K (rFault K CR)) []) : C8.Cal P w K mg base 7 "move" (spD K (rMove K CR)) [] := by
  refine C8.cal0 D b .nil sc_move (fun vs H Q E h => ?_) (fun cdv A outer s H vs Q E hr h => ?_)
  · obtain ⟨_, ⟨_, _, _, _, _, _, rfl, _⟩, _⟩ := h
    rfl
  · obtain ⟨_, ⟨q, v, r, st, wd, room, rfl, hq, hv, hl, rfl⟩, k⟩ := h
    refine ⟨_, pss_cons (ps_if (pt_cmpR (op_eq) (pv 2) (pe_str) (nomark _)) (pss_cons (ps_asg (C8.pe_c c_hear hr (by decide) (by rfl) (pa_cons (pv 0) (pa_cons (pv 1) (pa_cons (pv 3) (pa_nil))))) (pg_tup (by rfl) (pgs_cons (pg_name (i := 4) sc_move.nd rfl (Or.inl rfl)) (pgs_cons (pg_name (i := 5) sc_move.nd rfl (Or.inl rfl)) (pgs_nil)))))
        (pss_one (ps_ret (pe_tup (pa_cons (pv 4) (pa_cons (pe_str) (pa_cons (pv 5) (pa_nil)))))))) (pss_nil))
      (pss_cons (ps_if (pt_cmpR (op_eq) (pe_ix ix_tup (pv 1) (pe_int) (fun _ _ => rfl)) (pe_str) (nomark _)) (pss_cons (ps_set (i := 6) sc_move.nd rfl (Or.inl rfl) (pe_ifExp (pt_cmpR (op_eq) (pv 2) (pe_str) (nomark _)) (pe_str) (pe_str)))
        (pss_one (ps_ret (pe_tup (pa_cons (C8.pe_c c_sit hr (by decide) (by rfl) (pa_cons (pv 0) (pa_cons (pv 1) (pa_nil)))) (pa_cons (pv 6) (pa_cons (pe_bl) (pa_nil)))))))) (pss_nil))
      (pss_cons (ps_if (pt_cmpR (op_eq) (pv 2) (pe_str) (nomark _)) (pss_one (ps_ret (pe_tup (pa_cons (C8.pe_c c_take_ok hr (by decide) (by rfl) (pa_cons (pv 0) (pa_cons (pv 1) (pa_nil)))) (pa_cons (pe_str) (pa_cons (pe_bl) (pa_nil))))))) (pss_nil))
      (pss_cons (ps_if (pt_cmpR (op_eq) (pe_ix ix_tup (pv 1) (pe_int) (fun _ _ => rfl)) (pe_str) (nomark _)) (pss_one (ps_ret (pe_tup (pa_cons (C8.pe_c c_leave_out hr (by decide) (by rfl) (pa_cons (pv 0) (pa_cons (pe_ix ix_tup (pv 1) (pe_int) (fun _ _ => rfl)) (pa_nil)))) (pa_cons (pe_str) (pa_cons (pe_bl) (pa_nil))))))) (pss_nil))
      (pss_cons (ps_asg (C8.pe_c c_take_fault hr (by decide) (by rfl) (pa_cons (pv 0) (pa_cons (pv 1) (pa_cons (pv 3) (pa_nil))))) (pg_tup (by rfl) (pgs_cons (pg_name (i := 4) sc_move.nd rfl (Or.inl rfl)) (pgs_cons (pg_name (i := 5) sc_move.nd rfl (Or.inl rfl)) (pgs_nil)))))
      (pss_one (ps_ret (pe_tup (pa_cons (pv 4) (pa_cons (pe_str) (pa_cons (pv 5) (pa_nil))))))))))), ?_⟩
    have trip : ∀ {σ : L2.St} {H : Hp} {te tw tk : TE} {s1 : St} {w1 : Str} {b1 : Bool}, EvD K te σ H s1.data → Ev tw σ H (.str w1) → Ev tk σ H (.bl b1) → EvD K (tTup (tCons te (tCons tw (tCons tk tNil)))) σ H (tripS (s1, w1, b1)) := fun h1 h2 h3 =>
      evd_tup (ead_cons h1 (ead_cons (evd_str h2) (ead_cons (evd_bl h3) ead_nil))) (by show 3 ≤ 1000; decide)
    have tw : ∀ {z : Str} {H : Hp}, EvT (tTest (tOp rEq (tVar 2) (tC (.str z)))) (start ["rule", "standing", "word", "room", "behind", "kept", "what"] [.ref q, v, .str wd.str, .bl room]) H (decide (V.str wd.str = V.str z)) := et_test (ev_op (ev_var rfl) ev_c (rv_eq rfl))
    have th : ∀ {z : Str} {H' : Hp}, Ex H H' → EvT (tTest (tOp rEq (tOp (rIxT K) (tVar 1) (tC (.int 0))) (tC (.str z)))) (start ["rule", "standing", "word", "room", "behind", "kept", "what"] [.ref q, v, .str wd.str, .bl room]) H' (decide (V.str st.word = V.str z)) := fun e => et_test (ev_op (ev_head (dp_up e hv) (ev_var rfl)) ev_c (rv_eq rfl))
    cases wd with
    | told =>
      refine y_yes (et_is tw (str_eq rfl)) fun H1 e1 => ?_
      refine x_asgG (evd_call mono_hear (ea_cons (ev_var rfl) (ea_cons (ev_var rfl) (ea_cons (ev_var rfl) ea_nil))) ⟨q, v, r, st, room, rfl, hq.up e1, dp_up e1 hv, hl, rfl⟩ H1 (Ex.refl H1) _ fun x H2 e2 hd => ?_)
      obtain ⟨p, v1, rfl, hp, h1⟩ := pairB_of hd
      refine ⟨p, _, rfl, hp, rfl, _, _, rfl, _, _, rfl, rfl, ?_⟩
      exact y_ret (K := K) (trip (evd_of (ev_var rfl) h1) ev_c (ev_var rfl)) fun v H3 e3 hd => k v H3 (e1.trans (e2.trans e3)) hd
    | ok =>
      refine y_no (et_is tw (str_ne (show ¬ (("ok" : Str) = "told") by decide +kernel))) fun H1 e1 => ?_
      cases st with
      | out l t =>
        refine y_yes (et_is (th e1) (str_eq rfl)) fun H2 e2 => ?_
        refine y_ev (v := .str "missed") (ev_if (b := true) (et_is tw (str_eq rfl)) (fun _ => ev_c) (fun z => Bool.noConfusion z)) fun H3 e3 => ?_
        exact y_ret (K := K) (trip (evd_call mono_sit (ea_cons (ev_var rfl) (ea_cons (ev_var rfl) ea_nil)) ⟨q, v, r, l, t, rfl, hq.up (e1.trans (e2.trans e3)), dp_up (e1.trans (e2.trans e3)) hv, rfl⟩) (ev_var rfl) ev_c) fun v H4 e4 hd => k v H4 (e1.trans (e2.trans (e3.trans e4))) hd
      | inn w t c =>
        refine y_no (et_is (th e1) (str_ne (show ¬ (("in" : Str) = "out") by decide +kernel))) fun H2 e2 => ?_
        refine y_yes (et_is tw (str_eq rfl)) fun H3 e3 => ?_
        exact y_ret (K := K) (trip (s1 := okS r (.inn w t c)) (evd_call mono_okD (ea_cons (ev_var rfl) (ea_cons (ev_var rfl) ea_nil)) ⟨q, v, r, .inn w t c, rfl, hq.up (e1.trans (e2.trans e3)), dp_up (e1.trans (e2.trans e3)) hv, hl, (show ¬ (("in" : Str) = "out") by decide +kernel), rfl⟩) ev_c ev_c) fun v H4 e4 hd => k v H4 (e1.trans (e2.trans (e3.trans e4))) hd
      | tri t =>
        refine y_no (et_is (th e1) (str_ne (show ¬ (("trial" : Str) = "out") by decide +kernel))) fun H2 e2 => ?_
        refine y_yes (et_is tw (str_eq rfl)) fun H3 e3 => ?_
        exact y_ret (K := K) (trip (s1 := okS r (.tri t)) (evd_call mono_okD (ea_cons (ev_var rfl) (ea_cons (ev_var rfl) ea_nil)) ⟨q, v, r, .tri t, rfl, hq.up (e1.trans (e2.trans e3)), dp_up (e1.trans (e2.trans e3)) hv, hl, (show ¬ (("trial" : Str) = "out") by decide +kernel), rfl⟩) ev_c ev_c) fun v H4 e4 hd => k v H4 (e1.trans (e2.trans (e3.trans e4))) hd
    | fault =>
      refine y_no (et_is tw (str_ne (show ¬ (("fault" : Str) = "told") by decide +kernel))) fun H1 e1 => ?_
      cases st with
      | out l t =>
        refine y_yes (et_is (th e1) (str_eq rfl)) fun H2 e2 => ?_
        refine y_ev (v := .str "skip") (ev_if (b := false) (et_is tw (str_ne (show ¬ (("fault" : Str) = "ok") by decide +kernel))) (fun z => Bool.noConfusion z) (fun _ => ev_c)) fun H3 e3 => ?_
        exact y_ret (K := K) (trip (evd_call mono_sit (ea_cons (ev_var rfl) (ea_cons (ev_var rfl) ea_nil)) ⟨q, v, r, l, t, rfl, hq.up (e1.trans (e2.trans e3)), dp_up (e1.trans (e2.trans e3)) hv, rfl⟩) (ev_var rfl) ev_c) fun v H4 e4 hd => k v H4 (e1.trans (e2.trans (e3.trans e4))) hd
      | tri t =>
        refine y_no (et_is (th e1) (str_ne (show ¬ (("trial" : Str) = "out") by decide +kernel))) fun H2 e2 => ?_
        refine y_no (et_is tw (str_ne (show ¬ (("fault" : Str) = "ok") by decide +kernel))) fun H3 e3 => ?_
        refine y_yes (et_is (th (e1.trans (e2.trans e3))) (str_eq rfl)) fun H4 e4 => ?_
        have e14 := e1.trans (e2.trans (e3.trans e4))
        obtain ⟨p, rfl, hp⟩ := st_tri hv
        exact y_ret (K := K) (trip (evd_call mono_outD (ea_cons (ev_var rfl) (ea_cons (ev_op (ev_var rfl) ev_c (rv_ixT (ex_t e14 hp) rfl)) ea_nil)) ⟨q, r, t, rfl, hq.up e14, rfl⟩) ev_c ev_c) fun v H5 e5 hd => k v H5 (e14.trans e5) hd
      | inn w t c =>
        refine y_no (et_is (th e1) (str_ne (show ¬ (("in" : Str) = "out") by decide +kernel))) fun H2 e2 => ?_
        refine y_no (et_is tw (str_ne (show ¬ (("fault" : Str) = "ok") by decide +kernel))) fun H3 e3 => ?_
        refine y_no (et_is (th (e1.trans (e2.trans e3))) (str_ne (show ¬ (("in" : Str) = "trial") by decide +kernel))) fun H4 e4 => ?_
        have e14 := e1.trans (e2.trans (e3.trans e4))
        refine x_asgG (evd_call mono_fault (ea_cons (ev_var rfl) (ea_cons (ev_var rfl) (ea_cons (ev_var rfl) ea_nil))) ⟨q, v, r, w, t, c, room, rfl, hq.up e14, dp_up e14 hv, hl, rfl⟩ H4 (Ex.refl H4) _ fun x H5 e5 hd => ?_)
        obtain ⟨p, v1, rfl, hp, h1⟩ := pairB_of hd
        refine ⟨p, _, rfl, hp, rfl, _, _, rfl, _, _, rfl, rfl, ?_⟩
        exact y_ret (K := K) (trip (evd_of (ev_var rfl) h1) ev_c (ev_var rfl)) fun v H6 e6 hd => k v H6 (e14.trans (e5.trans e6)) hd
def rStep (K : PySem.W.Frag) (CR : Addr) : Hp → List V → PyData → Prop := fun H vs d => ∃ (q : Addr) (v : V) (r : RuleD) (st : St) (wd : Wd) (full : Bool), vs = [.ref q, v, .str (letterOf wd full)] ∧ RIn CR H q r ∧ Dp K H v st.data ∧ st.len ≤ 100 ∧ d = pairS (stepS r st wd full)
theorem mono_step : MonoD (rStep K CR) := fun _ _ _ _ e ⟨q, v, r, st, wd, o, a, b, h, l, z⟩ => ⟨q, v, r, st, wd, o, a, b.up e, dp_up e h, l, z⟩
theorem ok_step {f : Addr} {fd : FuncData} (D : C8.Def K mg "step" st_step f fd) (b : Binds K fd ["rule", "standing", "letter"] []) (T : Tb K mg CR aB aH) (c_move : C8.Cal P w K mg base 7 "move" (spD K (rMove K CR)) []) : C8.Cal P w K mg base 8 "step" (spD K (rStep K CR)) [] := by
  refine C8.cal0 D b .nil sc_step (fun vs H Q E h => ?_) (fun cdv A outer s H vs Q E hr h => ?_)
  · obtain ⟨_, ⟨_, _, _, _, _, _, rfl, _⟩, _⟩ := h
    rfl
  · obtain ⟨_, ⟨q, v, r, st, wd, full, rfl, hq, hv, hl, rfl⟩, k⟩ := h
    refine ⟨_, pss_cons (ps_set (i := 3) sc_step.nd rfl (Or.inl rfl) (pe_ix ix_list (pe_split (pv 2) (pe_str)) (pe_int) (fun _ _ => rfl)))
      (pss_cons (ps_set (i := 4) sc_step.nd rfl (Or.inl rfl) (pe_cmpR (op_ne) (pv 3) (pv 2) (nomark _)))
      (pss_cons (ps_set (i := 5) sc_step.nd rfl (Or.inl rfl) (pe_or (pe_cmpR (op_eq) (pe_fld (pv 0) rfl) (pe_fld (pv 0) rfl) (nomark _)) (pe_one (pe_and (pe_cmpR (op_gt) (pe_fld (pv 0) rfl) (pe_int) (nomark _)) (pe_one (pe_not (pv 4)))))))
      (pss_cons (ps_asg (C8.pe_c c_move hr (by decide) (by rfl) (pa_cons (pv 0) (pa_cons (pv 1) (pa_cons (pv 3) (pa_cons (pv 5) (pa_nil)))))) (pg_tup (by rfl) (pgs_cons (pg_name (i := 6) sc_step.nd rfl (Or.inl rfl)) (pgs_cons (pg_name (i := 7) sc_step.nd rfl (Or.inl rfl)) (pgs_cons (pg_name (i := 8) sc_step.nd rfl (Or.inl rfl)) (pgs_nil))))))
      (pss_one (ps_ret (pe_tup (pa_cons (pv 6) (pa_cons (pv 7) (pa_nil))))))))), ?_⟩
    have hw : ∃ rest, Txt.split (letterOf wd full) " " = wd.str :: rest := by
      have h := letter_word wd full
      cases e : Txt.split (letterOf wd full) " " with
      | nil => rw [e] at h; cases h
      | cons a rest =>
        rw [e] at h
        exact ⟨rest, by rw [Option.some.inj h]⟩
    obtain ⟨rest, hsp⟩ := hw
    refine y_ev (v := .str wd.str) (ev_opL1 (el_split (ev_var rfl) ev_c (by decide +kernel) (Nat.le_trans (letter_len wd full) (by decide))) (fun _ _ => ev_c) (fun p H1 hp _ => rv_ixL (sq_of hp) (by rw [hsp]; exact atI_nat (xs := (wd.str :: rest).map V.str) (j := 0) rfl))) fun H1 e1 => ?_
    refine y_ev (v := .bl full) (ev_is (ev_op (ev_var rfl) (ev_var rfl) (rv_ne rfl)) ?_) fun H2 e2 => ?_
    · have h : decide (V.str wd.str = V.str (letterOf wd full)) = decide (wd.str = letterOf wd full) := decide_eq_decide.mpr ⟨fun h => V.str.inj h, fun h => by rw [h]⟩
      rw [h, letter_full, Bool.not_not]
    obtain ⟨rn, dx, hq2⟩ := hq.up (e1.trans e2)
    refine y_ev (v := .bl (roomR r full)) (ev_is (ev_orV (b := decide (0 < r.top) && !full) (ev_op (ev_fld (ev_var rfl) hq2 T.cl T.n_top (fl_top r)) (ev_fld (ev_var rfl) hq2 T.cl T.n_under (fl_under r)) (rv_eq rfl)) (fun _ => ev_and (ev_op (ev_fld (ev_var rfl) hq2 T.cl T.n_top (fl_top r)) ev_c rv_I0) (ev_notV (ev_var rfl)))) ?_) fun H3 e3 => ?_
    · unfold roomR
      rw [show decide (V.int r.top = V.int r.under) = decide (r.top = r.under) from decide_eq_decide.mpr ⟨fun h => V.int.inj h, fun h => by rw [h]⟩]
    have e13 := (e1.trans e2).trans e3
    refine x_asgG (evd_call mono_move (ea_cons (ev_var rfl) (ea_cons (ev_var rfl) (ea_cons (ev_var rfl) (ea_cons (ev_var rfl) ea_nil)))) ⟨q, v, r, st, wd, roomR r full, rfl, hq.up e13, dp_up e13 hv, hl, rfl⟩ H3 (Ex.refl H3) _ fun x H4 e4 hd => ?_)
    obtain ⟨p, v1, rfl, hp, h1⟩ := tripS_of hd
    refine ⟨p, _, rfl, hp, rfl, _, _, rfl, _, _, rfl, _, _, rfl, rfl, ?_⟩
    exact y_ret (K := K) (evd_tup (ead_cons (evd_of (ev_var rfl) h1) (ead_cons (evd_str (ev_var rfl)) ead_nil)) (by show 2 ≤ 1000; decide)) fun v H5 e5 hd => k v H5 (e13.trans (e4.trans e5)) hd
end

/-! ### a box of draws, and what is known besides it -/
structure Ib (b : Addr) (Kn H : Hp) : Prop where
  ex : Ex Kn H
  bn : Kn b = none
  bk : ∃ x y z : Int, H b = some (.lst [.int x, .int y, .int z])
section
variable {b p L : Addr} {K0 Kn H H' H1 : Hp} {o : HO}
theorem Ib.to (h : Ib b Kn H) (e : Ex H H') : Ib b Kn H' := ⟨h.ex.trans e, h.bn, let ⟨x, y, z, q⟩ := h.bk; ⟨x, y, z, e _ _ q⟩⟩
theorem Ib.less (h : Ib b Kn H) (e : Ex K0 Kn) : Ib b K0 H := ⟨e.trans h.ex, fresh_back e h.bn, h.bk⟩
theorem Ib.more (h : Ib b Kn H) (hp : H p = some o) (hk : Kn p = none) (nb : p ≠ b) : Ib b (upd Kn p o) H := by
  refine ⟨fun a u e => ?_, by rw [upd_ne nb.symm]; exact h.bn, h.bk⟩
  by_cases q : a = p
  · subst q
    rw [upd_same] at e
    rw [hp, ← e]
  · rw [upd_ne q] at e
    exact h.ex a u e
theorem Ib.apart (h : Ib b Kn H) (np : H p = none) : p ≠ b := fun z => by
  obtain ⟨_, _, _, q⟩ := h.bk
  subst z
  rw [q] at np
  cases np
theorem Ib.new (h : Ib b Kn H) (np : H p = none) (e : Ex H H1) (hp : H1 p = some o) : Ib b (upd Kn p o) H1 ∧ Ex Kn (upd Kn p o) := by
  have kp : Kn p = none := fresh_back h.ex np
  exact ⟨(h.to e).more hp kp (h.apart np), Ex.new kp⟩
theorem Ib.lay (h : Ib b Kn H) (np : H p = none) : Ib b (upd Kn p o) (upd H p o) ∧ Ex Kn (upd Kn p o) := h.new np (Ex.new np) upd_same
theorem Ib.mut (h : Ib b Kn H) (kL : Kn L = none) (nb : L ≠ b) : Ib b Kn (upd H L o) :=
  ⟨Ex.mut h.ex kL, h.bn, let ⟨x, y, z, q⟩ := h.bk; ⟨x, y, z, by rw [upd_ne nb.symm]; exact q⟩⟩
theorem Ib.ev {te : TE} {σ : L2.St} {v : V} {Q : VK} (h : Ib b Kn H) (e : Ev te σ Kn v) (k : ∀ H', Ib b Kn H' → Q v H') : te σ H Q := e H h.ex Q fun H2 e2 => k H2 (h.to e2)
theorem Ib.evL {te : TE} {σ : L2.St} {xs : List V} {Q : VK} (h : Ib b Kn H) (e : EvL te σ Kn xs) (k : ∀ p K1 H', Ex Kn K1 → K1 p = some (.lst xs) → Ib b K1 H' → Q (.ref p) H') : te σ H Q := e H h.ex Q fun p H2 np e2 hp => k p _ H2 (h.new np e2 hp).2 upd_same (h.new np e2 hp).1
theorem Ib.evU {te : TE} {σ : L2.St} {xs : List V} {Q : VK} (h : Ib b Kn H) (e : EvU te σ Kn xs) (k : ∀ p K1 H', Ex Kn K1 → K1 p = some (.tup xs) → Ib b K1 H' → Q (.ref p) H') : te σ H Q := e H h.ex Q fun p H2 np e2 hp => k p _ H2 (h.new np e2 hp).2 upd_same (h.new np e2 hp).1
theorem Ib.evN {te : TE} {σ : L2.St} {Pn : HO → Prop} {Q : VK} (h : Ib b Kn H) (e : EvN te σ Kn Pn) (k : ∀ p K1 H' o, Ex Kn K1 → K1 p = some o → Pn o → Ib b K1 H' → Q (.ref p) H') : te σ H Q := e H h.ex Q fun p H2 o np e2 hp ho => k p _ H2 o (h.new np e2 hp).2 upd_same ho (h.new np e2 hp).1
end
theorem mdB (b : Addr) (Kn : Hp) : Md Kn (Ib b Kn) := ⟨fun _ h => h.ex, fun _ _ h e => h.to e⟩
def spTake : Sp := fun vs H Q _ => ∃ (b : Addr) (m : Int) (Kn : Hp), vs = [.ref b, .int m] ∧ 0 < m ∧ m < 1073741824 ∧ Ib b Kn H ∧ ∀ v H', 0 ≤ v → v < m → Ib b Kn H' → Q (.int v) H'
def spPickB (K : PySem.W.Frag) : Sp := fun vs H Q _ => ∃ (b p : Addr) (xs : List V) (Kn : Hp), vs = [.ref b, .ref p] ∧ SqL K Kn p xs ∧ 0 < xs.length ∧ xs.length < 1000000 ∧ Ib b Kn H ∧ ∀ v H', v ∈ xs → Ib b Kn H' → Q v H'
def spBox (K : PySem.W.Frag) : Sp := fun vs H Q _ => ∃ (a : Addr) (j : Nat) (ns : List Int), vs = [.ref a, .int (j : Int)] ∧ SqL K H a (ns.map V.int) ∧ ns.length ≤ 63 ∧ ∀ p H', H p = none → Ex H H' → (∃ x y z : Int, H' p = some (.lst [.int x, .int y, .int z])) → Q (.ref p) H'
section
variable {P : Program} {w : World} {K : PySem.W.Frag} {mg : Str → Option Value} {base : Heap} {CR aB aH : Addr}
theorem x_rest {A tz : TS} {D : Ends} {σ : L2.St} {H : Hp} (i : Nat) (C : V → Hp → Prop) (rest : ∀ v H', C v H' → tz D (σ.set i (some v)) H') (h : (∀ v H', C v H' → tz D (σ.set i (some v)) H') → tSeq A tz D σ H) : tSeq A tz D σ H := h rest
theorem ok_box {f : Addr} {fd : FuncData} (D : C8.Def K mg "_law_box" st_law_box f fd) (b : Binds K fd ["_law_script", "_law_k"] []) (T : Tb K mg CR aB aH) : C8.Cal P w K mg base 2 "_law_box" (spBox K) [] := by
  refine C8.cal0 D b .nil sc_law_box (fun vs H Q E h => ?_) (fun cdv A outer s H vs Q E hr h => ?_)
  · obtain ⟨_, _, _, rfl, _⟩ := h
    rfl
  · obtain ⟨a, j, ns, rfl, hs, hn, k⟩ := h
    refine ⟨_, pss_cons (ps_set (i := 2) sc_law_box.nd rfl (Or.inl rfl) (pe_op op_add (pe_op op_mul (pe_int) (pv 1)) (pe_int)))
      (pss_cons (ps_if (pt_cmpR (op_lt) (pv 1) (pe_callB call_len_seq (by rfl) T.bi_len boot_len (pa_cons (pv 0) (pa_nil))) (nomark _)) (pss_one (ps_set (i := 2) sc_law_box.nd rfl (Or.inl rfl) (pe_callB call_abs (by rfl) T.bi_abs boot_abs (pa_cons (pe_callTy call_int1 (by rfl) T.bi_int boot_int (pa_cons (pe_ix ix_list (pv 0) (pv 1) (fun _ _ => rfl)) (pa_nil))) (pa_nil))))) (pss_one (ps_if (pt_cmpR (op_gt) (pe_callB call_len_seq (by rfl) T.bi_len boot_len (pa_cons (pv 0) (pa_nil))) (pe_int) (nomark _)) (pss_one (ps_set (i := 2) sc_law_box.nd rfl (Or.inl rfl) (pe_op op_add (pv 2) (pe_op op_mul (pe_op op_mod (pe_callTy call_int1 (by rfl) T.bi_int boot_int (pa_cons (pe_ix ix_list (pv 0) (pe_op op_mod (pe_callTy call_int1 (by rfl) T.bi_int boot_int (pa_cons (pv 1) (pa_nil))) (pe_callB call_len_seq (by rfl) T.bi_len boot_len (pa_cons (pv 0) (pa_nil)))) (fun _ _ => rfl)) (pa_nil))) (pe_int)) (pe_int))))) (pss_nil))))
      (pss_cons (ps_set (i := 3) sc_law_box.nd rfl (Or.inl rfl) (pe_op op_add (pe_op op_mod (pe_callTy call_int1 (by rfl) T.bi_int boot_int (pa_cons (pe_op op_add (pe_op op_add (pe_op op_mul (pe_op op_mod (pe_callTy call_int1 (by rfl) T.bi_int boot_int (pa_cons (pv 2) (pa_nil))) (pe_int)) (pe_int)) (pe_op op_mul (pe_int) (pv 1))) (pe_int)) (pa_nil))) (pe_int)) (pe_int)))
      (pss_one (ps_ret (pe_lst (pa_cons (pe_ix ix_list (pe_lst (pa_cons (pe_int) (pa_cons (pv 2) (pa_nil)))) (pe_callTy call_int1 (by rfl) T.bi_int boot_int (pa_cons (pe_cmpR (op_ge) (pv 2) (pe_op op_pow (pe_int) (pe_int)) (nomark _)) (pa_nil))) (fun _ _ => rfl)) (pa_cons (pv 3) (pa_cons (pe_int) (pa_nil))))))))), ?_⟩
    refine y_ev (ev_op (ev_op ev_c (ev_var rfl) (rv_I (Or.inl ⟨by decide, by decide⟩))) ev_c rv_I0) fun H1 e1 => ?_
    have tl : ∀ {g : Int} {H' : Hp}, Ex H H' → Ev (tCB (fun xs H Q => ∃ p ys, xs = [V.ref p] ∧ (SqL K H p ys ∨ SqT K H p ys) ∧ Q (.int ys.length) H) (tCons (tVar 0) tNil)) [some (.ref a), some (.int (j : Int)), some (.int g), none] H' (.int (ns.length : Int)) := by
      intro g H' e
      have h := ev_cb (ea_cons (ev_var (σ := [some (.ref a), some (.int (j : Int)), some (.int g), none]) (i := 0) rfl) ea_nil) (rc_lenL (K := K) (ex_l e hs))
      rw [List.length_map] at h
      exact h
    refine x_rest 2 (fun v H' => (∃ g : Int, v = .int g) ∧ Ex H H') ?_ fun rest => ?_
    · rintro _ H2 ⟨⟨g, rfl⟩, e2⟩
      show tSeq _ _ _ [some (.ref a), some (.int (j : Int)), some (.int g), none] H2
      refine y_ev (ev_op (ev_op (ev_cb (ea_cons (ev_op (ev_op (ev_op (ev_op (ev_cb (ea_cons (ev_var rfl) ea_nil) rc_int1) ev_c (rv_I (by decide))) ev_c (rv_I (Or.inr ⟨by decide, by decide⟩))) (ev_op ev_c (ev_var rfl) (rv_I (Or.inl ⟨by decide, by decide⟩))) rv_I0) ev_c rv_I0) ea_nil) rc_int1) ev_c (rv_I (by decide))) ev_c rv_I0) fun H3 e3 => ?_
      refine el_lst (vs := [.int (if (10 : Int) ^ (18 : Int).toNat ≤ g then g else 0), _, _]) (ea_cons (ev_opL1 (el_lst (ea_cons ev_c (ea_cons (ev_var rfl) ea_nil)) (by show 2 ≤ 100000; decide)) (fun _ _ => ev_cb (ea_cons (ev_op (ev_var rfl) (ev_op ev_c ev_c (rv_I ⟨by decide, by decide, by decide⟩)) rv_I0) ea_nil) rc_intB) (fun p H4 hp _ => rv_ixL (sq_of hp) ?_)) (ea_cons (ev_var rfl) (ea_cons ev_c ea_nil))) (by show 3 ≤ 100000; decide) H3 (Ex.refl H3) _ fun p H4 np e4 hp => k p H4 (fresh_back (e2.trans e3) np) (e2.trans (e3.trans e4)) ⟨_, _, _, hp⟩
      by_cases h : (10 : Int) ^ (18 : Int).toNat ≤ g
      · rw [if_pos h, decide_eq_true h]
        rfl
      · rw [if_neg h, decide_eq_false h]
        rfl
    by_cases h1 : (j : Int) < (ns.length : Int)
    · refine g_if (mdE H1) (Ex.refl H1) (et_is (et_test (ev_op (ev_var rfl) (tl e1) rv_I0)) (decide_eq_true h1)) (fun _ H2 e2 => ?_) (fun z => Bool.noConfusion z)
      refine g_asg1 (mdE H2) (Ex.refl H2) (ev_cb (ea_cons (ev_cb (ea_cons (ev_op (ev_var rfl) (ev_var rfl) (rv_ixL (ex_l (e1.trans e2) hs) (atI_nat (v := .int (ns.getD j 0)) ?_))) ea_nil) rc_int1) ea_nil) rc_abs) fun H3 e3 => rest _ H3 ⟨⟨_, rfl⟩, e1.trans (e2.trans e3)⟩
      have hj : j < ns.length := by omega
      rw [List.getElem?_map, List.getElem?_eq_getElem hj, List.getD_eq_getElem?_getD, List.getElem?_eq_getElem hj]
      rfl
    refine g_if (mdE H1) (Ex.refl H1) (et_is (et_test (ev_op (ev_var rfl) (tl e1) rv_I0)) (decide_eq_false h1)) (fun z => Bool.noConfusion z) (fun _ H2 e2 => ?_)
    by_cases h2 : (0 : Int) < (ns.length : Int)
    · refine s_if (et_is (et_test (ev_op (tl (e1.trans e2)) ev_c rv_I0)) (decide_eq_true h2)) (fun _ H3 e3 => ?_) (fun z => Bool.noConfusion z)
      have hm : 0 ≤ (j : Int) % (ns.length : Int) ∧ (j : Int) % (ns.length : Int) < (ns.length : Int) := ⟨Int.emod_nonneg _ (by omega), Int.emod_lt_of_pos _ h2⟩
      obtain ⟨i, hi⟩ : ∃ i : Nat, (j : Int) % (ns.length : Int) = (i : Int) := ⟨((j : Int) % (ns.length : Int)).toNat, by omega⟩
      have hil : i < ns.length := by omega
      refine g_asg1 (mdE H3) (Ex.refl H3) (ev_op (ev_var rfl) (ev_op (ev_op (ev_cb (ea_cons (ev_op (ev_var rfl) (ev_is (ev_op (ev_cb (ea_cons (ev_var rfl) ea_nil) rc_int1) (tl (e1.trans (e2.trans e3))) (rv_I h2)) (by rw [hi])) (rv_ixL (ex_l (e1.trans (e2.trans e3)) hs) (atI_nat (v := .int (ns.getD i 0)) ?_))) ea_nil) rc_int1) ev_c (rv_I (by decide))) ev_c (rv_I (Or.inr ⟨by decide, by decide⟩))) rv_I0) fun H4 e4 => rest _ H4 ⟨⟨_, rfl⟩, e1.trans (e2.trans (e3.trans e4))⟩
      rw [List.getElem?_map, List.getElem?_eq_getElem hil, List.getD_eq_getElem?_getD, List.getElem?_eq_getElem hil]
      rfl
    · refine s_if (et_is (et_test (ev_op (tl (e1.trans e2)) ev_c rv_I0)) (decide_eq_false h2)) (fun z => Bool.noConfusion z) (fun _ H3 e3 => rest _ H3 ⟨⟨_, rfl⟩, e1.trans (e2.trans e3)⟩)
theorem ok_take {f : Addr} {fd : FuncData} (D : C8.Def K mg "_law_take" st_law_take f fd) (b : Binds K fd ["_law_box_here", "_law_many"] []) (T : Tb K mg CR aB aH) : C8.Cal P w K mg base 2 "_law_take" spTake [] := by
  refine C8.cal0 D b .nil sc_law_take (fun vs H Q E h => ?_) (fun cdv A outer s H vs Q E hr h => ?_)
  · obtain ⟨_, _, _, rfl, _⟩ := h
    rfl
  · obtain ⟨b, m, Kn, rfl, m0, m1, I, k⟩ := h
    refine ⟨_, pss_cons (ps_if (pt_cmpR (op_gt) (pe_ix ix_list (pv 0) (pe_int) (fun _ _ => rfl)) (pe_int) (nomark _)) (pss_cons (ps_set (i := 2) sc_law_take.nd rfl (Or.inl rfl) (pe_op op_mod (pe_callTy call_int1 (by rfl) T.bi_int boot_int (pa_cons (pe_ix ix_list (pv 0) (pe_int) (fun _ _ => rfl)) (pa_nil))) (pv 1)))
        (pss_cons (ps_asg (pe_op op_fdiv (pe_ix ix_list (pv 0) (pe_int) (fun _ _ => rfl)) (pv 1)) (pg_sub (pv 0) (pe_int) set_list))
        (pss_one (ps_ret (pv 2))))) (pss_nil))
      (pss_cons (ps_asg (pe_op op_add (pe_ix ix_list (pv 0) (pe_int) (fun _ _ => rfl)) (pe_int)) (pg_sub (pv 0) (pe_int) set_list))
      (pss_cons (ps_set (i := 3) sc_law_take.nd rfl (Or.inl rfl) (pe_op op_mod (pe_callTy call_int1 (by rfl) T.bi_int boot_int (pa_cons (pe_op op_mul (pe_op op_add (pe_ix ix_list (pv 0) (pe_int) (fun _ _ => rfl)) (pe_op op_mul (pe_int) (pe_ix ix_list (pv 0) (pe_int) (fun _ _ => rfl)))) (pe_int)) (pa_nil))) (pe_int)))
      (pss_cons (ps_asg (pe_op op_add (pe_op op_mod (pe_callTy call_int1 (by rfl) T.bi_int boot_int (pa_cons (pe_op op_add (pe_op op_mul (pv 3) (pe_int)) (pe_int)) (pa_nil))) (pe_int)) (pe_int)) (pg_sub (pv 0) (pe_int) set_list))
      (pss_one (ps_ret (pe_op op_mod (pe_callTy call_int1 (by rfl) T.bi_int boot_int (pa_cons (pe_op op_fdiv (pe_op op_add (pe_op op_mul (pv 3) (pe_int)) (pe_ix ix_list (pv 0) (pe_int) (fun _ _ => rfl))) (pe_int)) (pa_nil))) (pv 1))))))), ?_⟩
    obtain ⟨x, y, z, hb⟩ := I.bk
    have keep : ∀ {H1 : Hp} {l : List V}, Ex H H1 → (∃ x y z : Int, l = [.int x, .int y, .int z]) → Ib b Kn (upd H1 b (.lst l)) := fun e hl => ⟨Ex.mut (I.ex.trans e) I.bn, I.bn, let ⟨x, y, z, q⟩ := hl; ⟨x, y, z, by rw [q]; exact upd_same⟩⟩
    have ix : ∀ {H1 : Hp} {σ : L2.St} {l : List V} {i : Int} {v : V}, σ[0]? = some (some (.ref b)) → H1 b = some (.lst l) → atI l i = some v → Ev (tOp (rIxL K) (tVar 0) (tC (.int i))) σ H1 v := fun h0 h1 h2 => ev_op (ev_var h0) ev_c (rv_ixL (sq_of h1) h2)
    by_cases h0 : 0 < x
    · refine y_yes (et_is (et_test (ev_op (ix rfl hb rfl) ev_c rv_I0)) (decide_eq_true h0)) fun H1 e1 => ?_
      have hb1 := e1 _ _ hb
      refine y_ev (ev_op (ev_cb (ea_cons (ix rfl hb1 rfl) ea_nil) rc_int1) (ev_var rfl) (rv_I m0)) fun H2 e2 => ?_
      have hb2 := e2 _ _ hb1
      refine q_setL (j := 0) hb2 (ev_op (ix rfl hb2 rfl) (ev_var rfl) (rv_I ⟨m0, m1⟩)) (ev_var rfl) ev_c (by show 0 < 3; decide) fun H3 e3 => ?_
      have I3 := keep (e1.trans (e2.trans e3)) ⟨x / m, y, z, rfl⟩
      exact s_ret (ev_var rfl) fun H4 e4 => k _ _ (Int.emod_nonneg _ (by omega)) (Int.emod_lt_of_pos _ m0) (I3.to e4)
    · refine y_no (et_is (et_test (ev_op (ix rfl hb rfl) ev_c rv_I0)) (decide_eq_false h0)) fun H1 e1 => ?_
      have hb1 := e1 _ _ hb
      refine q_setL (j := 2) hb1 (ev_op (ix rfl hb1 rfl) ev_c rv_I0) (ev_var rfl) ev_c (by show 2 < 3; decide) fun H2 e2 => ?_
      have I2 : Ib b Kn (upd H2 b (.lst ([V.int x, .int y, .int z].set 2 (.int (z + 1))))) := keep (e1.trans e2) ⟨x, y, z + 1, rfl⟩
      have hb2 : (upd H2 b (.lst ([V.int x, .int y, .int z].set 2 (.int (z + 1))))) b = some (.lst [V.int x, .int y, .int (z + 1)]) := upd_same
      generalize upd H2 b (.lst ([V.int x, .int y, .int z].set 2 (.int (z + 1)))) = Ha at *
      refine y_ev (ev_op (ev_cb (ea_cons (ev_op (ev_op (ix rfl hb2 rfl) (ev_op ev_c (ix rfl hb2 rfl) (rv_I (Or.inl ⟨by decide, by decide⟩))) rv_I0) ev_c (rv_I (Or.inr ⟨by decide, by decide⟩))) ea_nil) rc_int1) ev_c (rv_I (by decide))) fun H3 e3 => ?_
      have hb3 := e3 _ _ hb2
      generalize (y + 98641 * (z + 1)) * 70381 % 2147483647 = near
      refine q_setL (j := 1) hb3 (ev_op (ev_op (ev_cb (ea_cons (ev_op (ev_op (ev_var rfl) ev_c (rv_I (Or.inr ⟨by decide, by decide⟩))) ev_c rv_I0) ea_nil) rc_int1) ev_c (rv_I (by decide))) ev_c rv_I0) (ev_var rfl) ev_c (by show 1 < 3; decide) fun H4 e4 => ?_
      have I4 : Ib b Kn (upd H4 b (.lst ([V.int x, .int y, .int (z + 1)].set 1 (.int ((near * 46021 + 28051) % 2147483629 + 1))))) := ⟨Ex.mut (I2.ex.trans (e3.trans e4)) I.bn, I.bn, _, _, _, upd_same⟩
      have hb4 : (upd H4 b (.lst ([V.int x, .int y, .int (z + 1)].set 1 (.int ((near * 46021 + 28051) % 2147483629 + 1))))) b = some (.lst [V.int x, .int ((near * 46021 + 28051) % 2147483629 + 1), .int (z + 1)]) := upd_same
      generalize upd H4 b (.lst ([V.int x, .int y, .int (z + 1)].set 1 (.int ((near * 46021 + 28051) % 2147483629 + 1)))) = Hb at *
      exact s_ret (ev_op (ev_cb (ea_cons (ev_op (ev_op (ev_op (ev_var rfl) ev_c (rv_I (Or.inr ⟨by decide, by decide⟩))) (ix rfl hb4 rfl) rv_I0) ev_c (rv_I ⟨by decide, by decide⟩)) ea_nil) rc_int1) (ev_var rfl) (rv_I m0)) fun H5 e5 => k _ _ (Int.emod_nonneg _ (by omega)) (Int.emod_lt_of_pos _ m0) (I4.to e5)
theorem x_take {σ : L2.St} {b : Addr} {Kn H : Hp} {E : XK} {ta : TA} {m : Int} {Q : VK} (I : Ib b Kn H) (m0 : 0 < m) (m1 : m < 1073741824) (h : EvA ta σ Kn [.ref b, .int m]) (k : ∀ v H', 0 ≤ v → v < m → Ib b Kn H' → Q (.int v) H') : tCall spTake [] E ta σ H Q :=
  h H I.ex _ fun H2 e2 => ⟨b, m, Kn, rfl, m0, m1, I.to e2, k⟩
theorem ok_pickB {f : Addr} {fd : FuncData} (D : C8.Def K mg "_law_pick" st_law_pick f fd) (b : Binds K fd ["_law_box_here", "_law_some"] []) (T : Tb K mg CR aB aH) (c_law_take : C8.Cal P w K mg base 2 "_law_take" spTake []) : C8.Cal P w K mg base 3 "_law_pick" (spPickB K) [] := by
  refine C8.cal0 D b .nil sc_law_pick (fun vs H Q E h => ?_) (fun cdv A outer s H vs Q E hr h => ?_)
  · obtain ⟨_, _, _, _, rfl, _⟩ := h
    rfl
  · obtain ⟨b, p, xs, Kn, rfl, hp, h0, h1, I, k⟩ := h
    refine ⟨_, pss_one (ps_ret (pe_ix ix_list (pv 1) (C8.pe_c c_law_take hr (by decide) (by rfl) (pa_cons (pv 0) (pa_cons (pe_callB call_len_seq (by rfl) T.bi_len boot_len (pa_cons (pv 1) (pa_nil))) (pa_nil)))) (fun _ _ => rfl))), ?_⟩
    refine x_ret (x_op (I.ev (ev_var rfl) fun H1 I1 => ?_))
    refine x_take (m := (xs.length : Int)) I1 (by omega) (by omega) (ea_cons (ev_var rfl) (ea_cons (ev_cb (ea_cons (ev_var rfl) ea_nil) (rc_lenL hp)) ea_nil)) fun v H2 v0 v1 I2 => ?_
    obtain ⟨n, rfl⟩ : ∃ n : Nat, v = (n : Int) := ⟨v.toNat, by omega⟩
    have hv : n < xs.length := by omega
    exact ⟨p, xs, (n : Int), xs[n], rfl, rfl, ex_l I2.ex hp, atI_nat (List.getElem?_eq_getElem hv), k _ _ (List.getElem_mem hv) I2⟩
end

/-! ### a rule as a dict -/
abbrev kS (s : String) : Key := .inr s
structure DR (kvs : List (Key × V)) (r : RuleD) : Prop where
  len : kvs.length ≤ 100
  need : valV kvs (kS "need") = some (.int r.need)
  of : valV kvs (kS "of") = some (.int r.of)
  base : valV kvs (kS "base") = some (.int r.base)
  more : valV kvs (kS "more") = some (.int r.more)
  most : valV kvs (kS "most") = some (.int r.most)
  calm : valV kvs (kS "calm") = some (.int r.calm)
  back : valV kvs (kS "back") = some (.str r.back)
  top : valV kvs (kS "top") = some (.int r.top)
  under : valV kvs (kS "under") = some (.int r.under)
  up : valV kvs (kS "up") = some (.bl r.up)
  hears : valV kvs (kS "hears") = some (.str r.hears)
theorem val_eq {kvs : List (Key × V)} {k : Key} {y : V} : valV (putK kvs k y) k = some y := by rw [valV_put, if_pos rfl]
theorem val_ne {kvs : List (Key × V)} {k j : Key} {y : V} {o : Option V} (h : (j = k) = False) (q : valV kvs j = o) : valV (putK kvs k y) j = o := by rw [valV_put, if_neg (by rw [h]; exact id), q]
theorem ne_K' {f g : Key} (h : decide (g = f) = false) : (g = f) = False := eq_false (of_decide_eq_false h)
local macro_rules | `(tactic| walk_at "sit val") => `(tactic| (repeat (first | (with_reducible exact val_eq) | refine val_ne (ne_K' (by decide +kernel)) ?_)))
theorem merge3 {k1 k2 k3 : Key} {v1 v2 v3 : V} : mergeK [] [(k1, v1), (k2, v2), (k3, v3)] = putK (putK (putK [] k1 v1) k2 v2) k3 v3 := rfl
theorem merge_two (kvs : List (Key × V)) {k1 k2 : Key} {v1 v2 : V} (h : decide (k1 = k2) = false) : mergeK kvs (mergeK [] [(k1, v1), (k2, v2)]) = putK (putK kvs k1 v1) k2 v2 := by
  have e1 : putK ([] : List (Key × V)) k1 v1 = [(k1, v1)] := rfl
  have e2 : putK [(k1, v1)] k2 v2 = [(k1, v1), (k2, v2)] := by
    unfold putK
    rw [List.any_cons, List.any_nil, h]
    rfl
  have e : mergeK [] [(k1, v1), (k2, v2)] = [(k1, v1), (k2, v2)] := by
    show putK (putK [] k1 v1) k2 v2 = _
    rw [e1, e2]
  rw [e]
  rfl
theorem ev_dget {d : Addr} {H : Hp} {kvs : List (Key × V)} {σ : L2.St} {td ty : TE} {k : Key} {v : V} (h1 : Ev td σ H (.ref d)) (h2 : Ev ty σ H (kV k)) (hd : H d = some (.dK kvs)) (hv : valV kvs k = some v) : Ev (tDGet td ty) σ H v := fun H1 e _ q =>
  h1 H1 e _ fun H2 e2 => h2 H2 (e.trans e2) _ fun H3 e3 => ⟨d, v, rfl, by rw [← hv]; exact DGet.k (((e.trans e2).trans e3) _ _ hd), q H3 (e2.trans e3)⟩
/-- a dict at D that is being filled, beside what is known -/
structure Fd (b D : Addr) (Kn : Hp) (kvs : List (Key × V)) (H : Hp) : Prop where
  I : Ib b (upd Kn D (.dK kvs)) H
  kD : Kn D = none
  nb : D ≠ b
section
variable {b D : Addr} {Kn H H' : Hp} {kvs : List (Key × V)}
theorem Fd.at_ (h : Fd b D Kn kvs H) : H D = some (.dK kvs) := h.I.ex _ _ upd_same
theorem Fd.put (h : Fd b D Kn kvs H) (kvs' : List (Key × V)) : Fd b D Kn kvs' (upd H D (.dK kvs')) :=
  ⟨((h.I.less (Ex.new h.kD)).mut h.kD h.nb).more upd_same h.kD h.nb, h.kD, h.nb⟩
theorem Fd.less {K1 : Hp} (h : Ib b K1 H) (e : Ex (upd Kn D (.dK kvs)) K1) (kD : Kn D = none) (nb : D ≠ b) : Fd b D Kn kvs H := ⟨h.less e, kD, nb⟩
theorem x_dput {σ : L2.St} {D' : Ends} {tz : TS} {td ty tv : TE} {k : Key} (h : tv σ H fun v H1 => Fd b D Kn kvs H1 ∧ kvs.length < 1000 ∧ ∀ H2, Fd b D Kn (putK kvs k v) H2 → tz D' σ H2) (h1 : Ev td σ (upd Kn D (.dK kvs)) (.ref D)) (h2 : Ev ty σ (upd Kn D (.dK kvs)) (kV k))
    (mono : ∀ {Q Q' : VK}, (∀ v H1, Q v H1 → Q' v H1) → tv σ H Q → tv σ H Q') : tSeq (sDPut td ty tv) tz D' σ H :=
  mono (fun v H1 ⟨F, hl, q⟩ => F.I.ev h1 fun H2 I2 => I2.ev h2 fun H3 I3 => ⟨D, _, rfl, DPut.k (I3.ex _ _ upd_same) (Nat.lt_of_lt_of_le hl (by decide)), q _ (Fd.put ⟨I3, F.kD, F.nb⟩ _)⟩) h
end
def spRuleB (K : PySem.W.Frag) : Sp := fun vs H Q _ => ∃ (b : Addr) (size long calms : Int) (Kn : Hp), vs = [.ref b, .int size, .int long, .int calms] ∧ (1 ≤ size ∧ size ≤ 10 ∧ 1 ≤ long ∧ long ≤ 50 ∧ 0 ≤ calms ∧ calms ≤ 50) ∧ Ib b Kn H ∧
  ∀ r D kvs K1 H1, RuleN r → r.of ≤ size → r.most ≤ long → r.calm ≤ calms → r.under ≤ 6 → DR kvs r → Ex Kn K1 → K1 D = some (.dK kvs) → Ib b K1 H1 → Q (.ref D) H1
section
variable {P : Program} {w : World} {K : PySem.W.Frag} {mg : Str → Option Value} {base : Heap} {CR aB aH : Addr}
theorem x_pairs {trs : List (TE × TE)} {σ : L2.St} {H : Hp} {Q : VK} (h : ∀ p, H p = none → tPairs trs σ (upd H p (.dK [])) fun ps H2 => H2 p = some (.dK []) ∧ ∃ kvs : List (Key × V), ps = kvs.map (fun kv => (kV kv.1, kv.2)) ∧ kvs.length ≤ 15 ∧ Q (.ref p) (upd H2 p (.dK (mergeK [] kvs)))) : tDisp trs σ H Q := h
theorem x_sdput {σ : L2.St} {D' : Ends} {tz : TS} {td ty tv : TE} {H : Hp} (h : tv σ H fun v H1 => td σ H1 fun x H2 => ty σ H2 fun y H3 => ∃ a H4, x = .ref a ∧ DPut H3 a y v H4 ∧ tz D' σ H4) : tSeq (sDPut td ty tv) tz D' σ H := h
theorem x_drop {te : TE} {tz : TS} {D : Ends} {σ : L2.St} {H : Hp} (h : te σ H fun _ H1 => tz D σ H1) : tSeq (tDrop te) tz D σ H := h
theorem x_bm {T : String} {r : V → List V → Hp → VK → Prop} {to : TE} {t : TA} {σ : L2.St} {H : Hp} {Q : VK} (h : to σ H fun x H1 => tyV K T x H1 ∧ t σ H1 fun xs H2 => r x xs H2 Q) : tBM K T r to t σ H Q := h
/-- behind a value that was made, it is put into the dict -/
theorem Fd.store {b D : Addr} {Kn H : Hp} {kvs : List (Key × V)} {σ : L2.St} {D' : Ends} {tz : TS} {i : Nat} {k : Key} {v : V} (F : Fd b D Kn kvs H) (hi : σ[i]? = some (some (.ref D))) (hl : kvs.length < 1000) (q : ∀ H2, Fd b D Kn (putK kvs k v) H2 → tz D' σ H2) :
    tVar i σ H fun x H2 => tC (kV k) σ H2 fun y H3 => ∃ a H4, x = .ref a ∧ DPut H3 a y v H4 ∧ tz D' σ H4 :=
  ⟨.ref D, hi, D, _, rfl, DPut.k F.at_ (Nat.lt_of_lt_of_le hl (by decide)), q _ (F.put _)⟩
theorem ok_ruleB {f : Addr} {fd : FuncData} (D : C8.Def K mg "_law_rule" st_law_rule f fd) (b : Binds K fd ["_law_box_here", "_law_size", "_law_long", "_law_calms"] []) (c_law_take : C8.Cal P w K mg base 2 "_law_take" spTake []) (c_law_pick : C8.Cal P w K mg base 3 "_law_pick" (spPickB K) []) :
    C8.Cal P w K mg base 4 "_law_rule" (spRuleB K) [] := by
  refine C8.cal0 D b .nil sc_law_rule (fun vs H Q E h => ?_) (fun cdv A outer s H vs Q E hr h => ?_)
  · obtain ⟨_, _, _, _, _, rfl, _⟩ := h
    rfl
  · obtain ⟨b, size, long, calms, Kn, rfl, ⟨s0, s1, l0, l1, c0, c1⟩, I, k⟩ := h
    have hu := hu_of hr
    refine ⟨_, pss_cons (ps_set (i := 4) sc_law_rule.nd rfl (Or.inl rfl) (pe_op op_add (pe_int) (C8.pe_c c_law_take hr (by decide) (by rfl) (pa_cons (pv 0) (pa_cons (pv 1) (pa_nil))))))
      (pss_cons (ps_set (i := 5) sc_law_rule.nd rfl (Or.inl rfl) (pe_disp (pps_cons (pe_str) (pv 4) (pps_cons (pe_str) (pe_op op_add (pv 4) (C8.pe_c c_law_take hr (by decide) (by rfl) (pa_cons (pv 0) (pa_cons (pe_op op_add (pe_op op_sub (pv 1) (pv 4)) (pe_int)) (pa_nil))))) (pps_cons (pe_str) (pe_op op_add (pe_int) (C8.pe_c c_law_take hr (by decide) (by rfl) (pa_cons (pv 0) (pa_cons (pv 2) (pa_nil))))) (pps_nil)))) (by rfl) (by rfl) (fun z => by cases z) (by decide)))
      (pss_cons (ps_dput hu (pv 5) (pe_str) (C8.pe_c c_law_pick hr (by decide) (by rfl) (pa_cons (pv 0) (pa_cons (pe_lst (pa_cons (pe_int) (pa_cons (pe_int) (pa_cons (pe_int) (pa_cons (pe_int) (pa_cons (pe_int) (pa_cons (pe_int) (pa_cons (pe_int) (pa_nil))))))))) (pa_nil)))) rfl)
      (pss_cons (ps_dput hu (pv 5) (pe_str) (pe_op op_add (pe_dget hu (pv 5) (pe_str) (fun _ _ => rfl)) (C8.pe_c c_law_take hr (by decide) (by rfl) (pa_cons (pv 0) (pa_cons (pe_op op_add (pe_op op_sub (pv 2) (pe_dget hu (pv 5) (pe_str) (fun _ _ => rfl))) (pe_int)) (pa_nil))))) rfl)
      (pss_cons (ps_expr (pe_bm PySem.F.plainAttrs_dict PySem.F.slot_dict_update PySem.F.type_dict_update mtd_update (pv 5) (pa_cons (pe_disp (pps_cons (pe_str) (C8.pe_c c_law_take hr (by decide) (by rfl) (pa_cons (pv 0) (pa_cons (pe_op op_add (pv 3) (pe_int)) (pa_nil)))) (pps_cons (pe_str) (C8.pe_c c_law_pick hr (by decide) (by rfl) (pa_cons (pv 0) (pa_cons (pe_lst (pa_cons (pe_str) (pa_cons (pe_str) (pa_cons (pe_str) (pa_nil))))) (pa_nil)))) (pps_nil))) (by rfl) (by rfl) (fun z => by cases z) (by decide)) (pa_nil))))
      (pss_cons (ps_dput hu (pv 5) (pe_str) (pe_op op_add (pe_int) (C8.pe_c c_law_take hr (by decide) (by rfl) (pa_cons (pv 0) (pa_cons (pe_int) (pa_nil))))) rfl)
      (pss_cons (ps_dput hu (pv 5) (pe_str) (C8.pe_c c_law_take hr (by decide) (by rfl) (pa_cons (pv 0) (pa_cons (pe_op op_add (pe_dget hu (pv 5) (pe_str) (fun _ _ => rfl)) (pe_int)) (pa_nil)))) rfl)
      (pss_cons (ps_expr (pe_bm PySem.F.plainAttrs_dict PySem.F.slot_dict_update PySem.F.type_dict_update mtd_update (pv 5) (pa_cons (pe_disp (pps_cons (pe_str) (pe_cmpR (op_eq) (C8.pe_c c_law_take hr (by decide) (by rfl) (pa_cons (pv 0) (pa_cons (pe_int) (pa_nil)))) (pe_int) (nomark _)) (pps_cons (pe_str) (C8.pe_c c_law_pick hr (by decide) (by rfl) (pa_cons (pv 0) (pa_cons (pe_lst (pa_cons (pe_str) (pa_cons (pe_str) (pa_cons (pe_str) (pa_nil))))) (pa_nil)))) (pps_nil))) (by rfl) (by rfl) (fun z => by cases z) (by decide)) (pa_nil))))
      (pss_one (ps_ret (pv 5)))))))))), ?_⟩
    refine x_asg (x_op (I.ev ev_c fun _ I => x_take I (m := size) (by omega) (by omega) (ea_cons (ev_var rfl) (ea_cons (ev_var rfl) ea_nil)) fun v1 H a1 b1 I => ⟨_, _, rfl, rfl, ?_⟩))
    -- the first three
    refine x_asg (x_pairs fun D nD => ?_)
    have kD := fresh_back I.ex nD
    have nb := I.apart nD
    obtain ⟨I1, _⟩ := I.lay (o := .dK []) nD
    refine ⟨_, rfl, ?_⟩
    refine x_op (I1.ev (ev_var rfl) fun _ I1 => x_take I1 (m := size - (1 + v1) + 1) (by omega) (by omega) (ea_cons (ev_var rfl) (ea_cons (ev_op (ev_op (ev_var rfl) (ev_var rfl) rv_I0) ev_c rv_I0) ea_nil)) fun v2 H a2 b2 I1 => x_add ?_)
    refine x_op (I1.ev ev_c fun _ I1 => x_take I1 (m := long) (by omega) (by omega) (ea_cons (ev_var rfl) (ea_cons (ev_var rfl) ea_nil)) fun v3 H a3 b3 I1 => x_add ?_)
    refine ⟨I1.ex _ _ upd_same, [(kS "need", .int (1 + v1)), (kS "of", .int (1 + v1 + v2)), (kS "base", .int (1 + v3))], rfl, (by show 3 ≤ 15; decide), ?_⟩
    have F : Fd b D Kn [] H := ⟨I1, kD, nb⟩
    have F := F.put (mergeK [] [(kS "need", .int (1 + v1)), (kS "of", .int (1 + v1 + v2)), (kS "base", .int (1 + v3))])
    have g1 : valV (mergeK [] [(kS "need", V.int (1 + v1)), (kS "of", .int (1 + v1 + v2)), (kS "base", .int (1 + v3))]) (kS "base") = some (.int (1 + v3)) := by rw [merge3]; exact val_eq
    have g2 : valV (mergeK [] [(kS "need", V.int (1 + v1)), (kS "of", .int (1 + v1 + v2)), (kS "base", .int (1 + v3))]) (kS "of") = some (.int (1 + v1 + v2)) := by rw [merge3]; walk_at "sit val"
    have g3 : valV (mergeK [] [(kS "need", V.int (1 + v1)), (kS "of", .int (1 + v1 + v2)), (kS "base", .int (1 + v3))]) (kS "need") = some (.int (1 + v1)) := by rw [merge3]; walk_at "sit val"
    have gl : (mergeK [] [(kS "need", V.int (1 + v1)), (kS "of", .int (1 + v1 + v2)), (kS "base", .int (1 + v3))]).length ≤ 3 := length_mergeK _ _
    generalize mergeK [] [(kS "need", V.int (1 + v1)), (kS "of", .int (1 + v1 + v2)), (kS "base", .int (1 + v3))] = k0 at *
    clear I1 I
    -- more
    refine x_sdput (x_call (x_cons (F.I.ev (ev_var rfl) fun _ I => x_cons (I.evL (el_lst (ea_cons ev_c (ea_cons ev_c (ea_cons ev_c (ea_cons ev_c (ea_cons ev_c (ea_cons ev_c (ea_cons ev_c ea_nil))))))) (by show 7 ≤ 100000; decide)) fun p1 K1 H1 e1 hp1 I => x_nil ⟨b, p1, _, K1, rfl, sq_of hp1, by show 0 < 7; decide, by show 7 < 1000000; decide, I, fun mo H2 hmo I => ?_⟩))))
    obtain ⟨more, rfl, m0, m1⟩ : ∃ m : Int, mo = .int m ∧ 0 ≤ m ∧ m < 100 := by
      simp only [List.mem_cons, List.not_mem_nil, or_false] at hmo
      rcases hmo with rfl | rfl | rfl | rfl | rfl | rfl | rfl <;> exact ⟨_, rfl, by decide, by decide⟩
    have F := Fd.less I e1 kD nb
    refine' F.store (i := 5) (k := kS "more") ?hi (by omega) fun H3 F => ?_
    case hi => rfl
    have gB : valV (putK k0 (kS "more") (.int more)) (kS "base") = some (.int (1 + v3)) := by walk_at "sit val"; exact g1
    have gl : (putK k0 (kS "more") (.int more)).length ≤ 4 := Nat.le_trans (length_putK _ _ _) (Nat.succ_le_succ gl)
    -- most
    refine x_sdput (x_op (F.I.ev (ev_dget (k := kS "base") (ev_var rfl) ev_c upd_same gB) fun _ I => x_take I (m := long - (1 + v3) + 1) (by omega) (by omega) (ea_cons (ev_var rfl) (ea_cons (ev_op (ev_op (ev_var rfl) (ev_dget (k := kS "base") (ev_var rfl) ev_c upd_same gB) rv_I0) ev_c rv_I0) ea_nil)) fun v4 H a4 b4 I => x_add ?_))
    have F := Fd.less I (Ex.refl _) kD nb
    refine' F.store (i := 5) (k := kS "most") ?hi (by omega) fun H4 F => ?_
    case hi => rfl
    have gl := Nat.le_trans (length_putK (putK k0 (kS "more") (.int more)) (kS "most") (.int (1 + v3 + v4))) (Nat.succ_le_succ gl)
    generalize hk1 : putK (putK k0 (kS "more") (.int more)) (kS "most") (.int (1 + v3 + v4)) = k1 at *
    -- calm, back
    refine x_drop (x_bm (F.I.ev (ev_var rfl) fun H5 I => ⟨Or.inr (Or.inr (Or.inl ⟨rfl, Or.inl ⟨_, I.ex _ _ upd_same⟩⟩)), ?_⟩))
    have F : Fd b D Kn k1 H5 := ⟨I, kD, nb⟩
    refine x_cons (x_pairs fun D2 nD2 => ?_)
    have kD2 := fresh_back F.I.ex nD2
    have nb2 := F.I.apart nD2
    obtain ⟨I1, _⟩ := F.I.lay (o := .dK []) nD2
    have dd2 : D ≠ D2 := fun z => by subst z; rw [upd_same] at kD2; cases kD2
    refine x_take I1 (m := calms + 1) (by omega) (by omega) (ea_cons (ev_var rfl) (ea_cons (ev_op (ev_var rfl) ev_c rv_I0) ea_nil)) fun v5 H6 a5 b5 I1 => ?_
    refine x_call (x_cons (I1.ev (ev_var rfl) fun _ I1 => x_cons (I1.evL (el_lst (ea_cons ev_c (ea_cons ev_c (ea_cons ev_c ea_nil))) (by show 3 ≤ 100000; decide)) fun p2 K2 H7 e2 hp2 I2 => x_nil ⟨b, p2, _, K2, rfl, sq_of hp2, by show 0 < 3; decide, by show 3 < 1000000; decide, I2, fun ba H8 hba I2 => ?_⟩)))
    obtain ⟨bk, rfl, hbk⟩ : ∃ x : Str, ba = .str x ∧ (x = "half" ∨ x = "open" ∨ x = "trial") := by
      simp only [List.mem_cons, List.not_mem_nil, or_false] at hba
      rcases hba with rfl | rfl | rfl
      · exact ⟨_, rfl, .inl rfl⟩
      · exact ⟨_, rfl, .inr (.inl rfl)⟩
      · exact ⟨_, rfl, .inr (.inr rfl)⟩
    have I2 := I2.less e2
    refine ⟨I2.ex _ _ upd_same, [(kS "calm", .int v5), (kS "back", .str bk)], rfl, (by show 2 ≤ 15; decide), ?_⟩
    have F2 : Fd b D2 (upd Kn D (.dK k1)) [] H8 := ⟨I2, kD2, nb2⟩
    have F2 := F2.put (mergeK [] [(kS "calm", .int v5), (kS "back", .str bk)])
    have eD : Ex (upd Kn D (.dK k1)) (upd (upd Kn D (.dK k1)) D2 (.dK (mergeK [] [(kS "calm", .int v5), (kS "back", .str bk)]))) := Ex.new kD2
    refine x_nil ⟨D, D2, k1, mergeK [] [(kS "calm", .int v5), (kS "back", .str bk)], rfl, rfl, dd2, F2.I.ex _ _ (eD _ _ upd_same), F2.at_, (by
      have := length_mergeK [(kS "calm", V.int v5), (kS "back", .str bk)] []
      have : ([] : List (Key × V)).length + [(kS "calm", V.int v5), (kS "back", V.str bk)].length = 2 := rfl
      omega), ?_⟩
    have F : Fd b D Kn k1 _ := Fd.less F2.I eD kD nb
    have F := F.put (mergeK k1 (mergeK [] [(kS "calm", .int v5), (kS "back", .str bk)]))
    rw [merge_two k1 (by decide +kernel)] at *
    have gl := Nat.le_trans (length_putK (putK k1 (kS "calm") (.int v5)) (kS "back") (.str bk)) (Nat.succ_le_succ (Nat.le_trans (length_putK k1 (kS "calm") (.int v5)) (Nat.succ_le_succ gl)))
    clear F2 I1 I2 I
    generalize hk2 : putK (putK k1 (kS "calm") (.int v5)) (kS "back") (.str bk) = k2 at *
    -- the share
    refine x_sdput (x_op (F.I.ev ev_c fun _ I => x_take I (by decide) (by decide) (ea_cons (ev_var rfl) (ea_cons ev_c ea_nil)) fun v6 H9 a6 b6 I => x_add ?_))
    have F := Fd.less I (Ex.refl _) kD nb
    refine' F.store (i := 5) (k := kS "under") ?hi (by omega) fun HA F => ?_
    case hi => rfl
    have gU : valV (putK k2 (kS "under") (.int (1 + v6))) (kS "under") = some (.int (1 + v6)) := val_eq
    have gl := Nat.le_trans (length_putK k2 (kS "under") (.int (1 + v6))) (Nat.succ_le_succ gl)
    refine x_sdput (x_take F.I (m := 1 + v6 + 1) (by omega) (by omega) (ea_cons (ev_var rfl) (ea_cons (ev_op (ev_dget (k := kS "under") (ev_var rfl) ev_c upd_same gU) ev_c rv_I0) ea_nil)) fun v7 HB a7 b7 I => ?_)
    have F := Fd.less I (Ex.refl _) kD nb
    refine' F.store (i := 5) (k := kS "top") ?hi (by omega) fun HC F => ?_
    case hi => rfl
    have gl := Nat.le_trans (length_putK (putK k2 (kS "under") (.int (1 + v6))) (kS "top") (.int v7)) (Nat.succ_le_succ gl)
    generalize hk3 : putK (putK k2 (kS "under") (.int (1 + v6))) (kS "top") (.int v7) = k3 at *
    -- rounded up or not, what is heard
    refine x_drop (x_bm (F.I.ev (ev_var rfl) fun H5 I => ⟨Or.inr (Or.inr (Or.inl ⟨rfl, Or.inl ⟨_, I.ex _ _ upd_same⟩⟩)), ?_⟩))
    have F : Fd b D Kn k3 H5 := ⟨I, kD, nb⟩
    refine x_cons (x_pairs fun D2 nD2 => ?_)
    have kD2 := fresh_back F.I.ex nD2
    have nb2 := F.I.apart nD2
    obtain ⟨I1, _⟩ := F.I.lay (o := .dK []) nD2
    have dd2 : D ≠ D2 := fun z => by subst z; rw [upd_same] at kD2; cases kD2
    refine x_op (x_take I1 (by decide) (by decide) (ea_cons (ev_var rfl) (ea_cons ev_c ea_nil)) fun v8 H6 a8 b8 I1 => ⟨rfl, ?_⟩)
    refine x_call (x_cons (I1.ev (ev_var rfl) fun _ I1 => x_cons (I1.evL (el_lst (ea_cons ev_c (ea_cons ev_c (ea_cons ev_c ea_nil))) (by show 3 ≤ 100000; decide)) fun p2 K2 H7 e2 hp2 I2 => x_nil ⟨b, p2, _, K2, rfl, sq_of hp2, by show 0 < 3; decide, by show 3 < 1000000; decide, I2, fun ba H8 hba I2 => ?_⟩)))
    obtain ⟨hh, rfl, hhh⟩ : ∃ x : Str, ba = .str x ∧ (x = "fault" ∨ x = "no" ∨ x = "out") := by
      simp only [List.mem_cons, List.not_mem_nil, or_false] at hba
      rcases hba with rfl | rfl | rfl
      · exact ⟨_, rfl, .inl rfl⟩
      · exact ⟨_, rfl, .inr (.inl rfl)⟩
      · exact ⟨_, rfl, .inr (.inr rfl)⟩
    have I2 := I2.less e2
    generalize decide (V.int v8 = V.int 0) = up at *
    refine ⟨I2.ex _ _ upd_same, [(kS "up", .bl up), (kS "hears", .str hh)], rfl, (by show 2 ≤ 15; decide), ?_⟩
    have F2 : Fd b D2 (upd Kn D (.dK k3)) [] H8 := ⟨I2, kD2, nb2⟩
    have F2 := F2.put (mergeK [] [(kS "up", .bl up), (kS "hears", .str hh)])
    have eD : Ex (upd Kn D (.dK k3)) (upd (upd Kn D (.dK k3)) D2 (.dK (mergeK [] [(kS "up", .bl up), (kS "hears", .str hh)]))) := Ex.new kD2
    refine x_nil ⟨D, D2, k3, mergeK [] [(kS "up", .bl up), (kS "hears", .str hh)], rfl, rfl, dd2, F2.I.ex _ _ (eD _ _ upd_same), F2.at_, (by
      have := length_mergeK [(kS "up", V.bl up), (kS "hears", .str hh)] []
      have : ([] : List (Key × V)).length + [(kS "up", V.bl up), (kS "hears", V.str hh)].length = 2 := rfl
      omega), ?_⟩
    have F : Fd b D Kn k3 _ := Fd.less F2.I eD kD nb
    have F := F.put (mergeK k3 (mergeK [] [(kS "up", .bl up), (kS "hears", .str hh)]))
    rw [merge_two k3 (by decide +kernel)] at *
    have gl := Nat.le_trans (length_putK (putK k3 (kS "up") (.bl up)) (kS "hears") (.str hh)) (Nat.succ_le_succ (Nat.le_trans (length_putK k3 (kS "up") (.bl up)) (Nat.succ_le_succ gl)))
    clear F2 I1 I2 I
    refine x_ret (F.I.ev (ev_var rfl) fun HD I => ?_)
    have ok : RuleD.ok ⟨1 + v1, 1 + v1 + v2, 1 + v3, more, 1 + v3 + v4, v5, bk, v7, 1 + v6, up, hh⟩ := ⟨by show 1 ≤ 1 + v1; omega, by show 1 + v1 ≤ 1 + v1 + v2; omega, by show 1 ≤ 1 + v3; omega, m0, by show 1 + v3 ≤ 1 + v3 + v4; omega, a5, hbk, a7, by show 1 ≤ 1 + v6; omega, by show v7 ≤ 1 + v6; omega, hhh, by show more < 1000000; omega, by show 1 + v6 < 1000000; omega⟩
    refine k ⟨1 + v1, 1 + v1 + v2, 1 + v3, more, 1 + v3 + v4, v5, bk, v7, 1 + v6, up, hh⟩ D _ _ HD ⟨ok, by show 1 + v1 + v2 < 100; omega, by show 1 + v3 + v4 < 100; omega, by show v5 < 100; omega, m1, by show 1 + v6 < 100; omega⟩ (by show 1 + v1 + v2 ≤ size; omega) (by show 1 + v3 + v4 ≤ long; omega) (by show v5 ≤ calms; omega) (by show 1 + v6 ≤ 6; omega) ?_ (Ex.new kD) upd_same I
    rw [← hk3, ← hk2, ← hk1] at *
    refine ⟨by omega, ?_, ?_, ?_, ?_, ?_, ?_, ?_, ?_, ?_, ?_, ?_⟩
    · walk_at "sit val"; exact g3
    · walk_at "sit val"; exact g2
    · walk_at "sit val"; exact g1
    · walk_at "sit val"
    · walk_at "sit val"
    · walk_at "sit val"
    · walk_at "sit val"
    · walk_at "sit val"
    · walk_at "sit val"
    · walk_at "sit val"
    · walk_at "sit val"
end

section
variable {P : Program} {w : World} {K : PySem.W.Frag} {mg : Str → Option Value} {base : Heap} {CR aB aH aF aS : Addr}
def rTxtB : Hp → List V → V → Prop := fun H vs v => ∃ (D : Addr) (kvs : List (Key × V)) (r : RuleD), vs = [.ref D] ∧ H D = some (.dK kvs) ∧ DR kvs r ∧ RuleN r ∧ v = .str (textOf r)
theorem mono_txtB : Mono rTxtB := fun _ _ _ _ e ⟨D, kvs, r, a, h, b⟩ => ⟨D, kvs, r, a, e _ _ h, b⟩
theorem ok_txtB {f : Addr} {fd : FuncData} (D : C8.Def K mg "_law_rule_text" st_law_rule_text f fd) (b : Binds K fd ["_law_rule_here"] []) (T : Tb K mg CR aB aH) : C8.Cal P w K mg base 2 "_law_rule_text" (spP rTxtB) [] := by
  refine C8.cal0 D b .nil sc_law_rule_text (fun vs H Q E h => ?_) (fun cdv A outer s H vs Q E hr h => ?_)
  · obtain ⟨_, ⟨_, _, _, rfl, _⟩, _⟩ := h
    rfl
  · obtain ⟨_, ⟨D, kvs, r, rfl, hp, dr, rn, rfl⟩, k⟩ := h
    have hu := hu_of hr
    refine ⟨_, pss_cons (ps_set (i := 1) sc_law_rule_text.nd rfl (Or.inl rfl) (pe_lst (pa_cons (pe_str) (pa_cons (pe_callTy call_str_int (by rfl) T.bi_str boot_str (pa_cons (pe_dget hu (pv 0) (pe_str) (fun _ _ => rfl)) (pa_nil))) (pa_cons (pe_str) (pa_cons (pe_callTy call_str_int (by rfl) T.bi_str boot_str (pa_cons (pe_dget hu (pv 0) (pe_str) (fun _ _ => rfl)) (pa_nil))) (pa_cons (pe_str) (pa_cons (pe_callTy call_str_int (by rfl) T.bi_str boot_str (pa_cons (pe_dget hu (pv 0) (pe_str) (fun _ _ => rfl)) (pa_nil))) (pa_cons (pe_str) (pa_cons (pe_callTy call_str_int (by rfl) T.bi_str boot_str (pa_cons (pe_dget hu (pv 0) (pe_str) (fun _ _ => rfl)) (pa_nil))) (pa_nil)))))))))))
      (pss_cons (ps_set (i := 1) sc_law_rule_text.nd rfl (Or.inl rfl) (pe_op op_cat (pv 1) (pe_lst (pa_cons (pe_str) (pa_cons (pe_callTy call_str_int (by rfl) T.bi_str boot_str (pa_cons (pe_dget hu (pv 0) (pe_str) (fun _ _ => rfl)) (pa_nil))) (pa_cons (pe_str) (pa_cons (pe_callTy call_str_int (by rfl) T.bi_str boot_str (pa_cons (pe_dget hu (pv 0) (pe_str) (fun _ _ => rfl)) (pa_nil))) (pa_cons (pe_str) (pa_cons (pe_dget hu (pv 0) (pe_str) (fun _ _ => rfl)) (pa_nil))))))))))
      (pss_cons (ps_set (i := 1) sc_law_rule_text.nd rfl (Or.inl rfl) (pe_op op_cat (pv 1) (pe_lst (pa_cons (pe_str) (pa_cons (pe_op op_add_str (pe_op op_add_str (pe_callTy call_str_int (by rfl) T.bi_str boot_str (pa_cons (pe_dget hu (pv 0) (pe_str) (fun _ _ => rfl)) (pa_nil))) (pe_str)) (pe_callTy call_str_int (by rfl) T.bi_str boot_str (pa_cons (pe_dget hu (pv 0) (pe_str) (fun _ _ => rfl)) (pa_nil)))) (pa_cons (pe_ifExp (pt_val (pe_dget hu (pv 0) (pe_str) (fun _ _ => rfl))) (pe_str) (pe_str)) (pa_nil)))))))
      (pss_one (ps_ret (pe_join (pe_str) (pe_op op_cat (pv 1) (pe_lst (pa_cons (pe_str) (pa_cons (pe_dget hu (pv 0) (pe_str) (fun _ _ => rfl)) (pa_nil)))))))))), ?_⟩
    have ok := rn.ok
    have rt := rn.t
    have a1 : 0 ≤ r.need ∧ r.need < 1000000 := ⟨by have := ok.need; omega, by have := ok.of; have := rt.of; omega⟩
    have a2 : 0 ≤ r.of ∧ r.of < 1000000 := ⟨by have := ok.need; have := ok.of; omega, rt.of⟩
    have a3 : 0 ≤ r.base ∧ r.base < 1000000 := ⟨by have := ok.base; omega, by have := ok.most; have := rt.most; omega⟩
    have a4 : 0 ≤ r.more ∧ r.more < 1000000 := ⟨ok.more, ok.moreB⟩
    have a5 : 0 ≤ r.most ∧ r.most < 1000000 := ⟨by have := ok.base; have := ok.most; omega, rt.most⟩
    have a6 : 0 ≤ r.calm ∧ r.calm < 1000000 := ⟨ok.calm, rt.calm⟩
    have a7 : 0 ≤ r.under ∧ r.under < 1000000 := ⟨by have := ok.under; omega, ok.underB⟩
    have a8 : 0 ≤ r.top ∧ r.top < 1000000 := ⟨ok.top, by have := ok.topu; have := ok.underB; omega⟩
    have l1 := numLen a1.1 a1.2
    have l2 := numLen a2.1 a2.2
    have l3 := numLen a3.1 a3.2
    have l4 := numLen a4.1 a4.2
    have l5 := numLen a5.1 a5.2
    have l6 := numLen a6.1 a6.2
    have l7 := numLen a7.1 a7.2
    have l8 := numLen a8.1 a8.2
    have lb : r.back.length ≤ 5 := by rcases ok.back with h | h | h <;> rw [h] <;> decide +kernel
    have lh : r.hears.length ≤ 5 := by rcases ok.hears with h | h | h <;> rw [h] <;> decide +kernel
    have lu : ((if r.up = true then "up" else "down" : Str)).length ≤ 4 := by cases r.up <;> decide +kernel
    have q0 : ("leave" : Str).length = 5 := by decide +kernel
    have q1 : ("of" : Str).length = 2 := by decide +kernel
    have q2 : ("out" : Str).length = 3 := by decide +kernel
    have q3 : ("more" : Str).length = 4 := by decide +kernel
    have q4 : ("most" : Str).length = 4 := by decide +kernel
    have q5 : ("calm" : Str).length = 4 := by decide +kernel
    have q6 : ("back" : Str).length = 4 := by decide +kernel
    have q7 : ("share" : Str).length = 5 := by decide +kernel
    have q8 : ("/" : Str).length = 1 := by decide +kernel
    have q9 : (" " : Str).length = 1 := by decide +kernel
    have q10 : ("hears" : Str).length = 5 := by decide +kernel
    refine q_asgL (el_lst (ea_cons ev_c (ea_cons (ev_cb (ea_cons (ev_dget (k := kS "need") (ev_var rfl) ev_c hp dr.need) ea_nil) (rc_strI (numLog a1.1 a1.2))) (ea_cons ev_c (ea_cons (ev_cb (ea_cons (ev_dget (k := kS "of") (ev_var rfl) ev_c hp dr.of) ea_nil) (rc_strI (numLog a2.1 a2.2))) (ea_cons ev_c (ea_cons (ev_cb (ea_cons (ev_dget (k := kS "base") (ev_var rfl) ev_c hp dr.base) ea_nil) (rc_strI (numLog a3.1 a3.2))) (ea_cons ev_c (ea_cons (ev_cb (ea_cons (ev_dget (k := kS "more") (ev_var rfl) ev_c hp dr.more) ea_nil) (rc_strI (numLog a4.1 a4.2))) ea_nil)))))))) (by show 8 ≤ 100000; decide)) fun p1 H1 np1 e1 h1 => ?_
    have hp1 := e1 _ _ hp
    refine q_asgL (el_catV (ev_var rfl) h1 (el_lst (ea_cons ev_c (ea_cons (ev_cb (ea_cons (ev_dget (k := kS "most") (ev_var rfl) ev_c hp1 dr.most) ea_nil) (rc_strI (numLog a5.1 a5.2))) (ea_cons ev_c (ea_cons (ev_cb (ea_cons (ev_dget (k := kS "calm") (ev_var rfl) ev_c hp1 dr.calm) ea_nil) (rc_strI (numLog a6.1 a6.2))) (ea_cons ev_c (ea_cons (ev_dget (k := kS "back") (ev_var rfl) ev_c hp1 dr.back) ea_nil)))))) (by show 6 ≤ 100000; decide)) (by show 8 + 6 ≤ 100000; decide)) fun p2 H2 np2 e2 h2 => ?_
    have hp2 := e2 _ _ hp1
    refine q_asgL (el_catV (ev_var rfl) h2 (el_lst (ea_cons ev_c (ea_cons (ev_op (ev_op (ev_cb (ea_cons (ev_dget (k := kS "top") (ev_var rfl) ev_c hp2 dr.top) ea_nil) (rc_strI (numLog a8.1 a8.2))) ev_c (rv_addS (by omega))) (ev_cb (ea_cons (ev_dget (k := kS "under") (ev_var rfl) ev_c hp2 dr.under) ea_nil) (rc_strI (numLog a7.1 a7.2))) (rv_addS (by rw [lenA]; omega))) (ea_cons (ev_is (w := .str (if r.up = true then "up" else "down")) (ev_ifE (et_B (ev_dget (k := kS "up") (ev_var rfl) ev_c hp2 dr.up)) ev_c ev_c) (by cases r.up <;> rfl)) ea_nil))) (by show 3 ≤ 100000; decide)) (by show 14 + 3 ≤ 100000; decide)) fun p3 H3 np3 e3 h3 => ?_
    have hp3 := e3 _ _ hp2
    refine s_ret (ev_is (ev_join (ys := ["leave", (toString r.need : String), "of", (toString r.of : String), "out", (toString r.base : String), "more", (toString r.more : String), "most", (toString r.most : String), "calm", (toString r.calm : String), "back", r.back, "share",
        ((toString r.top : String) : Str) ++ "/" ++ ((toString r.under : String) : Str), (if r.up = true then "up" else "down"), "hears", r.hears]) ev_c
      (el_is (el_catV (ev_var rfl) h3 (el_lst (ea_cons ev_c (ea_cons (ev_dget (k := kS "hears") (ev_var rfl) ev_c hp3 dr.hears) ea_nil)) (by show 2 ≤ 100000; decide)) (by show 17 + 2 ≤ 100000; decide)) rfl) ?_) ?_) fun H4 e4 => k H4 ((e1.trans (e2.trans e3)).trans e4)
    · simp only [List.map_cons, List.map_nil, List.sum_cons, List.sum_nil, List.length_cons, List.length_nil, lenA, len0, q0, q1, q2, q3, q4, q5, q6, q7, q8, q9, q10]
      omega
    · refine congrArg V.str (TL.ext_tl ?_)
      have tS : ∀ s : String, TL.tl (Str.ofString s) = wl s := TL.tl_ofString
      have t8 : TL.tl ("/" : Str) = [47] := by decide +kernel
      have t9 : TL.tl (" " : Str) = [32] := by decide +kernel
      have tu : TL.tl (if r.up = true then ("up" : Str) else "down") = sideW r.up := by cases r.up <;> decide +kernel
      rw [TL.join_eq, TL.tl_join]
      unfold textOf
      rw [show TL.tl (SX.S (TL.joinL [32] (ruleWords r))) = TL.joinL [32] (ruleWords r) from rfl, t9]
      refine congrArg (TL.joinL [32]) ?_
      simp only [List.map_cons, List.map_nil, TL.tl_append, t8, tu, numS a1.1, numS a2.1, numS a3.1, numS a4.1, numS a5.1, numS a6.1, numS a7.1, numS a8.1, ruleWords, List.append_assoc]
      rw [tS "leave", tS "of", tS "out", tS "more", tS "most", tS "calm", tS "back", tS "share", tS "hears"]
def rRuleOf (CR : Addr) : Hp → List V → (HO → Prop) → Prop := fun H vs Pn => ∃ (D : Addr) (kvs : List (Key × V)) (r : RuleD), vs = [.ref D] ∧ H D = some (.dK kvs) ∧ DR kvs r ∧ RuleN r ∧ Pn = RuleAt CR r
theorem mono_ruleOf : MonoN (rRuleOf CR) := fun _ _ _ _ e ⟨D, kvs, r, a, h, b⟩ => ⟨D, kvs, r, a, e _ _ h, b⟩
theorem ok_ruleOf {f : Addr} {fd : FuncData} (D : C8.Def K mg "_law_rule_of" st_law_rule_of f fd) (b : Binds K fd ["_law_rule_here"] []) (T : Tb K mg CR aB aH) (c_law_rule_text : C8.Cal P w K mg base 2 "_law_rule_text" (spP rTxtB) []) (cm_Rule_read : ClM P w K mg base 6 CR "read" (spN (rRead CR))) :
    C8.Cal P w K mg base 7 "_law_rule_of" (spN (rRuleOf CR)) [] := by
  refine C8.cal0 D b .nil sc_law_rule_of (fun vs H Q E h => ?_) (fun cdv A outer s H vs Q E hr h => ?_)
  · obtain ⟨_, ⟨_, _, _, rfl, _⟩, _⟩ := h
    rfl
  · obtain ⟨_, ⟨D, kvs, r, rfl, hp, dr, rn, rfl⟩, k⟩ := h
    refine ⟨_, pss_one (ps_ret (pe_cm cm_Rule_read hr (by decide) (C8.pe_gc (by rfl) T.gc_Rule) (pa_cons (C8.pe_c c_law_rule_text hr (by decide) (by rfl) (pa_cons (pv 0) (pa_nil))) (pa_nil)))), ?_⟩
    exact s_retN (evN_cm mono_read ev_c (ea_cons (ev_call (ea_cons (ev_var rfl) ea_nil) (spv mono_txtB ⟨D, kvs, r, rfl, hp, dr, rn, rfl⟩)) ea_nil) ⟨r, rn, rfl, rfl⟩) k
end

/-! ### times and caps -/
theorem mul_next (m j : Int) : m * (j + 1 - 1) = m * (j - 1) + m := by
  rw [show j + 1 - 1 = (j - 1) + 1 by omega, Int.mul_add, Int.mul_one]
theorem time_cap {r : RuleD} (ok : r.ok) {j : Int} (hj : 1 ≤ j) : (capOf r.base r.more r.most ≤ j → timeOf r j = r.most ∨ r.more = 0 ∧ timeOf r j = r.base) ∧ (j < capOf r.base r.more r.most → timeOf r j < timeOf r (j + 1)) := by
  have h1 := ok.more
  have h2 := ok.most
  unfold capOf timeOf
  by_cases h0 : r.more = 0
  · rw [if_pos h0]
    refine ⟨fun _ => Or.inr ⟨h0, ?_⟩, fun h => by omega⟩
    rw [h0, Int.zero_mul, Int.add_zero, if_neg (by omega)]
  · rw [if_neg h0]
    have e := Int.mul_ediv_add_emod (r.most - r.base + r.more - 1) r.more
    have e1 := Int.emod_nonneg (r.most - r.base + r.more - 1) h0
    have e2 := Int.emod_lt_of_pos (r.most - r.base + r.more - 1) (show 0 < r.more by omega)
    generalize (r.most - r.base + r.more - 1) / r.more = q at *
    generalize (r.most - r.base + r.more - 1) % r.more = z at *
    rw [mul_next]
    refine ⟨fun h => Or.inl ?_, fun h => ?_⟩
    · have p := Int.mul_le_mul_of_nonneg_left (show q ≤ j - 1 by omega) h1
      split <;> omega
    · have p := Int.mul_le_mul_of_nonneg_left (show j - 1 + 1 ≤ q by omega) h1
      rw [Int.mul_add, Int.mul_one] at p
      rw [if_neg (by omega)]
      split <;> omega
theorem time_eq {r : RuleD} (ok : r.ok) {i j : Int} (hi : capOf r.base r.more r.most ≤ i) (hj : capOf r.base r.more r.most ≤ j) (h1 : 1 ≤ i) (h2 : 1 ≤ j) : timeOf r i = timeOf r j := by
  have a := (time_cap ok h1).1 hi
  have b := (time_cap ok h2).1 hj
  rcases a with a | ⟨a0, a⟩
  · rcases b with b | ⟨b0, b⟩
    · rw [a, b]
    · unfold timeOf at a b ⊢
      rw [b0, Int.zero_mul, Int.zero_mul]
  · unfold timeOf
    rw [a0, Int.zero_mul, Int.zero_mul]
theorem cap_pos {r : RuleD} (ok : r.ok) : 1 ≤ capOf r.base r.more r.most := by
  have h1 := ok.more
  have h2 := ok.most
  unfold capOf
  split
  · omega
  · have := Int.ediv_nonneg (show 0 ≤ r.most - r.base + r.more - 1 by omega) h1
    omega
theorem cap_le {r : RuleD} (ok : r.ok) : capOf r.base r.more r.most ≤ r.most - r.base + 1 := by
  have h1 := ok.more
  have h2 := ok.most
  unfold capOf
  split
  · omega
  · rename_i h0
    have e := Int.mul_ediv_add_emod (r.most - r.base + r.more - 1) r.more
    have e1 := Int.emod_nonneg (r.most - r.base + r.more - 1) h0
    generalize (r.most - r.base + r.more - 1) / r.more = q at *
    generalize (r.most - r.base + r.more - 1) % r.more = z at *
    by_cases hq : q ≤ 0
    · omega
    · have p : 1 * (q - 1) ≤ r.more * (q - 1) := Int.mul_le_mul_of_nonneg_right (by omega) (by omega)
      rw [Int.one_mul, Int.mul_sub, Int.mul_one] at p
      omega
theorem time_1 {r : RuleD} (ok : r.ok) : timeOf r 1 = r.base := by
  have h2 := ok.most
  unfold timeOf
  rw [show (1 : Int) - 1 = 0 from rfl, Int.mul_zero, Int.add_zero, if_neg (by omega)]
theorem time_le {r : RuleD} (j : Int) : timeOf r j ≤ r.most := by
  unfold timeOf
  split <;> omega

/-! ### the law's own steps, a rule being a dict -/
/-- the rule r stands as a dict at D -/
def DIn (H : Hp) (D : Addr) (r : RuleD) : Prop := RuleN r ∧ ∃ kvs, H D = some (.dK kvs) ∧ DR kvs r
theorem DIn.up {H H' : Hp} {D : Addr} {r : RuleD} (h : DIn H D r) (e : Ex H H') : DIn H' D r := ⟨h.1, let ⟨k, a, b⟩ := h.2; ⟨k, e _ _ a, b⟩⟩
section
variable {P : Program} {w : World} {K : PySem.W.Frag} {mg : Str → Option Value} {base : Heap} {CR aB aH : Addr}
def rTimeB : Hp → List V → V → Prop := fun H vs v => ∃ (D : Addr) (j : Int) (r : RuleD), vs = [.ref D, .int j] ∧ DIn H D r ∧ v = .int (timeOf r j)
theorem mono_timeB : Mono rTimeB := fun _ _ _ _ e ⟨D, j, r, a, h, b⟩ => ⟨D, j, r, a, h.up e, b⟩
theorem ok_timeB {f : Addr} {fd : FuncData} (D : C8.Def K mg "_law_time" st_law_time f fd) (b : Binds K fd ["_law_rule_here", "_law_times"] []) : C8.Cal P w K mg base 2 "_law_time" (spP rTimeB) [] := by
  refine C8.cal0 D b .nil sc_law_time (fun vs H Q E h => ?_) (fun cdv A outer s H vs Q E hr h => ?_)
  · obtain ⟨v, ⟨_, _, _, rfl, _⟩, _⟩ := h
    rfl
  · obtain ⟨_, ⟨D, j, r, rfl, ⟨rn, kvs, hp, dr⟩, rfl⟩, k⟩ := h
    have hu := hu_of hr
    refine ⟨_, pss_cons (ps_set (i := 2) sc_law_time.nd rfl (Or.inl rfl) (pe_op op_add (pe_dget hu (pv 0) (pe_str) (fun _ _ => rfl)) (pe_op op_mul (pe_dget hu (pv 0) (pe_str) (fun _ _ => rfl)) (pe_op op_sub (pv 1) (pe_int)))))
      (pss_one (ps_ret (pe_ifExp (pt_cmpR (op_lt) (pv 2) (pe_dget hu (pv 0) (pe_str) (fun _ _ => rfl)) (nomark _)) (pv 2) (pe_dget hu (pv 0) (pe_str) (fun _ _ => rfl))))), ?_⟩
    have m1 := rn.ok.more
    have m2 := rn.more
    refine y_ev (ev_op (ev_dget (k := kS "base") (ev_var rfl) ev_c hp dr.base) (ev_op (ev_dget (k := kS "more") (ev_var rfl) ev_c hp dr.more) (ev_op (ev_var rfl) ev_c rv_I0) (rv_I (Or.inl ⟨by omega, by omega⟩))) rv_I0) fun H1 e1 => ?_
    have hp1 := e1 _ _ hp
    refine s_ret (ev_is (ev_ifE (et_test (ev_op (ev_var rfl) (ev_dget (k := kS "most") (ev_var rfl) ev_c hp1 dr.most) rv_I0)) (ev_var rfl) (ev_dget (k := kS "most") (ev_var rfl) ev_c hp1 dr.most)) ?_) fun H2 e2 => k H2 (e1.trans e2)
    unfold timeOf
    by_cases h : r.base + r.more * (j - 1) < r.most
    · rw [decide_eq_true h, if_pos rfl, if_neg (by omega)]
    · rw [decide_eq_false h, if_neg Bool.false_ne_true]
      by_cases h2 : r.most < r.base + r.more * (j - 1)
      · rw [if_pos h2]
      · rw [if_neg h2]
        congr 1
        omega
def rCapB : Hp → List V → V → Prop := fun H vs v => ∃ (D : Addr) (r : RuleD), vs = [.ref D] ∧ DIn H D r ∧ v = .int (capR r)
theorem mono_capB : Mono rCapB := fun _ _ _ _ e ⟨D, r, a, h, b⟩ => ⟨D, r, a, h.up e, b⟩
theorem ok_capB {f : Addr} {fd : FuncData} (D : C8.Def K mg "_law_cap" st_law_cap f fd) (b : Binds K fd ["_law_rule_here"] []) (c_law_time : C8.Cal P w K mg base 2 "_law_time" (spP rTimeB) []) : C8.Cal P w K mg base 3 "_law_cap" (spP rCapB) [] := by
  refine C8.cal0 D b .nil sc_law_cap (fun vs H Q E h => ?_) (fun cdv A outer s H vs Q E hr h => ?_)
  · obtain ⟨v, ⟨_, _, rfl, _⟩, _⟩ := h
    rfl
  · obtain ⟨_, ⟨p, r, rfl, hp, rfl⟩, k⟩ := h
    have ok := hp.1.ok
    refine ⟨_, pss_cons (ps_set (i := 1) sc_law_cap.nd rfl (Or.inl rfl) (pe_int))
      (pss_cons (ps_while PassesOwn.never (pt_cmpR (op_gt) (C8.pe_c c_law_time hr (by decide) (by rfl) (pa_cons (pv 0) (pa_cons (pe_op op_add (pv 1) (pe_int)) (pa_nil)))) (C8.pe_c c_law_time hr (by decide) (by rfl) (pa_cons (pv 0) (pa_cons (pv 1) (pa_nil)))) (nomark _)) (pss_one (ps_set (i := 1) sc_law_cap.nd rfl (Or.inl rfl) (pe_op op_add (pv 1) (pe_int)))))
      (pss_one (ps_ret (pv 1)))), ?_⟩
    refine g_asg (mdE H) (Ex.refl H) ev_c fun H1 e1 => ?_
    have c1 := cap_pos ok
    refine q_while (fun n σ' H' => ∃ j : Int, σ' = [some (.ref p), some (.int j)] ∧ Ex H H' ∧ 1 ≤ j ∧ j ≤ capOf r.base r.more r.most ∧ n = (capOf r.base r.more r.most - j).toNat) _ ⟨1, rfl, e1, by omega, by omega, rfl⟩ ?_
    rintro n σ' H' ⟨j, rfl, e, j1, j2, rfl⟩
    have hp' := hp.up e
    refine ⟨_, et_test (ev_op (ev_call (ea_cons (ev_var rfl) (ea_cons (ev_op (ev_var rfl) ev_c rv_I0) ea_nil)) (spv mono_timeB ⟨p, j + 1, r, rfl, hp', rfl⟩))
      (ev_call (ea_cons (ev_var rfl) (ea_cons (ev_var rfl) ea_nil)) (spv mono_timeB ⟨p, j, r, rfl, hp', rfl⟩)) rv_I0), fun hb H2 e2 => ?_, fun hb H2 e2 => ?_⟩
    · have hlt : j < capOf r.base r.more r.most := by
        by_cases hc : capOf r.base r.more r.most ≤ j
        · have := time_eq ok hc (show capOf r.base r.more r.most ≤ j + 1 by omega) j1 (by omega)
          have hb := of_decide_eq_true hb
          omega
        · omega
      refine ⟨fun σ2 H3 => ∃ i : Int, σ2 = [some (.ref p), some (.int i)] ∧ Ex H H3 ∧ i = j + 1, ?_, ?_⟩
      · rintro σ2 H3 ⟨i, rfl, e3, rfl⟩
        exact ⟨_, by omega, j + 1, rfl, e3, by omega, by omega, rfl⟩
      · exact s_asg (ev_op (ev_var rfl) ev_c rv_I0) fun H3 e3 => ⟨_, rfl, (e.trans e2).trans e3, rfl⟩
    · have hge : capOf r.base r.more r.most = j := by
        by_cases hc : j < capOf r.base r.more r.most
        · have := (time_cap ok j1).2 hc
          have hb := of_decide_eq_false hb
          omega
        · omega
      unfold capR at k
      rw [hge] at k
      exact g_ret (mdE H) (e.trans e2) (ev_var rfl) k
def rOutB : Hp → List V → PyData → Prop := fun H vs d => ∃ (D : Addr) (t : Int) (r : RuleD), vs = [.ref D, .int t] ∧ DIn H D r ∧ t ≤ capR r ∧ d = (outOf r t).data
theorem mono_outB : MonoD rOutB := fun _ _ _ _ e ⟨D, t, r, a, h, c, b⟩ => ⟨D, t, r, a, h.up e, c, b⟩
theorem ok_outB {f : Addr} {fd : FuncData} (D : C8.Def K mg "_law_out" st_law_out f fd) (b : Binds K fd ["_law_rule_here", "_law_times"] []) (c_law_time : C8.Cal P w K mg base 2 "_law_time" (spP rTimeB) []) (c_law_cap : C8.Cal P w K mg base 3 "_law_cap" (spP rCapB) []) : C8.Cal P w K mg base 4 "_law_out" (spD K rOutB) [] := by
  refine C8.cal0 D b .nil sc_law_out (fun vs H Q E h => ?_) (fun cdv A outer s H vs Q E hr h => ?_)
  · obtain ⟨v, ⟨_, _, _, rfl, _⟩, _⟩ := h
    rfl
  · obtain ⟨_, ⟨D, t, r, rfl, hp, ht, rfl⟩, k⟩ := h
    refine ⟨_, pss_cons (ps_set (i := 2) sc_law_out.nd rfl (Or.inl rfl) (pe_ifExp (pt_cmpR (op_lt) (pv 1) (C8.pe_c c_law_cap hr (by decide) (by rfl) (pa_cons (pv 0) (pa_nil))) (nomark _)) (pe_op op_add (pv 1) (pe_int)) (pv 1)))
      (pss_one (ps_ret (pe_tup (pa_cons (pe_str) (pa_cons (C8.pe_c c_law_time hr (by decide) (by rfl) (pa_cons (pv 0) (pa_cons (pv 2) (pa_nil)))) (pa_cons (pv 2) (pa_nil))))))), ?_⟩
    refine y_ev (v := .int (if capR r < t + 1 then capR r else t + 1)) (ev_is (ev_ifE (et_test (ev_op (ev_var rfl) (ev_call (ea_cons (ev_var rfl) ea_nil) (spv mono_capB ⟨D, r, rfl, hp, rfl⟩)) rv_I0)) (ev_op (ev_var rfl) ev_c rv_I0) (ev_var rfl)) ?_) fun H1 e1 => ?_
    · by_cases h : t < capR r
      · rw [decide_eq_true h, if_pos rfl, if_neg (by omega)]
      · rw [decide_eq_false h, if_neg Bool.false_ne_true, if_pos (by omega)]
        congr 1
        omega
    exact y_ret (K := K) (evd_out (ev_call (ea_cons (ev_var rfl) (ea_cons (ev_var rfl) ea_nil)) (spv mono_timeB ⟨D, _, r, rfl, hp.up e1, rfl⟩)) (ev_var rfl)) fun v H2 e2 hd => k v H2 (e1.trans e2) hd
def backS (r : RuleD) (t : Int) : St := if r.back = "trial" then .tri t else .inn (List.replicate (cntR r).toNat true) t 0
def rBackB : Hp → List V → PyData → Prop := fun H vs d => ∃ (D : Addr) (t : Int) (r : RuleD), vs = [.ref D, .int t] ∧ DIn H D r ∧ d = (backS r t).data
theorem mono_backB : MonoD rBackB := fun _ _ _ _ e ⟨D, t, r, a, h, b⟩ => ⟨D, t, r, a, h.up e, b⟩
theorem eu_tupleOfL {σ : L2.St} {H : Hp} {te : TE} {xs : List V} (h : EvL te σ H xs) : EvU (tCB (fun xs H Q => ∃ p ys, xs = [V.ref p] ∧ ((SqL K H p ys ∧ ∀ l, H l = none → Q (.ref l) (upd H l (.tup ys))) ∨ (SqT K H p ys ∧ Q (.ref p) H))) (tCons te tNil)) σ H xs := fun H1 e _ q =>
  h H1 e _ fun p H2 np e2 hp => ⟨p, xs, rfl, .inl ⟨sq_of hp, fun l nl => q l _ (fresh_back e2 nl) (e2.trans (Ex.new nl)) upd_same⟩⟩
theorem given_const (n : Nat) (v : V) : given n (fun _ => true) (fun _ => v) = List.replicate n v := by
  unfold given
  rw [List.filter_eq_self.mpr (fun _ _ => rfl)]
  induction n with
  | zero => rfl
  | succ n ih => rw [List.range_succ, List.map_append, ih, List.replicate_succ', List.map_cons, List.map_nil]
theorem ok_backB {f : Addr} {fd : FuncData} (D : C8.Def K mg "_law_back" st_law_back f fd) (b : Binds K fd ["_law_rule_here", "_law_times"] []) (T : Tb K mg CR aB aH) : C8.Cal P w K mg base 2 "_law_back" (spD K rBackB) [] := by
  refine C8.cal0 D b .nil sc_law_back (fun vs H Q E h => ?_) (fun cdv A outer s H vs Q E hr h => ?_)
  · obtain ⟨v, ⟨_, _, _, rfl, _⟩, _⟩ := h
    rfl
  · obtain ⟨_, ⟨D, t, r, rfl, ⟨rn, kvs, hp, dr⟩, rfl⟩, k⟩ := h
    have hu := hu_of hr
    refine ⟨_, pss_cons (ps_if (pt_cmpR (op_eq) (pe_dget hu (pv 0) (pe_str) (fun _ _ => rfl)) (pe_str) (nomark _)) (pss_one (ps_ret (pe_tup (pa_cons (pe_str) (pa_cons (pv 1) (pa_nil)))))) (pss_nil))
      (pss_cons (ps_set (i := 2) sc_law_back.nd rfl (Or.inl rfl) (pe_ifExp (pt_cmpR (op_eq) (pe_dget hu (pv 0) (pe_str) (fun _ _ => rfl)) (pe_str) (nomark _)) (pe_callTy call_int1 (by rfl) T.bi_int boot_int (pa_cons (pe_op op_fdiv (pe_dget hu (pv 0) (pe_str) (fun _ _ => rfl)) (pe_int)) (pa_nil))) (pe_int)))
      (pss_one (ps_ret (pe_tup (pa_cons (pe_str) (pa_cons (pe_callTy call_tuple_of (by rfl) T.bi_tuple boot_tuple (pa_cons (pe_lc (own := [("_law_fault", 3)]) (g := gName 3) (tt := tYes) (by rfl) sc_law_back.nd (pi_range1 (by rfl) T.bi_range (pa_cons (pv 2) (pa_nil))) (blkOk_by (own := [("_law_fault", 3)]) (N := ["_law_rule_here", "_law_times", "_law_faults", "_law_fault"]) (sc := C8.fnScope st_law_back) (by decide +kernel)) (fun _ _ _ _ _ => pg_name (i := 3) sc_law_back.nd rfl (Or.inl rfl)) (fun _ _ _ _ _ => pts_nil) (fun _ _ _ _ _ => pe_bl)) (pa_nil))) (pa_cons (pv 1) (pa_cons (pe_int) (pa_nil))))))))), ?_⟩
    by_cases h2 : r.back = "trial"
    · refine y_yes (et_is (et_test (ev_op (ev_dget (k := kS "back") (ev_var rfl) ev_c hp dr.back) ev_c (rv_eq rfl))) (str_eq h2)) fun H1 e1 => ?_
      refine y_ret (K := K) (evd_tri (ev_var rfl)) fun v H2 e2 hd => k v H2 (e1.trans e2) ?_
      unfold backS
      rw [if_pos h2]
      exact hd
    refine y_no (et_is (et_test (ev_op (ev_dget (k := kS "back") (ev_var rfl) ev_c hp dr.back) ev_c (rv_eq rfl))) (str_ne h2)) fun H1 e1 => ?_
    have hp1 := e1 _ _ hp
    refine y_ev (v := .int (cntR r)) (ev_is (ev_ifE (et_test (ev_op (ev_dget (k := kS "back") (ev_var rfl) ev_c hp1 dr.back) ev_c (rv_eq rfl))) (ev_cb (ea_cons (ev_op (ev_dget (k := kS "need") (ev_var rfl) ev_c hp1 dr.need) ev_c (rv_I ⟨by decide, by decide⟩)) ea_nil) rc_int1) ev_c) ?_) fun H2 e2 => ?_
    · have n1 := rn.ok.need
      unfold cntR
      by_cases h3 : r.back = "half"
      · rw [str_eq h3, if_pos rfl, if_pos h3]
        congr 1
        omega
      · rw [str_ne h3, if_neg Bool.false_ne_true, if_neg h3]
    have n1 := rn.ok.need
    have n2 := rn.ok.of
    have n3 := rn.of
    have c0 : 0 ≤ cntR r ∧ cntR r ≤ 1000 := by
      unfold cntR
      split <;> omega
    refine y_ret (K := K) (evd_tup (ead_cons (evd_str ev_c) (ead_cons (evd_U (ds := (List.replicate (cntR r).toNat true).map PyData.bool) (eu_tupleOfL (el_is (el_lcR1 (fun _ => true) (fun _ => .bl true) (ea_cons (ev_var rfl) ea_nil) ⟨c0.1, by omega⟩ (fun _ => rfl) (fun _ _ _ _ => et_yes0) (fun _ _ _ _ _ => ev_c)) (given_const _ _))) ?_) (ead_cons (evd_int (ev_var rfl)) (ead_cons (evd_int ev_c) ead_nil)))) (by show 4 ≤ 1000; decide)) fun v H5 e5 hd => k v H5 (e1.trans (e2.trans e5)) ?_
    · have := dpAll_bools (K := K) (H := H2) (List.replicate (cntR r).toNat true)
      rw [List.map_replicate] at this
      exact this
    · unfold backS
      rw [if_neg h2]
      exact hd
def rFaultB (K : PySem.W.Frag) : Hp → List V → PyData → Prop := fun H vs d => ∃ (D : Addr) (v : V) (r : RuleD) (w : List Bool) (t c : Int) (room : Bool), vs = [.ref D, v, .bl room] ∧ DIn H D r ∧ Dp K H v (St.inn w t c).data ∧ w.length ≤ 100 ∧ t ≤ capR r ∧ d = pairB (faultI r w t room)
theorem mono_faultB : MonoD (rFaultB K) := fun _ _ _ _ e ⟨D, v, r, w, t, c, o, a, b, h, l, tc, z⟩ => ⟨D, v, r, w, t, c, o, a, b.up e, dp_up e h, l, tc, z⟩
theorem ez_win {σ : L2.St} {H : Hp} {i j : Nat} {p wq D : Addr} {kvs : List (Key × V)} {r : RuleD} {w : List Bool} {t c : Int} {f : Bool} (hi : σ[i]? = some (some (.ref p))) (hj : σ[j]? = some (some (.ref D))) (hp : SqT K H p [.str "in", .ref wq, .int t, .int c]) (hw : SqT K H wq (w.map V.bl)) (hl : w.length ≤ 100) (hd : H D = some (.dK kvs)) (dr : DR kvs r) (of1 : 1 ≤ r.of) :
    EvZ (tSl rSlZ (tOp (rCatZ K) (tOp (rIxT K) (tVar i) (tC (.int 1))) (tTupZ (tCons (tC (.bl f)) tNil))) (tPart (tOp (rI0 fun i j => V.int (i - j)) (tC (.int 0)) (tDGet (tVar j) (tC (.str "of"))))) tNoPart) σ H ((takeW r.of w f).map V.bl) := by
  have h := ez_sl (ez_cat (K := K) (ev_op (ev_var hi) (ev_c (v := .int 1)) (rv_ixT hp (v := .ref wq) rfl)) hw (ez_tup (ea_cons (ev_c (v := .bl f)) ea_nil) (by show 1 ≤ 1000; decide)) (List.cons_ne_nil _ _) (by rw [List.length_map]; show w.length + 1 ≤ 1000; omega))
    (eo_some (ev_op (ev_c (v := .int 0)) (ev_dget (k := kS "of") (ev_var hj) ev_c hd dr.of) (rv_I0 (g := fun i j => V.int (i - j)) (i := 0) (j := r.of)))) eo_none
  rw [show (0 : Int) - r.of = -r.of by omega, cut_take _ of1] at h
  exact h
theorem ok_faultB {f : Addr} {fd : FuncData} (D : C8.Def K mg "_law_faulted" st_law_faulted f fd) (b : Binds K fd ["_law_rule_here", "_law_standing", "_law_is_room"] []) (c_law_out : C8.Cal P w K mg base 4 "_law_out" (spD K rOutB) []) : C8.Cal P w K mg base 5 "_law_faulted" (spD K (rFaultB K)) [] := by
  refine C8.cal0 D b .nil sc_law_faulted (fun vs H Q E h => ?_) (fun cdv A outer s H vs Q E hr h => ?_)
  · obtain ⟨_, ⟨_, _, _, _, _, _, _, rfl, _⟩, _⟩ := h
    rfl
  · obtain ⟨_, ⟨D, v, r, w, t, c, room, rfl, hp, hv, hl, tc, rfl⟩, k⟩ := h
    have hu := hu_of hr
    refine ⟨_, pss_cons (ps_set (i := 3) sc_law_faulted.nd rfl (Or.inl rfl) (pe_slice sl_tupZ (pe_op op_catZ (pe_ix ix_tup (pv 1) (pe_int) (fun _ _ => rfl)) (pe_tupZ (pa_cons (pe_bl) (pa_nil)))) (po_some (pe_op op_sub (pe_int) (pe_dget hu (pv 0) (pe_str) (fun _ _ => rfl)))) po_none))
      (pss_cons (ps_set (i := 4) sc_law_faulted.nd rfl (Or.inl rfl) (pe_tup (pa_cons (pe_str) (pa_cons (pv 3) (pa_cons (pe_ix ix_tup (pv 1) (pe_int) (fun _ _ => rfl)) (pa_cons (pe_int) (pa_nil)))))))
      (pss_cons (ps_if (pt_cmpR (op_lt) (pe_bmZ PySem.F.plainAttrs_tuple PySem.F.slot_tuple_count PySem.F.type_tuple_count (mt_tcountB (hu_of hr)) (pv 3) (pa_cons (pe_bl) (pa_nil))) (pe_dget hu (pv 0) (pe_str) (fun _ _ => rfl)) (nomark _)) (pss_one (ps_ret (pe_tup (pa_cons (pv 4) (pa_cons (pe_bl) (pa_nil)))))) (pss_nil))
      (pss_one (ps_ret (pe_ifExp (pt_val (pv 2)) (pe_tup (pa_cons (C8.pe_c c_law_out hr (by decide) (by rfl) (pa_cons (pv 0) (pa_cons (pe_ix ix_tup (pv 1) (pe_int) (fun _ _ => rfl)) (pa_nil)))) (pa_cons (pe_bl) (pa_nil)))) (pe_tup (pa_cons (pv 4) (pa_cons (pe_bl) (pa_nil))))))))), ?_⟩
    obtain ⟨p, wq, rfl, hs, hw⟩ := st_inn hv
    obtain ⟨rn, kvs, hd, dr⟩ := id hp
    have of1 : 1 ≤ r.of := by have := rn.ok.need; have := rn.ok.of; omega
    refine x_asg (ez_win rfl rfl hs hw hl hd dr of1 H (Ex.refl H) _ fun tp H1 e1 hz => ?_)
    refine y_asg (K := K) (evd_inn (w := takeW r.of w true) (ev_var rfl) hz.sq (ev_op (ev_var rfl) ev_c (rv_ixT (ex_t e1 hs) rfl)) ev_c) fun v2 H2 e2 hl2 => ?_
    have e12 := e1.trans e2
    have hd2 := e12 _ _ hd
    have tt : EvT (tTest (tOp (rI0 fun i j => V.bl (decide (i < j))) (tBMZ (rCntB K) (tVar 3) (tCons (tC (.bl true)) tNil)) (tDGet (tVar 0) (tC (.str "need"))))) [some (.ref D), some (.ref p), some (.bl room), some (.ref tp), some v2] H2 (decide (((takeW r.of w true).count true : Int) < r.need)) :=
      et_test (ev_op (ev_countZ rfl (hz.up e2)) (ev_dget (k := kS "need") (ev_var rfl) ev_c hd2 dr.need) rv_I0)
    by_cases hc : ((takeW r.of w true).count true : Int) < r.need
    · refine y_yes (et_is tt (decide_eq_true hc)) fun H3 e3 => ?_
      refine y_ret (K := K) (evd_tup (ead_cons (evd_of (ev_var rfl) (dp_up e3 hl2)) (ead_cons (evd_bl ev_c) ead_nil)) (by show 2 ≤ 1000; decide)) fun v H4 e4 hd => k v H4 (e12.trans (e3.trans e4)) ?_
      unfold faultI
      rw [if_pos hc]
      exact hd
    · refine y_no (et_is tt (decide_eq_false hc)) fun H3 e3 => ?_
      refine y_ret (K := K) (evd_if (et_B (ev_var rfl)) (evd_tup (ead_cons (evd_call mono_outB (ea_cons (ev_var rfl) (ea_cons (ev_op (ev_var rfl) ev_c (rv_ixT (ex_t (e12.trans e3) hs) rfl)) ea_nil)) ⟨D, t, r, rfl, hp.up (e12.trans e3), tc, rfl⟩) (ead_cons (evd_bl ev_c) ead_nil)) (by show 2 ≤ 1000; decide)) (evd_tup (ead_cons (evd_of (ev_var rfl) (dp_up e3 hl2)) (ead_cons (evd_bl ev_c) ead_nil)) (by show 2 ≤ 1000; decide))) fun v H4 e4 hd => k v H4 (e12.trans (e3.trans e4)) ?_
      unfold faultI
      rw [if_neg hc]
      unfold tryI
      cases room <;> exact hd
end

/-! ### turns, words, letters: the law's own -/
def St.times : St → Int
  | .inn _ t _ => t
  | .out _ t => t
  | .tri t => t
structure StOk (r : RuleD) (st : St) : Prop where
  len : (st.len : Int) ≤ r.of
  tm : st.times ≤ capR r
theorem StOk.l100 {r : RuleD} {st : St} (h : StOk r st) (rn : RuleN r) : st.len ≤ 100 := by
  have := h.len
  have := rn.of
  omega
theorem capR_pos {r : RuleD} (ok : r.ok) : 1 ≤ capR r := cap_pos ok
theorem sit_back (r : RuleD) (l t : Int) : sitO r l t = if 1 < l then .out (l - 1) t else backS r t := rfl
section
variable {σ : L2.St} {H : Hp} {te : TE} {tl th : TO}
theorem x_par3 {i j l : Nat} {ta : TA} {tz : TS} {D : Ends} (h : ta σ H fun vs H1 => ∃ u v w, vs = [u, v, w] ∧ tz D (((σ.set i (some u)).set j (some v)).set l (some w)) H1) : tSeq (tPar3 i j l ta) tz D σ H := h
theorem x_c {v : V} {Q : VK} (h : Q v H) : tC v σ H Q := h
theorem x_sl {r : V → Option Int → Option Int → Hp → VK → Prop} {Q : VK} (h : te σ H fun x H1 => tl σ H1 fun lo H2 => th σ H2 fun hi H3 => r x lo hi H3 Q) : tSl r te tl th σ H Q := h
theorem ev_slS {z : Str} {lo hi : Option Int} (h : Ev te σ H (.str z)) (h1 : EvO tl σ H lo) (h2 : EvO th σ H hi) (hz : z.length ≤ 1000) : Ev (tSl rSlS te tl th) σ H (.str (cutS z lo hi)) := fun H1 e Q q =>
  h H1 e _ fun H2 e2 => h1 H2 (e.trans e2) _ fun H3 e3 => h2 H3 ((e.trans e2).trans e3) _ fun H4 e4 => ⟨z, rfl, Nat.le_trans hz (by decide), q H4 ((e2.trans e3).trans e4)⟩
end
section
variable {P : Program} {w : World} {K : PySem.W.Frag} {mg : Str → Option Value} {base : Heap} {CR aB aH : Addr}
def wdOf (f : Bool) : Wd := if f = true then .fault else .ok
def rTurnB (K : PySem.W.Frag) : Hp → List V → PyData → Prop := fun H vs d => ∃ (D : Addr) (v : V) (r : RuleD) (st : St) (fault room : Bool), vs = [.ref D, v, .bl fault, .bl room] ∧ DIn H D r ∧ Dp K H v st.data ∧ StOk r st ∧ d = tripS (moveS r st (wdOf fault) room)
theorem mono_turnB : MonoD (rTurnB K) := fun _ _ _ _ e ⟨D, v, r, st, f, o, a, b, h, l, z⟩ => ⟨D, v, r, st, f, o, a, b.up e, dp_up e h, l, z⟩
theorem ok_turnB {f : Addr} {fd : FuncData} (D : C8.Def K mg "_law_turn" st_law_turn f fd) (b : Binds K fd ["_law_rule_here", "_law_standing", "_law_is_fault", "_law_is_room"] []) (c_law_back : C8.Cal P w K mg base 2 "_law_back" (spD K rBackB) []) (c_law_out : C8.Cal P w K mg base 4 "_law_out" (spD K rOutB) []) (c_law_faulted : C8.Cal P w K mg base 5 "_law_faulted" (spD K (rFaultB K)) []) : C8.Cal P w K mg base 6 "_law_turn" (spD K (rTurnB K)) [] := by
  refine C8.cal0 D b .nil sc_law_turn (fun vs H Q E h => ?_) (fun cdv A outer s H vs Q E hr h => ?_)
  · obtain ⟨_, ⟨_, _, _, _, _, _, rfl, _⟩, _⟩ := h
    rfl
  · obtain ⟨_, ⟨D, v, r, st, fault, room, rfl, hp, hv, so, rfl⟩, k⟩ := h
    have hu := hu_of hr
    refine ⟨_, pss_cons (ps_if (pt_cmpR (op_eq) (pe_ix ix_tup (pv 1) (pe_int) (fun _ _ => rfl)) (pe_str) (nomark _)) (pss_cons (ps_set (i := 4) sc_law_turn.nd rfl (Or.inl rfl) (pe_ifExp (pt_val (pv 2)) (pe_str) (pe_str)))
        (pss_cons (ps_if (pt_cmpR (op_gt) (pe_ix ix_tup (pv 1) (pe_int) (fun _ _ => rfl)) (pe_int) (nomark _)) (pss_one (ps_ret (pe_tup (pa_cons (pe_tup (pa_cons (pe_str) (pa_cons (pe_op op_sub (pe_ix ix_tup (pv 1) (pe_int) (fun _ _ => rfl)) (pe_int)) (pa_cons (pe_ix ix_tup (pv 1) (pe_int) (fun _ _ => rfl)) (pa_nil))))) (pa_cons (pv 4) (pa_cons (pe_bl) (pa_nil))))))) (pss_nil))
        (pss_one (ps_ret (pe_tup (pa_cons (C8.pe_c c_law_back hr (by decide) (by rfl) (pa_cons (pv 0) (pa_cons (pe_ix ix_tup (pv 1) (pe_int) (fun _ _ => rfl)) (pa_nil)))) (pa_cons (pv 4) (pa_cons (pe_bl) (pa_nil))))))))) (pss_nil))
      (pss_cons (ps_if (pt_cmpR (op_eq) (pe_ix ix_tup (pv 1) (pe_int) (fun _ _ => rfl)) (pe_str) (nomark _)) (pss_cons (ps_if (pt_val (pv 2)) (pss_one (ps_ret (pe_tup (pa_cons (C8.pe_c c_law_out hr (by decide) (by rfl) (pa_cons (pv 0) (pa_cons (pe_ix ix_tup (pv 1) (pe_int) (fun _ _ => rfl)) (pa_nil)))) (pa_cons (pe_str) (pa_cons (pe_bl) (pa_nil))))))) (pss_nil))
        (pss_one (ps_ret (pe_tup (pa_cons (pe_tup (pa_cons (pe_str) (pa_cons (pe_tup (pa_nil)) (pa_cons (pe_ix ix_tup (pv 1) (pe_int) (fun _ _ => rfl)) (pa_cons (pe_int) (pa_nil)))))) (pa_cons (pe_str) (pa_cons (pe_bl) (pa_nil)))))))) (pss_nil))
      (pss_cons (ps_if (pt_val (pv 2)) (pss_cons (ps_asg (C8.pe_c c_law_faulted hr (by decide) (by rfl) (pa_cons (pv 0) (pa_cons (pv 1) (pa_cons (pv 3) (pa_nil))))) (pg_tup (by rfl) (pgs_cons (pg_name (i := 5) sc_law_turn.nd rfl (Or.inl rfl)) (pgs_cons (pg_name (i := 6) sc_law_turn.nd rfl (Or.inl rfl)) (pgs_nil)))))
        (pss_one (ps_ret (pe_tup (pa_cons (pv 5) (pa_cons (pe_str) (pa_cons (pv 6) (pa_nil)))))))) (pss_nil))
      (pss_cons (ps_par3 (by rfl) sc_law_turn.nd (i := 7) (j := 8) (l := 9) rfl rfl rfl (by decide) (by decide) (by decide) rfl rfl rfl (pa_cons (pe_slice sl_tupZ (pe_op op_catZ (pe_ix ix_tup (pv 1) (pe_int) (fun _ _ => rfl)) (pe_tupZ (pa_cons (pe_bl) (pa_nil)))) (po_some (pe_op op_sub (pe_int) (pe_dget hu (pv 0) (pe_str) (fun _ _ => rfl)))) po_none) (pa_cons (pe_ix ix_tup (pv 1) (pe_int) (fun _ _ => rfl)) (pa_cons (pe_op op_add (pe_ix ix_tup (pv 1) (pe_int) (fun _ _ => rfl)) (pe_int)) (pa_nil)))) (by rfl))
      (pss_cons (ps_if (PW.pt (pw_or (pt_cmpR (op_eq) (pv 8) (pe_int) (nomark _)) (pw_or (pt_cmpR (op_eq) (pe_dget hu (pv 0) (pe_str) (fun _ _ => rfl)) (pe_int) (nomark _)) (pw_or1 (pt_cmpR (op_eq) (pv 9) (pe_dget hu (pv 0) (pe_str) (fun _ _ => rfl)) (nomark _)))))) (pss_one (ps_par (by rfl) sc_law_turn.nd (i := 8) (j := 9) rfl rfl (by decide) rfl rfl (pa_cons (pe_ifExp (pt_cmpR (op_gt) (pe_dget hu (pv 0) (pe_str) (fun _ _ => rfl)) (pe_int) (nomark _)) (pe_int) (pv 8)) (pa_cons (pe_int) pa_nil)) (by rfl))) (pss_nil))
      (pss_one (ps_ret (pe_tup (pa_cons (pe_tup (pa_cons (pe_str) (pa_cons (pv 7) (pa_cons (pv 8) (pa_cons (pv 9) (pa_nil)))))) (pa_cons (pe_str) (pa_cons (pe_bl) (pa_nil))))))))))), ?_⟩
    have trip : ∀ {σ : L2.St} {H : Hp} {te tw tk : TE} {s1 : St} {w1 : Str} {b1 : Bool}, EvD K te σ H s1.data → Ev tw σ H (.str w1) → Ev tk σ H (.bl b1) → EvD K (tTup (tCons te (tCons tw (tCons tk tNil)))) σ H (tripS (s1, w1, b1)) := fun h1 h2 h3 =>
      evd_tup (ead_cons h1 (ead_cons (evd_str h2) (ead_cons (evd_bl h3) ead_nil))) (by show 3 ≤ 1000; decide)
    obtain ⟨rn, kvs, hd, dr⟩ := id hp
    cases st with
    | out l t =>
      obtain ⟨p, rfl, hs⟩ := st_out hv
      refine y_yes (et_is (et_test (ev_op (ev_head hv (ev_var rfl)) ev_c (rv_eq rfl))) (str_eq rfl)) fun H1 e1 => ?_
      refine y_ev (v := .str (if fault = true then "skip" else "missed")) (ev_is (ev_ifE (et_B (ev_var rfl)) ev_c ev_c) (by cases fault <;> rfl)) fun H2 e2 => ?_
      have hs2 := ex_t (e1.trans e2) hs
      have gt : EvT (tTest (tOp (rI0 fun i j => V.bl (decide (i > j))) (tOp (rIxT K) (tVar 1) (tC (.int 1))) (tC (.int 1)))) [some (.ref D), some (.ref p), some (.bl fault), some (.bl room), some (.str (if fault = true then "skip" else "missed")), none, none, none, none, none] H2 (decide (l > 1)) := et_test (ev_op (ev_op (ev_var rfl) ev_c (rv_ixT hs2 rfl)) ev_c rv_I0)
      have ms : moveS r (.out l t) (wdOf fault) room = (sitO r l t, ((if fault = true then "skip" else "missed" : Str)), false) := by cases fault <;> rfl
      rw [ms, sit_back] at k
      by_cases h1 : 1 < l
      · refine y_yes (et_is gt (decide_eq_true h1)) fun H3 e3 => ?_
        have hs3 := ex_t e3 hs2
        rw [if_pos h1] at k
        exact y_ret (K := K) (trip (evd_out (ev_op (ev_op (ev_var rfl) ev_c (rv_ixT hs3 rfl)) ev_c rv_I0) (ev_op (ev_var rfl) ev_c (rv_ixT hs3 rfl))) (ev_var rfl) ev_c) fun v H4 e4 hd => k v H4 (e1.trans (e2.trans (e3.trans e4))) hd
      · refine y_no (et_is gt (decide_eq_false h1)) fun H3 e3 => ?_
        have hs3 := ex_t e3 hs2
        rw [if_neg h1] at k
        exact y_ret (K := K) (trip (evd_call mono_backB (ea_cons (ev_var rfl) (ea_cons (ev_op (ev_var rfl) ev_c (rv_ixT hs3 rfl)) ea_nil)) ⟨D, t, r, rfl, hp.up (e1.trans (e2.trans e3)), rfl⟩) (ev_var rfl) ev_c) fun v H4 e4 hd => k v H4 (e1.trans (e2.trans (e3.trans e4))) hd
    | tri t =>
      obtain ⟨p, rfl, hs⟩ := st_tri hv
      refine y_no (et_is (et_test (ev_op (ev_head hv (ev_var rfl)) ev_c (rv_eq rfl))) (str_ne (show ¬ (("trial" : Str) = "out") by decide +kernel))) fun H1 e1 => ?_
      refine y_yes (et_is (et_test (ev_op (ev_head (dp_up e1 hv) (ev_var rfl)) ev_c (rv_eq rfl))) (str_eq rfl)) fun H2 e2 => ?_
      have e12 := e1.trans e2
      cases fault with
      | true =>
        refine y_yes (et_B (ev_var rfl)) fun H3 e3 => ?_
        exact y_ret (K := K) (trip (evd_call mono_outB (ea_cons (ev_var rfl) (ea_cons (ev_op (ev_var rfl) ev_c (rv_ixT (ex_t (e12.trans e3) hs) rfl)) ea_nil)) ⟨D, t, r, rfl, hp.up (e12.trans e3), so.tm, rfl⟩) ev_c ev_c) fun v H4 e4 hd => k v H4 (e12.trans (e3.trans e4)) hd
      | false =>
        refine y_no (et_B (ev_var rfl)) fun H3 e3 => ?_
        exact y_ret (K := K) (trip (s1 := .inn [] t 0) (evd_tup (ead_cons (evd_str ev_c) (ead_cons (evd_tup ead_nil (by decide)) (ead_cons (evd_int (ev_op (ev_var rfl) ev_c (rv_ixT (ex_t (e12.trans e3) hs) rfl))) (ead_cons (evd_int ev_c) ead_nil)))) (by show 4 ≤ 1000; decide)) ev_c ev_c) fun v H4 e4 hd => k v H4 (e12.trans (e3.trans e4)) hd
    | inn w t c =>
      obtain ⟨p, wq, rfl, hs, hw⟩ := st_inn hv
      have hl : w.length ≤ 100 := so.l100 rn
      refine y_no (et_is (et_test (ev_op (ev_head hv (ev_var rfl)) ev_c (rv_eq rfl))) (str_ne (show ¬ (("in" : Str) = "out") by decide +kernel))) fun H1 e1 => ?_
      refine y_no (et_is (et_test (ev_op (ev_head (dp_up e1 hv) (ev_var rfl)) ev_c (rv_eq rfl))) (str_ne (show ¬ (("in" : Str) = "trial") by decide +kernel))) fun H2 e2 => ?_
      have e12 := e1.trans e2
      cases fault with
      | true =>
        refine y_yes (et_B (ev_var rfl)) fun H3 e3 => ?_
        have e13 := e12.trans e3
        refine x_asgG (evd_call mono_faultB (ea_cons (ev_var rfl) (ea_cons (ev_var rfl) (ea_cons (ev_var rfl) ea_nil))) ⟨D, .ref p, r, w, t, c, room, rfl, hp.up e13, dp_up e13 hv, hl, so.tm, rfl⟩ H3 (Ex.refl H3) _ fun x H4 e4 hd => ?_)
        obtain ⟨p2, v1, rfl, hp2, h1⟩ := pairB_of hd
        refine ⟨p2, _, rfl, hp2, rfl, _, _, rfl, _, _, rfl, rfl, ?_⟩
        exact y_ret (K := K) (trip (evd_of (ev_var rfl) h1) ev_c (ev_var rfl)) fun v H5 e5 hd => k v H5 (e13.trans (e4.trans e5)) hd
      | false =>
        refine y_no (et_B (ev_var rfl)) fun H3 e3 => ?_
        have e13 := e12.trans e3
        have of1 : 1 ≤ r.of := by have := rn.ok.need; have := rn.ok.of; omega
        have hs3 := ex_t e13 hs
        refine x_par3 (x_cons (ez_win rfl rfl hs3 (ex_t e13 hw) hl (e13 _ _ hd) dr of1 H3 (Ex.refl H3) _ fun tp H4 e4 hz => ?_))
        refine x_cons ((ev_op (ev_var rfl) ev_c (rv_ixT (ex_t e4 hs3) (v := .int t) rfl)) H4 (Ex.refl H4) _ fun H5 e5 => ?_)
        refine x_cons ((ev_op (ev_op (ev_var rfl) ev_c (rv_ixT (ex_t (e4.trans e5) hs3) (v := .int c) rfl)) ev_c rv_I0) H5 (Ex.refl H5) _ fun H7 e6 => x_nil ⟨_, _, _, rfl, ?_⟩)
        have hz7 := hz.up (e5.trans e6)
        have eH := e13.trans (e4.trans (e5.trans e6))
        have hd7 := eH _ _ hd
        show tSeq _ _ _ [some (.ref D), some (.ref p), some (.bl false), some (.bl room), none, none, none, some (.ref tp), some (.int t), some (.int (c + 1))] H7
        have ie : ∀ i j : Int, decide (V.int i = V.int j) = decide (i = j) := fun i j => decide_eq_decide.mpr ⟨fun h => V.int.inj h, fun h => by rw [h]⟩
        have tt : EvT (tOr (tTest (tOp rEq (tVar 8) (tC (.int 0)))) (tOr (tTest (tOp rEq (tDGet (tVar 0) (tC (.str "calm"))) (tC (.int 0)))) (tTest (tOp rEq (tVar 9) (tDGet (tVar 0) (tC (.str "calm"))))))) [some (.ref D), some (.ref p), some (.bl false), some (.bl room), none, none, none, some (.ref tp), some (.int t), some (.int (c + 1))] H7 (decide (t = 0) || (decide (r.calm = 0) || decide (c + 1 = r.calm))) := by
          have h := et_or2 (et_test (ev_op (ev_var (σ := [some (.ref D), some (.ref p), some (.bl false), some (.bl room), none, none, none, some (.ref tp), some (.int t), some (.int (c + 1))]) (H := H7) (i := 8) rfl) (ev_c (v := .int 0)) (rv_eq rfl))) (et_or2 (et_test (ev_op (ev_dget (k := kS "calm") (ev_var (i := 0) rfl) ev_c hd7 dr.calm) (ev_c (v := .int 0)) (rv_eq rfl))) (et_test (ev_op (ev_var (i := 9) rfl) (ev_dget (k := kS "calm") (ev_var (i := 0) rfl) ev_c hd7 dr.calm) (rv_eq rfl))))
          rw [ie, ie, ie] at h
          exact h
        have mk : moveS r (.inn w t c) (wdOf false) room = (okI r w t c, ("ok" : Str), false) := rfl
        rw [mk] at k
        have c0 := rn.ok.calm
        by_cases h0 : t = 0 ∨ r.calm = 0 ∨ c + 1 = r.calm
        · refine y_yes (et_is tt (by rw [← Bool.decide_or, ← Bool.decide_or]; exact decide_eq_true h0)) fun H8 e8 => ?_
          have tv : Ev (tIf (tTest (tOp (rI0 fun i j => V.bl (decide (i > j))) (tDGet (tVar 0) (tC (.str "calm"))) (tC (.int 0)))) (tC (.int 0)) (tVar 8)) [some (.ref D), some (.ref p), some (.bl false), some (.bl room), none, none, none, some (.ref tp), some (.int t), some (.int (c + 1))] H8 (.int (if r.calm > 0 then 0 else t)) := by
            refine ev_is (ev_ifE (et_test (ev_op (ev_dget (k := kS "calm") (ev_var rfl) ev_c (e8 _ _ hd7) dr.calm) ev_c rv_I0)) ev_c (ev_var rfl)) ?_
            by_cases h : r.calm > 0
            · rw [decide_eq_true h, if_pos rfl, if_pos h]
            · rw [decide_eq_false h, if_neg Bool.false_ne_true, if_neg h]
          refine (ea_cons tv (ea_cons ev_c ea_nil)) H8 (Ex.refl H8) _ fun H9 e9 => ⟨_, _, rfl, ?_⟩
          refine y_ret (K := K) (trip (s1 := .inn (takeW r.of w false) (if r.calm > 0 then 0 else t) 0) (evd_inn (ev_var rfl) (hz7.up (e8.trans e9)).sq (ev_var rfl) (ev_var rfl)) ev_c ev_c) fun v HA eA hdA => k v HA (eH.trans (e8.trans (e9.trans eA))) ?_
          have : okI r w t c = .inn (takeW r.of w false) (if r.calm > 0 then 0 else t) 0 := by
            unfold okI
            by_cases h1 : t = 0 ∨ r.calm = 0
            · rw [if_pos h1]
              by_cases h2 : r.calm > 0
              · rw [if_pos h2]
                rcases h1 with h1 | h1
                · rw [h1]
                · omega
              · rw [if_neg h2]
            · rw [if_neg h1]
              have h3 : c + 1 = r.calm := by
                rcases h0 with h | h | h
                · exact absurd (.inl h) h1
                · exact absurd (.inr h) h1
                · exact h
              have h4 : r.calm > 0 := by
                by_cases h5 : r.calm = 0
                · exact absurd (.inr h5) h1
                · omega
              rw [if_pos h3, if_pos h4]
          rw [this]
          exact hdA
        · refine y_no (et_is tt (by rw [← Bool.decide_or, ← Bool.decide_or]; exact decide_eq_false h0)) fun H8 e8 => ?_
          refine y_ret (K := K) (trip (s1 := .inn (takeW r.of w false) t (c + 1)) (evd_inn (ev_var rfl) (hz7.up e8).sq (ev_var rfl) (ev_var rfl)) ev_c ev_c) fun v H9 e9 hd9 => k v H9 (eH.trans (e8.trans e9)) ?_
          have : okI r w t c = .inn (takeW r.of w false) t (c + 1) := by
            unfold okI
            rw [if_neg (fun h => h0 (h.elim .inl fun h => .inr (.inl h))), if_neg (fun h => h0 (.inr (.inr h)))]
          rw [this]
          exact hd9
def rWordB (K : PySem.W.Frag) : Hp → List V → PyData → Prop := fun H vs d => ∃ (D : Addr) (v : V) (r : RuleD) (st : St) (room : Bool), vs = [.ref D, v, .bl room] ∧ DIn H D r ∧ Dp K H v st.data ∧ StOk r st ∧ d = pairB (hearS r st room)
theorem mono_wordB : MonoD (rWordB K) := fun _ _ _ _ e ⟨D, v, r, st, o, a, b, h, l, z⟩ => ⟨D, v, r, st, o, a, b.up e, dp_up e h, l, z⟩
theorem ok_wordB {f : Addr} {fd : FuncData} (D : C8.Def K mg "_law_word" st_law_word f fd) (b : Binds K fd ["_law_rule_here", "_law_standing", "_law_is_room"] []) (c_law_out : C8.Cal P w K mg base 4 "_law_out" (spD K rOutB) []) (c_law_faulted : C8.Cal P w K mg base 5 "_law_faulted" (spD K (rFaultB K)) []) : C8.Cal P w K mg base 6 "_law_word" (spD K (rWordB K)) [] := by
  refine C8.cal0 D b .nil sc_law_word (fun vs H Q E h => ?_) (fun cdv A outer s H vs Q E hr h => ?_)
  · obtain ⟨_, ⟨_, _, _, _, _, rfl, _⟩, _⟩ := h
    rfl
  · obtain ⟨_, ⟨D, v, r, st, room, rfl, hp, hv, so, rfl⟩, k⟩ := h
    have hu := hu_of hr
    refine ⟨_, pss_cons (ps_if (PW.pt (pw_or (pt_cmpR (op_ne) (pe_ix ix_tup (pv 1) (pe_int) (fun _ _ => rfl)) (pe_str) (nomark _)) (pw_or1 (pt_cmpR (op_eq) (pe_dget hu (pv 0) (pe_str) (fun _ _ => rfl)) (pe_str) (nomark _))))) (pss_one (ps_ret (pe_tup (pa_cons (pv 1) (pa_cons (pe_bl) (pa_nil)))))) (pss_nil))
      (pss_cons (ps_if (pt_cmpR (op_eq) (pe_dget hu (pv 0) (pe_str) (fun _ _ => rfl)) (pe_str) (nomark _)) (pss_one (ps_ret (C8.pe_c c_law_faulted hr (by decide) (by rfl) (pa_cons (pv 0) (pa_cons (pv 1) (pa_cons (pv 2) (pa_nil))))))) (pss_nil))
      (pss_one (ps_ret (pe_ifExp (pt_val (pv 2)) (pe_tup (pa_cons (C8.pe_c c_law_out hr (by decide) (by rfl) (pa_cons (pv 0) (pa_cons (pe_ix ix_tup (pv 1) (pe_int) (fun _ _ => rfl)) (pa_nil)))) (pa_cons (pe_bl) (pa_nil)))) (pe_tup (pa_cons (pv 1) (pa_cons (pe_bl) (pa_nil)))))))), ?_⟩
    obtain ⟨rn, kvs, hd, dr⟩ := id hp
    have tt : EvT (tOr (tTest (tOp rNe (tOp (rIxT K) (tVar 1) (tC (.int 0))) (tC (.str "in")))) (tTest (tOp rEq (tDGet (tVar 0) (tC (.str "hears"))) (tC (.str "no"))))) (start ["_law_rule_here", "_law_standing", "_law_is_room"] [.ref D, v, .bl room]) H ((!decide (V.str st.word = V.str "in")) || decide (V.str r.hears = V.str "no")) :=
      et_or2 (et_test (ev_op (ev_head hv (ev_var rfl)) ev_c (rv_ne rfl))) (et_test (ev_op (ev_dget (k := kS "hears") (ev_var rfl) ev_c hd dr.hears) ev_c (rv_eq rfl)))
    have stay : ((!decide (V.str st.word = V.str "in")) || decide (V.str r.hears = V.str "no")) = true → hearS r st room = (st, false) → ∀ tz : TS, tSeq (tIfS (tOr (tTest (tOp rNe (tOp (rIxT K) (tVar 1) (tC (.int 0))) (tC (.str "in")))) (tTest (tOp rEq (tDGet (tVar 0) (tC (.str "hears"))) (tC (.str "no"))))) (tRet (tTup (tCons (tVar 1) (tCons (tC (.bl false)) tNil)))) tNext) tz { nx := fun _ H' => Q .non H', rt := Q } (start ["_law_rule_here", "_law_standing", "_law_is_room"] [.ref D, v, .bl room]) H := fun h e tz => by
      refine y_yes (et_is tt h) fun H1 e1 => ?_
      refine y_ret (K := K) (evd_tup (ead_cons (evd_of (ev_var rfl) (dp_up e1 hv)) (ead_cons (evd_bl ev_c) ead_nil)) (by show 2 ≤ 1000; decide)) fun v H2 e2 hd => k v H2 (e1.trans e2) ?_
      rw [e]
      exact hd
    cases st with
    | out l t => exact stay (by rw [str_ne (show ¬ (St.word (.out l t) = "in") from (by decide +kernel : ¬ ("out" : Str) = "in"))]; rfl) rfl _
    | tri t => exact stay (by rw [str_ne (show ¬ (St.word (.tri t) = "in") from (by decide +kernel : ¬ ("trial" : Str) = "in"))]; rfl) rfl _
    | inn w t c =>
      obtain ⟨p, wq, rfl, hs, hw⟩ := st_inn hv
      by_cases h1 : r.hears = "no"
      · refine stay (by rw [str_eq h1]; exact Bool.or_true _) ?_ _
        show (if r.hears = "no" then _ else _) = _
        rw [if_pos h1]
      refine y_no (et_is tt (by rw [str_ne h1, str_eq (show St.word (.inn w t c) = "in" from rfl)]; rfl)) fun H1 e1 => ?_
      have hd1 := e1 _ _ hd
      have hss : hearS r (.inn w t c) room = if r.hears = "fault" then faultI r w t room else tryI r w t c room := by
        show (if r.hears = "no" then _ else _) = _
        rw [if_neg h1]
      rw [hss] at k
      by_cases h2 : r.hears = "fault"
      · refine y_yes (et_is (et_test (ev_op (ev_dget (k := kS "hears") (ev_var rfl) ev_c hd1 dr.hears) ev_c (rv_eq rfl))) (str_eq h2)) fun H2 e2 => ?_
        rw [if_pos h2] at k
        exact y_ret (K := K) (evd_call mono_faultB (ea_cons (ev_var rfl) (ea_cons (ev_var rfl) (ea_cons (ev_var rfl) ea_nil))) ⟨D, .ref p, r, w, t, c, room, rfl, hp.up (e1.trans e2), dp_up (e1.trans e2) hv, so.l100 rn, so.tm, rfl⟩) fun v H3 e3 hd => k v H3 (e1.trans (e2.trans e3)) hd
      · refine y_no (et_is (et_test (ev_op (ev_dget (k := kS "hears") (ev_var rfl) ev_c hd1 dr.hears) ev_c (rv_eq rfl))) (str_ne h2)) fun H2 e2 => ?_
        rw [if_neg h2] at k
        have e12 := e1.trans e2
        refine y_ret (K := K) (evd_if (et_B (ev_var rfl)) (evd_tup (ead_cons (evd_call mono_outB (ea_cons (ev_var rfl) (ea_cons (ev_op (ev_var rfl) ev_c (rv_ixT (ex_t e12 hs) rfl)) ea_nil)) ⟨D, t, r, rfl, hp.up e12, so.tm, rfl⟩) (ead_cons (evd_bl ev_c) ead_nil)) (by show 2 ≤ 1000; decide)) (evd_tup (ead_cons (evd_of (ev_var rfl) (dp_up e12 hv)) (ead_cons (evd_bl ev_c) ead_nil)) (by show 2 ≤ 1000; decide))) fun v H3 e3 hd => k v H3 (e12.trans e3) ?_
        unfold tryI
        cases room <;> exact hd
theorem room_B {r : RuleD} (ok : r.ok) (full : Bool) : (decide (r.top > 0) && (!full || decide (r.top = r.under))) = roomR r full := by
  have h1 := ok.under
  have h2 := ok.top
  unfold roomR
  by_cases e : r.top = r.under
  · rw [decide_eq_true e, decide_eq_true (show r.top > 0 by omega)]
    cases full <;> rfl
  · rw [decide_eq_false e, Bool.or_false, Bool.false_or]
def rStepB (K : PySem.W.Frag) : Hp → List V → PyData → Prop := fun H vs d => ∃ (D : Addr) (v : V) (r : RuleD) (st : St) (wd : Wd) (full : Bool), vs = [.ref D, v, .str (letterOf wd full)] ∧ DIn H D r ∧ Dp K H v st.data ∧ StOk r st ∧ d = pairS (stepS r st wd full)
theorem mono_stepB : MonoD (rStepB K) := fun _ _ _ _ e ⟨D, v, r, st, wd, o, a, b, h, l, z⟩ => ⟨D, v, r, st, wd, o, a, b.up e, dp_up e h, l, z⟩
theorem let_full (wd : Wd) (full : Bool) : decide (cutS (letterOf wd full) (some (-4)) none = "full") = full := by cases wd <;> cases full <;> decide +kernel
theorem let_told (wd : Wd) (full : Bool) : decide (cutS (letterOf wd full) none (some 4) = "told") = (match wd with | .told => true | _ => false) := by cases wd <;> cases full <;> decide +kernel
theorem let_fault (wd : Wd) (full : Bool) : decide (cutS (letterOf wd full) none (some 5) = "fault") = (match wd with | .fault => true | _ => false) := by cases wd <;> cases full <;> decide +kernel
theorem dec_str (a b : Str) : decide (V.str a = V.str b) = decide (a = b) := decide_eq_decide.mpr ⟨fun h => V.str.inj h, fun h => by rw [h]⟩
theorem ok_stepB {f : Addr} {fd : FuncData} (D : C8.Def K mg "_law_step" st_law_step f fd) (b : Binds K fd ["_law_rule_here", "_law_standing", "_law_letter"] []) (c_law_word : C8.Cal P w K mg base 6 "_law_word" (spD K (rWordB K)) []) (c_law_turn : C8.Cal P w K mg base 6 "_law_turn" (spD K (rTurnB K)) []) : C8.Cal P w K mg base 7 "_law_step" (spD K (rStepB K)) [] := by
  refine C8.cal0 D b .nil sc_law_step (fun vs H Q E h => ?_) (fun cdv A outer s H vs Q E hr h => ?_)
  · obtain ⟨_, ⟨_, _, _, _, _, _, rfl, _⟩, _⟩ := h
    rfl
  · obtain ⟨_, ⟨D, v, r, st, wd, full, rfl, hp, hv, so, rfl⟩, k⟩ := h
    have hu := hu_of hr
    refine ⟨_, pss_cons (ps_set (i := 3) sc_law_step.nd rfl (Or.inl rfl) (pe_and (pe_cmpR (op_gt) (pe_dget hu (pv 0) (pe_str) (fun _ _ => rfl)) (pe_int) (nomark _)) (pe_one (pe_or (pe_cmpR (op_ne) (pe_slice sl_str (pv 2) (po_some (pe_un un_neg (pe_int))) po_none) (pe_str) (nomark _)) (pe_one (pe_cmpR (op_eq) (pe_dget hu (pv 0) (pe_str) (fun _ _ => rfl)) (pe_dget hu (pv 0) (pe_str) (fun _ _ => rfl)) (nomark _)))))))
      (pss_cons (ps_if (pt_cmpR (op_eq) (pe_slice sl_str (pv 2) po_none (po_some (pe_int))) (pe_str) (nomark _)) (pss_one (ps_ret (pe_tup (pa_cons (pe_ix ix_tup (C8.pe_c c_law_word hr (by decide) (by rfl) (pa_cons (pv 0) (pa_cons (pv 1) (pa_cons (pv 3) (pa_nil))))) (pe_int) (fun _ _ => rfl)) (pa_cons (pe_str) (pa_nil)))))) (pss_nil))
      (pss_one (ps_ret (pe_slice sl_tupA (C8.pe_c c_law_turn hr (by decide) (by rfl) (pa_cons (pv 0) (pa_cons (pv 1) (pa_cons (pe_cmpR (op_eq) (pe_slice sl_str (pv 2) po_none (po_some (pe_int))) (pe_str) (nomark _)) (pa_cons (pv 3) (pa_nil)))))) po_none (po_some (pe_int)))))), ?_⟩
    obtain ⟨rn, kvs, hd, dr⟩ := id hp
    have lz : (letterOf wd full).length ≤ 1000 := Nat.le_trans (letter_len wd full) (by decide)
    refine y_ev (v := .bl (roomR r full)) (ev_is (ev_and (ev_op (ev_dget (k := kS "top") (ev_var rfl) ev_c hd dr.top) ev_c rv_I0) (ev_orV (ev_op (ev_slS (ev_var rfl) (eo_some (ev_un ev_c ru_neg)) eo_none lz) ev_c (rv_ne rfl)) (fun _ => ev_op (ev_dget (k := kS "top") (ev_var rfl) ev_c hd dr.top) (ev_dget (k := kS "under") (ev_var rfl) ev_c hd dr.under) (rv_eq rfl)))) ?_) fun H1 e1 => ?_
    · rw [← room_B rn.ok full, dec_str, show (-(4 : Int)) = -4 from rfl, let_full, show decide (V.int r.top = V.int r.under) = decide (r.top = r.under) from decide_eq_decide.mpr ⟨fun h => V.int.inj h, fun h => by rw [h]⟩]
    have tt : EvT (tTest (tOp rEq (tSl rSlS (tVar 2) tNoPart (tPart (tC (.int 4)))) (tC (.str "told")))) [some (.ref D), some v, some (.str (letterOf wd full)), some (.bl (roomR r full))] H1 (decide (V.str (cutS (letterOf wd full) none (some 4)) = V.str "told")) := et_test (ev_op (ev_slS (ev_var rfl) eo_none (eo_some ev_c) lz) ev_c (rv_eq rfl))
    rw [dec_str, let_told] at tt
    have tf : ∀ {H2 : Hp}, Ev (tOp rEq (tSl rSlS (tVar 2) tNoPart (tPart (tC (.int 5)))) (tC (.str "fault"))) [some (.ref D), some v, some (.str (letterOf wd full)), some (.bl (roomR r full))] H2 (.bl (decide (V.str (cutS (letterOf wd full) none (some 5)) = V.str "fault"))) := fun {H2} => ev_op (ev_slS (ev_var rfl) eo_none (eo_some ev_c) lz) ev_c (rv_eq rfl)
    cases wd with
    | told =>
      refine y_yes tt fun H2 e2 => ?_
      have e12 := e1.trans e2
      refine x_ret (x_tup (x_cons (x_op (evd_call mono_wordB (ea_cons (ev_var rfl) (ea_cons (ev_var rfl) (ea_cons (ev_var rfl) ea_nil))) ⟨D, v, r, st, roomR r full, rfl, hp.up e12, dp_up e12 hv, so, rfl⟩ H2 (Ex.refl H2) _ fun x H3 e3 hx => ?_))))
      obtain ⟨p, v1, rfl, hp3, h1⟩ := pairB_of hx
      refine ⟨p, _, 0, v1, rfl, rfl, hp3, rfl, x_cons (x_c (x_nil ⟨(by show 2 ≤ sizeLine; decide), fun q nq => ?_⟩))⟩
      exact k _ _ (e12.trans (e3.trans (Ex.new nq))) (.tup (st_of upd_same) (.cons (dp_up (Ex.new nq) h1) (.cons (.str _) .nil)))
    | ok =>
      refine y_no tt fun H2 e2 => ?_
      have e12 := e1.trans e2
      have tf := tf (H2 := H2)
      rw [dec_str, let_fault] at tf
      refine x_ret (x_sl (evd_call mono_turnB (ea_cons (ev_var rfl) (ea_cons (ev_var rfl) (ea_cons tf (ea_cons (ev_var rfl) ea_nil)))) ⟨D, v, r, st, false, roomR r full, rfl, hp.up e12, dp_up e12 hv, so, rfl⟩ H2 (Ex.refl H2) _ fun x H3 e3 hx => ?_))
      obtain ⟨p, v1, rfl, hp3, h1⟩ := tripS_of hx
      refine ⟨2, rfl, p, _, rfl, hp3, fun hf => absurd (show HT.sIx 3 3 (some 2) = 3 from hf.2) (by decide), fun _ q nq => ?_⟩
      exact k _ _ (e12.trans (e3.trans (Ex.new nq))) (.tup (st_of upd_same) (.cons (dp_up (Ex.new nq) h1) (.cons (.str _) .nil)))
    | fault =>
      refine y_no tt fun H2 e2 => ?_
      have e12 := e1.trans e2
      have tf := tf (H2 := H2)
      rw [dec_str, let_fault] at tf
      refine x_ret (x_sl (evd_call mono_turnB (ea_cons (ev_var rfl) (ea_cons (ev_var rfl) (ea_cons tf (ea_cons (ev_var rfl) ea_nil)))) ⟨D, v, r, st, true, roomR r full, rfl, hp.up e12, dp_up e12 hv, so, rfl⟩ H2 (Ex.refl H2) _ fun x H3 e3 hx => ?_))
      obtain ⟨p, v1, rfl, hp3, h1⟩ := tripS_of hx
      refine ⟨2, rfl, p, _, rfl, hp3, fun hf => absurd (show HT.sIx 3 3 (some 2) = 3 from hf.2) (by decide), fun _ q nq => ?_⟩
      exact k _ _ (e12.trans (e3.trans (Ex.new nq))) (.tup (st_of upd_same) (.cons (dp_up (Ex.new nq) h1) (.cons (.str _) .nil)))
end

/-! ### small data can be shown and compared -/
structure Gd (n L : Nat) (d : PyData) : Prop where
  sh : d.showable = true
  nd : d.hasDict = false
  cl : d.canLay0 = true
  dp : d.depth ≤ n
  ln : d.shown.length ≤ L
theorem gd_all {n L : Nat} : ∀ {ds : List PyData}, (∀ x ∈ ds, Gd n L x) → PyData.showableAll ds = true ∧ PyData.hasDictAll ds = false ∧ PyData.canLayAll0 ds = true ∧ PyData.depthAll ds ≤ n ∧ ((PyData.shownAll ds).map (·.length)).sum ≤ ds.length * L ∧ (PyData.shownAll ds).length = ds.length
  | [], _ => ⟨rfl, rfl, rfl, Nat.zero_le _, Nat.zero_le _, rfl⟩
  | d :: ds, h => by
    obtain ⟨h1, h2, h3, h4, h5, h6⟩ := gd_all (ds := ds) (fun x hx => h x (List.mem_cons_of_mem _ hx))
    have g := h d (List.mem_cons_self ..)
    refine ⟨?_, ?_, ?_, ?_, ?_, ?_⟩
    · show (d.showable && PyData.showableAll ds) = true
      rw [g.sh, h1]; rfl
    · show (d.hasDict || PyData.hasDictAll ds) = false
      rw [g.nd, h2]; rfl
    · show (d.canLay0 && PyData.canLayAll0 ds) = true
      rw [g.cl, h3]; rfl
    · show max d.depth (PyData.depthAll ds) ≤ n
      exact Nat.max_le.mpr ⟨g.dp, h4⟩
    · show (d.shown :: PyData.shownAll ds |>.map (·.length)).sum ≤ _
      rw [List.map_cons, List.sum_cons, List.length_cons, Nat.succ_mul]
      have := g.ln
      omega
    · show (PyData.shownAll ds).length + 1 = _
      rw [h6, List.length_cons]
theorem gd_tup {n L m : Nat} {ds : List PyData} (h : ∀ x ∈ ds, Gd n L x) (hl : ds.length ≤ m) : Gd (n + 1) (m * L + 2 * m + 3) (.tuple ds) := by
  obtain ⟨h1, h2, h3, h4, h5, h6⟩ := gd_all h
  refine ⟨h1, h2, h3, Nat.succ_le_succ h4, ?_⟩
  refine Nat.le_trans (tupleText_len_le _) ?_
  have q : ds.length * L ≤ m * L := Nat.mul_le_mul_right _ hl
  rw [h6]
  omega
theorem Gd.up {n L n' L' : Nat} {d : PyData} (h : Gd n L d) (hn : n ≤ n') (hL : L ≤ L') : Gd n' L' d := ⟨h.sh, h.nd, h.cl, Nat.le_trans h.dp hn, Nat.le_trans h.ln hL⟩
theorem gd_int {i : Int} (h0 : 0 ≤ i) (h1 : i < 1000000) : Gd 0 10 (.int i) := ⟨decide_eq_true (numLog h0 h1), rfl, rfl, Nat.le_refl 0, Nat.le_trans (numLen h0 h1) (by decide)⟩
theorem gd_bool (b : Bool) : Gd 0 10 (.bool b) := ⟨rfl, rfl, rfl, Nat.le_refl 0, by cases b <;> decide +kernel⟩
theorem gd_str {s : Str} (h : (PyData.canLay0 (.str s) && decide ((PyData.shown (.str s)).length ≤ 10)) = true) : Gd 0 10 (.str s) := by
  obtain ⟨h1, h2⟩ := Bool.and_eq_true_iff.mp h
  exact ⟨rfl, rfl, h1, Nat.le_refl 0, of_decide_eq_true h2⟩
theorem gd_bools (w : List Bool) (hl : w.length ≤ 100) : Gd 1 1203 (.tuple (w.map .bool)) :=
  gd_tup (fun x hx => by
    obtain ⟨b, _, rfl⟩ := List.mem_map.mp hx
    exact gd_bool b) (by rw [List.length_map]; exact hl)
/-- what the standings that come are like -/
structure StB (r : RuleD) (st : St) : Prop where
  ok : StOk r st
  t0 : 0 ≤ st.times
  c0 : ∀ w t c, st = .inn w t c → 0 ≤ c ∧ (c = 0 ∨ c < r.calm)
  l0 : ∀ l t, st = .out l t → 0 ≤ l ∧ l ≤ r.most
theorem cap_100 {r : RuleD} (rn : RuleN r) : capR r < 100 := by
  have := cap_le rn.ok
  have := rn.most
  have := rn.ok.base
  unfold capR
  omega
theorem gd_st {r : RuleD} {st : St} (rn : RuleN r) (h : StB r st) : Gd 2 4900 st.data := by
  have c1 := cap_100 rn
  have t1 := h.ok.tm
  have t2 := h.t0
  cases st with
  | inn w t c =>
    have l := h.ok.l100 rn
    have ⟨c2, c3⟩ := h.c0 w t c rfl
    have c4 := rn.calm
    have t1 : t ≤ capR r := t1
    have t2 : 0 ≤ t := t2
    refine (gd_tup (n := 1) (L := 1203) (m := 4) (fun x hx => ?_) (by show 4 ≤ 4; decide)).up (by decide) (by decide)
    simp only [List.mem_cons, List.not_mem_nil, or_false] at hx
    rcases hx with rfl | rfl | rfl | rfl
    · exact (gd_str (by decide +kernel)).up (by decide) (by decide)
    · exact gd_bools w l
    · exact (gd_int t2 (by omega)).up (by decide) (by decide)
    · exact (gd_int c2 (by omega)).up (by decide) (by decide)
  | out l t =>
    have ⟨l1, l2⟩ := h.l0 l t rfl
    have m := rn.most
    have t1 : t ≤ capR r := t1
    have t2 : 0 ≤ t := t2
    refine (gd_tup (n := 0) (L := 10) (m := 3) (fun x hx => ?_) (by show 3 ≤ 3; decide)).up (by decide) (by decide)
    simp only [List.mem_cons, List.not_mem_nil, or_false] at hx
    rcases hx with rfl | rfl | rfl
    · exact gd_str (by decide +kernel)
    · exact gd_int l1 (by omega)
    · exact gd_int t2 (by omega)
  | tri t =>
    have t1 : t ≤ capR r := t1
    have t2 : 0 ≤ t := t2
    refine (gd_tup (n := 0) (L := 10) (m := 2) (fun x hx => ?_) (by show 2 ≤ 2; decide)).up (by decide) (by decide)
    simp only [List.mem_cons, List.not_mem_nil, or_false] at hx
    rcases hx with rfl | rfl
    · exact gd_str (by decide +kernel)
    · exact gd_int t2 (by omega)
theorem time_ge {r : RuleD} (ok : r.ok) {j : Int} (hj : 1 ≤ j) : 0 ≤ timeOf r j := by
  have h1 := ok.more
  have h2 := ok.base
  have h3 := ok.most
  have p := Int.mul_nonneg h1 (show 0 ≤ j - 1 by omega)
  unfold timeOf
  split <;> omega
theorem stB_out {r : RuleD} (rn : RuleN r) {t : Int} (h : 0 ≤ t) : StB r (outOf r t) := by
  have c := capR_pos rn.ok
  have j : 1 ≤ (if capR r < t + 1 then capR r else t + 1) ∧ (if capR r < t + 1 then capR r else t + 1) ≤ capR r := by split <;> omega
  refine ⟨⟨(by have := rn.ok.need; have := rn.ok.of; show (0 : Int) ≤ r.of; omega), j.2⟩, (by show 0 ≤ (if capR r < t + 1 then capR r else t + 1); omega), fun _ _ _ e => (nomatch e), fun l t' e => ?_⟩
  cases e
  exact ⟨time_ge rn.ok j.1, time_le _⟩
theorem takeW_of {r : RuleD} (rn : RuleN r) {w : List Bool} {f : Bool} (h : (w.length : Int) ≤ r.of) : ((takeW r.of w f).length : Int) ≤ r.of := by
  have := rn.ok.need
  have := rn.ok.of
  unfold takeW
  rw [List.length_drop, List.length_append]
  show ((w.length + 1 - (w.length + 1 - r.of.toNat) : Nat) : Int) ≤ r.of
  omega
theorem stB_inn {r : RuleD} {w : List Bool} {t c : Int} (h : (w.length : Int) ≤ r.of) (t0 : 0 ≤ t) (t1 : t ≤ capR r) (c0 : 0 ≤ c) (c1 : c = 0 ∨ c < r.calm) : StB r (.inn w t c) :=
  ⟨⟨h, t1⟩, t0, fun _ _ _ e => by cases e; exact ⟨c0, c1⟩, fun _ _ e => by cases e⟩
theorem stB_try {r : RuleD} (rn : RuleN r) {w : List Bool} {t c : Int} (h : StB r (.inn w t c)) (room : Bool) : StB r (tryI r w t c room).1 := by
  unfold tryI
  cases room
  · exact h
  · exact stB_out rn h.t0
theorem stB_fault {r : RuleD} (rn : RuleN r) {w : List Bool} {t c : Int} (h : StB r (.inn w t c)) (room : Bool) : StB r (faultI r w t room).1 := by
  have k : StB r (.inn (takeW r.of w true) t 0) := stB_inn (takeW_of rn h.ok.len) h.t0 h.ok.tm (Int.le_refl 0) (.inl rfl)
  unfold faultI
  split
  · exact k
  · exact stB_try rn k room
theorem cnt_of {r : RuleD} (rn : RuleN r) : ((List.replicate (cntR r).toNat true).length : Int) ≤ r.of := by
  have n1 := rn.ok.need
  have n2 := rn.ok.of
  rw [List.length_replicate]
  unfold cntR
  split <;> omega
theorem stB_step {r : RuleD} (rn : RuleN r) {st : St} (h : StB r st) (wd : Wd) (full : Bool) : StB r (stepS r st wd full).1 := by
  have cp := capR_pos rn.ok
  have sit : ∀ l t, st = .out l t → StB r (sitO r l t) := by
    rintro l t rfl
    have ⟨l1, l2⟩ := h.l0 l t rfl
    have t1 : t ≤ capR r := h.ok.tm
    have t0 : 0 ≤ t := h.t0
    have z : (0 : Int) ≤ r.of := by have := rn.ok.need; have := rn.ok.of; omega
    unfold sitO
    split
    · exact ⟨⟨z, t1⟩, t0, fun _ _ _ e => (nomatch e), fun l' t' e => by cases e; exact ⟨by omega, by omega⟩⟩
    · split
      · exact ⟨⟨z, t1⟩, t0, fun _ _ _ e => (nomatch e), fun _ _ e => (nomatch e)⟩
      · exact stB_inn (cnt_of rn) t0 t1 (Int.le_refl 0) (.inl rfl)
  generalize hroom : roomR r full = room
  show StB r (moveS r st wd (roomR r full)).1
  rw [hroom]
  cases wd with
  | told =>
    show StB r (hearS r st room).1
    cases st with
    | out l t => exact h
    | tri t => exact h
    | inn w t c =>
      show StB r (if r.hears = "no" then (St.inn w t c, false) else if r.hears = "fault" then faultI r w t room else tryI r w t c room).1
      split
      · exact h
      · split
        · exact stB_fault rn h room
        · exact stB_try rn h room
  | ok =>
    cases st with
    | out l t => exact sit l t rfl
    | tri t => exact stB_inn (by have := rn.ok.need; have := rn.ok.of; show (0 : Int) ≤ r.of; omega) h.t0 h.ok.tm (Int.le_refl 0) (.inl rfl)
    | inn w t c =>
      show StB r (okI r w t c)
      have ⟨c1, c2⟩ := h.c0 w t c rfl
      have t1 : t ≤ capR r := h.ok.tm
      have t0 : 0 ≤ t := h.t0
      have wl := takeW_of (f := false) rn h.ok.len
      unfold okI
      split
      · exact stB_inn wl t0 t1 (Int.le_refl 0) (.inl rfl)
      · split
        · exact stB_inn wl (Int.le_refl 0) (by omega) (Int.le_refl 0) (.inl rfl)
        · rename_i h1 h2
          have c3 := rn.ok.calm
          refine stB_inn wl t0 t1 (by omega) (.inr ?_)
          have h3 : r.calm ≠ 0 := fun z => h1 (.inr z)
          omega
  | fault =>
    cases st with
    | out l t => exact sit l t rfl
    | tri t => exact stB_out rn h.t0
    | inn w t c => exact stB_fault rn h room
theorem stB_begun {r : RuleD} (rn : RuleN r) : StB r (.inn [] 0 0) := stB_inn (by have := rn.ok.need; have := rn.ok.of; show (0 : Int) ≤ r.of; omega) (Int.le_refl 0) (by have := capR_pos rn.ok; omega) (Int.le_refl 0) (.inl rfl)
theorem what_gd {r : RuleD} {st : St} {wd : Wd} {full : Bool} : Gd 0 10 (.str (stepS r st wd full).2) := by
  have all : ∀ s ∈ (["told", "missed", "skip", "ok", "felt"] : List Str), (PyData.canLay0 (.str s) && decide ((PyData.shown (.str s)).length ≤ 10)) = true := by decide +kernel
  refine gd_str (all _ ?_)
  show (moveS r st wd (roomR r full)).2.1 ∈ _
  cases wd <;> cases st <;> simp [moveS]
theorem gd_pair {r : RuleD} {st : St} (rn : RuleN r) (h : StB r st) (wd : Wd) (full : Bool) : Gd 3 9807 (pairS (stepS r st wd full)) := by
  refine (gd_tup (n := 2) (L := 4900) (m := 2) (fun x hx => ?_) (by show 2 ≤ 2; decide)).up (by decide) (by decide)
  simp only [List.mem_cons, List.not_mem_nil, or_false] at hx
  rcases hx with rfl | rfl
  · exact gd_st rn (stB_step rn h wd full)
  · exact what_gd.up (by decide) (by decide)
theorem Gd.shaped {n L : Nat} {d : PyData} (h : Gd n L d) (hn : n ≤ 64) : SeqAt.shaped d = true := by
  unfold SeqAt.shaped
  rw [h.cl, decide_eq_true (Nat.le_trans h.dp hn)]
  rfl
section
variable {K : PySem.W.Frag} {σ : L2.St} {H : Hp} {te : TE}
theorem ev_reprT {ds : List PyData} {n L : Nat} (h : EvD K te σ H (.tuple ds)) (g : Gd n L (.tuple ds)) (hn : n ≤ 64) (hL : L ≤ 100000) : Ev (tCB (rRepr K) (tCons te tNil)) σ H (.str (PyData.tuple ds).shown) := fun H1 e _ q =>
  h H1 e _ fun v H2 e2 hd => by
    obtain ⟨p, vs, rfl, _, _⟩ := dp_tup hd
    exact ⟨p, _, rfl, hd, g.sh, g.nd, Nat.le_trans g.dp hn, Nat.le_trans g.ln hL, q H2 e2⟩
end
/-! ### without one list -/
def cutH (b : Addr) (H : Hp) : Hp := fun x => if x = b then none else H x
theorem cut_ex (b : Addr) (H : Hp) : Ex (cutH b H) H := fun x o e => by
  unfold cutH at e
  by_cases h : x = b
  · rw [if_pos h] at e; cases e
  · rw [if_neg h] at e; exact e
theorem cut_none (b : Addr) (H : Hp) : cutH b H b = none := if_pos rfl
theorem cut_of {b : Addr} {Kn H : Hp} (e : Ex Kn H) (n : Kn b = none) : Ex Kn (cutH b H) := fun x o h => by
  have : x ≠ b := fun z => by subst z; rw [n] at h; cases h
  unfold cutH
  rw [if_neg this]
  exact e x o h
mutual
def tupOnly : PyData → Bool
  | .list _ => false
  | .dict _ => false
  | .tuple ds => tupOnlyAll ds
  | _ => true
def tupOnlyAll : List PyData → Bool
  | [] => true
  | d :: ds => tupOnly d && tupOnlyAll ds
end
theorem dp_cut {K : PySem.W.Frag} {H : Hp} {b : Addr} {l : List V} (hb : H b = some (.lst l)) {v : V} {d : PyData} (h : Dp K H v d) : tupOnly d = true → Dp K (cutH b H) v d :=
  Dp.rec (motive_1 := fun v d _ => tupOnly d = true → Dp K (cutH b H) v d) (motive_2 := fun vs ds _ => tupOnlyAll ds = true → DpAll K (cutH b H) vs ds) (fun _ => .non) (fun b _ => .bl b) (fun i _ => .int i) (fun s _ => .str s)
    (fun _ _ _ z => by cases z) (fun {a xs ds} hs _ ih z => .tup (by
      rcases hs with (h | ⟨o, h⟩) | h
      · refine .inl (.inl ?_)
        unfold cutH
        rw [if_neg (fun e => by subst e; rw [hb] at h; cases h)]
        exact h
      · refine .inl (.inr ⟨o, ?_⟩)
        unfold cutH
        rw [if_neg (fun e => by subst e; rw [hb] at h; cases h)]
        exact h
      · exact .inr h) (ih z)) (fun _ => .nil) (fun _ _ p q z => by
      obtain ⟨z1, z2⟩ := Bool.and_eq_true_iff.mp z
      exact .cons (p z1) (q z2)) h
theorem tup_bools : ∀ w : List Bool, tupOnlyAll (w.map .bool) = true
  | [] => rfl
  | b :: w => by
    show (tupOnly (.bool b) && tupOnlyAll (w.map .bool)) = true
    rw [tup_bools w]
    rfl
theorem tup_st (st : St) : tupOnly st.data = true := by
  cases st with
  | inn w t c =>
    show (true && (tupOnlyAll (w.map .bool) && (true && (true && true)))) = true
    rw [tup_bools]
    rfl
  | out l t => rfl
  | tri t => rfl
theorem Ib.cut {b : Addr} {Kn H : Hp} (h : Ib b Kn H) : Ib b (cutH b H) H := ⟨cut_ex b H, cut_none b H, h.bk⟩

section
variable {P : Program} {w : World} {K : PySem.W.Frag} {mg : Str → Option Value} {base : Heap} {CR aB aH : Addr}
def lets : List V := [.str "fault", .str "fault full", .str "ok", .str "told", .str "told full"]
theorem lets_of {v : V} (h : v ∈ lets) : ∃ wd full, v = .str (letterOf wd full) := by
  unfold lets at h
  simp only [List.mem_cons, List.not_mem_nil, or_false] at h
  rcases h with rfl | rfl | rfl | rfl | rfl
  · exact ⟨.fault, false, rfl⟩
  · exact ⟨.fault, true, rfl⟩
  · exact ⟨.ok, false, rfl⟩
  · exact ⟨.told, false, rfl⟩
  · exact ⟨.told, true, rfl⟩
def spLets (K : PySem.W.Frag) : Sp := fun vs H Q _ => ∃ p : Addr, vs = [.ref p] ∧ SqL K H p [.str "full", .str "told"] ∧ ∀ q H', H q = none → Ex H H' → H' q = some (.lst lets) → Q (.ref q) H'
theorem el_if1 {σ : L2.St} {H : Hp} {t : TT} {ta tb : TE} {xs : List V} (h : EvT t σ H true) (h1 : EvL ta σ H xs) : EvL (tIf t ta tb) σ H xs := fun H1 e Q q => h H1 e _ fun H2 e2 => by
  show ta σ H2 Q
  exact h1 H2 (e.trans e2) Q fun p H3 np e3 hp => q p H3 (fresh_back e2 np) (e2.trans e3) hp
theorem ok_lets {f : Addr} {fd : FuncData} (D : C8.Def K mg "_law_letters" st_law_letters f fd) (b : Binds K fd ["_law_free"] []) : C8.Cal P w K mg base 2 "_law_letters" (spLets K) [] := by
  refine C8.cal0 D b .nil sc_law_letters (fun vs H Q E h => ?_) (fun cdv A outer s H vs Q E hr h => ?_)
  · obtain ⟨_, rfl, _⟩ := h
    rfl
  · obtain ⟨p, rfl, hp, k⟩ := h
    refine ⟨_, pss_cons (ps_set (i := 1) sc_law_letters.nd rfl (Or.inl rfl) (pe_op op_cat (pe_op op_cat (pe_lst (pa_cons (pe_str) (pa_nil))) (pe_ifExp (pt_cmpR (op_in_seq) (pe_str) (pv 0) (by rfl)) (pe_lst (pa_cons (pe_str) (pa_nil))) (pe_lst (pa_nil)))) (pe_lst (pa_cons (pe_str) (pa_nil)))))
      (pss_cons (ps_if (pt_cmpR (op_in_seq) (pe_str) (pv 0) (by rfl)) (pss_one (ps_set (i := 1) sc_law_letters.nd rfl (Or.inl rfl) (pe_op op_cat (pe_op op_cat (pv 1) (pe_lst (pa_cons (pe_str) (pa_nil)))) (pe_ifExp (pt_cmpR (op_in_seq) (pe_str) (pv 0) (by rfl)) (pe_lst (pa_cons (pe_str) (pa_nil))) (pe_lst (pa_nil)))))) (pss_nil))
      (pss_one (ps_ret (pv 1)))), ?_⟩
    have i1 : inV (.str "full") [.str "full", .str "told"] = true := by decide +kernel
    have i2 : inV (.str "told") [.str "full", .str "told"] = true := by decide +kernel
    refine q_asgL (xs := [.str "fault", .str "fault full", .str "ok"]) (el_cat (el_cat (el_lst (ea_cons ev_c ea_nil) (by show 1 ≤ 100000; decide)) (el_if1 (et_is (et_test (ev_op ev_c (ev_var rfl) (rv_isL hp rfl rfl))) i1) (el_lst (ea_cons ev_c ea_nil) (by show 1 ≤ 100000; decide))) (by show 2 ≤ 100000; decide)) (el_lst (ea_cons ev_c ea_nil) (by show 1 ≤ 100000; decide)) (by show 3 ≤ 100000; decide)) fun p1 H1 np1 e1 h1 => ?_
    refine y_yes (et_is (et_test (ev_op ev_c (ev_var rfl) (rv_isL (ex_l e1 hp) rfl rfl))) i2) fun H2 e2 => ?_
    refine s_asgL (xs := lets) (el_cat (el_catV (ev_var rfl) (e2 _ _ h1) (el_lst (ea_cons ev_c ea_nil) (by show 1 ≤ 100000; decide)) (by show 4 ≤ 100000; decide)) (el_if1 (et_is (et_test (ev_op ev_c (ev_var rfl) (rv_isL (ex_l (e1.trans e2) hp) rfl rfl))) i1) (el_lst (ea_cons ev_c ea_nil) (by show 1 ≤ 100000; decide))) (by show 5 ≤ 100000; decide)) fun p2 H3 np2 e3 h2 => ?_
    exact s_ret (ev_var rfl) fun H4 e4 => k p2 H4 (fresh_back (e1.trans e2) np2) (e1.trans (e2.trans (e3.trans e4))) (e4 _ _ h2)
theorem x_if {t : TT} {ta tb : TE} {σ : L2.St} {H : Hp} {Q : VK} (h : t σ H fun b H1 => if b = true then ta σ H1 Q else tb σ H1 Q) : tIf t ta tb σ H Q := h
theorem x_asgC {te : TE} {tz : TS} {D : Ends} {σ : L2.St} {H : Hp} {i : Nat} (C : V → Hp → Prop) (rest : ∀ v H', C v H' → tz D (σ.set i (some v)) H') (h : (∀ v H', C v H' → tz D (σ.set i (some v)) H') → te σ H fun v H1 => tz D (σ.set i (some v)) H1) : tSeq (tAsg te (gName i)) tz D σ H := h rest
theorem s_forR1' {ta : TA} {tu : TS} {D : Ends} {σ : L2.St} {H : Hp} {j : Nat} {n : Int} (h : EvA ta σ H [.int n]) (hn : 0 ≤ n ∧ n ≤ 100000) (Pv : Nat → L2.St → Hp → Prop) (h0 : ∀ H1, Ex H H1 → Pv 0 σ H1)
    (hs : ∀ (i : Nat) σ' H', (i : Int) < n → Pv i σ' H' → tu { D with nx := Pv (i + 1), ct := Pv (i + 1), bk := D.nx } (σ'.set j (some (.int (i : Int)))) H') (hd : ∀ σ' H', Pv n.toNat σ' H' → D.nx σ' H') : tFor (iRng1 ta) (gName j) tu D σ H := s_forR1 h hn Pv h0 hs hd
theorem body_law {f a : Addr} {cdv : Value} {ns : List Int} (T : Tb K mg CR aB aH) (hn : ns.length ≤ 63) (c_law_box : C8.Cal P w K mg base 2 "_law_box" (spBox K) []) (c_law_take : C8.Cal P w K mg base 2 "_law_take" spTake []) (c_law_pick : C8.Cal P w K mg base 3 "_law_pick" (spPickB K) [])
    (c_law_rule : C8.Cal P w K mg base 4 "_law_rule" (spRuleB K) []) (c_law_rule_of : C8.Cal P w K mg base 7 "_law_rule_of" (spN (rRuleOf CR)) []) (c_begun : C8.Cal P w K mg base 2 "begun" (spD K rBegun) []) (c_law_letters : C8.Cal P w K mg base 2 "_law_letters" (spLets K) [])
    (c_law_step : C8.Cal P w K mg base 7 "_law_step" (spD K (rStepB K)) []) (c_step : C8.Cal P w K mg base 8 "step" (spD K (rStep K CR)) []) :
    BodyAt P w K mg base 9 f a "law" (C8.fnBody st_law) (C8.fnScope st_law) cdv ["_law_script", "_law_k", "_law_box_here", "_law_turn_here", "_law_rule_here", "_law_made", "_law_here", "_law_every", "_law_faults", "_law_more", "_law_letter", "_law_due"] ns := by
  intro s H0 hr hs
  refine ⟨_, pss_cons (ps_for PassesOwn.never rfl (pi_range1 (by rfl) T.bi_range (pa_cons (pe_callB (call_max2 rfl) (by rfl) T.bi_max boot_max (pa_cons (pe_int) (pa_cons (pe_callB (call_min2 rfl) (by rfl) T.bi_min boot_min (pa_cons (pe_int) (pa_cons (pe_callB call_len_seq (by rfl) T.bi_len boot_len (pa_cons (pv 0) (pa_nil))) (pa_nil)))) (pa_nil)))) (pa_nil))) (pg_name (i := 1) sc_law.nd rfl (Or.inl rfl)) (pss_cons (ps_set (i := 2) sc_law.nd rfl (Or.inl rfl) (C8.pe_c c_law_box hr (by decide) (by rfl) (pa_cons (pv 0) (pa_cons (pv 1) (pa_nil)))))
        (pss_one (ps_for PassesOwn.never rfl (pi_range1 (by rfl) T.bi_range (pa_cons (pe_int) (pa_nil))) (pg_name (i := 3) sc_law.nd rfl (Or.inl rfl)) (pss_cons (ps_set (i := 4) sc_law.nd rfl (Or.inl rfl) (C8.pe_c c_law_rule hr (by decide) (by rfl) (pa_cons (pv 2) (pa_cons (pe_int) (pa_cons (pe_int) (pa_cons (pe_int) (pa_nil)))))))
          (pss_cons (ps_par (by rfl) sc_law.nd (i := 5) (j := 6) rfl rfl (by decide) rfl rfl (pa_cons (C8.pe_c c_law_rule_of hr (by decide) (by rfl) (pa_cons (pv 4) (pa_nil))) (pa_cons (pe_c0 c_begun hr (by decide) (by rfl)) pa_nil)) (by rfl))
          (pss_cons (ps_if (pt_cmpR (op_ne) (pe_callB (cr_repr rfl hr) (by rfl) T.bi_repr boot_repr (pa_cons (pv 6) (pa_nil))) (pe_callB (cr_repr rfl hr) (by rfl) T.bi_repr boot_repr (pa_cons (pe_tup (pa_cons (pe_str) (pa_cons (pe_tup (pa_nil)) (pa_cons (pe_int) (pa_cons (pe_int) (pa_nil)))))) (pa_nil))) (nomark _)) (pss_one (ps_ret (pe_bl))) (pss_nil))
          (pss_cons (ps_par (by rfl) sc_law.nd (i := 7) (j := 8) rfl rfl (by decide) rfl rfl (pa_cons (C8.pe_c c_law_letters hr (by decide) (by rfl) (pa_cons (pe_lst (pa_cons (pe_str) (pa_cons (pe_str) (pa_nil)))) (pa_nil))) (pa_cons (pe_op op_add (pe_int) (C8.pe_c c_law_take hr (by decide) (by rfl) (pa_cons (pv 2) (pa_cons (pe_int) (pa_nil))))) pa_nil)) (by rfl))
          (pss_one (ps_for PassesOwn.never rfl (pi_range1 (by rfl) T.bi_range (pa_cons (pe_int) (pa_nil))) (pg_name (i := 9) sc_law.nd rfl (Or.inl rfl)) (pss_cons (ps_set (i := 10) sc_law.nd rfl (Or.inl rfl) (pe_ifExp (pt_cmpR (op_lt) (C8.pe_c c_law_take hr (by decide) (by rfl) (pa_cons (pv 2) (pa_cons (pe_int) (pa_nil)))) (pv 8) (nomark _)) (pe_str) (C8.pe_c c_law_pick hr (by decide) (by rfl) (pa_cons (pv 2) (pa_cons (pv 7) (pa_nil))))))
            (pss_cons (ps_set (i := 11) sc_law.nd rfl (Or.inl rfl) (C8.pe_c c_law_step hr (by decide) (by rfl) (pa_cons (pv 4) (pa_cons (pv 6) (pa_cons (pv 10) (pa_nil))))))
            (pss_cons (ps_if (PW.pt (pw_or (pt_cmpR (op_ne) (pe_callB (cr_repr rfl hr) (by rfl) T.bi_repr boot_repr (pa_cons (C8.pe_c c_step hr (by decide) (by rfl) (pa_cons (pv 5) (pa_cons (pv 6) (pa_cons (pv 10) (pa_nil))))) (pa_nil))) (pe_callB (cr_repr rfl hr) (by rfl) T.bi_repr boot_repr (pa_cons (pv 11) (pa_nil))) (nomark _)) (pw_or1 (pt_cmpR (op_neD hr.units) (C8.pe_c c_step hr (by decide) (by rfl) (pa_cons (pv 5) (pa_cons (pv 6) (pa_cons (pv 10) (pa_nil))))) (pv 11) (nomark _))))) (pss_one (ps_ret (pe_bl))) (pss_nil))
            (pss_one (ps_set (i := 6) sc_law.nd rfl (Or.inl rfl) (pe_ix ix_tup (pv 11) (pe_int) (fun _ _ => rfl)))))))))))))))))
      (pss_one (ps_ret (pe_bl))), ?_⟩
  have tl : ∀ {H' : Hp} {σ : L2.St}, σ[0]? = some (some (.ref a)) → Ex H0 H' → Ev (tCB (fun xs H Q => ∃ p ys, xs = [V.ref p] ∧ (SqL K H p ys ∨ SqT K H p ys) ∧ Q (.int ys.length) H) (tCons (tVar 0) tNil)) σ H' (.int (ns.length : Int)) := by
    intro H' σ h0 e
    have h := ev_cb (ea_cons (ev_var (σ := σ) (i := 0) h0) ea_nil) (rc_lenL (K := K) (ex_l e hs))
    rw [List.length_map] at h
    exact h
  refine q_forR1 (n := if (if (ns.length : Int) < 3 then (ns.length : Int) else 3) > 1 then (if (ns.length : Int) < 3 then (ns.length : Int) else 3) else 1) (ea_cons (ev_cb (ea_cons ev_c (ea_cons (ev_cb (ea_cons ev_c (ea_cons (tl rfl (Ex.refl H0)) ea_nil)) rc_min) ea_nil)) rc_max) ea_nil) (by split <;> split <;> omega)
    (fun i σ' H' => ∃ (x1 x2 x3 x4 x5 x6 x7 x8 x9 x10 x11 : Option V), σ' = [some (.ref a), x1, x2, x3, x4, x5, x6, x7, x8, x9, x10, x11] ∧ Ex H0 H') (fun H2 e => ⟨_, _, _, _, _, _, _, _, _, _, _, rfl, e⟩) ?_ ?_
  · rintro i σ' H1 hi ⟨x1, x2, x3, x4, x5, x6, x7, x8, x9, x10, x11, rfl, e1⟩
    refine x_asg (x_call ((ea_cons (ev_var rfl) (ea_cons (ev_var rfl) ea_nil)) H1 (Ex.refl H1) _ fun H2 e2 => ⟨a, i, ns, rfl, ex_l (e1.trans e2) hs, hn, fun b H3 nb e3 hb => ?_⟩))
    have I : Ib b H2 H3 := ⟨e3, nb, hb⟩
    have e02 := e1.trans e2
    refine s_forR1' (ea_cons ev_c ea_nil) (by decide) (fun i' σ' H' => ∃ (x3 x4 x5 x6 x7 x8 x9 x10 x11 : Option V), σ' = [some (.ref a), some (.int (i : Int)), some (.ref b), x3, x4, x5, x6, x7, x8, x9, x10, x11] ∧ Ib b H2 H') (fun H4 e => ⟨_, _, _, _, _, _, _, _, _, rfl, I.to e⟩) ?_ ?_
    · rintro i' σ' H4 hi' ⟨x3, x4, x5, x6, x7, x8, x9, x10, x11, rfl, I⟩
      refine x_asg (x_call ((ea_cons (ev_var rfl) (ea_cons ev_c (ea_cons ev_c (ea_cons ev_c ea_nil)))) H4 (Ex.refl H4) _ fun H5 e5 => ⟨b, 4, 9, 6, H2, rfl, (by decide), I.to e5, fun r D kvs K1 H6 rn b1 b2 b3 b4 dr eK1 hD I => ?_⟩))
      refine x_par (I.evN (evN_call mono_ruleOf (ea_cons (ev_var rfl) ea_nil) ⟨D, kvs, r, rfl, hD, dr, rn, rfl⟩) fun q K2 H7 o eK2 hq ho I => ?_)
      obtain ⟨dx, rfl⟩ := id ho
      refine (evd_call mono_begun ea_nil ⟨rfl, rfl⟩) H7 (Ex.refl H7) _ fun v H8 e8 hv => ?_
      have I := I.to e8
      obtain ⟨bx, by', bz, hbb⟩ := I.bk
      have hv := dp_cut hbb hv (tup_st _)
      have eK3 : Ex K2 (cutH b H8) := cut_of I.ex I.bn
      have I := I.cut
      have hD : DIn (cutH b H8) D r := ⟨rn, kvs, eK3 _ _ (eK2 _ _ hD), dr⟩
      have hq : RIn CR (cutH b H8) q r := ⟨rn, dx, eK3 _ _ hq⟩
      have eH : Ex H2 (cutH b H8) := eK1.trans (eK2.trans eK3)
      generalize cutH b H8 = K3 at *
      have g0 := gd_st rn (stB_begun rn)
      refine g_no (mdB b K3) I (et_is (et_test (ev_op (ev_reprT (K := K) (evd_of (ev_var rfl) hv) g0 (by decide) (by decide)) (ev_reprT (K := K) (evd_tup (ead_cons (evd_str ev_c) (ead_cons (evd_tup ead_nil (by decide)) (ead_cons (evd_int ev_c) (ead_cons (evd_int ev_c) ead_nil)))) (by show 4 ≤ 1000; decide)) g0 (by decide) (by decide)) (rv_ne rfl))) (by simp)) fun H9 I => ?_
      refine x_par (x_call (x_cons (I.evL (el_lst (ea_cons ev_c (ea_cons ev_c ea_nil)) (by show 2 ≤ 100000; decide)) fun pf K4 HA eK4 hpf I => x_nil ⟨pf, rfl, sq_of (I.ex _ _ hpf), fun pe HB npe eB hpe => ?_⟩)))
      obtain ⟨I, eK5⟩ := I.new npe eB hpe
      have hpe : (upd K4 pe (.lst lets)) pe = some (.lst lets) := upd_same
      have eH := eH.trans (eK4.trans eK5)
      have hD := (hD.up eK4).up eK5
      have hq := (hq.up eK4).up eK5
      have hv := dp_up (eK4.trans eK5) hv
      generalize upd K4 pe (.lst lets) = K5 at *
      refine x_op (I.ev ev_c fun _ I => x_take I (by decide) (by decide) (ea_cons (ev_var rfl) (ea_cons ev_c ea_nil)) fun fa HC fa0 fa1 I => x_add ?_)
      refine s_forR1' (ea_cons ev_c ea_nil) (by decide) (fun i2 σ' H' => ∃ (Kn : Hp) (st : St) (v : V) (x9 x10 x11 : Option V), σ' = [some (.ref a), some (.int (i : Int)), some (.ref b), some (.int (i' : Int)), some (.ref D), some (.ref q), some v, some (.ref pe), some (.int (1 + fa)), x9, x10, x11] ∧ Ex H2 Kn ∧ Ib b Kn H' ∧ DIn Kn D r ∧ RIn CR Kn q r ∧ Kn pe = some (.lst lets) ∧ Dp K Kn v st.data ∧ StB r st)
        (fun HD e => ⟨K5, _, v, _, _, _, rfl, eH, I.to e, hD, hq, hpe, hv, stB_begun rn⟩) ?_ ?_
      · rintro i2 σ' HD hi2 ⟨Kn, st, v, x9, x10, x11, rfl, eH, I, hD, hq, hpe, hv, sb⟩
        refine x_asgC (fun x H' => ∃ wd full, x = .str (letterOf wd full) ∧ Ib b Kn H') ?_ fun rest => ?_
        · rintro _ HE ⟨wd, full, rfl, I⟩
          show tSeq _ _ _ [some (.ref a), some (.int (i : Int)), some (.ref b), some (.int (i' : Int)), some (.ref D), some (.ref q), some v, some (.ref pe), some (.int (1 + fa)), some (.int (i2 : Int)), some (.str (letterOf wd full)), x11] HE
          have gp := gd_pair rn sb wd full
          refine x_asg (evd_call mono_stepB (ea_cons (ev_var rfl) (ea_cons (ev_var rfl) (ea_cons (ev_var rfl) ea_nil))) ⟨D, v, r, st, wd, full, rfl, hD.up I.ex, dp_up I.ex hv, sb.ok, rfl⟩ HE (Ex.refl HE) _ fun v2 HF eF hv2 => ?_)
          have I := I.to eF
          have es : ∀ {σ : L2.St} {H' : Hp}, σ[5]? = some (some (.ref q)) → σ[6]? = some (some v) → σ[10]? = some (some (.str (letterOf wd full))) → Ex HF H' → EvD K (tCall (spD K (rStep K CR)) [] C8.E0 (tCons (tVar 5) (tCons (tVar 6) (tCons (tVar 10) tNil)))) σ H' (pairS (stepS r st wd full)) := fun h5 h6 h10 e =>
            evd_call mono_step (ea_cons (ev_var h5) (ea_cons (ev_var h6) (ea_cons (ev_var h10) ea_nil))) ⟨q, v, r, st, wd, full, rfl, hq.up (I.ex.trans e), dp_up (I.ex.trans e) hv, sb.ok.l100 rn, rfl⟩
          refine y_no (et_is (et_or2 (et_test (ev_op (ev_reprT (es rfl rfl rfl (Ex.refl HF)) gp (by decide) (by decide)) (ev_reprT (K := K) (evd_of (ev_var rfl) hv2) gp (by decide) (by decide)) (rv_ne rfl)))
            (et_test (ev_neDD (es rfl rfl rfl (Ex.refl HF)) (evd_of (ev_var rfl) hv2) (gp.shaped (by decide)) (gp.shaped (by decide))))) (by
              rw [SeqAt.eqv_refl _ (SeqAt.canLay_of_shaped (gp.shaped (by decide)))]
              simp)) fun HG eG => ?_
          have I := I.to eG
          have hv2 := dp_up eG hv2
          obtain ⟨p2, v1, rfl, hp2, h1⟩ := pairS_of hv2
          refine s_asg (ev_op (ev_var rfl) ev_c (rv_ixT hp2 (v := v1) rfl)) fun HI eI => ?_
          have I := I.to eI
          have h1 := dp_up eI h1
          obtain ⟨bx, by', bz, hbb⟩ := I.bk
          have h1 := dp_cut hbb h1 (tup_st _)
          have eC : Ex Kn (cutH b HI) := cut_of I.ex I.bn
          exact ⟨cutH b HI, _, v1, _, _, _, rfl, eH.trans eC, I.cut, hD.up eC, hq.up eC, eC _ _ hpe, h1, stB_step rn sb wd full⟩
        · refine x_if (x_test (x_op (x_take I (by decide) (by decide) (ea_cons (ev_var rfl) (ea_cons ev_c ea_nil)) fun z HE z0 z1 I => ⟨_, rfl, _, _, rfl, rfl, _, rfl, ?_⟩)))
          cases hz : decide (z < 1 + fa) with
          | true => exact rest _ _ ⟨.fault, false, rfl, I⟩
          | false =>
            refine iteF ?_
            refine x_call (x_cons (I.ev (ev_var rfl) fun HF I => x_cons (I.ev (ev_var rfl) fun HF I => x_nil ⟨b, pe, lets, Kn, rfl, sq_of hpe, by show 0 < 5; decide, by show 5 < 1000000; decide, I, fun x HG hx I => ?_⟩)))
            obtain ⟨wd, full, rfl⟩ := lets_of hx
            exact rest _ _ ⟨wd, full, rfl, I⟩
      · rintro σ' HD ⟨Kn, st, v, x9, x10, x11, rfl, eH, I, hD, hq, hpe, hv, sb⟩
        exact ⟨_, _, _, _, _, _, _, _, _, rfl, I.less eH⟩
    · rintro σ' H4 ⟨x3, x4, x5, x6, x7, x8, x9, x10, x11, rfl, I⟩
      exact ⟨_, _, _, _, _, _, _, _, _, _, _, rfl, e02.trans I.ex⟩
  · rintro σ' H1 ⟨x1, x2, x3, x4, x5, x6, x7, x8, x9, x10, x11, rfl, e1⟩
    exact s_ret ev_c fun H2 e2 => rfl
end

/-! ### what the top has written, the head -/
theorem all_mk {l : PySem.W.OpenLaw} {w : World} {K : PySem.W.Frag} {h : Heap} {mg : Str → Option Value} {fa : Addr} (X : K.In h) (G : h.Ns mainGlobals mg) (hfa : mg "law" = some (.ref fa))
    {f_is_integer : Addr} {od_is_integer an_is_integer : Option Addr} {sl_is_integer : Array (Option Value)} {oc_is_integer kV_is_integer dc_is_integer pm_is_integer cd_is_integer ct_is_integer : Value}
    {f_is_from : Addr} {od_is_from an_is_from : Option Addr} {sl_is_from : Array (Option Value)} {oc_is_from kV_is_from dc_is_from pm_is_from cd_is_from ct_is_from : Value}
    {f_wrong_count : Addr} {od_wrong_count an_wrong_count : Option Addr} {sl_wrong_count : Array (Option Value)} {oc_wrong_count kV_wrong_count dc_wrong_count pm_wrong_count cd_wrong_count ct_wrong_count : Value}
    {f_wrong_manner : Addr} {od_wrong_manner an_wrong_manner : Option Addr} {sl_wrong_manner : Array (Option Value)} {oc_wrong_manner kV_wrong_manner dc_wrong_manner pm_wrong_manner cd_wrong_manner ct_wrong_manner : Value}
    {f_least_last : Addr} {od_least_last an_least_last : Option Addr} {sl_least_last : Array (Option Value)} {oc_least_last kV_least_last dc_least_last pm_least_last cd_least_last ct_least_last : Value}
    {f_side : Addr} {od_side an_side : Option Addr} {sl_side : Array (Option Value)} {oc_side kV_side dc_side pm_side cd_side ct_side : Value}
    {f_read_number : Addr} {od_read_number an_read_number : Option Addr} {sl_read_number : Array (Option Value)} {oc_read_number kV_read_number dc_read_number pm_read_number cd_read_number ct_read_number : Value}
    {f_free_words : Addr} {od_free_words an_free_words : Option Addr} {sl_free_words : Array (Option Value)} {oc_free_words kV_free_words dc_free_words pm_free_words cd_free_words ct_free_words : Value}
    {f_taken : Addr} {od_taken an_taken : Option Addr} {sl_taken : Array (Option Value)} {oc_taken kV_taken dc_taken pm_taken cd_taken ct_taken : Value}
    {f_leave_out : Addr} {od_leave_out an_leave_out : Option Addr} {sl_leave_out : Array (Option Value)} {oc_leave_out kV_leave_out dc_leave_out pm_leave_out cd_leave_out ct_leave_out : Value}
    {f_try : Addr} {od_try an_try : Option Addr} {sl_try : Array (Option Value)} {oc_try kV_try dc_try pm_try cd_try ct_try : Value}
    {f_take_fault : Addr} {od_take_fault an_take_fault : Option Addr} {sl_take_fault : Array (Option Value)} {oc_take_fault kV_take_fault dc_take_fault pm_take_fault cd_take_fault ct_take_fault : Value}
    {f_take_ok : Addr} {od_take_ok an_take_ok : Option Addr} {sl_take_ok : Array (Option Value)} {oc_take_ok kV_take_ok dc_take_ok pm_take_ok cd_take_ok ct_take_ok : Value}
    {f_sit : Addr} {od_sit an_sit : Option Addr} {sl_sit : Array (Option Value)} {oc_sit kV_sit dc_sit pm_sit cd_sit ct_sit : Value}
    {f_hear : Addr} {od_hear an_hear : Option Addr} {sl_hear : Array (Option Value)} {oc_hear kV_hear dc_hear pm_hear cd_hear ct_hear : Value}
    {f_begun : Addr} {od_begun an_begun : Option Addr} {sl_begun : Array (Option Value)} {oc_begun kV_begun dc_begun pm_begun cd_begun ct_begun : Value}
    {f_move : Addr} {od_move an_move : Option Addr} {sl_move : Array (Option Value)} {oc_move kV_move dc_move pm_move cd_move ct_move : Value}
    {f_step : Addr} {od_step an_step : Option Addr} {sl_step : Array (Option Value)} {oc_step kV_step dc_step pm_step cd_step ct_step : Value}
    {f_law_box : Addr} {od_law_box an_law_box : Option Addr} {sl_law_box : Array (Option Value)} {oc_law_box kV_law_box dc_law_box pm_law_box cd_law_box ct_law_box : Value}
    {f_law_take : Addr} {od_law_take an_law_take : Option Addr} {sl_law_take : Array (Option Value)} {oc_law_take kV_law_take dc_law_take pm_law_take cd_law_take ct_law_take : Value}
    {f_law_pick : Addr} {od_law_pick an_law_pick : Option Addr} {sl_law_pick : Array (Option Value)} {oc_law_pick kV_law_pick dc_law_pick pm_law_pick cd_law_pick ct_law_pick : Value}
    {f_law_rule : Addr} {od_law_rule an_law_rule : Option Addr} {sl_law_rule : Array (Option Value)} {oc_law_rule kV_law_rule dc_law_rule pm_law_rule cd_law_rule ct_law_rule : Value}
    {f_law_rule_text : Addr} {od_law_rule_text an_law_rule_text : Option Addr} {sl_law_rule_text : Array (Option Value)} {oc_law_rule_text kV_law_rule_text dc_law_rule_text pm_law_rule_text cd_law_rule_text ct_law_rule_text : Value}
    {f_law_rule_of : Addr} {od_law_rule_of an_law_rule_of : Option Addr} {sl_law_rule_of : Array (Option Value)} {oc_law_rule_of kV_law_rule_of dc_law_rule_of pm_law_rule_of cd_law_rule_of ct_law_rule_of : Value}
    {f_law_time : Addr} {od_law_time an_law_time : Option Addr} {sl_law_time : Array (Option Value)} {oc_law_time kV_law_time dc_law_time pm_law_time cd_law_time ct_law_time : Value}
    {f_law_cap : Addr} {od_law_cap an_law_cap : Option Addr} {sl_law_cap : Array (Option Value)} {oc_law_cap kV_law_cap dc_law_cap pm_law_cap cd_law_cap ct_law_cap : Value}
    {f_law_out : Addr} {od_law_out an_law_out : Option Addr} {sl_law_out : Array (Option Value)} {oc_law_out kV_law_out dc_law_out pm_law_out cd_law_out ct_law_out : Value}
    {f_law_back : Addr} {od_law_back an_law_back : Option Addr} {sl_law_back : Array (Option Value)} {oc_law_back kV_law_back dc_law_back pm_law_back cd_law_back ct_law_back : Value}
    {f_law_faulted : Addr} {od_law_faulted an_law_faulted : Option Addr} {sl_law_faulted : Array (Option Value)} {oc_law_faulted kV_law_faulted dc_law_faulted pm_law_faulted cd_law_faulted ct_law_faulted : Value}
    {f_law_turn : Addr} {od_law_turn an_law_turn : Option Addr} {sl_law_turn : Array (Option Value)} {oc_law_turn kV_law_turn dc_law_turn pm_law_turn cd_law_turn ct_law_turn : Value}
    {f_law_word : Addr} {od_law_word an_law_word : Option Addr} {sl_law_word : Array (Option Value)} {oc_law_word kV_law_word dc_law_word pm_law_word cd_law_word ct_law_word : Value}
    {f_law_step : Addr} {od_law_step an_law_step : Option Addr} {sl_law_step : Array (Option Value)} {oc_law_step kV_law_step dc_law_step pm_law_step cd_law_step ct_law_step : Value}
    {f_law_letters : Addr} {od_law_letters an_law_letters : Option Addr} {sl_law_letters : Array (Option Value)} {oc_law_letters kV_law_letters dc_law_letters pm_law_letters cd_law_letters ct_law_letters : Value}
    {f_law : Addr} {od_law an_law : Option Addr} {sl_law : Array (Option Value)} {oc_law kV_law dc_law pm_law cd_law ct_law : Value}
    {CR aB aH : Addr} {odB odH : Option Addr} {tB1 tB2 tB3 tH1 tH2 tH3 : Tok} {nB nH : Nat} {slB slH : Array (Option Value)}
    {aF aS : Addr} {odF odS : Option Addr} {tF0 tF2 tF4 tF6 tF8 tF10 tF12 tF14 tF17 tS1 tS2 : Tok} {nF nS : Nat} {slF slS : Array (Option Value)}
    {pc_Rule_read : Addr} {rs_Rule_read : List Value} {f_Rule_read : Addr} {od_Rule_read an_Rule_read : Option Addr} {sl_Rule_read : Array (Option Value)} {oc_Rule_read kV_Rule_read dc_Rule_read pm_Rule_read cd_Rule_read ct_Rule_read : Value}
    {f_Rule___init__ : Addr} {od_Rule___init__ an_Rule___init__ : Option Addr} {sl_Rule___init__ : Array (Option Value)} {oc_Rule___init__ kV_Rule___init__ dc_Rule___init__ pm_Rule___init__ cd_Rule___init__ ct_Rule___init__ : Value}
    {f_Rule_time : Addr} {od_Rule_time an_Rule_time : Option Addr} {sl_Rule_time : Array (Option Value)} {oc_Rule_time kV_Rule_time dc_Rule_time pm_Rule_time cd_Rule_time ct_Rule_time : Value}
    {f_Rule___str__ : Addr} {od_Rule___str__ an_Rule___str__ : Option Addr} {sl_Rule___str__ : Array (Option Value)} {oc_Rule___str__ kV_Rule___str__ dc_Rule___str__ pm_Rule___str__ cd_Rule___str__ ct_Rule___str__ : Value}
    {f_Rule___eq__ : Addr} {od_Rule___eq__ an_Rule___eq__ : Option Addr} {sl_Rule___eq__ : Array (Option Value)} {oc_Rule___eq__ kV_Rule___eq__ dc_Rule___eq__ pm_Rule___eq__ cd_Rule___eq__ ct_Rule___eq__ : Value}
    (a_is_integer : PySem.W.nsIn K mainGlobals "is_integer" = some (some (.ref f_is_integer)))
    (l_is_integer : K.lookup f_is_integer = some ⟨oc_is_integer, od_is_integer, .func (PySem.W.fnOf "is_integer" "is_integer" (C8.fnArgs st_is_integer) (C8.fnBody st_is_integer) (C8.fnScope st_is_integer) .none kV_is_integer dc_is_integer pm_is_integer an_is_integer cd_is_integer ct_is_integer), sl_is_integer⟩)
    (c_is_integer : PySem.W.codeIn K cd_is_integer "is_integer" = true)
    (k_is_integer : PySem.W.keepIn K (.ref f_is_integer) = true)
    (a_is_from : PySem.W.nsIn K mainGlobals "is_from" = some (some (.ref f_is_from)))
    (l_is_from : K.lookup f_is_from = some ⟨oc_is_from, od_is_from, .func (PySem.W.fnOf "is_from" "is_from" (C8.fnArgs st_is_from) (C8.fnBody st_is_from) (C8.fnScope st_is_from) .none kV_is_from dc_is_from pm_is_from an_is_from cd_is_from ct_is_from), sl_is_from⟩)
    (c_is_from : PySem.W.codeIn K cd_is_from "is_from" = true)
    (k_is_from : PySem.W.keepIn K (.ref f_is_from) = true)
    (a_wrong_count : PySem.W.nsIn K mainGlobals "_wrong_count" = some (some (.ref f_wrong_count)))
    (l_wrong_count : K.lookup f_wrong_count = some ⟨oc_wrong_count, od_wrong_count, .func (PySem.W.fnOf "_wrong_count" "_wrong_count" (C8.fnArgs st_wrong_count) (C8.fnBody st_wrong_count) (C8.fnScope st_wrong_count) .none kV_wrong_count dc_wrong_count pm_wrong_count an_wrong_count cd_wrong_count ct_wrong_count), sl_wrong_count⟩)
    (c_wrong_count : PySem.W.codeIn K cd_wrong_count "_wrong_count" = true)
    (k_wrong_count : PySem.W.keepIn K (.ref f_wrong_count) = true)
    (a_wrong_manner : PySem.W.nsIn K mainGlobals "_wrong_manner" = some (some (.ref f_wrong_manner)))
    (l_wrong_manner : K.lookup f_wrong_manner = some ⟨oc_wrong_manner, od_wrong_manner, .func (PySem.W.fnOf "_wrong_manner" "_wrong_manner" (C8.fnArgs st_wrong_manner) (C8.fnBody st_wrong_manner) (C8.fnScope st_wrong_manner) .none kV_wrong_manner dc_wrong_manner pm_wrong_manner an_wrong_manner cd_wrong_manner ct_wrong_manner), sl_wrong_manner⟩)
    (c_wrong_manner : PySem.W.codeIn K cd_wrong_manner "_wrong_manner" = true)
    (k_wrong_manner : PySem.W.keepIn K (.ref f_wrong_manner) = true)
    (a_least_last : PySem.W.nsIn K mainGlobals "_least_last" = some (some (.ref f_least_last)))
    (l_least_last : K.lookup f_least_last = some ⟨oc_least_last, od_least_last, .func (PySem.W.fnOf "_least_last" "_least_last" (C8.fnArgs st_least_last) (C8.fnBody st_least_last) (C8.fnScope st_least_last) .none kV_least_last dc_least_last pm_least_last an_least_last cd_least_last ct_least_last), sl_least_last⟩)
    (c_least_last : PySem.W.codeIn K cd_least_last "_least_last" = true)
    (k_least_last : PySem.W.keepIn K (.ref f_least_last) = true)
    (a_side : PySem.W.nsIn K mainGlobals "_side" = some (some (.ref f_side)))
    (l_side : K.lookup f_side = some ⟨oc_side, od_side, .func (PySem.W.fnOf "_side" "_side" (C8.fnArgs st_side) (C8.fnBody st_side) (C8.fnScope st_side) .none kV_side dc_side pm_side an_side cd_side ct_side), sl_side⟩)
    (c_side : PySem.W.codeIn K cd_side "_side" = true)
    (k_side : PySem.W.keepIn K (.ref f_side) = true)
    (a_read_number : PySem.W.nsIn K mainGlobals "read_number" = some (some (.ref f_read_number)))
    (l_read_number : K.lookup f_read_number = some ⟨oc_read_number, od_read_number, .func (PySem.W.fnOf "read_number" "read_number" (C8.fnArgs st_read_number) (C8.fnBody st_read_number) (C8.fnScope st_read_number) .none kV_read_number dc_read_number pm_read_number an_read_number cd_read_number ct_read_number), sl_read_number⟩)
    (c_read_number : PySem.W.codeIn K cd_read_number "read_number" = true)
    (k_read_number : PySem.W.keepIn K (.ref f_read_number) = true)
    (a_free_words : PySem.W.nsIn K mainGlobals "_free_words" = some (some (.ref f_free_words)))
    (l_free_words : K.lookup f_free_words = some ⟨oc_free_words, od_free_words, .func (PySem.W.fnOf "_free_words" "_free_words" (C8.fnArgs st_free_words) (C8.fnBody st_free_words) (C8.fnScope st_free_words) .none kV_free_words dc_free_words pm_free_words an_free_words cd_free_words ct_free_words), sl_free_words⟩)
    (c_free_words : PySem.W.codeIn K cd_free_words "_free_words" = true)
    (k_free_words : PySem.W.keepIn K (.ref f_free_words) = true)
    (a_taken : PySem.W.nsIn K mainGlobals "_taken" = some (some (.ref f_taken)))
    (l_taken : K.lookup f_taken = some ⟨oc_taken, od_taken, .func (PySem.W.fnOf "_taken" "_taken" (C8.fnArgs st_taken) (C8.fnBody st_taken) (C8.fnScope st_taken) .none kV_taken dc_taken pm_taken an_taken cd_taken ct_taken), sl_taken⟩)
    (c_taken : PySem.W.codeIn K cd_taken "_taken" = true)
    (k_taken : PySem.W.keepIn K (.ref f_taken) = true)
    (a_leave_out : PySem.W.nsIn K mainGlobals "_leave_out" = some (some (.ref f_leave_out)))
    (l_leave_out : K.lookup f_leave_out = some ⟨oc_leave_out, od_leave_out, .func (PySem.W.fnOf "_leave_out" "_leave_out" (C8.fnArgs st_leave_out) (C8.fnBody st_leave_out) (C8.fnScope st_leave_out) .none kV_leave_out dc_leave_out pm_leave_out an_leave_out cd_leave_out ct_leave_out), sl_leave_out⟩)
    (c_leave_out : PySem.W.codeIn K cd_leave_out "_leave_out" = true)
    (k_leave_out : PySem.W.keepIn K (.ref f_leave_out) = true)
    (a_try : PySem.W.nsIn K mainGlobals "_try" = some (some (.ref f_try)))
    (l_try : K.lookup f_try = some ⟨oc_try, od_try, .func (PySem.W.fnOf "_try" "_try" (C8.fnArgs st_try) (C8.fnBody st_try) (C8.fnScope st_try) .none kV_try dc_try pm_try an_try cd_try ct_try), sl_try⟩)
    (c_try : PySem.W.codeIn K cd_try "_try" = true)
    (k_try : PySem.W.keepIn K (.ref f_try) = true)
    (a_take_fault : PySem.W.nsIn K mainGlobals "_take_fault" = some (some (.ref f_take_fault)))
    (l_take_fault : K.lookup f_take_fault = some ⟨oc_take_fault, od_take_fault, .func (PySem.W.fnOf "_take_fault" "_take_fault" (C8.fnArgs st_take_fault) (C8.fnBody st_take_fault) (C8.fnScope st_take_fault) .none kV_take_fault dc_take_fault pm_take_fault an_take_fault cd_take_fault ct_take_fault), sl_take_fault⟩)
    (c_take_fault : PySem.W.codeIn K cd_take_fault "_take_fault" = true)
    (k_take_fault : PySem.W.keepIn K (.ref f_take_fault) = true)
    (a_take_ok : PySem.W.nsIn K mainGlobals "_take_ok" = some (some (.ref f_take_ok)))
    (l_take_ok : K.lookup f_take_ok = some ⟨oc_take_ok, od_take_ok, .func (PySem.W.fnOf "_take_ok" "_take_ok" (C8.fnArgs st_take_ok) (C8.fnBody st_take_ok) (C8.fnScope st_take_ok) .none kV_take_ok dc_take_ok pm_take_ok an_take_ok cd_take_ok ct_take_ok), sl_take_ok⟩)
    (c_take_ok : PySem.W.codeIn K cd_take_ok "_take_ok" = true)
    (k_take_ok : PySem.W.keepIn K (.ref f_take_ok) = true)
    (a_sit : PySem.W.nsIn K mainGlobals "_sit" = some (some (.ref f_sit)))
    (l_sit : K.lookup f_sit = some ⟨oc_sit, od_sit, .func (PySem.W.fnOf "_sit" "_sit" (C8.fnArgs st_sit) (C8.fnBody st_sit) (C8.fnScope st_sit) .none kV_sit dc_sit pm_sit an_sit cd_sit ct_sit), sl_sit⟩)
    (c_sit : PySem.W.codeIn K cd_sit "_sit" = true)
    (k_sit : PySem.W.keepIn K (.ref f_sit) = true)
    (a_hear : PySem.W.nsIn K mainGlobals "_hear" = some (some (.ref f_hear)))
    (l_hear : K.lookup f_hear = some ⟨oc_hear, od_hear, .func (PySem.W.fnOf "_hear" "_hear" (C8.fnArgs st_hear) (C8.fnBody st_hear) (C8.fnScope st_hear) .none kV_hear dc_hear pm_hear an_hear cd_hear ct_hear), sl_hear⟩)
    (c_hear : PySem.W.codeIn K cd_hear "_hear" = true)
    (k_hear : PySem.W.keepIn K (.ref f_hear) = true)
    (a_begun : PySem.W.nsIn K mainGlobals "begun" = some (some (.ref f_begun)))
    (l_begun : K.lookup f_begun = some ⟨oc_begun, od_begun, .func (PySem.W.fnOf "begun" "begun" (C8.fnArgs st_begun) (C8.fnBody st_begun) (C8.fnScope st_begun) .none kV_begun dc_begun pm_begun an_begun cd_begun ct_begun), sl_begun⟩)
    (c_begun : PySem.W.codeIn K cd_begun "begun" = true)
    (k_begun : PySem.W.keepIn K (.ref f_begun) = true)
    (a_move : PySem.W.nsIn K mainGlobals "move" = some (some (.ref f_move)))
    (l_move : K.lookup f_move = some ⟨oc_move, od_move, .func (PySem.W.fnOf "move" "move" (C8.fnArgs st_move) (C8.fnBody st_move) (C8.fnScope st_move) .none kV_move dc_move pm_move an_move cd_move ct_move), sl_move⟩)
    (c_move : PySem.W.codeIn K cd_move "move" = true)
    (k_move : PySem.W.keepIn K (.ref f_move) = true)
    (a_step : PySem.W.nsIn K mainGlobals "step" = some (some (.ref f_step)))
    (l_step : K.lookup f_step = some ⟨oc_step, od_step, .func (PySem.W.fnOf "step" "step" (C8.fnArgs st_step) (C8.fnBody st_step) (C8.fnScope st_step) .none kV_step dc_step pm_step an_step cd_step ct_step), sl_step⟩)
    (c_step : PySem.W.codeIn K cd_step "step" = true)
    (k_step : PySem.W.keepIn K (.ref f_step) = true)
    (a_law_box : PySem.W.nsIn K mainGlobals "_law_box" = some (some (.ref f_law_box)))
    (l_law_box : K.lookup f_law_box = some ⟨oc_law_box, od_law_box, .func (PySem.W.fnOf "_law_box" "_law_box" (C8.fnArgs st_law_box) (C8.fnBody st_law_box) (C8.fnScope st_law_box) .none kV_law_box dc_law_box pm_law_box an_law_box cd_law_box ct_law_box), sl_law_box⟩)
    (c_law_box : PySem.W.codeIn K cd_law_box "_law_box" = true)
    (k_law_box : PySem.W.keepIn K (.ref f_law_box) = true)
    (a_law_take : PySem.W.nsIn K mainGlobals "_law_take" = some (some (.ref f_law_take)))
    (l_law_take : K.lookup f_law_take = some ⟨oc_law_take, od_law_take, .func (PySem.W.fnOf "_law_take" "_law_take" (C8.fnArgs st_law_take) (C8.fnBody st_law_take) (C8.fnScope st_law_take) .none kV_law_take dc_law_take pm_law_take an_law_take cd_law_take ct_law_take), sl_law_take⟩)
    (c_law_take : PySem.W.codeIn K cd_law_take "_law_take" = true)
    (k_law_take : PySem.W.keepIn K (.ref f_law_take) = true)
    (a_law_pick : PySem.W.nsIn K mainGlobals "_law_pick" = some (some (.ref f_law_pick)))
    (l_law_pick : K.lookup f_law_pick = some ⟨oc_law_pick, od_law_pick, .func (PySem.W.fnOf "_law_pick" "_law_pick" (C8.fnArgs st_law_pick) (C8.fnBody st_law_pick) (C8.fnScope st_law_pick) .none kV_law_pick dc_law_pick pm_law_pick an_law_pick cd_law_pick ct_law_pick), sl_law_pick⟩)
    (c_law_pick : PySem.W.codeIn K cd_law_pick "_law_pick" = true)
    (k_law_pick : PySem.W.keepIn K (.ref f_law_pick) = true)
    (a_law_rule : PySem.W.nsIn K mainGlobals "_law_rule" = some (some (.ref f_law_rule)))
    (l_law_rule : K.lookup f_law_rule = some ⟨oc_law_rule, od_law_rule, .func (PySem.W.fnOf "_law_rule" "_law_rule" (C8.fnArgs st_law_rule) (C8.fnBody st_law_rule) (C8.fnScope st_law_rule) .none kV_law_rule dc_law_rule pm_law_rule an_law_rule cd_law_rule ct_law_rule), sl_law_rule⟩)
    (c_law_rule : PySem.W.codeIn K cd_law_rule "_law_rule" = true)
    (k_law_rule : PySem.W.keepIn K (.ref f_law_rule) = true)
    (a_law_rule_text : PySem.W.nsIn K mainGlobals "_law_rule_text" = some (some (.ref f_law_rule_text)))
    (l_law_rule_text : K.lookup f_law_rule_text = some ⟨oc_law_rule_text, od_law_rule_text, .func (PySem.W.fnOf "_law_rule_text" "_law_rule_text" (C8.fnArgs st_law_rule_text) (C8.fnBody st_law_rule_text) (C8.fnScope st_law_rule_text) .none kV_law_rule_text dc_law_rule_text pm_law_rule_text an_law_rule_text cd_law_rule_text ct_law_rule_text), sl_law_rule_text⟩)
    (c_law_rule_text : PySem.W.codeIn K cd_law_rule_text "_law_rule_text" = true)
    (k_law_rule_text : PySem.W.keepIn K (.ref f_law_rule_text) = true)
    (a_law_rule_of : PySem.W.nsIn K mainGlobals "_law_rule_of" = some (some (.ref f_law_rule_of)))
    (l_law_rule_of : K.lookup f_law_rule_of = some ⟨oc_law_rule_of, od_law_rule_of, .func (PySem.W.fnOf "_law_rule_of" "_law_rule_of" (C8.fnArgs st_law_rule_of) (C8.fnBody st_law_rule_of) (C8.fnScope st_law_rule_of) .none kV_law_rule_of dc_law_rule_of pm_law_rule_of an_law_rule_of cd_law_rule_of ct_law_rule_of), sl_law_rule_of⟩)
    (c_law_rule_of : PySem.W.codeIn K cd_law_rule_of "_law_rule_of" = true)
    (k_law_rule_of : PySem.W.keepIn K (.ref f_law_rule_of) = true)
    (a_law_time : PySem.W.nsIn K mainGlobals "_law_time" = some (some (.ref f_law_time)))
    (l_law_time : K.lookup f_law_time = some ⟨oc_law_time, od_law_time, .func (PySem.W.fnOf "_law_time" "_law_time" (C8.fnArgs st_law_time) (C8.fnBody st_law_time) (C8.fnScope st_law_time) .none kV_law_time dc_law_time pm_law_time an_law_time cd_law_time ct_law_time), sl_law_time⟩)
    (c_law_time : PySem.W.codeIn K cd_law_time "_law_time" = true)
    (k_law_time : PySem.W.keepIn K (.ref f_law_time) = true)
    (a_law_cap : PySem.W.nsIn K mainGlobals "_law_cap" = some (some (.ref f_law_cap)))
    (l_law_cap : K.lookup f_law_cap = some ⟨oc_law_cap, od_law_cap, .func (PySem.W.fnOf "_law_cap" "_law_cap" (C8.fnArgs st_law_cap) (C8.fnBody st_law_cap) (C8.fnScope st_law_cap) .none kV_law_cap dc_law_cap pm_law_cap an_law_cap cd_law_cap ct_law_cap), sl_law_cap⟩)
    (c_law_cap : PySem.W.codeIn K cd_law_cap "_law_cap" = true)
    (k_law_cap : PySem.W.keepIn K (.ref f_law_cap) = true)
    (a_law_out : PySem.W.nsIn K mainGlobals "_law_out" = some (some (.ref f_law_out)))
    (l_law_out : K.lookup f_law_out = some ⟨oc_law_out, od_law_out, .func (PySem.W.fnOf "_law_out" "_law_out" (C8.fnArgs st_law_out) (C8.fnBody st_law_out) (C8.fnScope st_law_out) .none kV_law_out dc_law_out pm_law_out an_law_out cd_law_out ct_law_out), sl_law_out⟩)
    (c_law_out : PySem.W.codeIn K cd_law_out "_law_out" = true)
    (k_law_out : PySem.W.keepIn K (.ref f_law_out) = true)
    (a_law_back : PySem.W.nsIn K mainGlobals "_law_back" = some (some (.ref f_law_back)))
    (l_law_back : K.lookup f_law_back = some ⟨oc_law_back, od_law_back, .func (PySem.W.fnOf "_law_back" "_law_back" (C8.fnArgs st_law_back) (C8.fnBody st_law_back) (C8.fnScope st_law_back) .none kV_law_back dc_law_back pm_law_back an_law_back cd_law_back ct_law_back), sl_law_back⟩)
    (c_law_back : PySem.W.codeIn K cd_law_back "_law_back" = true)
    (k_law_back : PySem.W.keepIn K (.ref f_law_back) = true)
    (a_law_faulted : PySem.W.nsIn K mainGlobals "_law_faulted" = some (some (.ref f_law_faulted)))
    (l_law_faulted : K.lookup f_law_faulted = some ⟨oc_law_faulted, od_law_faulted, .func (PySem.W.fnOf "_law_faulted" "_law_faulted" (C8.fnArgs st_law_faulted) (C8.fnBody st_law_faulted) (C8.fnScope st_law_faulted) .none kV_law_faulted dc_law_faulted pm_law_faulted an_law_faulted cd_law_faulted ct_law_faulted), sl_law_faulted⟩)
    (c_law_faulted : PySem.W.codeIn K cd_law_faulted "_law_faulted" = true)
    (k_law_faulted : PySem.W.keepIn K (.ref f_law_faulted) = true)
    (a_law_turn : PySem.W.nsIn K mainGlobals "_law_turn" = some (some (.ref f_law_turn)))
    (l_law_turn : K.lookup f_law_turn = some ⟨oc_law_turn, od_law_turn, .func (PySem.W.fnOf "_law_turn" "_law_turn" (C8.fnArgs st_law_turn) (C8.fnBody st_law_turn) (C8.fnScope st_law_turn) .none kV_law_turn dc_law_turn pm_law_turn an_law_turn cd_law_turn ct_law_turn), sl_law_turn⟩)
    (c_law_turn : PySem.W.codeIn K cd_law_turn "_law_turn" = true)
    (k_law_turn : PySem.W.keepIn K (.ref f_law_turn) = true)
    (a_law_word : PySem.W.nsIn K mainGlobals "_law_word" = some (some (.ref f_law_word)))
    (l_law_word : K.lookup f_law_word = some ⟨oc_law_word, od_law_word, .func (PySem.W.fnOf "_law_word" "_law_word" (C8.fnArgs st_law_word) (C8.fnBody st_law_word) (C8.fnScope st_law_word) .none kV_law_word dc_law_word pm_law_word an_law_word cd_law_word ct_law_word), sl_law_word⟩)
    (c_law_word : PySem.W.codeIn K cd_law_word "_law_word" = true)
    (k_law_word : PySem.W.keepIn K (.ref f_law_word) = true)
    (a_law_step : PySem.W.nsIn K mainGlobals "_law_step" = some (some (.ref f_law_step)))
    (l_law_step : K.lookup f_law_step = some ⟨oc_law_step, od_law_step, .func (PySem.W.fnOf "_law_step" "_law_step" (C8.fnArgs st_law_step) (C8.fnBody st_law_step) (C8.fnScope st_law_step) .none kV_law_step dc_law_step pm_law_step an_law_step cd_law_step ct_law_step), sl_law_step⟩)
    (c_law_step : PySem.W.codeIn K cd_law_step "_law_step" = true)
    (k_law_step : PySem.W.keepIn K (.ref f_law_step) = true)
    (a_law_letters : PySem.W.nsIn K mainGlobals "_law_letters" = some (some (.ref f_law_letters)))
    (l_law_letters : K.lookup f_law_letters = some ⟨oc_law_letters, od_law_letters, .func (PySem.W.fnOf "_law_letters" "_law_letters" (C8.fnArgs st_law_letters) (C8.fnBody st_law_letters) (C8.fnScope st_law_letters) .none kV_law_letters dc_law_letters pm_law_letters an_law_letters cd_law_letters ct_law_letters), sl_law_letters⟩)
    (c_law_letters : PySem.W.codeIn K cd_law_letters "_law_letters" = true)
    (k_law_letters : PySem.W.keepIn K (.ref f_law_letters) = true)
    (a_law : PySem.W.nsIn K mainGlobals "law" = some (some (.ref f_law)))
    (l_law : K.lookup f_law = some ⟨oc_law, od_law, .func (PySem.W.fnOf "law" "law" (C8.fnArgs st_law) (C8.fnBody st_law) (C8.fnScope st_law) .none kV_law dc_law pm_law an_law cd_law ct_law), sl_law⟩)
    (c_law : PySem.W.codeIn K cd_law "law" = true)
    (k_law : PySem.W.keepIn K (.ref f_law) = true)
    (aC : PySem.W.nsIn K mainGlobals "Rule" = some (some (.ref CR)))
    (pg : PySem.W.plainGet K CR Str.empty = true)
    (hd : PySem.W.hasDictIn K CR = true)
    (po : PySem.W.plainOver K CR = true)
    (sa : PySem.W.findIn K (.ref CR) "__setattr__" = some (some (.builtin "object.__setattr__")))
    (mk : PySem.W.makesIn K CR = true)
    (kc : PySem.W.keepIn K (.ref CR) = true)
    (cA : PySem.W.findIn K (.ref CR) "__class__" = some (some (.builtin "object.__class__")))
    (cG : PySem.W.specialIn K (.builtin "object.__class__") "__get__" = some (some (.builtin "getset_descriptor.__get__")))
    (cT : PySem.W.takesIn K (.builtin "object.__class__") = some true)
    (cO : PySem.W.mroIn K CR (.type "object") = some true)
    (n_need : PySem.W.findIn K (.ref CR) "need" = some none)
    (n_of : PySem.W.findIn K (.ref CR) "of" = some none)
    (n_base : PySem.W.findIn K (.ref CR) "base" = some none)
    (n_more : PySem.W.findIn K (.ref CR) "more" = some none)
    (n_most : PySem.W.findIn K (.ref CR) "most" = some none)
    (n_calm : PySem.W.findIn K (.ref CR) "calm" = some none)
    (n_back : PySem.W.findIn K (.ref CR) "back" = some none)
    (n_top : PySem.W.findIn K (.ref CR) "top" = some none)
    (n_under : PySem.W.findIn K (.ref CR) "under" = some none)
    (n_up : PySem.W.findIn K (.ref CR) "up" = some none)
    (n_hears : PySem.W.findIn K (.ref CR) "hears" = some none)
    (n_cap : PySem.W.findIn K (.ref CR) "cap" = some none)
    (gB : PySem.W.nsIn K mainGlobals "_BACKS" = some (some (.ref aB)))
    (lB : K.lookup aB = some ⟨.type "tuple", odB, .seq #[.str "half" tB1, .str "open" tB2, .str "trial" tB3] nB, slB⟩)
    (gH : PySem.W.nsIn K mainGlobals "_HEARINGS" = some (some (.ref aH)))
    (lH : K.lookup aH = some ⟨.type "tuple", odH, .seq #[.str "fault" tH1, .str "no" tH2, .str "out" tH3] nH, slH⟩)
    (gF : PySem.W.nsIn K mainGlobals "_FORM" = some (some (.ref aF)))
    (lF : K.lookup aF = some ⟨.type "tuple", odF, .seq #[.str "leave" tF0, .none, .str "of" tF2, .none, .str "out" tF4, .none, .str "more" tF6, .none, .str "most" tF8, .none, .str "calm" tF10, .none, .str "back" tF12, .none, .str "share" tF14, .none, .none, .str "hears" tF17, .none] nF, slF⟩)
    (gS : PySem.W.nsIn K mainGlobals "_SIDES" = some (some (.ref aS)))
    (lS : K.lookup aS = some ⟨.type "tuple", odS, .seq #[.str "down" tS1, .str "up" tS2] nS, slS⟩)
    (ne_Rule : PySem.W.findIn K (.ref CR) "__ne__" = some (some (.builtin "object.__ne__")))
    (rd_R : PySem.W.readsIn K CR (.type "type") = true)
    (ga_R : PySem.W.specialIn K (.ref CR) "__getattribute__" = some (some (.builtin "type.__getattribute__")))
    (at_Rule_read : PySem.W.findCls K (.ref CR) (.type "type") "read" = some (.get (.builtin "classmethod.__get__") (.ref pc_Rule_read) .none (.ref CR)))
    (rc_Rule_read : PySem.W.recIn K pc_Rule_read "classmethod" = some (.ref f_Rule_read :: rs_Rule_read))
    (fi_Rule_read : PySem.W.fnIn K f_Rule_read = true)
    (l_Rule_read : K.lookup f_Rule_read = some ⟨oc_Rule_read, od_Rule_read, .func (PySem.W.fnOf "read" "Rule.read" (C8.fnArgs st_Rule_read) (C8.fnBody st_Rule_read) (C8.fnScope st_Rule_read) .none kV_Rule_read dc_Rule_read pm_Rule_read an_Rule_read cd_Rule_read ct_Rule_read), sl_Rule_read⟩)
    (c_Rule_read : PySem.W.codeIn K cd_Rule_read "Rule.read" = true)
    (a_Rule___init__ : PySem.W.findIn K (.ref CR) "__init__" = some (some (.ref f_Rule___init__)))
    (i_Rule___init__ : PySem.W.isFn K (.ref f_Rule___init__) = true)
    (l_Rule___init__ : K.lookup f_Rule___init__ = some ⟨oc_Rule___init__, od_Rule___init__, .func (PySem.W.fnOf "__init__" "Rule.__init__" (C8.fnArgs st_Rule___init__) (C8.fnBody st_Rule___init__) (C8.fnScope st_Rule___init__) .none kV_Rule___init__ dc_Rule___init__ pm_Rule___init__ an_Rule___init__ cd_Rule___init__ ct_Rule___init__), sl_Rule___init__⟩)
    (c_Rule___init__ : PySem.W.codeIn K cd_Rule___init__ "Rule.__init__" = true)
    (k_Rule___init__ : PySem.W.keepIn K (.ref f_Rule___init__) = true)
    (a_Rule_time : PySem.W.findIn K (.ref CR) "time" = some (some (.ref f_Rule_time)))
    (i_Rule_time : PySem.W.isFn K (.ref f_Rule_time) = true)
    (l_Rule_time : K.lookup f_Rule_time = some ⟨oc_Rule_time, od_Rule_time, .func (PySem.W.fnOf "time" "Rule.time" (C8.fnArgs st_Rule_time) (C8.fnBody st_Rule_time) (C8.fnScope st_Rule_time) .none kV_Rule_time dc_Rule_time pm_Rule_time an_Rule_time cd_Rule_time ct_Rule_time), sl_Rule_time⟩)
    (c_Rule_time : PySem.W.codeIn K cd_Rule_time "Rule.time" = true)
    (k_Rule_time : PySem.W.keepIn K (.ref f_Rule_time) = true)
    (a_Rule___str__ : PySem.W.findIn K (.ref CR) "__str__" = some (some (.ref f_Rule___str__)))
    (i_Rule___str__ : PySem.W.isFn K (.ref f_Rule___str__) = true)
    (l_Rule___str__ : K.lookup f_Rule___str__ = some ⟨oc_Rule___str__, od_Rule___str__, .func (PySem.W.fnOf "__str__" "Rule.__str__" (C8.fnArgs st_Rule___str__) (C8.fnBody st_Rule___str__) (C8.fnScope st_Rule___str__) .none kV_Rule___str__ dc_Rule___str__ pm_Rule___str__ an_Rule___str__ cd_Rule___str__ ct_Rule___str__), sl_Rule___str__⟩)
    (c_Rule___str__ : PySem.W.codeIn K cd_Rule___str__ "Rule.__str__" = true)
    (k_Rule___str__ : PySem.W.keepIn K (.ref f_Rule___str__) = true)
    (a_Rule___eq__ : PySem.W.findIn K (.ref CR) "__eq__" = some (some (.ref f_Rule___eq__)))
    (i_Rule___eq__ : PySem.W.isFn K (.ref f_Rule___eq__) = true)
    (l_Rule___eq__ : K.lookup f_Rule___eq__ = some ⟨oc_Rule___eq__, od_Rule___eq__, .func (PySem.W.fnOf "__eq__" "Rule.__eq__" (C8.fnArgs st_Rule___eq__) (C8.fnBody st_Rule___eq__) (C8.fnScope st_Rule___eq__) .none kV_Rule___eq__ dc_Rule___eq__ pm_Rule___eq__ an_Rule___eq__ cd_Rule___eq__ ct_Rule___eq__), sl_Rule___eq__⟩)
    (c_Rule___eq__ : PySem.W.codeIn K cd_Rule___eq__ "Rule.__eq__" = true)
    (k_Rule___eq__ : PySem.W.keepIn K (.ref f_Rule___eq__) = true)
    (z_isinstance : PySem.W.nsIn K mainGlobals "isinstance" = some none)
    (z_int : PySem.W.nsIn K mainGlobals "int" = some none)
    (z_bool : PySem.W.nsIn K mainGlobals "bool" = some none)
    (z_max : PySem.W.nsIn K mainGlobals "max" = some none)
    (z_min : PySem.W.nsIn K mainGlobals "min" = some none)
    (z_len : PySem.W.nsIn K mainGlobals "len" = some none)
    (z_abs : PySem.W.nsIn K mainGlobals "abs" = some none)
    (z_range : PySem.W.nsIn K mainGlobals "range" = some none)
    (z_list : PySem.W.nsIn K mainGlobals "list" = some none)
    (z_str : PySem.W.nsIn K mainGlobals "str" = some none)
    (z_repr : PySem.W.nsIn K mainGlobals "repr" = some none)
    (z_sorted : PySem.W.nsIn K mainGlobals "sorted" = some none)
    (z_dict : PySem.W.nsIn K mainGlobals "dict" = some none)
    (z_tuple : PySem.W.nsIn K mainGlobals "tuple" = some none)
    (z_zip : PySem.W.nsIn K mainGlobals "zip" = some none)
    (z_enumerate : PySem.W.nsIn K mainGlobals "enumerate" = some none)
    : ∃ (nm qn : Str) (prms : Arguments) (code : List Stmt) (sc : Scope) (dV kV doc pm cdv ct oc : Value) (an od : Option Addr) (osl : Array (Option Value)) (N : List Str), K.lookup fa = some ⟨oc, od, .func (PySem.W.fnOf nm qn prms code sc dV kV doc pm an cdv ct), osl⟩ ∧ PySem.W.codeIn K cdv qn = true ∧ FnScope N ["_law_script"] sc ∧ (∀ (s : Shared) (u : Value), BindsTo s (PySem.W.fnOf nm qn prms code sc dV kV doc pm an cdv ct) ⟨[u], []⟩ [("_law_script", u)]) ∧ ∀ base : Heap, K.In base → base.Ns mainGlobals mg → ∀ (a : Addr) (ns : List Int), ns.length ≤ 63 → BodyAt l.prog w K mg base 9 fa a qn code sc cdv N ns := by
  have e := hfa.symm.trans (PySem.W.mg_of X G a_law)
  cases e
  have T : Tb K mg CR aB aH := ⟨PySem.W.mg_none_of X G z_isinstance, PySem.W.mg_none_of X G z_int, PySem.W.mg_none_of X G z_bool, PySem.W.mg_none_of X G z_max, PySem.W.mg_none_of X G z_min, PySem.W.mg_none_of X G z_len, PySem.W.mg_none_of X G z_abs, PySem.W.mg_none_of X G z_range, PySem.W.mg_none_of X G z_list, PySem.W.mg_none_of X G z_str, PySem.W.mg_none_of X G z_repr, PySem.W.mg_none_of X G z_sorted, PySem.W.mg_none_of X G z_dict, PySem.W.mg_none_of X G z_tuple, PySem.W.mg_none_of X G z_zip, PySem.W.mg_none_of X G z_enumerate, ⟨_, PySem.W.mg_of X G gB, rfl⟩, ⟨_, PySem.W.mg_of X G gH, rfl⟩, fun H => .inr ⟨_, _, _, lB, rfl, rfl, (by show 3 ≤ sizeLine; decide), .cons ⟨_, rfl⟩ (.cons ⟨_, rfl⟩ (.cons ⟨_, rfl⟩ .nil))⟩, fun H => .inr ⟨_, _, _, lH, rfl, rfl, (by show 3 ≤ sizeLine; decide), .cons ⟨_, rfl⟩ (.cons ⟨_, rfl⟩ (.cons ⟨_, rfl⟩ .nil))⟩, ⟨pg, hd, po, sa⟩, n_need, n_of, n_base, n_more, n_most, n_calm, n_back, n_top, n_under, n_up, n_hears, n_cap, ⟨_, PySem.W.mg_of X G aC, rfl⟩, cA, cG, cT, cO⟩
  have TF : Tf K mg aF aS := ⟨⟨_, PySem.W.mg_of X G gF, rfl⟩, ⟨_, PySem.W.mg_of X G gS, rfl⟩, fun H => .inr ⟨_, _, _, lF, rfl, rfl, (by show 19 ≤ sizeLine; decide), .cons ⟨_, rfl⟩ (.cons rfl (.cons ⟨_, rfl⟩ (.cons rfl (.cons ⟨_, rfl⟩ (.cons rfl (.cons ⟨_, rfl⟩ (.cons rfl (.cons ⟨_, rfl⟩ (.cons rfl (.cons ⟨_, rfl⟩ (.cons rfl (.cons ⟨_, rfl⟩ (.cons rfl (.cons ⟨_, rfl⟩ (.cons rfl (.cons rfl (.cons ⟨_, rfl⟩ (.cons rfl (.nil)))))))))))))))))))⟩, fun H => .inr ⟨_, _, _, lS, rfl, rfl, (by show 2 ≤ sizeLine; decide), .cons ⟨_, rfl⟩ (.cons ⟨_, rfl⟩ (.nil))⟩⟩
  have D_is_integer : C8.Def K mg "is_integer" st_is_integer f_is_integer _ := ⟨⟨_, _, _, _, _, _, _, _, _, _, rfl, l_is_integer, c_is_integer⟩, PySem.W.mg_of X G a_is_integer, k_is_integer⟩
  have b_is_integer : Binds K _ ["value"] [] := C8.Fun.binds D_is_integer.fn rfl fun _ _ _ _ _ _ us hl => match us, hl with | [_], _ => rfl
  have D_is_from : C8.Def K mg "is_from" st_is_from f_is_from _ := ⟨⟨_, _, _, _, _, _, _, _, _, _, rfl, l_is_from, c_is_from⟩, PySem.W.mg_of X G a_is_from, k_is_from⟩
  have b_is_from : Binds K _ ["value", "least"] [] := C8.Fun.binds D_is_from.fn rfl fun _ _ _ _ _ _ us hl => match us, hl with | [_, _], _ => rfl
  have D_wrong_count : C8.Def K mg "_wrong_count" st_wrong_count f_wrong_count _ := ⟨⟨_, _, _, _, _, _, _, _, _, _, rfl, l_wrong_count, c_wrong_count⟩, PySem.W.mg_of X G a_wrong_count, k_wrong_count⟩
  have b_wrong_count : Binds K _ ["need", "of", "base", "more", "most", "calm"] [] := C8.Fun.binds D_wrong_count.fn rfl fun _ _ _ _ _ _ us hl => match us, hl with | [_, _, _, _, _, _], _ => rfl
  have D_wrong_manner : C8.Def K mg "_wrong_manner" st_wrong_manner f_wrong_manner _ := ⟨⟨_, _, _, _, _, _, _, _, _, _, rfl, l_wrong_manner, c_wrong_manner⟩, PySem.W.mg_of X G a_wrong_manner, k_wrong_manner⟩
  have b_wrong_manner : Binds K _ ["back", "top", "under", "up", "hears"] [] := C8.Fun.binds D_wrong_manner.fn rfl fun _ _ _ _ _ _ us hl => match us, hl with | [_, _, _, _, _], _ => rfl
  have D_least_last : C8.Def K mg "_least_last" st_least_last f_least_last _ := ⟨⟨_, _, _, _, _, _, _, _, _, _, rfl, l_least_last, c_least_last⟩, PySem.W.mg_of X G a_least_last, k_least_last⟩
  have b_least_last : Binds K _ ["base", "more", "most"] [] := C8.Fun.binds D_least_last.fn rfl fun _ _ _ _ _ _ us hl => match us, hl with | [_, _, _], _ => rfl
  have D_side : C8.Def K mg "_side" st_side f_side _ := ⟨⟨_, _, _, _, _, _, _, _, _, _, rfl, l_side, c_side⟩, PySem.W.mg_of X G a_side, k_side⟩
  have b_side : Binds K _ ["up"] [] := C8.Fun.binds D_side.fn rfl fun _ _ _ _ _ _ us hl => match us, hl with | [_], _ => rfl
  have D_read_number : C8.Def K mg "read_number" st_read_number f_read_number _ := ⟨⟨_, _, _, _, _, _, _, _, _, _, rfl, l_read_number, c_read_number⟩, PySem.W.mg_of X G a_read_number, k_read_number⟩
  have b_read_number : Binds K _ ["word"] [] := C8.Fun.binds D_read_number.fn rfl fun _ _ _ _ _ _ us hl => match us, hl with | [_], _ => rfl
  have D_free_words : C8.Def K mg "_free_words" st_free_words f_free_words _ := ⟨⟨_, _, _, _, _, _, _, _, _, _, rfl, l_free_words, c_free_words⟩, PySem.W.mg_of X G a_free_words, k_free_words⟩
  have b_free_words : Binds K _ ["text"] [] := C8.Fun.binds D_free_words.fn rfl fun _ _ _ _ _ _ us hl => match us, hl with | [_], _ => rfl
  have D_taken : C8.Def K mg "_taken" st_taken f_taken _ := ⟨⟨_, _, _, _, _, _, _, _, _, _, rfl, l_taken, c_taken⟩, PySem.W.mg_of X G a_taken, k_taken⟩
  have b_taken : Binds K _ ["rule", "window", "fault"] [] := C8.Fun.binds D_taken.fn rfl fun _ _ _ _ _ _ us hl => match us, hl with | [_, _, _], _ => rfl
  have D_leave_out : C8.Def K mg "_leave_out" st_leave_out f_leave_out _ := ⟨⟨_, _, _, _, _, _, _, _, _, _, rfl, l_leave_out, c_leave_out⟩, PySem.W.mg_of X G a_leave_out, k_leave_out⟩
  have b_leave_out : Binds K _ ["rule", "times"] [] := C8.Fun.binds D_leave_out.fn rfl fun _ _ _ _ _ _ us hl => match us, hl with | [_, _], _ => rfl
  have D_try : C8.Def K mg "_try" st_try f_try _ := ⟨⟨_, _, _, _, _, _, _, _, _, _, rfl, l_try, c_try⟩, PySem.W.mg_of X G a_try, k_try⟩
  have b_try : Binds K _ ["rule", "standing", "room"] [] := C8.Fun.binds D_try.fn rfl fun _ _ _ _ _ _ us hl => match us, hl with | [_, _, _], _ => rfl
  have D_take_fault : C8.Def K mg "_take_fault" st_take_fault f_take_fault _ := ⟨⟨_, _, _, _, _, _, _, _, _, _, rfl, l_take_fault, c_take_fault⟩, PySem.W.mg_of X G a_take_fault, k_take_fault⟩
  have b_take_fault : Binds K _ ["rule", "standing", "room"] [] := C8.Fun.binds D_take_fault.fn rfl fun _ _ _ _ _ _ us hl => match us, hl with | [_, _, _], _ => rfl
  have D_take_ok : C8.Def K mg "_take_ok" st_take_ok f_take_ok _ := ⟨⟨_, _, _, _, _, _, _, _, _, _, rfl, l_take_ok, c_take_ok⟩, PySem.W.mg_of X G a_take_ok, k_take_ok⟩
  have b_take_ok : Binds K _ ["rule", "standing"] [] := C8.Fun.binds D_take_ok.fn rfl fun _ _ _ _ _ _ us hl => match us, hl with | [_, _], _ => rfl
  have D_sit : C8.Def K mg "_sit" st_sit f_sit _ := ⟨⟨_, _, _, _, _, _, _, _, _, _, rfl, l_sit, c_sit⟩, PySem.W.mg_of X G a_sit, k_sit⟩
  have b_sit : Binds K _ ["rule", "standing"] [] := C8.Fun.binds D_sit.fn rfl fun _ _ _ _ _ _ us hl => match us, hl with | [_, _], _ => rfl
  have D_hear : C8.Def K mg "_hear" st_hear f_hear _ := ⟨⟨_, _, _, _, _, _, _, _, _, _, rfl, l_hear, c_hear⟩, PySem.W.mg_of X G a_hear, k_hear⟩
  have b_hear : Binds K _ ["rule", "standing", "room"] [] := C8.Fun.binds D_hear.fn rfl fun _ _ _ _ _ _ us hl => match us, hl with | [_, _, _], _ => rfl
  have D_begun : C8.Def K mg "begun" st_begun f_begun _ := ⟨⟨_, _, _, _, _, _, _, _, _, _, rfl, l_begun, c_begun⟩, PySem.W.mg_of X G a_begun, k_begun⟩
  have b_begun : Binds K _ [] [] := C8.Fun.binds D_begun.fn rfl fun _ _ _ _ _ _ us hl => match us, hl with | [], _ => rfl
  have D_move : C8.Def K mg "move" st_move f_move _ := ⟨⟨_, _, _, _, _, _, _, _, _, _, rfl, l_move, c_move⟩, PySem.W.mg_of X G a_move, k_move⟩
  have b_move : Binds K _ ["rule", "standing", "word", "room"] [] := C8.Fun.binds D_move.fn rfl fun _ _ _ _ _ _ us hl => match us, hl with | [_, _, _, _], _ => rfl
  have D_step : C8.Def K mg "step" st_step f_step _ := ⟨⟨_, _, _, _, _, _, _, _, _, _, rfl, l_step, c_step⟩, PySem.W.mg_of X G a_step, k_step⟩
  have b_step : Binds K _ ["rule", "standing", "letter"] [] := C8.Fun.binds D_step.fn rfl fun _ _ _ _ _ _ us hl => match us, hl with | [_, _, _], _ => rfl
  have D_law_box : C8.Def K mg "_law_box" st_law_box f_law_box _ := ⟨⟨_, _, _, _, _, _, _, _, _, _, rfl, l_law_box, c_law_box⟩, PySem.W.mg_of X G a_law_box, k_law_box⟩
  have b_law_box : Binds K _ ["_law_script", "_law_k"] [] := C8.Fun.binds D_law_box.fn rfl fun _ _ _ _ _ _ us hl => match us, hl with | [_, _], _ => rfl
  have D_law_take : C8.Def K mg "_law_take" st_law_take f_law_take _ := ⟨⟨_, _, _, _, _, _, _, _, _, _, rfl, l_law_take, c_law_take⟩, PySem.W.mg_of X G a_law_take, k_law_take⟩
  have b_law_take : Binds K _ ["_law_box_here", "_law_many"] [] := C8.Fun.binds D_law_take.fn rfl fun _ _ _ _ _ _ us hl => match us, hl with | [_, _], _ => rfl
  have D_law_pick : C8.Def K mg "_law_pick" st_law_pick f_law_pick _ := ⟨⟨_, _, _, _, _, _, _, _, _, _, rfl, l_law_pick, c_law_pick⟩, PySem.W.mg_of X G a_law_pick, k_law_pick⟩
  have b_law_pick : Binds K _ ["_law_box_here", "_law_some"] [] := C8.Fun.binds D_law_pick.fn rfl fun _ _ _ _ _ _ us hl => match us, hl with | [_, _], _ => rfl
  have D_law_rule : C8.Def K mg "_law_rule" st_law_rule f_law_rule _ := ⟨⟨_, _, _, _, _, _, _, _, _, _, rfl, l_law_rule, c_law_rule⟩, PySem.W.mg_of X G a_law_rule, k_law_rule⟩
  have b_law_rule : Binds K _ ["_law_box_here", "_law_size", "_law_long", "_law_calms"] [] := C8.Fun.binds D_law_rule.fn rfl fun _ _ _ _ _ _ us hl => match us, hl with | [_, _, _, _], _ => rfl
  have D_law_rule_text : C8.Def K mg "_law_rule_text" st_law_rule_text f_law_rule_text _ := ⟨⟨_, _, _, _, _, _, _, _, _, _, rfl, l_law_rule_text, c_law_rule_text⟩, PySem.W.mg_of X G a_law_rule_text, k_law_rule_text⟩
  have b_law_rule_text : Binds K _ ["_law_rule_here"] [] := C8.Fun.binds D_law_rule_text.fn rfl fun _ _ _ _ _ _ us hl => match us, hl with | [_], _ => rfl
  have D_law_rule_of : C8.Def K mg "_law_rule_of" st_law_rule_of f_law_rule_of _ := ⟨⟨_, _, _, _, _, _, _, _, _, _, rfl, l_law_rule_of, c_law_rule_of⟩, PySem.W.mg_of X G a_law_rule_of, k_law_rule_of⟩
  have b_law_rule_of : Binds K _ ["_law_rule_here"] [] := C8.Fun.binds D_law_rule_of.fn rfl fun _ _ _ _ _ _ us hl => match us, hl with | [_], _ => rfl
  have D_law_time : C8.Def K mg "_law_time" st_law_time f_law_time _ := ⟨⟨_, _, _, _, _, _, _, _, _, _, rfl, l_law_time, c_law_time⟩, PySem.W.mg_of X G a_law_time, k_law_time⟩
  have b_law_time : Binds K _ ["_law_rule_here", "_law_times"] [] := C8.Fun.binds D_law_time.fn rfl fun _ _ _ _ _ _ us hl => match us, hl with | [_, _], _ => rfl
  have D_law_cap : C8.Def K mg "_law_cap" st_law_cap f_law_cap _ := ⟨⟨_, _, _, _, _, _, _, _, _, _, rfl, l_law_cap, c_law_cap⟩, PySem.W.mg_of X G a_law_cap, k_law_cap⟩
  have b_law_cap : Binds K _ ["_law_rule_here"] [] := C8.Fun.binds D_law_cap.fn rfl fun _ _ _ _ _ _ us hl => match us, hl with | [_], _ => rfl
  have D_law_out : C8.Def K mg "_law_out" st_law_out f_law_out _ := ⟨⟨_, _, _, _, _, _, _, _, _, _, rfl, l_law_out, c_law_out⟩, PySem.W.mg_of X G a_law_out, k_law_out⟩
  have b_law_out : Binds K _ ["_law_rule_here", "_law_times"] [] := C8.Fun.binds D_law_out.fn rfl fun _ _ _ _ _ _ us hl => match us, hl with | [_, _], _ => rfl
  have D_law_back : C8.Def K mg "_law_back" st_law_back f_law_back _ := ⟨⟨_, _, _, _, _, _, _, _, _, _, rfl, l_law_back, c_law_back⟩, PySem.W.mg_of X G a_law_back, k_law_back⟩
  have b_law_back : Binds K _ ["_law_rule_here", "_law_times"] [] := C8.Fun.binds D_law_back.fn rfl fun _ _ _ _ _ _ us hl => match us, hl with | [_, _], _ => rfl
  have D_law_faulted : C8.Def K mg "_law_faulted" st_law_faulted f_law_faulted _ := ⟨⟨_, _, _, _, _, _, _, _, _, _, rfl, l_law_faulted, c_law_faulted⟩, PySem.W.mg_of X G a_law_faulted, k_law_faulted⟩
  have b_law_faulted : Binds K _ ["_law_rule_here", "_law_standing", "_law_is_room"] [] := C8.Fun.binds D_law_faulted.fn rfl fun _ _ _ _ _ _ us hl => match us, hl with | [_, _, _], _ => rfl
  have D_law_turn : C8.Def K mg "_law_turn" st_law_turn f_law_turn _ := ⟨⟨_, _, _, _, _, _, _, _, _, _, rfl, l_law_turn, c_law_turn⟩, PySem.W.mg_of X G a_law_turn, k_law_turn⟩
  have b_law_turn : Binds K _ ["_law_rule_here", "_law_standing", "_law_is_fault", "_law_is_room"] [] := C8.Fun.binds D_law_turn.fn rfl fun _ _ _ _ _ _ us hl => match us, hl with | [_, _, _, _], _ => rfl
  have D_law_word : C8.Def K mg "_law_word" st_law_word f_law_word _ := ⟨⟨_, _, _, _, _, _, _, _, _, _, rfl, l_law_word, c_law_word⟩, PySem.W.mg_of X G a_law_word, k_law_word⟩
  have b_law_word : Binds K _ ["_law_rule_here", "_law_standing", "_law_is_room"] [] := C8.Fun.binds D_law_word.fn rfl fun _ _ _ _ _ _ us hl => match us, hl with | [_, _, _], _ => rfl
  have D_law_step : C8.Def K mg "_law_step" st_law_step f_law_step _ := ⟨⟨_, _, _, _, _, _, _, _, _, _, rfl, l_law_step, c_law_step⟩, PySem.W.mg_of X G a_law_step, k_law_step⟩
  have b_law_step : Binds K _ ["_law_rule_here", "_law_standing", "_law_letter"] [] := C8.Fun.binds D_law_step.fn rfl fun _ _ _ _ _ _ us hl => match us, hl with | [_, _, _], _ => rfl
  have D_law_letters : C8.Def K mg "_law_letters" st_law_letters f_law_letters _ := ⟨⟨_, _, _, _, _, _, _, _, _, _, rfl, l_law_letters, c_law_letters⟩, PySem.W.mg_of X G a_law_letters, k_law_letters⟩
  have b_law_letters : Binds K _ ["_law_free"] [] := C8.Fun.binds D_law_letters.fn rfl fun _ _ _ _ _ _ us hl => match us, hl with | [_], _ => rfl
  have D_law : C8.Def K mg "law" st_law fa _ := ⟨⟨_, _, _, _, _, _, _, _, _, _, rfl, l_law, c_law⟩, PySem.W.mg_of X G a_law, k_law⟩
  have D_Rule___init__ : C8.Fun K "__init__" "Rule.__init__" st_Rule___init__ f_Rule___init__ _ := ⟨_, _, _, _, _, _, _, _, _, _, rfl, l_Rule___init__, c_Rule___init__⟩
  have b_Rule___init__ : Binds K _ ["self", "need", "of", "base", "more", "most", "calm", "back", "top", "under", "up", "hears"] [] := C8.Fun.binds D_Rule___init__ rfl fun _ _ _ _ _ _ us hl => match us, hl with | [_, _, _, _, _, _, _, _, _, _, _, _], _ => rfl
  have M_Rule___init__ : Meth K CR "__init__" f_Rule___init__ := ⟨a_Rule___init__, i_Rule___init__, k_Rule___init__⟩
  have D_Rule_time : C8.Fun K "time" "Rule.time" st_Rule_time f_Rule_time _ := ⟨_, _, _, _, _, _, _, _, _, _, rfl, l_Rule_time, c_Rule_time⟩
  have b_Rule_time : Binds K _ ["self", "j"] [] := C8.Fun.binds D_Rule_time rfl fun _ _ _ _ _ _ us hl => match us, hl with | [_, _], _ => rfl
  have M_Rule_time : Meth K CR "time" f_Rule_time := ⟨a_Rule_time, i_Rule_time, k_Rule_time⟩
  have D_Rule___str__ : C8.Fun K "__str__" "Rule.__str__" st_Rule___str__ f_Rule___str__ _ := ⟨_, _, _, _, _, _, _, _, _, _, rfl, l_Rule___str__, c_Rule___str__⟩
  have b_Rule___str__ : Binds K _ ["self"] [] := C8.Fun.binds D_Rule___str__ rfl fun _ _ _ _ _ _ us hl => match us, hl with | [_], _ => rfl
  have M_Rule___str__ : Meth K CR "__str__" f_Rule___str__ := ⟨a_Rule___str__, i_Rule___str__, k_Rule___str__⟩
  have D_Rule___eq__ : C8.Fun K "__eq__" "Rule.__eq__" st_Rule___eq__ f_Rule___eq__ _ := ⟨_, _, _, _, _, _, _, _, _, _, rfl, l_Rule___eq__, c_Rule___eq__⟩
  have b_Rule___eq__ : Binds K _ ["self", "other"] [] := C8.Fun.binds D_Rule___eq__ rfl fun _ _ _ _ _ _ us hl => match us, hl with | [_, _], _ => rfl
  have M_Rule___eq__ : Meth K CR "__eq__" f_Rule___eq__ := ⟨a_Rule___eq__, i_Rule___eq__, k_Rule___eq__⟩
  have D_Rule_read : C8.Fun K "read" "Rule.read" st_Rule_read f_Rule_read _ := ⟨_, _, _, _, _, _, _, _, _, _, rfl, l_Rule_read, c_Rule_read⟩
  have b_Rule_read : Binds K _ ["cls", "text"] [] := C8.Fun.binds D_Rule_read rfl fun _ _ _ _ _ _ us hl => match us, hl with | [_, _], _ => rfl
  have RD_read : ClX.CRead K CR (.type "type") := ⟨rd_R, ga_R⟩
  have CM_read : ClX.CMet K CR (.type "type") "read" pc_Rule_read f_Rule_read := ⟨at_Rule_read, ⟨_, rc_Rule_read⟩, fi_Rule_read⟩
  have MK : Mk K CR f_Rule___init__ := ⟨mk, a_Rule___init__, i_Rule___init__, kc⟩
  have mC := PySem.W.mg_of X G aC
  refine ⟨"law", "law", C8.fnArgs st_law, C8.fnBody st_law, C8.fnScope st_law, .none, kV_law, dc_law, pm_law, cd_law, ct_law, oc_law, an_law, od_law, sl_law, _, l_law, c_law, sc_law, fun s v => .of_eq rfl, fun base _ _ a ns hn => ?_⟩
  have c_is_integer := ok_is_integer (P := l.prog) (w := w) (base := base) D_is_integer b_is_integer T
  have c_is_from := ok_is_from D_is_from b_is_from c_is_integer
  have c_wrong_count := ok_wc D_wrong_count b_wrong_count c_is_from
  have c_wrong_manner := ok_wm D_wrong_manner b_wrong_manner T c_is_from
  have c_least_last := ok_ll (P := l.prog) (w := w) (base := base) (mg := mg) D_least_last b_least_last
  have mk_Rule := ok_init D_Rule___init__ b_Rule___init__ MK mC T c_wrong_count c_wrong_manner c_least_last
  have c_num := ok_num (P := l.prog) (w := w) (base := base) D_read_number b_read_number T
  have c_free := ok_free (P := l.prog) (w := w) (base := base) D_free_words b_free_words T TF
  have cm_read := ok_read D_Rule_read b_Rule_read T TF RD_read CM_read c_free c_num mk_Rule
  have m_time := ok_time (P := l.prog) (w := w) (base := base) (mg := mg) D_Rule_time b_Rule_time M_Rule_time T
  have c_taken := ok_taken (P := l.prog) (w := w) (base := base) D_taken b_taken T
  have c_leave := ok_leave D_leave_out b_leave_out T m_time
  have c_try := ok_try D_try b_try c_leave
  have c_fault := ok_fault D_take_fault b_take_fault T c_taken c_try
  have c_takeok := ok_takeok D_take_ok b_take_ok T c_taken
  have c_sit := ok_sit (P := l.prog) (w := w) (base := base) D_sit b_sit T
  have c_hear := ok_hear D_hear b_hear T c_fault c_try
  have c_begun := ok_begun (P := l.prog) (w := w) (base := base) (K := K) D_begun b_begun
  have c_move := ok_move D_move b_move T c_hear c_sit c_takeok c_leave c_fault
  have c_step := ok_step D_step b_step T c_move
  have c_box := ok_box (P := l.prog) (w := w) (base := base) D_law_box b_law_box T
  have c_take := ok_take (P := l.prog) (w := w) (base := base) D_law_take b_law_take T
  have c_pick := ok_pickB D_law_pick b_law_pick T c_take
  have c_rule := ok_ruleB D_law_rule b_law_rule c_take c_pick
  have c_txt := ok_txtB (P := l.prog) (w := w) (base := base) D_law_rule_text b_law_rule_text T
  have c_rule_of := ok_ruleOf D_law_rule_of b_law_rule_of T c_txt cm_read
  have c_time := ok_timeB (P := l.prog) (w := w) (base := base) D_law_time b_law_time
  have c_cap := ok_capB D_law_cap b_law_cap c_time
  have c_out := ok_outB (K := K) D_law_out b_law_out c_time c_cap
  have c_back := ok_backB (P := l.prog) (w := w) (base := base) D_law_back b_law_back T
  have c_faulted := ok_faultB D_law_faulted b_law_faulted c_out
  have c_turn := ok_turnB D_law_turn b_law_turn c_back c_out c_faulted
  have c_word := ok_wordB D_law_word b_law_word c_out c_faulted
  have c_lstep := ok_stepB D_law_step b_law_step c_word c_turn
  have c_lets := ok_lets (P := l.prog) (w := w) (base := base) D_law_letters b_law_letters
  exact body_law T hn c_box c_take c_pick c_rule c_rule_of c_begun c_lets c_lstep c_step
end Sit
open PySem PySem.W PyProof.Rows
set_option maxRecDepth 100000 in
set_option maxHeartbeats 0 in
theorem PySem.Challenge.cw_sitout_k15_steps_of_standings_holds : PySem.Challenge.rw_sitout_k15_steps_of_standings.Holds := by
  w_on; o_law; k_head; (case hw => w_witness2)
  k_fill
  refine Sit.top_walk (l := PySem.Challenge.rw_sitout_k15_steps_of_standings) (n := 63) (k := 9) (x := "_law_script") rfl (by decide) rfl ⟨rfl, by decide, by decide⟩ (fun w h Y => PySem.W.kIn_of Y) ?F
  case F =>
    intro w mg fa h KX G hmg
    refine' Sit.all_mk KX G hmg ?a_is_integer ?l_is_integer ?c_is_integer ?k_is_integer ?a_is_from ?l_is_from ?c_is_from ?k_is_from ?a_wrong_count ?l_wrong_count ?c_wrong_count ?k_wrong_count ?a_wrong_manner ?l_wrong_manner ?c_wrong_manner ?k_wrong_manner ?a_least_last ?l_least_last ?c_least_last ?k_least_last ?a_side ?l_side ?c_side ?k_side ?a_read_number ?l_read_number ?c_read_number ?k_read_number ?a_free_words ?l_free_words ?c_free_words ?k_free_words ?a_taken ?l_taken ?c_taken ?k_taken ?a_leave_out ?l_leave_out ?c_leave_out ?k_leave_out ?a_try ?l_try ?c_try ?k_try ?a_take_fault ?l_take_fault ?c_take_fault ?k_take_fault ?a_take_ok ?l_take_ok ?c_take_ok ?k_take_ok ?a_sit ?l_sit ?c_sit ?k_sit ?a_hear ?l_hear ?c_hear ?k_hear ?a_begun ?l_begun ?c_begun ?k_begun ?a_move ?l_move ?c_move ?k_move ?a_step ?l_step ?c_step ?k_step ?a_law_box ?l_law_box ?c_law_box ?k_law_box ?a_law_take ?l_law_take ?c_law_take ?k_law_take ?a_law_pick ?l_law_pick ?c_law_pick ?k_law_pick ?a_law_rule ?l_law_rule ?c_law_rule ?k_law_rule ?a_law_rule_text ?l_law_rule_text ?c_law_rule_text ?k_law_rule_text ?a_law_rule_of ?l_law_rule_of ?c_law_rule_of ?k_law_rule_of ?a_law_time ?l_law_time ?c_law_time ?k_law_time ?a_law_cap ?l_law_cap ?c_law_cap ?k_law_cap ?a_law_out ?l_law_out ?c_law_out ?k_law_out ?a_law_back ?l_law_back ?c_law_back ?k_law_back ?a_law_faulted ?l_law_faulted ?c_law_faulted ?k_law_faulted ?a_law_turn ?l_law_turn ?c_law_turn ?k_law_turn ?a_law_word ?l_law_word ?c_law_word ?k_law_word ?a_law_step ?l_law_step ?c_law_step ?k_law_step ?a_law_letters ?l_law_letters ?c_law_letters ?k_law_letters ?a_law ?l_law ?c_law ?k_law ?aC ?pg ?hd ?po ?sa ?mk ?kc ?cA ?cG ?cT ?cO ?n_need ?n_of ?n_base ?n_more ?n_most ?n_calm ?n_back ?n_top ?n_under ?n_up ?n_hears ?n_cap ?gB ?lB ?gH ?lH ?gF ?lF ?gS ?lS ?ne_Rule ?rd_R ?ga_R ?at_Rule_read ?rc_Rule_read ?fi_Rule_read ?l_Rule_read ?c_Rule_read ?a_Rule___init__ ?i_Rule___init__ ?l_Rule___init__ ?c_Rule___init__ ?k_Rule___init__ ?a_Rule_time ?i_Rule_time ?l_Rule_time ?c_Rule_time ?k_Rule_time ?a_Rule___str__ ?i_Rule___str__ ?l_Rule___str__ ?c_Rule___str__ ?k_Rule___str__ ?a_Rule___eq__ ?i_Rule___eq__ ?l_Rule___eq__ ?c_Rule___eq__ ?k_Rule___eq__ ?z_isinstance ?z_int ?z_bool ?z_max ?z_min ?z_len ?z_abs ?z_range ?z_list ?z_str ?z_repr ?z_sorted ?z_dict ?z_tuple ?z_zip ?z_enumerate
    (case a_is_integer => k_is)
    (case l_is_integer => k_is)
    (case c_is_integer => k_is)
    (case k_is_integer => k_is)
    (case a_is_from => k_is)
    (case l_is_from => k_is)
    (case c_is_from => k_is)
    (case k_is_from => k_is)
    (case a_wrong_count => k_is)
    (case l_wrong_count => k_is)
    (case c_wrong_count => k_is)
    (case k_wrong_count => k_is)
    (case a_wrong_manner => k_is)
    (case l_wrong_manner => k_is)
    (case c_wrong_manner => k_is)
    (case k_wrong_manner => k_is)
    (case a_least_last => k_is)
    (case l_least_last => k_is)
    (case c_least_last => k_is)
    (case k_least_last => k_is)
    (case a_side => k_is)
    (case l_side => k_is)
    (case c_side => k_is)
    (case k_side => k_is)
    (case a_read_number => k_is)
    (case l_read_number => k_is)
    (case c_read_number => k_is)
    (case k_read_number => k_is)
    (case a_free_words => k_is)
    (case l_free_words => k_is)
    (case c_free_words => k_is)
    (case k_free_words => k_is)
    (case a_taken => k_is)
    (case l_taken => k_is)
    (case c_taken => k_is)
    (case k_taken => k_is)
    (case a_leave_out => k_is)
    (case l_leave_out => k_is)
    (case c_leave_out => k_is)
    (case k_leave_out => k_is)
    (case a_try => k_is)
    (case l_try => k_is)
    (case c_try => k_is)
    (case k_try => k_is)
    (case a_take_fault => k_is)
    (case l_take_fault => k_is)
    (case c_take_fault => k_is)
    (case k_take_fault => k_is)
    (case a_take_ok => k_is)
    (case l_take_ok => k_is)
    (case c_take_ok => k_is)
    (case k_take_ok => k_is)
    (case a_sit => k_is)
    (case l_sit => k_is)
    (case c_sit => k_is)
    (case k_sit => k_is)
    (case a_hear => k_is)
    (case l_hear => k_is)
    (case c_hear => k_is)
    (case k_hear => k_is)
    (case a_begun => k_is)
    (case l_begun => k_is)
    (case c_begun => k_is)
    (case k_begun => k_is)
    (case a_move => k_is)
    (case l_move => k_is)
    (case c_move => k_is)
    (case k_move => k_is)
    (case a_step => k_is)
    (case l_step => k_is)
    (case c_step => k_is)
    (case k_step => k_is)
    (case a_law_box => k_is)
    (case l_law_box => k_is)
    (case c_law_box => k_is)
    (case k_law_box => k_is)
    (case a_law_take => k_is)
    (case l_law_take => k_is)
    (case c_law_take => k_is)
    (case k_law_take => k_is)
    (case a_law_pick => k_is)
    (case l_law_pick => k_is)
    (case c_law_pick => k_is)
    (case k_law_pick => k_is)
    (case a_law_rule => k_is)
    (case l_law_rule => k_is)
    (case c_law_rule => k_is)
    (case k_law_rule => k_is)
    (case a_law_rule_text => k_is)
    (case l_law_rule_text => k_is)
    (case c_law_rule_text => k_is)
    (case k_law_rule_text => k_is)
    (case a_law_rule_of => k_is)
    (case l_law_rule_of => k_is)
    (case c_law_rule_of => k_is)
    (case k_law_rule_of => k_is)
    (case a_law_time => k_is)
    (case l_law_time => k_is)
    (case c_law_time => k_is)
    (case k_law_time => k_is)
    (case a_law_cap => k_is)
    (case l_law_cap => k_is)
    (case c_law_cap => k_is)
    (case k_law_cap => k_is)
    (case a_law_out => k_is)
    (case l_law_out => k_is)
    (case c_law_out => k_is)
    (case k_law_out => k_is)
    (case a_law_back => k_is)
    (case l_law_back => k_is)
    (case c_law_back => k_is)
    (case k_law_back => k_is)
    (case a_law_faulted => k_is)
    (case l_law_faulted => k_is)
    (case c_law_faulted => k_is)
    (case k_law_faulted => k_is)
    (case a_law_turn => k_is)
    (case l_law_turn => k_is)
    (case c_law_turn => k_is)
    (case k_law_turn => k_is)
    (case a_law_word => k_is)
    (case l_law_word => k_is)
    (case c_law_word => k_is)
    (case k_law_word => k_is)
    (case a_law_step => k_is)
    (case l_law_step => k_is)
    (case c_law_step => k_is)
    (case k_law_step => k_is)
    (case a_law_letters => k_is)
    (case l_law_letters => k_is)
    (case c_law_letters => k_is)
    (case k_law_letters => k_is)
    (case a_law => k_is)
    (case l_law => k_is)
    (case c_law => k_is)
    (case k_law => k_is)
    (case aC => k_is)
    (case pg => k_is)
    (case hd => k_is)
    (case po => k_is)
    (case sa => k_is)
    (case mk => k_is)
    (case kc => k_is)
    (case cA => k_is)
    (case cG => k_is)
    (case cT => k_is)
    (case cO => k_is)
    (case n_need => k_is)
    (case n_of => k_is)
    (case n_base => k_is)
    (case n_more => k_is)
    (case n_most => k_is)
    (case n_calm => k_is)
    (case n_back => k_is)
    (case n_top => k_is)
    (case n_under => k_is)
    (case n_up => k_is)
    (case n_hears => k_is)
    (case n_cap => k_is)
    (case gB => k_is)
    (case lB => k_is)
    (case gH => k_is)
    (case lH => k_is)
    (case gF => k_is)
    (case lF => k_is)
    (case gS => k_is)
    (case lS => k_is)
    (case ne_Rule => k_is)
    (case rd_R => k_is)
    (case ga_R => k_is)
    (case at_Rule_read => k_is)
    (case rc_Rule_read => k_is)
    (case fi_Rule_read => k_is)
    (case l_Rule_read => k_is)
    (case c_Rule_read => k_is)
    (case a_Rule___init__ => k_is)
    (case i_Rule___init__ => k_is)
    (case l_Rule___init__ => k_is)
    (case c_Rule___init__ => k_is)
    (case k_Rule___init__ => k_is)
    (case a_Rule_time => k_is)
    (case i_Rule_time => k_is)
    (case l_Rule_time => k_is)
    (case c_Rule_time => k_is)
    (case k_Rule_time => k_is)
    (case a_Rule___str__ => k_is)
    (case i_Rule___str__ => k_is)
    (case l_Rule___str__ => k_is)
    (case c_Rule___str__ => k_is)
    (case k_Rule___str__ => k_is)
    (case a_Rule___eq__ => k_is)
    (case i_Rule___eq__ => k_is)
    (case l_Rule___eq__ => k_is)
    (case c_Rule___eq__ => k_is)
    (case k_Rule___eq__ => k_is)
    (case z_isinstance => k_is)
    (case z_int => k_is)
    (case z_bool => k_is)
    (case z_max => k_is)
    (case z_min => k_is)
    (case z_len => k_is)
    (case z_abs => k_is)
    (case z_range => k_is)
    (case z_list => k_is)
    (case z_str => k_is)
    (case z_repr => k_is)
    (case z_sorted => k_is)
    (case z_dict => k_is)
    (case z_tuple => k_is)
    (case z_zip => k_is)
    (case z_enumerate => k_is)
#print axioms PySem.Challenge.cw_sitout_k15_steps_of_standings_holds
