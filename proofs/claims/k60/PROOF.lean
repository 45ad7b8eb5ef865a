import PyProof.Rows.All
import Wide.All
import OpenK.AllK
import Wide.FinOn
import HandS.ForMost
import HandS.Codes
import HandS.Evl
import HandS.IsInst
import HandS.Style
import HandS.Conv
import HandS.Iter
import HandS.Zip
import HandS.NoneIn
import HandS.ClsMeth
import KE.GoesZip
import KE.GoesMore
import KE.GoesEnum
import KE.GoesNew
import HandS.OwnEq
import HandS.FStr
import HandS.Sort
import HandS.Flow
import HandS.StrMore
import HandS.Replace
import HandS.Defaults
import HandS.SortInts
import HandS.FStrTup
import HandS.RaiseMore
import HandS.ExcInit
import HandS.TryOnly
import HandS.ExcField
import HandS.ExcIs
import HandS.Deep
import HandS.Star
import HandS.Walk
import HandS.TupMul
import HandS.TupAny
import HandS.Finally
import KE.DataFind
import KE.KExcIs
import PyProof.InstEq
import PyProof.ReprRoads
import PyProof.ReprLen
import KE.KEqSeq
import PySem.Challenge.RW_sitout_k60_shares_that_leave_enough
set_option Elab.async false
set_option maxRecDepth 100000
set_option maxHeartbeats 4000000
set_option linter.all false
namespace Sit
open PySem L2 Evl

/-! ### a source of draws, and what is known besides it -/
abbrev kGreat : Key := .inr "great"
abbrev kNow : Key := .inr "now"
abbrev kMixed : Key := .inr "mixed"
abbrev kTurn : Key := .inr "turn"
structure DkO (l : Addr) (kvs : List (Key × V)) : Prop where
  len : kvs.length ≤ 4
  g : valV kvs kGreat = some (.ref l)
  n : ∃ a : Int, valV kvs kNow = some (.int a)
  m : ∃ a : Int, valV kvs kMixed = some (.int a)
  t : ∃ a : Int, valV kvs kTurn = some (.int a)
def Dk (d l : Addr) (H : Hp) : Prop := ∃ (kvs : List (Key × V)) (ns : List Int), H d = some (.dK kvs) ∧ DkO l kvs ∧ H l = some (.lst (ns.map V.int))
/-- Kn is known and stays; the source at d and its list at l stand beside it -/
structure In (d l : Addr) (Kn H : Hp) : Prop where
  ex : Ex Kn H
  dn : Kn d = none
  ln : Kn l = none
  dk : Dk d l H
theorem putK_len {kvs : List (Key × V)} {k : Key} {x : V} (v : V) (h : valV kvs k = some x) : (putK kvs k v).length = kvs.length := by
  unfold putK
  rw [valV_any, h]
  simp
theorem Dk.ex {d l : Addr} {H H' : Hp} (h : Dk d l H) (e : Ex H H') : Dk d l H' := by
  obtain ⟨kvs, ns, h1, h2, h3⟩ := h
  exact ⟨kvs, ns, e _ _ h1, h2, e _ _ h3⟩
theorem Dk.ne {d l : Addr} {H : Hp} (h : Dk d l H) : d ≠ l := by
  obtain ⟨kvs, ns, h1, h2, h3⟩ := h
  exact ne_of h1 h3 (by intro z; cases z)
theorem In.to {d l : Addr} {Kn H H' : Hp} (h : In d l Kn H) (e : Ex H H') : In d l Kn H' := ⟨h.ex.trans e, h.dn, h.ln, h.dk.ex e⟩
/-- less is known -/
theorem In.less {d l : Addr} {K0 Kn H : Hp} (h : In d l Kn H) (e : Ex K0 Kn) : In d l K0 H := ⟨e.trans h.ex, fresh_back e h.dn, fresh_back e h.ln, h.dk⟩
/-- more is known: an object that stands in the heap, none of the source's two -/
theorem In.more {d l : Addr} {Kn H : Hp} {p : Addr} {o : HO} (h : In d l Kn H) (hp : H p = some o) (hk : Kn p = none) (nd : p ≠ d) (nl : p ≠ l) : In d l (upd Kn p o) H := by
  refine ⟨fun a u e => ?_, by rw [upd_ne nd.symm]; exact h.dn, by rw [upd_ne nl.symm]; exact h.ln, h.dk⟩
  by_cases q : a = p
  · subst q
    rw [upd_same] at e
    rw [hp, ← e]
  · rw [upd_ne q] at e
    exact h.ex a u e
/-- a new object is known -/
theorem In.new {d l : Addr} {Kn H H1 : Hp} {p : Addr} {o : HO} (h : In d l Kn H) (np : H p = none) (e : Ex H H1) (hp : H1 p = some o) : In d l (upd Kn p o) H1 ∧ Ex Kn (upd Kn p o) := by
  obtain ⟨kvs, ns, h1, h2, h3⟩ := id h.dk
  have kp : Kn p = none := fresh_back h.ex np
  exact ⟨(h.to e).more hp kp (fun q => by subst q; rw [h1] at np; cases np) (fun q => by subst q; rw [h3] at np; cases np), Ex.new kp⟩
/-- an expression over what is known -/
theorem In.ev {d l : Addr} {Kn H : Hp} {te : TE} {σ : L2.St} {v : V} {Q : VK} (h : In d l Kn H) (e : Ev te σ Kn v) (k : ∀ H', In d l Kn H' → Q v H') : te σ H Q :=
  e H h.ex Q fun H2 e2 => k H2 (h.to e2)
theorem In.evT {d l : Addr} {Kn H : Hp} {t : TT} {σ : L2.St} {b : Bool} {Q : Bool → Hp → Prop} (h : In d l Kn H) (e : EvT t σ Kn b) (k : ∀ H', In d l Kn H' → Q b H') : t σ H Q :=
  e H h.ex Q fun H2 e2 => k H2 (h.to e2)
theorem In.evL {d l : Addr} {Kn H : Hp} {te : TE} {σ : L2.St} {xs : List V} {Q : VK} (h : In d l Kn H) (e : EvL te σ Kn xs) (k : ∀ p K1 H', Ex Kn K1 → K1 p = some (.lst xs) → In d l K1 H' → Q (.ref p) H') : te σ H Q :=
  e H h.ex Q fun p H2 np e2 hp => k p _ H2 (h.new np e2 hp).2 upd_same (h.new np e2 hp).1
theorem In.evU {d l : Addr} {Kn H : Hp} {te : TE} {σ : L2.St} {xs : List V} {Q : VK} (h : In d l Kn H) (e : EvU te σ Kn xs) (k : ∀ p K1 H', Ex Kn K1 → K1 p = some (.tup xs) → In d l K1 H' → Q (.ref p) H') : te σ H Q :=
  e H h.ex Q fun p H2 np e2 hp => k p _ H2 (h.new np e2 hp).2 upd_same (h.new np e2 hp).1

/-! ### promises -/
/-- a def that changes nothing: a value that R tells of the arguments -/
def spP (R : Hp → List V → V → Prop) : Sp := fun vs H Q _ => ∃ v, R H vs v ∧ ∀ H', Ex H H' → Q v H'
def Mono (R : Hp → List V → V → Prop) : Prop := ∀ H H' vs v, Ex H H' → R H vs v → R H' vs v
theorem spv {R : Hp → List V → V → Prop} {vs : List V} {H : Hp} {v : V} (m : Mono R) (h : R H vs v) : SpV (spP R) vs H v := fun H1 e _ q _ => ⟨v, m _ _ _ _ e h, q⟩
/-- a draw -/
def spDraw : Sp := fun vs H Q _ => ∃ (d l : Addr) (m : Int) (Kn : Hp), vs = [.ref d, .int m] ∧ 0 < m ∧ m < 1073741824 ∧ In d l Kn H ∧ ∀ v H', 0 ≤ v → v < m → In d l Kn H' → Q (.int v) H'
/-- one of some things -/
def spPick (K : PySem.W.Frag) : Sp := fun vs H Q _ => ∃ (d l p : Addr) (xs : List V) (Kn : Hp), vs = [.ref d, .ref p] ∧ SqL K Kn p xs ∧ 0 < xs.length ∧ xs.length < 1000000 ∧ In d l Kn H ∧ ∀ v H', v ∈ xs → In d l Kn H' → Q v H'
/-- the source made of the script -/
def spDeal (K : PySem.W.Frag) : Sp := fun vs H Q _ => ∃ (a : Addr) (b : Int) (ns : List Int), vs = [.ref a, .int b] ∧ SqL K H a (ns.map V.int) ∧ ns.length ≤ 63 ∧ 0 ≤ b ∧ b ≤ 100 ∧
  ∀ d l H', H d = none → H l = none → Ex H H' → Dk d l H' → Q (.ref d) H'

/-! ### expressions -/
section
variable {K : PySem.W.Frag} {σ : L2.St} {H : Hp} {ta tb : TE} {x y z v : V}
theorem rc_int1 {i : Int} : RC (fun xs H Q => (∃ i, xs = [V.int i] ∧ Q (.int i) H) ∨ ∃ k, xs = [V.bl k] ∧ Q (.int (if k then 1 else 0)) H) [.int i] H (.int i) := fun H1 _ _ q => .inl ⟨i, rfl, q H1 (Ex.refl H1)⟩
theorem rc_intB {b : Bool} : RC (fun xs H Q => (∃ i, xs = [V.int i] ∧ Q (.int i) H) ∨ ∃ k, xs = [V.bl k] ∧ Q (.int (if k then 1 else 0)) H) [.bl b] H (.int (if b = true then 1 else 0)) := fun H1 _ _ q => .inr ⟨b, rfl, q H1 (Ex.refl H1)⟩
theorem rc_abs {i : Int} : RC (fun xs H Q => ∃ i, xs = [V.int i] ∧ Q (.int (if i < 0 then -i else i)) H) [.int i] H (.int (if i < 0 then -i else i)) := fun H1 _ _ q => ⟨i, rfl, q H1 (Ex.refl H1)⟩
theorem rc_min {i j : Int} : RC (fun xs H Q => ∃ i j, xs = [V.int i, V.int j] ∧ Q (.int (if j < i then j else i)) H) [.int i, .int j] H (.int (if j < i then j else i)) := fun H1 _ _ q => ⟨i, j, rfl, q H1 (Ex.refl H1)⟩
theorem rc_max {i j : Int} : RC (fun xs H Q => ∃ i j, xs = [V.int i, V.int j] ∧ Q (.int (if j > i then j else i)) H) [.int i, .int j] H (.int (if j > i then j else i)) := fun H1 _ _ q => ⟨i, j, rfl, q H1 (Ex.refl H1)⟩
theorem rc_lenL {p : Addr} {xs : List V} (h : SqL K H p xs) : RC (fun xs H Q => ∃ p ys, xs = [V.ref p] ∧ (SqL K H p ys ∨ SqT K H p ys) ∧ Q (.int ys.length) H) [.ref p] H (.int xs.length) := fun H1 e _ q => ⟨p, xs, rfl, .inl (ex_l e h), q H1 (Ex.refl H1)⟩
theorem rc_isi {x c : V} {t u : Value} {b : Bool} (hc : ClsV c u) (ht : ∀ H1, Ex H H1 → TyX K H1 x t) (hk : PySem.W.kitOne K t u = some b) : RC (rIsi K) [x, c] H (.bl b) := fun H1 e _ q => ⟨x, c, t, u, b, rfl, hc, ht H1 e, hk, q H1 (Ex.refl H1)⟩
theorem rv_isN : RV (fun x y H Q => y = V.non ∧ Q (.bl (decide (x = V.non))) H) x .non H (.bl (decide (x = .non))) := fun H1 _ _ q => ⟨rfl, q H1 (Ex.refl H1)⟩
theorem rv_notN : RV (fun x y H Q => y = V.non ∧ Q (.bl (!decide (x = V.non))) H) x .non H (.bl (!decide (x = .non))) := fun H1 _ _ q => ⟨rfl, q H1 (Ex.refl H1)⟩
theorem ev_fld {a C dx : Addr} {fs : List (Str × V)} {f : Str} (ha : Ev ta σ H (.ref a)) (ho : H a = some (.ins C dx fs)) (hc : Cls K C) (hn : NoAttr K C f) (hl : fs.lookup f = some v) : Ev (tFld K ta f) σ H v := fun H1 e _ q =>
  ha H1 e _ fun H2 e2 => ⟨a, C, dx, fs, v, rfl, (e.trans e2) _ _ ho, hc, hn, hl, q H2 e2⟩
theorem ev_and {a b : Bool} (h1 : Ev ta σ H (.bl a)) (h2 : Ev tb σ H (.bl b)) : Ev (tAndV ta tb) σ H (.bl (a && b)) := ev_andV h1 fun _ => h2
theorem et_and2 {t u : TT} {a b : Bool} (h1 : EvT t σ H a) (h2 : EvT u σ H b) : EvT (tAnd t u) σ H (a && b) := et_and h1 fun _ => h2
theorem et_or2 {t u : TT} {a b : Bool} (h1 : EvT t σ H a) (h2 : EvT u σ H b) : EvT (tOr t u) σ H (a || b) := et_or h1 fun _ => h2
/-- a method of an own object that changes nothing -/
theorem ev_meth {a C dx : Addr} {fs : List (Str × V)} {m : Str} {sp : Sp} {E : XK} {t : TA} {vs : List V} (ha : Ev ta σ H (.ref a)) (ho : H a = some (.ins C dx fs)) (hl : fs.lookup m = none) (ht : EvA t σ H vs) (hs : SpV sp (.ref a :: (vs ++ [])) H z) :
    Ev (tMeth C m sp [] E ta t) σ H z := fun H1 e _ q =>
  ha H1 e _ fun H2 e2 => ⟨a, dx, fs, rfl, (e.trans e2) _ _ ho, hl, ht H2 (e.trans e2) _ fun H3 e3 => hs H3 ((e.trans e2).trans e3) _ (fun H4 e4 => q H4 ((e2.trans e3).trans e4)) E⟩
end

/-! ### statements, with a word M of the heap that lasts -/
structure Md (Kn : Hp) (M : Hp → Prop) : Prop where
  ex : ∀ H, M H → Ex Kn H
  up : ∀ H H', M H → Ex H H' → M H'
theorem mdE (Kn : Hp) : Md Kn (Ex Kn) := ⟨fun _ h => h, fun _ _ h e => h.trans e⟩
theorem mdI (d l : Addr) (Kn : Hp) : Md Kn (In d l Kn) := ⟨fun _ h => h.ex, fun _ _ h e => h.to e⟩
section
variable {K : PySem.W.Frag} {σ : L2.St} {Kn H : Hp} {M : Hp → Prop} {ta tb te : TE} {t : TT} {tu tw tz : TS} {D : Ends} {v : V} {b : Bool} {i : Nat}
theorem m_ev {Q : VK} (md : Md Kn M) (m : M H) (h : Ev te σ Kn v) (k : ∀ H1, M H1 → Q v H1) : te σ H Q := h H (md.ex _ m) _ fun H1 e => k H1 (md.up _ _ m e)
theorem m_evT {Q : Bool → Hp → Prop} (md : Md Kn M) (m : M H) (h : EvT t σ Kn b) (k : ∀ H1, M H1 → Q b H1) : t σ H Q := h H (md.ex _ m) _ fun H1 e => k H1 (md.up _ _ m e)
theorem g_no (md : Md Kn M) (m : M H) (h : EvT t σ Kn false) (k : ∀ H1, M H1 → tz D σ H1) : tSeq (tIfS t tu tNext) tz D σ H := q_when (h.mono (md.ex _ m)) (fun q => Bool.noConfusion q) fun _ H1 e => k H1 (md.up _ _ m e)
theorem g_no1 (md : Md Kn M) (m : M H) (h : EvT t σ Kn false) (k : ∀ H1, M H1 → D.nx σ H1) : tIfS t tu tNext D σ H := s_when (h.mono (md.ex _ m)) (fun q => Bool.noConfusion q) fun _ H1 e => k H1 (md.up _ _ m e)
theorem g_yes (md : Md Kn M) (m : M H) (h : EvT t σ Kn true) (k : ∀ H1, M H1 → tu { D with nx := tz D } σ H1) : tSeq (tIfS t tu tNext) tz D σ H := q_when (h.mono (md.ex _ m)) (fun _ H1 e => k H1 (md.up _ _ m e)) (fun q => Bool.noConfusion q)
theorem g_if (md : Md Kn M) (m : M H) (h : EvT t σ Kn b) (h1 : b = true → ∀ H1, M H1 → tu { D with nx := tz D } σ H1) (h2 : b = false → ∀ H1, M H1 → tw { D with nx := tz D } σ H1) : tSeq (tIfS t tu tw) tz D σ H :=
  q_if (h.mono (md.ex _ m)) (fun q H1 e => h1 q H1 (md.up _ _ m e)) (fun q H1 e => h2 q H1 (md.up _ _ m e))
theorem g_asg (md : Md Kn M) (m : M H) (h : Ev te σ Kn v) (k : ∀ H1, M H1 → tz D (σ.set i (some v)) H1) : tSeq (tAsg te (gName i)) tz D σ H := q_asg (h.mono (md.ex _ m)) fun H1 e => k H1 (md.up _ _ m e)
theorem g_asg1 (md : Md Kn M) (m : M H) (h : Ev te σ Kn v) (k : ∀ H1, M H1 → D.nx (σ.set i (some v)) H1) : tAsg te (gName i) D σ H := s_asg (h.mono (md.ex _ m)) fun H1 e => k H1 (md.up _ _ m e)
theorem g_ret (md : Md Kn M) (m : M H) (h : Ev te σ Kn v) (k : ∀ H1, M H1 → D.rt v H1) : tRet te D σ H := s_ret (h.mono (md.ex _ m)) fun H1 e => k H1 (md.up _ _ m e)
/-- an object at p that is being made, H0 ahead of it -/
structure Mi (H0 : Hp) (p C dx : Addr) (fs : List (Str × V)) (H : Hp) : Prop where
  ex : Ex H0 H
  np : H0 p = none
  at_ : H p = some (.ins C dx fs)
theorem mdM (H0 : Hp) (p C dx : Addr) (fs : List (Str × V)) : Md H0 (Mi H0 p C dx fs) := ⟨fun _ h => h.ex, fun _ _ h e => ⟨h.ex.trans e, h.np, e _ _ h.at_⟩⟩
theorem g_fld {H0 : Hp} {p C dx : Addr} {fs : List (Str × V)} {f : Str} (m : Mi H0 p C dx fs H) (hv : Ev te σ H0 v) (hp : Ev ta σ H0 (.ref p)) (hc : Cls K C) (hn : NoAttr K C f) (hl : fs.length < 1000)
    (k : ∀ H1, Mi H0 p C dx (putF f v fs) H1 → tz D σ H1) : tSeq (sFld K ta te f) tz D σ H :=
  m_ev (mdM H0 p C dx fs) m hv fun H1 m1 => m_ev (mdM H0 p C dx fs) m1 hp fun H2 m2 => ⟨p, C, dx, fs, rfl, m2.at_, hc, hn, hl, k _ ⟨Ex.mut m2.ex m2.np, m2.np, upd_same⟩⟩
theorem g_fld1 {H0 : Hp} {p C dx : Addr} {fs : List (Str × V)} {f : Str} (m : Mi H0 p C dx fs H) (hv : Ev te σ H0 v) (hp : Ev ta σ H0 (.ref p)) (hc : Cls K C) (hn : NoAttr K C f) (hl : fs.length < 1000)
    (k : ∀ H1, Mi H0 p C dx (putF f v fs) H1 → D.nx σ H1) : sFld K ta te f D σ H :=
  m_ev (mdM H0 p C dx fs) m hv fun H1 m1 => m_ev (mdM H0 p C dx fs) m1 hp fun H2 m2 => ⟨p, C, dx, fs, rfl, m2.at_, hc, hn, hl, k _ ⟨Ex.mut m2.ex m2.np, m2.np, upd_same⟩⟩
end

/-! ### new objects -/
def EvN (te : TE) (σ : L2.St) (H : Hp) (Pn : HO → Prop) : Prop := ∀ H1, Ex H H1 → ∀ Q : VK, (∀ p H2 o, H1 p = none → Ex H1 H2 → H2 p = some o → Pn o → Q (.ref p) H2) → te σ H1 Q
theorem EvN.mono {te : TE} {σ : L2.St} {H H' : Hp} {Pn : HO → Prop} (e : Ex H H') (h : EvN te σ H Pn) : EvN te σ H' Pn := fun H1 a Q q => h H1 (e.trans a) Q q
def spN (R : Hp → List V → (HO → Prop) → Prop) : Sp := fun vs H Q _ => ∃ Pn, R H vs Pn ∧ ∀ p H' o, H p = none → Ex H H' → H' p = some o → Pn o → Q (.ref p) H'
def MonoN (R : Hp → List V → (HO → Prop) → Prop) : Prop := ∀ H H' vs v, Ex H H' → R H vs v → R H' vs v
theorem evN_call {σ : L2.St} {H : Hp} {R : Hp → List V → (HO → Prop) → Prop} {dvs vs : List V} {E : XK} {ta : TA} {Pn : HO → Prop} (m : MonoN R) (h : EvA ta σ H vs) (hr : R H (vs ++ dvs) Pn) : EvN (tCall (spN R) dvs E ta) σ H Pn := fun H1 e Q q =>
  h H1 e _ fun H2 e2 => ⟨Pn, m _ _ _ _ (e.trans e2) hr, fun p H' o np e3 hp ho => q p H' o (fresh_back e2 np) (e2.trans e3) hp ho⟩
theorem In.evN {d l : Addr} {Kn H : Hp} {te : TE} {σ : L2.St} {Pn : HO → Prop} {Q : VK} (h : In d l Kn H) (e : EvN te σ Kn Pn) (k : ∀ p K1 H' o, Ex Kn K1 → K1 p = some o → Pn o → In d l K1 H' → Q (.ref p) H') : te σ H Q :=
  e H h.ex Q fun p H2 o np e2 hp ho => k p _ H2 o (h.new np e2 hp).2 upd_same ho (h.new np e2 hp).1

/-! ### more comprehensions, comparisons of data -/
section
variable {K : PySem.W.Frag} {σ : L2.St} {H H' : Hp} {ta tb te tx : TE} {t u : TT} {x y z : V}
theorem el_lcR2 {ta : TA} {j : Nat} {vs : List Nat} {lo n : Int} (f : Nat → Bool) (v : Nat → V) (h : EvA ta σ H [.int lo, .int n]) (hn : 0 ≤ lo ∧ lo ≤ 40000 ∧ -40000 ≤ n ∧ n ≤ 40000) (hw : ∀ x, wipe ((wipe σ vs).set j (some x)) vs = wipe σ vs)
    (ht : ∀ (i : Nat) H1, Ex H H1 → lo + (i : Int) < n → EvT t ((wipe σ vs).set j (some (.int (lo + (i : Int))))) H1 (f i)) (he : ∀ (i : Nat) H1, Ex H H1 → lo + (i : Int) < n → f i = true → Ev te ((wipe σ vs).set j (some (.int (lo + (i : Int))))) H1 (v i)) :
    EvL (tLc (iRng2 ta) (gName j) t te vs) σ H (given (n - lo).toNat f v) := fun H0 e Q q => h H0 e _ fun H1 e1 => ⟨lo, n, rfl, ⟨by omega, by omega, by omega, by omega⟩, fun Dl hD =>
  lc_range (lo := lo) (n := (n - lo).toNat) (Cw H1 f v Dl) ⟨hD, Ex.new hD, upd_same⟩ (fun i H' hi p =>
    ⟨hw _, cw_turn p (by omega) (ht i H1 (e.trans e1) (by omega)) (fun hf => he i H1 (e.trans e1) (by omega) hf)⟩) (fun H' p => q Dl H' (fresh_back e1 p.1) (e1.trans p.2.1) p.2.2)⟩
/-- over a new tuple -/
theorem el_lcNU {xs : List V} {tl : TE} {j : Nat} {vs : List Nat} (f : Nat → Bool) (v : Nat → V) (h : EvU tl σ H xs) (hz : xs.length ≤ 40000) (hw : ∀ x, wipe ((wipe σ vs).set j (some x)) vs = wipe σ vs)
    (ht : ∀ (i : Nat) (x : V) H1, Ex H H1 → xs[i]? = some x → EvT t ((wipe σ vs).set j (some x)) H1 (f i)) (he : ∀ (i : Nat) (x : V) H1, Ex H H1 → xs[i]? = some x → f i = true → Ev te ((wipe σ vs).set j (some x)) H1 (v i)) :
    EvL (tLc (iTup K tl) (gName j) t te vs) σ H (given xs.length f v) := fun H0 e Q q => h H0 e _ fun a H1 ha e1 hx => ⟨a, rfl, ⟨xs, st_of hx⟩, fun Dl hD =>
  lc_tup (xs := xs) (Cw H1 f v Dl) ⟨hD, Ex.new hD, upd_same⟩ (fun i H' _ p => st_of (p.2.1 a _ hx)) (fun i x H' hi p => ⟨hw x, cw_turn p (by have := (List.getElem?_eq_some_iff.mp hi).1; omega) (ht i x H1 (e.trans e1) hi) (fun hf => he i x H1 (e.trans e1) hi hf)⟩)
    (fun H' p => q Dl H' (fresh_back e1 p.1) (e1.trans p.2.1) p.2.2)⟩
theorem given_none {n : Nat} {f : Nat → Bool} {v : Nat → V} (h : ∀ i, i < n → f i = false) : given n f v = [] := by
  unfold given
  rw [List.filter_eq_nil_iff.mpr (fun i hi => by rw [h i (List.mem_range.mp hi)]; exact Bool.false_ne_true)]
  rfl
theorem el_is {xs ys : List V} (h : EvL te σ H xs) (e : xs = ys) : EvL te σ H ys := by
  rw [← e]
  exact h
theorem dp_up {x : V} : ∀ {d : PyData}, Ex H H' → Dp K H x d → Dp K H' x d := by
  intro d e h
  exact Dp.rec (motive_1 := fun v d _ => Dp K H' v d) (motive_2 := fun vs ds _ => DpAll K H' vs ds) .non .bl .int .str (fun h _ q => .lst (ex_l e h) q) (fun h _ q => .tup (ex_t e h) q) .nil (fun _ _ p q => .cons p q) h
theorem rv_eqD {d e : PyData} (hx : Dp K H x d) (hy : Dp K H y e) (sd : SeqAt.shaped d = true) (se : SeqAt.shaped e = true) : RV (rEqD K) x y H (.bl (PyData.eqv d e)) := fun H1 ex _ q => ⟨d, e, dp_up ex hx, dp_up ex hy, sd, se, q H1 (Ex.refl H1)⟩
theorem rv_neD {d e : PyData} (hx : Dp K H x d) (hy : Dp K H y e) (sd : SeqAt.shaped d = true) (se : SeqAt.shaped e = true) : RV (rNeD K) x y H (.bl (!PyData.eqv d e)) := fun H1 ex _ q => ⟨d, e, dp_up ex hx, dp_up ex hy, sd, se, q H1 (Ex.refl H1)⟩
/-- a new list that is empty, and [] -/
theorem et_neNil (h : EvL ta σ H []) : EvT (tTest (tOp (rNeD K) ta (tLst tNil))) σ H false :=
  et_test (ev_opLL h (el_lst ea_nil (by decide)) fun _ _ _ hp hq _ => rv_neD (.lst (sq_of hp) .nil) (.lst (sq_of hq) .nil) (by rfl) (by rfl))
theorem s_retN {D : Ends} {Pn : HO → Prop} (h : EvN te σ H Pn) (k : ∀ p H1 o, H p = none → Ex H H1 → H1 p = some o → Pn o → D.rt (.ref p) H1) : tRet te D σ H := h H (Ex.refl H) _ k
end

/-! ### chains, ranges as values -/
section
variable {K : PySem.W.Frag} {σ : L2.St} {H H' : Hp} {ta tb tc te tx : TE} {x y z : V}
theorem op_notin_rng {X : Cx} : OpR X (compareOp .NotIn) (fun x y H Q => ∃ i a lo hi, x = V.int i ∧ y = V.ref a ∧ H a = some (.rng lo hi) ∧ Q (.bl (!decide (lo ≤ i ∧ i < hi))) H) := by
  intro pins s σ H x y v u Q I rx ry h
  obtain ⟨i, a, lo, hi, rfl, rfl, ha, q⟩ := h
  obtain ⟨k, rfl⟩ := rx
  obtain rfl : u = Value.ref a := ry
  obtain ⟨t1, t2, t3, ho⟩ := I.hok a _ ha
  show wpAny _ _ (do return Value.bool (!(← contains (Value.ref a) (Value.int i k)))) _ _ s
  refine wpAny_bind (wpAny_contains_slot (T := "range") ⟨_, ho, rfl⟩ PySem.F.slot_range_contains (PySem.call_meets PySem.F.slot_range_contains ⟨_, ho, rfl⟩ PySem.F.entry_range_contains (PySem.F.args_range_contains_2 _ _) (q_contains a lo hi i t1 t2 t3 k)
    ⟨ho, wpAny_truthy_bool (wpAny_pure ⟨.bl _, H, I, rfl, ?_⟩)⟩))
  rw [place1]
  exact q
theorem ev_inRg {lo hi i : Int} {tr : TE} {r : R2} {b : Bool → Bool} (ha : Ev ta σ H (.int i)) (hb : ∀ H1, Ex H H1 → ∀ Q : VK, (∀ p H2, Ex H1 H2 → H2 p = some (.rng lo hi) → Q (.ref p) H2) → tr σ H1 Q)
    (hr : ∀ p H1 (Q : VK), H1 p = some (.rng lo hi) → Q (.bl (b (decide (lo ≤ i ∧ i < hi)))) H1 → r (.int i) (.ref p) H1 Q) : Ev (tOp r ta tr) σ H (.bl (b (decide (lo ≤ i ∧ i < hi)))) := fun H1 e Q q =>
  ha H1 e _ fun H2 e2 => hb H2 (e.trans e2) _ fun p H3 e3 hp => hr p H3 Q hp (q H3 (e2.trans e3))
theorem ev_range2 {lo hi : Int} {ta : TA} (h : EvA ta σ H [.int lo, .int hi]) : ∀ H1, Ex H H1 → ∀ Q : VK, (∀ p H2, Ex H1 H2 → H2 p = some (.rng lo hi) → Q (.ref p) H2) →
    tCB (fun vs H Q => ∃ i j, vs = [V.int i, V.int j] ∧ ∀ p, H p = none → Q (.ref p) (upd H p (.rng i j))) ta σ H1 Q := fun H1 e Q q =>
  h H1 e _ fun H2 e2 => ⟨lo, hi, rfl, fun p np => q p _ (e2.trans (Ex.new np)) upd_same⟩
theorem et_chain {r r' : R2} {a b : Bool} (ha : Ev ta σ H x) (hb : Ev tb σ H y) (hr : RV r x y H (.bl a)) (hc : Ev tc σ H z) (hr' : RV r' y z H (.bl b)) : EvT (tTest (tChain r r' ta tb tc)) σ H (a && b) := fun H1 e Q q =>
  ha H1 e _ fun H2 e2 => hb H2 (e.trans e2) _ fun H3 e3 => hr H3 ((e.trans e2).trans e3) _ fun H4 e4 => ⟨a, rfl, by
    have e14 := (e2.trans e3).trans e4
    cases a with
    | true =>
      refine iteT ?_
      exact hc H4 (e.trans e14) _ fun H5 e5 => hr' H5 ((e.trans e14).trans e5) _ fun H6 e6 => ⟨b, rfl, q H6 ((e14.trans e5).trans e6)⟩
    | false =>
      refine iteF ?_
      exact ⟨false, rfl, q H4 e14⟩⟩
theorem ev_ifE {t : TT} {b : Bool} {v w : V} (h : EvT t σ H b) (h1 : Ev ta σ H v) (h2 : Ev tb σ H w) : Ev (tIf t ta tb) σ H (if b = true then v else w) := by
  refine ev_if h (fun e => ?_) (fun e => ?_)
  · rw [if_pos e]; exact h1
  · rw [e, if_neg Bool.false_ne_true]; exact h2
end

/-! ### str(x), x == y by own methods that change nothing -/
/-- a method that is found by its class -/
structure OwnM (P : Program) (w : World) (K : PySem.W.Frag) (mg : Str → Option Value) (base : Heap) (k : Nat) (C : Addr) (m : Str) (R : Hp → List V → V → Prop) : Prop where
  ex : ∃ (f : Addr) (fd : FuncData) (ps : List Str), FnOk P w K mg base C8.CX0 k f fd ps (spP R) ∧ PySem.W.findIn K (.ref C) m = some (some (.ref f)) ∧ PySem.W.isFn K (.ref f) = true ∧ Binds K fd ps []
section
variable {X : Cx} {k j : Nat} {C : Addr} {R : Hp → List V → V → Prop}
def rStrO (C : Addr) (R : Hp → List V → V → Prop) : List V → Hp → VK → Prop := fun xs H Q => ∃ (a dx : Addr) (fs : List (Str × V)) (z : Str), xs = [.ref a] ∧ H a = some (.ins C dx fs) ∧ R H [.ref a] (.str z) ∧ ∀ H', Ex H H' → Q (.str z) H'
theorem call_strO (M : OwnM X.prog X.w X.K X.mg X.base k C "__str__" R) (hr : Room j X.A) (hk : k + 2 ≤ j) : CallR X (.type "str") (rStrO C R) := by
  intro pins s σ H xs us Q I rx h
  obtain ⟨f, fd, ps, F, hs, hf, hb⟩ := M.ex
  obtain ⟨a, dx, fs, z, rfl, ha, hR, q⟩ := h
  obtain ⟨u, rfl, ru⟩ := Vals.one rx
  obtain rfl : u = Value.ref a := ru
  obtain ⟨mA, J, _⟩ := ins_get I.hok ha
  obtain ⟨od, J, _⟩ := J.look
  have r2 : Room k X.A.in1.in1 := ((hr.mono hk).in1).in1
  refine PySem.W.kso_call r2.units0 I.kIn J hs hf ?_
  have hsp : spP R [.ref a] H (fun v H' => v = .str z ∧ Ex H H') C8.E0 := ⟨.str z, hR, fun H' e => ⟨rfl, e⟩⟩
  have e0 : Env0 X.prog X.w X.K X.mg X.base X.A.in1.in1 X.stack s H := by
    have e := I.env0
    exact ⟨e.frames, e.mod, e.bs, e.bsz, e.funs, e.frf, e.hok, e.bare⟩
  have hl := F.len _ _ _ _ hsp
  refine wpAny_call (codeAny_mono (F.run X.A.in1.in1 X.stack s H ⟨[.ref a], []⟩ [.ref a] [.ref a] _ C8.E0 r2 e0 (by
    have := hb s [.ref a] I.kIn (by simpa using hl)
    simpa using this) (.cons rfl .nil) hsp) fun r s' hq => ?_)
  cases r with
  | error e => exact False.elim hq
  | ok fl =>
    cases fl with
    | ret w =>
      obtain ⟨z', H', I', rz, ez, ex⟩ := I.after hq
      subst ez
      obtain ⟨t, rfl⟩ := rz
      exact ⟨.str z, H', I', ⟨t, rfl⟩, q H' ex⟩
    | next => exact False.elim hq
    | brk => exact False.elim hq
    | cont => exact False.elim hq
def rEqO (C : Addr) (R : Hp → List V → V → Prop) : R2 := fun x y H Q => ∃ (a b dx dy : Addr) (fs gs : List (Str × V)) (k : Bool), x = .ref a ∧ y = .ref b ∧ H a = some (.ins C dx fs) ∧ H b = some (.ins C dy gs) ∧ R H [.ref a, .ref b] (.bl k) ∧ ∀ H', Ex H H' → Q (.bl k) H'
theorem op_eqO (M : OwnM X.prog X.w X.K X.mg X.base k C "__eq__" R) (hr : Room j X.A) (hk : k ≤ j) : OpR X (compareOp .Eq) (rEqO C R) := by
  intro pins s σ H x y v u Q I rx ry h
  obtain ⟨f, fd, ps, F, hs, hf, hb⟩ := M.ex
  obtain ⟨a, b, dx, dy, fs, gs, k, rfl, rfl, ha, hb', hR, q⟩ := h
  cases rx
  cases ry
  obtain ⟨mA, J, _⟩ := ins_get I.hok ha
  obtain ⟨mB, J', _⟩ := ins_get I.hok hb'
  obtain ⟨od, J, _⟩ := J.look
  obtain ⟨od', J', _⟩ := J'.look
  obtain ⟨m, hF⟩ := I.fr
  have r2 := hr.mono hk
  show wpAny (model X.prog X.w) X.A (richCompare .Eq (.ref a) (.ref b)) (EP X pins σ Q) X.xe s
  refine PySem.W.cmp_K (op := .Eq) (tb := .ref C) r2.units0 hF I.ok.mod.kin J J'.type (by simp [PySem.W.notFirst]) hs hf ?_
  have hsp : spP R [.ref a, .ref b] H (fun v H' => v = .bl k ∧ Ex H H') C8.E0 := ⟨.bl k, hR, fun H' e => ⟨rfl, e⟩⟩
  have e0 : Env0 X.prog X.w X.K X.mg X.base X.A X.stack s H := by
    have e := I.env0
    exact ⟨e.frames, e.mod, e.bs, e.bsz, e.funs, e.frf, e.hok, e.bare⟩
  have hl := F.len _ _ _ _ hsp
  refine wpAny_call (codeAny_mono (F.run X.A X.stack s H ⟨[.ref a, .ref b], []⟩ [.ref a, .ref b] [.ref a, .ref b] _ C8.E0 r2 e0 (by
    have := hb s [.ref a, .ref b] I.kIn (by simpa using hl)
    simpa using this) (.cons rfl (.cons rfl .nil)) hsp) fun r s' hq => ?_)
  cases r with
  | error e => exact False.elim hq
  | ok fl =>
    cases fl with
    | ret w =>
      obtain ⟨z, H', I', rz, ez, ex⟩ := I.after hq
      subst ez
      cases rz
      exact ⟨.bl k, H', I', rfl, q H' ex⟩
    | next => exact False.elim hq
    | brk => exact False.elim hq
    | cont => exact False.elim hq
end
section
variable {K : PySem.W.Frag} {σ : L2.St} {H : Hp} {ta tb : TE} {C : Addr} {R : Hp → List V → V → Prop}
theorem rc_strO (m : Mono R) {a dx : Addr} {fs : List (Str × V)} {z : Str} (h : H a = some (.ins C dx fs)) (hR : R H [.ref a] (.str z)) : RC (rStrO C R) [.ref a] H (.str z) := fun H1 e _ q => ⟨a, dx, fs, z, rfl, e _ _ h, m _ _ _ _ e hR, q⟩
theorem rv_eqO (m : Mono R) {a b dx dy : Addr} {fs gs : List (Str × V)} {k : Bool} (h : H a = some (.ins C dx fs)) (h' : H b = some (.ins C dy gs)) (hR : R H [.ref a, .ref b] (.bl k)) : RV (rEqO C R) (.ref a) (.ref b) H (.bl k) :=
  fun H1 e _ q => ⟨a, b, dx, dy, fs, gs, k, rfl, rfl, e _ _ h, e _ _ h', m _ _ _ _ e hR, q⟩
/-- f-strings -/
theorem ev_fmtS {z : Str} (h : Ev ta σ H (.str z)) (hz : z.length ≤ 100000) : Ev (tFmt ta) σ H (.str z) := fun H1 e Q q => h H1 e _ fun H2 e2 => .inl ⟨z, rfl, Nat.le_trans hz (by decide), q H2 e2⟩
theorem ev_fmtI {i : Int} (h : Ev ta σ H (.int i)) (hz : i.natAbs.log2 < 1920) : Ev (tFmt ta) σ H (.str (toString i)) := fun H1 e Q q => h H1 e _ fun H2 e2 => .inr ⟨i, rfl, hz, q H2 e2⟩
/-- parts of an f-string: acc ahead, out in the end -/
def EvJ (ts : List TE) (acc : Str) (σ : L2.St) (H : Hp) (out : Str) : Prop := ∀ H1, Ex H H1 → ∀ Q : Str → Hp → Prop, (∀ H2, Ex H1 H2 → Q out H2) → tJs ts acc σ H1 Q
theorem ej_nil {acc : Str} : EvJ [] acc σ H acc := fun H1 _ _ q => q H1 (Ex.refl H1)
theorem ej_cons {ts : List TE} {acc y out : Str} (h : Ev ta σ H (.str y)) (hz : (acc ++ y).length ≤ 100000) (r : EvJ ts (acc ++ y) σ H out) : EvJ (ta :: ts) acc σ H out := fun H1 e Q q =>
  h H1 e _ fun H2 e2 => ⟨y, rfl, Nat.le_trans hz (by decide), r H2 (e.trans e2) Q fun H3 e3 => q H3 (e2.trans e3)⟩
theorem ev_joined {ts : List TE} {out : Str} (h : EvJ ts Str.empty σ H out) : Ev (fun σ H Q => tJs ts Str.empty σ H fun out H1 => Q (.str out) H1) σ H (.str out) := fun H1 e Q q => h H1 e _ q
end

/-! ### lists of ints, made and compared -/
section
variable {K : PySem.W.Frag} {σ : L2.St} {H H' : Hp} {ta tb te tl : TE} {x y z : V}
theorem et_yes0 : EvT tYes σ H true := fun H1 _ _ q => q H1 (Ex.refl H1)
theorem given_all (n : Nat) (g : Nat → Int) : given n (fun _ => true) (fun i => V.int (g i)) = ((List.range n).map g).map V.int := by
  unfold given
  rw [List.filter_eq_self.mpr (fun _ _ => rfl), List.map_map]
  rfl
theorem el_mapR1 {ta : TA} {j : Nat} {vs : List Nat} {n : Int} (g : Int → Int) (h : EvA ta σ H [.int n]) (hn : 0 ≤ n ∧ n ≤ 40000) (hw : ∀ x, wipe ((wipe σ vs).set j (some x)) vs = wipe σ vs)
    (he : ∀ (z : Int) H1, Ex H H1 → 0 ≤ z → z < n → Ev te ((wipe σ vs).set j (some (.int z))) H1 (.int (g z))) : EvL (tLc (iRng1 ta) (gName j) tYes te vs) σ H (((List.range n.toNat).map fun (i : Nat) => g (i : Int)).map V.int) :=
  el_is (el_lcR1 (fun _ => true) (fun i => .int (g i)) h hn hw (fun _ _ _ _ => et_yes0) (fun i H1 e hi _ => he i H1 e (by omega) hi)) (given_all _ _)
theorem el_mapU {j : Nat} {vs : List Nat} {zs : List Int} (g : Int → Int) (h : EvU tl σ H (zs.map V.int)) (hz : zs.length ≤ 40000) (hw : ∀ x, wipe ((wipe σ vs).set j (some x)) vs = wipe σ vs)
    (he : ∀ (z : Int) H1, Ex H H1 → z ∈ zs → Ev te ((wipe σ vs).set j (some (.int z))) H1 (.int (g z))) : EvL (tLc (iTup K tl) (gName j) tYes te vs) σ H ((zs.map g).map V.int) := by
  refine el_is (el_lcNU (fun _ => true) (fun i => .int (g (zs.getD i 0))) h (by rw [List.length_map]; exact hz) hw (fun _ _ _ _ _ => et_yes0) (fun i x H1 e hx _ => ?_)) ?_
  · rw [List.getElem?_map] at hx
    cases e1 : zs[i]? with
    | none => rw [e1] at hx; cases hx
    | some q =>
      rw [e1] at hx
      obtain rfl := (Option.some.inj hx).symm
      have : zs.getD i 0 = q := by rw [List.getD_eq_getElem?_getD, e1]; rfl
      rw [this]
      exact he q H1 e (List.mem_of_getElem? e1)
  · rw [given_all, List.length_map]
    congr 1
    refine List.ext_getElem? fun i => ?_
    rw [List.getElem?_map, List.getElem?_map]
    by_cases h1 : i < zs.length
    · rw [List.getElem?_eq_getElem h1, List.getElem?_range h1]
      show some (g (zs.getD i 0)) = some (g zs[i])
      rw [List.getD_eq_getElem?_getD, List.getElem?_eq_getElem h1]
      rfl
    · rw [List.getElem?_eq_none (show zs.length ≤ i by omega), List.getElem?_eq_none (show (List.range zs.length).length ≤ i by rw [List.length_range]; omega)]
      rfl
theorem dp_ints : ∀ zs : List Int, DpAll K H (zs.map V.int) (zs.map PyData.int)
  | [] => .nil
  | _ :: zs => .cons (.int _) (dp_ints zs)
theorem et_neSame {zs : List Int} (h1 : EvL ta σ H (zs.map V.int)) (h2 : EvL tb σ H (zs.map V.int)) (sh : SeqAt.shaped (.list (zs.map PyData.int)) = true) : EvT (tTest (tOp (rNeD K) ta tb)) σ H false := by
  refine et_test (ev_is (ev_opLL h1 h2 fun _ _ _ hp hq _ => rv_neD (.lst (sq_of hp) (dp_ints zs)) (.lst (sq_of hq) (dp_ints zs)) sh sh) ?_)
  rw [SeqAt.eqv_refl _ (SeqAt.canLay_of_shaped sh)]
  rfl
theorem el_rep {xs : List V} {k : Int} (h : EvL ta σ H xs) (hk : Ev tb σ H (.int k)) (k0 : 0 ≤ k) (hz : xs.length * k.toNat ≤ 100000) (k1 : k ≤ 100000) : EvL (tOp rRep ta tb) σ H (List.replicate k.toNat xs).flatten := fun H1 e _ q =>
  h H1 e _ fun p H2 _ e2 hp => hk H2 (e.trans e2) _ fun H3 e3 => ⟨p, k, xs, rfl, rfl, e3 _ _ hp, by omega, by omega, Nat.le_trans hz (by decide), fun r nr => q r _ (fresh_back (e2.trans e3) nr) ((e2.trans e3).trans (Ex.new nr)) upd_same⟩
end
open PyProof.Rows
def top (i : Nat) : Stmt := PySem.Challenge.pw_sitout_k60_shares_that_leave_enough.main.body.getD i (.Pass ⟨0, 0, 0, 0⟩)
abbrev st_is_integer : Stmt := top 1
theorem sc_is_integer : FnScope ["value"] ["value"] (C8.fnScope st_is_integer) := C8.fnScope_by (by decide +kernel)
abbrev st_is_from : Stmt := top 2
theorem sc_is_from : FnScope ["value", "least"] ["value", "least"] (C8.fnScope st_is_from) := C8.fnScope_by (by decide +kernel)
abbrev st_wrong_count : Stmt := top 15
theorem sc_wrong_count : FnScope ["need", "of", "base", "more", "most", "calm"] ["need", "of", "base", "more", "most", "calm"] (C8.fnScope st_wrong_count) := C8.fnScope_by (by decide +kernel)
abbrev st_wrong_manner : Stmt := top 16
theorem sc_wrong_manner : FnScope ["back", "top", "under", "up", "hears"] ["back", "top", "under", "up", "hears"] (C8.fnScope st_wrong_manner) := C8.fnScope_by (by decide +kernel)
abbrev st_least_last : Stmt := top 17
theorem sc_least_last : FnScope ["base", "more", "most"] ["base", "more", "most"] (C8.fnScope st_least_last) := C8.fnScope_by (by decide +kernel)
abbrev st_Rule___init__ : Stmt := inClass (top 14) 0
theorem sc_Rule___init__ : FnScope ["self", "need", "of", "base", "more", "most", "calm", "back", "top", "under", "up", "hears", "word"] ["self", "need", "of", "base", "more", "most", "calm", "back", "top", "under", "up", "hears"] (C8.fnScope st_Rule___init__) := C8.fnScope_by (by decide +kernel)
abbrev st_part_of : Stmt := top 4
theorem sc_part_of : FnScope ["many", "top", "under", "up"] ["many", "top", "under", "up"] (C8.fnScope st_part_of) := C8.fnScope_by (by decide +kernel)
abbrev st_Rule_limit : Stmt := inClass (top 14) 5
theorem sc_Rule_limit : FnScope ["self", "n"] ["self", "n"] (C8.fnScope st_Rule_limit) := C8.fnScope_by (by decide +kernel)
abbrev st_side : Stmt := top 18
theorem sc_side : FnScope ["up"] ["up"] (C8.fnScope st_side) := C8.fnScope_by (by decide +kernel)
abbrev st_Rule___str__ : Stmt := inClass (top 14) 2
theorem sc_Rule___str__ : FnScope ["self"] ["self"] (C8.fnScope st_Rule___str__) := C8.fnScope_by (by decide +kernel)
abbrev st_Rule___eq__ : Stmt := inClass (top 14) 1
theorem sc_Rule___eq__ : FnScope ["self", "other"] ["self", "other"] (C8.fnScope st_Rule___eq__) := C8.fnScope_by (by decide +kernel)
abbrev st_law_take : Stmt := top 24
theorem sc_law_take : FnScope ["_law_box", "_law_wide", "_law_great", "_law_cell"] ["_law_box", "_law_wide"] (C8.fnScope st_law_take) := C8.fnScope_by (by decide +kernel)
abbrev st_law_pick : Stmt := top 25
theorem sc_law_pick : FnScope ["_law_box", "_law_some"] ["_law_box", "_law_some"] (C8.fnScope st_law_pick) := C8.fnScope_by (by decide +kernel)
abbrev st_law_feed : Stmt := top 23
theorem sc_law_feed : FnScope ["_law_script", "_law_first", "_law_cells", "_law_cell", "_law_blend"] ["_law_script", "_law_first"] (C8.fnScope st_law_feed) := C8.fnScope_by (by decide +kernel)
abbrev st_safe_top : Stmt := top 21
theorem sc_safe_top : FnScope ["under", "up", "spare", "start", "top"] ["under", "up", "spare", "start"] (C8.fnScope st_safe_top) := C8.fnScope_by (by decide +kernel)
abbrev st_law_left : Stmt := top 26
theorem sc_law_left : FnScope ["_law_number", "_law_top", "_law_under", "_law_up", "_law_whole", "_law_rest"] ["_law_number", "_law_top", "_law_under", "_law_up"] (C8.fnScope st_law_left) := C8.fnScope_by (by decide +kernel)
abbrev st_law : Stmt := top 27
theorem sc_law : FnScope ["_law_script", "_law_base", "_law_box", "_law_turn", "_law_under", "_law_up", "_law_start", "_law_spare", "_law_due", "_law_top", "_law_n", "_law_rule"] ["_law_script"] (C8.fnScope st_law) := C8.fnScope_by (by decide +kernel)
local macro_rules | `(tactic| walk_at "sit side") => `(tactic| first | decide | omega | assumption | exact Or.inl ⟨by omega, by omega⟩ | exact Or.inr ⟨by omega, by omega⟩ | exact ⟨by omega, by omega⟩ | exact ⟨by decide, by decide⟩)
local macro_rules | `(tactic| walk_at "sit ev") => `(tactic| first
  | exact ev_c
  | exact ev_var rfl
  | exact ea_nil
  | ((with_reducible apply ea_cons) <;> walk_at "sit ev")
  | exact rv_I0
  | ((with_reducible apply rv_I); walk_at "sit side")
  | exact rv_eq rfl
  | exact rv_ne rfl
  | exact rc_int1
  | exact rc_abs
  | exact rc_min
  | exact rc_max
  | exact rc_isi (b := true) (ClsV.ty _) (fun _ _ => TyX.base (TyOf.int _)) (kit_ty (by decide +kernel))
  | exact rc_isi (b := false) (ClsV.ty _) (fun _ _ => TyX.base (TyOf.int _)) (kit_ty (by decide +kernel))
  | exact rc_isi (b := true) (ClsV.ty _) (fun _ _ => TyX.base (TyOf.bl _)) (kit_ty (by decide +kernel))
  | exact rc_isi (b := false) (ClsV.ty _) (fun _ _ => TyX.base (TyOf.bl _)) (kit_ty (by decide +kernel))
  | ((with_reducible apply ev_op) <;> walk_at "sit ev")
  | ((with_reducible apply ev_un) <;> walk_at "sit ev")
  | ((with_reducible apply ev_cb) <;> walk_at "sit ev")
  | ((with_reducible apply ev_and) <;> walk_at "sit ev")
  | ((with_reducible apply ev_notV) <;> walk_at "sit ev")
  | ((with_reducible apply et_test) <;> walk_at "sit ev")
  | ((with_reducible apply et_B) <;> walk_at "sit ev")
  | ((with_reducible apply et_not) <;> walk_at "sit ev")
  | ((with_reducible apply et_and2) <;> walk_at "sit ev")
  | ((with_reducible apply et_or2) <;> walk_at "sit ev"))

/-! ### what the top has -/
structure Tb (K : PySem.W.Frag) (mg : Str → Option Value) (CR : Addr) (aB aH : Addr) : Prop where
  bi_isinstance : mg "isinstance" = none
  bi_int : mg "int" = none
  bi_bool : mg "bool" = none
  bi_max : mg "max" = none
  bi_min : mg "min" = none
  bi_len : mg "len" = none
  bi_abs : mg "abs" = none
  bi_range : mg "range" = none
  bi_list : mg "list" = none
  bi_str : mg "str" = none
  bi_repr : mg "repr" = none
  bi_sorted : mg "sorted" = none
  bi_dict : mg "dict" = none
  bi_tuple : mg "tuple" = none
  bi_zip : mg "zip" = none
  bi_enumerate : mg "enumerate" = none
  gc_BACKS : ∃ u, mg "_BACKS" = some u ∧ RelV (.ref aB) u
  gc_HEARINGS : ∃ u, mg "_HEARINGS" = some u ∧ RelV (.ref aH) u
  sB : ∀ H, SqT K H aB [.str "half", .str "open", .str "trial"]
  sH : ∀ H, SqT K H aH [.str "fault", .str "no", .str "out"]
  cl : Cls K CR
  n_need : NoAttr K CR "need"
  n_of : NoAttr K CR "of"
  n_base : NoAttr K CR "base"
  n_more : NoAttr K CR "more"
  n_most : NoAttr K CR "most"
  n_calm : NoAttr K CR "calm"
  n_back : NoAttr K CR "back"
  n_top : NoAttr K CR "top"
  n_under : NoAttr K CR "under"
  n_up : NoAttr K CR "up"
  n_hears : NoAttr K CR "hears"
  n_cap : NoAttr K CR "cap"
  gc_Rule : ∃ u, mg "Rule" = some u ∧ RelV (.ref CR) u
  cA : PySem.W.findIn K (.ref CR) "__class__" = some (some (.builtin "object.__class__"))
  cG : PySem.W.specialIn K (.builtin "object.__class__") "__get__" = some (some (.builtin "getset_descriptor.__get__"))
  cT : PySem.W.takesIn K (.builtin "object.__class__") = some true
  cO : PySem.W.mroIn K CR (.type "object") = some true

section
variable {P : Program} {w : World} {K : PySem.W.Frag} {mg : Str → Option Value} {base : Heap} {CR aB aH : Addr}

def rInteger : Hp → List V → V → Prop := fun _ vs v => ∃ i : Int, vs = [.int i] ∧ v = .bl true
theorem mono_integer : Mono rInteger := fun _ _ _ _ _ h => h
theorem ok_is_integer {f : Addr} {fd : FuncData} (D : C8.Def K mg "is_integer" st_is_integer f fd) (b : Binds K fd ["value"] []) (T : Tb K mg CR aB aH) : C8.Cal P w K mg base 1 "is_integer" (spP rInteger) [] := by
  refine C8.cal0 D b .nil sc_is_integer (fun vs H Q E h => ?_) (fun cdv A outer s H vs Q E hr h => ?_)
  · obtain ⟨v, ⟨i, rfl, _⟩, _⟩ := h
    rfl
  · obtain ⟨v, ⟨i, rfl, rfl⟩, k⟩ := h
    refine ⟨_, pss_one (ps_ret (pe_and (pe_callB call_isi (by rfl) T.bi_isinstance boot_isinstance (pa_cons (pv 0) (pa_cons (pe_bltn (v := .ty "int") (by rfl) T.bi_int boot_int rfl) (pa_nil)))) (pe_one (pe_not (pe_callB call_isi (by rfl) T.bi_isinstance boot_isinstance (pa_cons (pv 0) (pa_cons (pe_bltn (v := .ty "bool") (by rfl) T.bi_bool boot_bool rfl) (pa_nil)))))))), ?_⟩
    refine' s_ret (ev_is ?h ?e) (fun H1 e => k H1 e)
    case h => walk_at "sit ev"
    case e => simp
def rFrom : Hp → List V → V → Prop := fun _ vs v => ∃ i j : Int, vs = [.int i, .int j] ∧ v = .bl (decide (j ≤ i))
theorem mono_from : Mono rFrom := fun _ _ _ _ _ h => h
theorem ok_is_from {f : Addr} {fd : FuncData} (D : C8.Def K mg "is_from" st_is_from f fd) (b : Binds K fd ["value", "least"] []) (c_is_integer : C8.Cal P w K mg base 1 "is_integer" (spP rInteger) []) : C8.Cal P w K mg base 2 "is_from" (spP rFrom) [] := by
  refine C8.cal0 D b .nil sc_is_from (fun vs H Q E h => ?_) (fun cdv A outer s H vs Q E hr h => ?_)
  · obtain ⟨v, ⟨i, j, rfl, _⟩, _⟩ := h
    rfl
  · obtain ⟨v, ⟨i, j, rfl, rfl⟩, k⟩ := h
    refine ⟨_, pss_one (ps_ret (pe_and (C8.pe_c c_is_integer hr (by decide) (by rfl) (pa_cons (pv 0) (pa_nil))) (pe_one (pe_cmpR (op_ge) (pv 0) (pv 1) (nomark _))))), ?_⟩
    exact s_ret (ev_is (ev_andV (b := decide (j ≤ i)) (ev_call (ea_cons (ev_var rfl) ea_nil) (spv mono_integer ⟨i, rfl, rfl⟩)) (fun _ => ev_op (ev_var rfl) (ev_var rfl) rv_I0)) (by simp)) (fun H1 e => k H1 e)

/-! ### a rule's arguments -/
structure RuleD where
  need : Int
  of : Int
  base : Int
  more : Int
  most : Int
  calm : Int
  back : Str
  top : Int
  under : Int
  up : Bool
  hears : Str
def RuleD.vals (r : RuleD) : List V := [.int r.need, .int r.of, .int r.base, .int r.more, .int r.most, .int r.calm, .str r.back, .int r.top, .int r.under, .bl r.up, .str r.hears]
structure RuleD.ok (r : RuleD) : Prop where
  need : 1 ≤ r.need
  of : r.need ≤ r.of
  base : 1 ≤ r.base
  more : 0 ≤ r.more
  most : r.base ≤ r.most
  calm : 0 ≤ r.calm
  back : r.back = "half" ∨ r.back = "open" ∨ r.back = "trial"
  top : 0 ≤ r.top
  under : 1 ≤ r.under
  topu : r.top ≤ r.under
  hears : r.hears = "fault" ∨ r.hears = "no" ∨ r.hears = "out"
  moreB : r.more < 1000000
  underB : r.under < 1000000
theorem okOf {need of base more most calm top under : Int} {back hears : Str} {up : Bool} (h : 1 ≤ need ∧ need ≤ of ∧ 1 ≤ base ∧ 0 ≤ more ∧ base ≤ most ∧ 0 ≤ calm ∧ 0 ≤ top ∧ 1 ≤ under ∧ top ≤ under ∧ more < 1000000 ∧ under < 1000000)
    (hb : back = "half" ∨ back = "open" ∨ back = "trial") (hh : hears = "fault" ∨ hears = "no" ∨ hears = "out") : RuleD.ok ⟨need, of, base, more, most, calm, back, top, under, up, hears⟩ :=
  ⟨h.1, h.2.1, h.2.2.1, h.2.2.2.1, h.2.2.2.2.1, h.2.2.2.2.2.1, hb, h.2.2.2.2.2.2.1, h.2.2.2.2.2.2.2.1, h.2.2.2.2.2.2.2.2.1, hh, h.2.2.2.2.2.2.2.2.2.1, h.2.2.2.2.2.2.2.2.2.2⟩
def capOf (base more most : Int) : Int := if more = 0 then 1 else 1 + (most - base + more - 1) / more
def flds (r : RuleD) : List (Str × V) := putF "cap" (.int (capOf r.base r.more r.most)) (putF "hears" (.str r.hears) (putF "up" (.bl r.up) (putF "under" (.int r.under) (putF "top" (.int r.top) (putF "back" (.str r.back)
  (putF "calm" (.int r.calm) (putF "most" (.int r.most) (putF "more" (.int r.more) (putF "base" (.int r.base) (putF "of" (.int r.of) (putF "need" (.int r.need) [])))))))))))
theorem fl_ne {f g : Str} {v : V} {fs : List (Str × V)} {o : Option V} (h : (g = f) = False) (k : fs.lookup g = o) : (putF f v fs).lookup g = o := by
  rw [lookup_putF, if_neg (by rw [h]; exact id)]
  exact k
theorem fl_eq {f : Str} {v : V} {fs : List (Str × V)} : (putF f v fs).lookup f = some v := by
  rw [lookup_putF, if_pos rfl]
theorem ne_F {f g : Str} (h : decide (g = f) = false) : (g = f) = False := eq_false (of_decide_eq_false h)
local macro_rules | `(tactic| walk_at "sit fl") => `(tactic| (unfold flds; repeat (first | (with_reducible exact fl_eq) | refine fl_ne (ne_F (by decide +kernel)) ?_ | rfl)))
theorem fl_need (r : RuleD) : (flds r).lookup ("need" : Str) = some (V.int r.need) := by walk_at "sit fl"
theorem fl_of (r : RuleD) : (flds r).lookup ("of" : Str) = some (V.int r.of) := by walk_at "sit fl"
theorem fl_base (r : RuleD) : (flds r).lookup ("base" : Str) = some (V.int r.base) := by walk_at "sit fl"
theorem fl_more (r : RuleD) : (flds r).lookup ("more" : Str) = some (V.int r.more) := by walk_at "sit fl"
theorem fl_most (r : RuleD) : (flds r).lookup ("most" : Str) = some (V.int r.most) := by walk_at "sit fl"
theorem fl_calm (r : RuleD) : (flds r).lookup ("calm" : Str) = some (V.int r.calm) := by walk_at "sit fl"
theorem fl_back (r : RuleD) : (flds r).lookup ("back" : Str) = some (V.str r.back) := by walk_at "sit fl"
theorem fl_top (r : RuleD) : (flds r).lookup ("top" : Str) = some (V.int r.top) := by walk_at "sit fl"
theorem fl_under (r : RuleD) : (flds r).lookup ("under" : Str) = some (V.int r.under) := by walk_at "sit fl"
theorem fl_up (r : RuleD) : (flds r).lookup ("up" : Str) = some (V.bl r.up) := by walk_at "sit fl"
theorem fl_hears (r : RuleD) : (flds r).lookup ("hears" : Str) = some (V.str r.hears) := by walk_at "sit fl"
theorem fl_cap (r : RuleD) : (flds r).lookup ("cap" : Str) = some (V.int (capOf r.base r.more r.most)) := by walk_at "sit fl"
theorem fl_time (r : RuleD) : (flds r).lookup ("time" : Str) = none := by walk_at "sit fl"
theorem fl_limit (r : RuleD) : (flds r).lookup ("limit" : Str) = none := by walk_at "sit fl"
theorem in_backs {b : Str} (h : b = "half" ∨ b = "open" ∨ b = "trial") : inV (.str b) [.str "half", .str "open", .str "trial"] = true := by
  rcases h with rfl | rfl | rfl <;> decide +kernel
theorem in_hears {b : Str} (h : b = "fault" ∨ b = "no" ∨ b = "out") : inV (.str b) [.str "fault", .str "no", .str "out"] = true := by
  rcases h with rfl | rfl | rfl <;> decide +kernel

local macro_rules | `(tactic| walk_at "sit ev") => `(tactic| first
  | exact spv mono_from ⟨_, _, rfl, rfl⟩
  | exact rv_niT (by assumption) rfl rfl
  | exact rv_isT (by assumption) rfl rfl
  | exact rv_isN
  | exact rv_notN
  | ((with_reducible apply ev_call) <;> walk_at "sit ev"))
local macro_rules | `(tactic| walk_at "sit b") => `(tactic| first | rfl | (simp; done) | (simp; omega) | (simp [*]; done))
/-- a guard that is not taken -/
local macro_rules | `(tactic| walk_at "sit no") => `(tactic| (refine' g_no (by assumption) (by assumption) (et_is ?h ?e) (fun H1 m => ?_); (case h => walk_at "sit ev"); (case e => walk_at "sit b")))
local macro_rules | `(tactic| walk_at "sit ret") => `(tactic| (refine' g_ret (by assumption) (by assumption) (ev_is ?h ?e) ?k; (case h => walk_at "sit ev"); (case e => walk_at "sit b")))

def rWc : Hp → List V → V → Prop := fun _ vs v => ∃ need of base more most calm : Int, vs = [.int need, .int of, .int base, .int more, .int most, .int calm] ∧ (1 ≤ need ∧ need ≤ of ∧ 1 ≤ base ∧ 0 ≤ more ∧ base ≤ most ∧ 0 ≤ calm) ∧ v = .non
theorem mono_wc : Mono rWc := fun _ _ _ _ _ h => h
theorem ok_wc {f : Addr} {fd : FuncData} (D : C8.Def K mg "_wrong_count" st_wrong_count f fd) (b : Binds K fd ["need", "of", "base", "more", "most", "calm"] []) (c_is_from : C8.Cal P w K mg base 2 "is_from" (spP rFrom) []) :
    C8.Cal P w K mg base 3 "_wrong_count" (spP rWc) [] := by
  refine C8.cal0 D b .nil sc_wrong_count (fun vs H Q E h => ?_) (fun cdv A outer s H vs Q E hr h => ?_)
  · obtain ⟨v, ⟨_, _, _, _, _, _, rfl, _⟩, _⟩ := h
    rfl
  · obtain ⟨v, ⟨need, of, base, more, most, calm, rfl, ⟨h1, h2, h3, h4, h5, h6⟩, rfl⟩, k⟩ := h
    refine ⟨_, pss_cons (ps_if (pt_not (pt_val (C8.pe_c c_is_from hr (by decide) (by rfl) (pa_cons (pv 0) (pa_cons (pe_int) (pa_nil)))))) (pss_one (ps_ret (pe_str))) (pss_nil))
      (pss_cons (ps_if (pt_not (pt_val (C8.pe_c c_is_from hr (by decide) (by rfl) (pa_cons (pv 1) (pa_cons (pv 0) (pa_nil)))))) (pss_one (ps_ret (pe_str))) (pss_nil))
      (pss_cons (ps_if (pt_not (pt_val (C8.pe_c c_is_from hr (by decide) (by rfl) (pa_cons (pv 2) (pa_cons (pe_int) (pa_nil)))))) (pss_one (ps_ret (pe_str))) (pss_nil))
      (pss_cons (ps_if (pt_not (pt_val (C8.pe_c c_is_from hr (by decide) (by rfl) (pa_cons (pv 3) (pa_cons (pe_int) (pa_nil)))))) (pss_one (ps_ret (pe_str))) (pss_nil))
      (pss_cons (ps_if (pt_not (pt_val (C8.pe_c c_is_from hr (by decide) (by rfl) (pa_cons (pv 4) (pa_cons (pv 2) (pa_nil)))))) (pss_one (ps_ret (pe_str))) (pss_nil))
      (pss_cons (ps_if (pt_not (pt_val (C8.pe_c c_is_from hr (by decide) (by rfl) (pa_cons (pv 5) (pa_cons (pe_int) (pa_nil)))))) (pss_one (ps_ret (pe_str))) (pss_nil))
      (pss_one (ps_ret (pe_non)))))))), ?_⟩
    have md := mdE H
    have m := Ex.refl H
    walk_at "sit no"
    walk_at "sit no"
    walk_at "sit no"
    walk_at "sit no"
    walk_at "sit no"
    walk_at "sit no"
    walk_at "sit ret"
    exact k
def rWm : Hp → List V → V → Prop := fun _ vs v => ∃ (back hears : Str) (top under : Int) (up : Bool), vs = [.str back, .int top, .int under, .bl up, .str hears] ∧
  ((back = "half" ∨ back = "open" ∨ back = "trial") ∧ 0 ≤ top ∧ 1 ≤ under ∧ top ≤ under ∧ (hears = "fault" ∨ hears = "no" ∨ hears = "out")) ∧ v = .non
theorem mono_wm : Mono rWm := fun _ _ _ _ _ h => h
theorem ok_wm {f : Addr} {fd : FuncData} (D : C8.Def K mg "_wrong_manner" st_wrong_manner f fd) (b : Binds K fd ["back", "top", "under", "up", "hears"] []) (T : Tb K mg CR aB aH) (c_is_from : C8.Cal P w K mg base 2 "is_from" (spP rFrom) []) :
    C8.Cal P w K mg base 3 "_wrong_manner" (spP rWm) [] := by
  refine C8.cal0 D b .nil sc_wrong_manner (fun vs H Q E h => ?_) (fun cdv A outer s H vs Q E hr h => ?_)
  · obtain ⟨v, ⟨_, _, _, _, _, rfl, _⟩, _⟩ := h
    rfl
  · obtain ⟨v, ⟨back, hears, top, under, up, rfl, ⟨h1, h2, h3, h4, h5⟩, rfl⟩, k⟩ := h
    refine ⟨_, pss_cons (ps_if (pt_cmpR (op_notIn_seq) (pv 0) (C8.pe_gc (by rfl) T.gc_BACKS) (by rfl)) (pss_one (ps_ret (pe_str))) (pss_nil))
      (pss_cons (ps_if (pt_not (pt_val (C8.pe_c c_is_from hr (by decide) (by rfl) (pa_cons (pv 1) (pa_cons (pe_int) (pa_nil)))))) (pss_one (ps_ret (pe_str))) (pss_nil))
      (pss_cons (ps_if (pt_not (pt_val (C8.pe_c c_is_from hr (by decide) (by rfl) (pa_cons (pv 2) (pa_cons (pe_callB (call_max2 rfl) (by rfl) T.bi_max boot_max (pa_cons (pe_int) (pa_cons (pv 1) (pa_nil)))) (pa_nil)))))) (pss_one (ps_ret (pe_str))) (pss_nil))
      (pss_cons (ps_if (pt_not (pt_val (pe_callB call_isi (by rfl) T.bi_isinstance boot_isinstance (pa_cons (pv 3) (pa_cons (pe_bltn (v := .ty "bool") (by rfl) T.bi_bool boot_bool rfl) (pa_nil)))))) (pss_one (ps_ret (pe_str))) (pss_nil))
      (pss_cons (ps_if (pt_cmpR (op_notIn_seq) (pv 4) (C8.pe_gc (by rfl) T.gc_HEARINGS) (by rfl)) (pss_one (ps_ret (pe_str))) (pss_nil))
      (pss_one (ps_ret (pe_non))))))), ?_⟩
    have md := mdE H
    have m := Ex.refl H
    have sB := T.sB H
    have sH := T.sH H
    have i1 := in_backs h1
    have i2 := in_hears h5
    walk_at "sit no"
    walk_at "sit no"
    refine' g_no (by assumption) (by assumption) (et_is ?h ?e) (fun H1 m => ?_)
    case h => walk_at "sit ev"
    case e =>
      simp
      split <;> omega
    walk_at "sit no"
    walk_at "sit no"
    walk_at "sit ret"
    exact k
def rLl : Hp → List V → V → Prop := fun _ vs v => ∃ base more most : Int, vs = [.int base, .int more, .int most] ∧ (0 ≤ more ∧ more < 1000000) ∧ v = .int (capOf base more most)
theorem mono_ll : Mono rLl := fun _ _ _ _ _ h => h
theorem ok_ll {f : Addr} {fd : FuncData} (D : C8.Def K mg "_least_last" st_least_last f fd) (b : Binds K fd ["base", "more", "most"] []) : C8.Cal P w K mg base 2 "_least_last" (spP rLl) [] := by
  refine C8.cal0 D b .nil sc_least_last (fun vs H Q E h => ?_) (fun cdv A outer s H vs Q E hr h => ?_)
  · obtain ⟨v, ⟨_, _, _, rfl, _⟩, _⟩ := h
    rfl
  · obtain ⟨v, ⟨base, more, most, rfl, ⟨h1, h2⟩, rfl⟩, k⟩ := h
    refine ⟨_, pss_cons (ps_if (pt_cmpR (op_eq) (pv 1) (pe_int) (nomark _)) (pss_one (ps_ret (pe_int))) (pss_nil))
      (pss_one (ps_ret (pe_op op_add (pe_int) (pe_op op_fdiv (pe_op op_sub (pe_op op_add (pe_op op_sub (pv 2) (pv 0)) (pv 1)) (pe_int)) (pv 1))))), ?_⟩
    have md := mdE H
    have m := Ex.refl H
    by_cases h0 : more = 0
    · refine' g_yes md m (et_is ?h ?e) (fun H1 m => ?_)
      case h => walk_at "sit ev"
      case e => simp [h0]
      walk_at "sit ret"
      unfold capOf at k
      rw [if_pos h0] at k
      exact k
    · walk_at "sit no"
      refine' g_ret md (by assumption) ?h ?k
      case h =>
        refine ev_op ev_c (ev_op (ev_op (ev_op (ev_op (ev_var rfl) (ev_var rfl) rv_I0) (ev_var rfl) rv_I0) ev_c rv_I0) (ev_var rfl) (rv_I ⟨by omega, by omega⟩)) rv_I0
      unfold capOf at k
      rw [if_neg h0] at k
      exact k
end

section
variable {P : Program} {w : World} {K : PySem.W.Frag} {mg : Str → Option Value} {base : Heap} {CR aB aH : Addr}
/-! ### a rule is made -/
def spInit (CR : Addr) : Sp := fun vs H Q _ => ∃ (H0 : Hp) (p dx : Addr) (r : RuleD), vs = .ref p :: r.vals ∧ r.ok ∧ H0 p = none ∧ Ex H0 H ∧ H p = some (.ins CR dx []) ∧
  ∀ H', Ex H0 H' → H' p = some (.ins CR dx (flds r)) → Q .non H'
theorem pl {f : Str} {v : V} {fs : List (Str × V)} {n : Nat} (h : fs.length ≤ n) : (putF f v fs).length ≤ n + 1 := Nat.le_trans (length_putF f v fs) (Nat.succ_le_succ h)
theorem ok_init {f : Addr} {fd : FuncData} (D : C8.Fun K "__init__" "Rule.__init__" st_Rule___init__ f fd) (b : Binds K fd ["self", "need", "of", "base", "more", "most", "calm", "back", "top", "under", "up", "hears"] []) (M : Mk K CR f) (mC : mg "Rule" = some (.ref CR)) (T : Tb K mg CR aB aH)
    (c_wrong_count : C8.Cal P w K mg base 3 "_wrong_count" (spP rWc) []) (c_wrong_manner : C8.Cal P w K mg base 3 "_wrong_manner" (spP rWm) []) (c_least_last : C8.Cal P w K mg base 2 "_least_last" (spP rLl) []) : C8.Mak P w K mg base 4 "Rule" CR (spInit CR) [] := by
  refine C8.mak0 M mC D b .nil sc_Rule___init__ (fun vs H Q E h => ?_) (fun cdv A outer s H vs Q E hr h => ?_)
  · obtain ⟨H0, p, dx, r, rfl, _⟩ := h
    rfl
  · obtain ⟨H0, p, dx, r, rfl, ok, np, e0, hp, k⟩ := h
    refine ⟨_, pss_cons (ps_set (i := 12) sc_Rule___init__.nd rfl (Or.inl rfl) (C8.pe_c c_wrong_count hr (by decide) (by rfl) (pa_cons (pv 1) (pa_cons (pv 2) (pa_cons (pv 3) (pa_cons (pv 4) (pa_cons (pv 5) (pa_cons (pv 6) (pa_nil)))))))))
      (pss_cons (ps_if (pt_cmpR (op_isN) (pv 12) (pe_non) (nomark _)) (pss_one (ps_set (i := 12) sc_Rule___init__.nd rfl (Or.inl rfl) (C8.pe_c c_wrong_manner hr (by decide) (by rfl) (pa_cons (pv 7) (pa_cons (pv 8) (pa_cons (pv 9) (pa_cons (pv 10) (pa_cons (pv 11) (pa_nil))))))))) (pss_nil))
      (pss_cons (ps_if (pt_cmpR (op_notN) (pv 12) (pe_non) (nomark _)) (pss_never) (pss_nil))
      (pss_cons (ps_fld (pv 0) (pv 1) rfl)
      (pss_cons (ps_fld (pv 0) (pv 2) rfl)
      (pss_cons (ps_fld (pv 0) (pv 3) rfl)
      (pss_cons (ps_fld (pv 0) (pv 4) rfl)
      (pss_cons (ps_fld (pv 0) (pv 5) rfl)
      (pss_cons (ps_fld (pv 0) (pv 6) rfl)
      (pss_cons (ps_fld (pv 0) (pv 7) rfl)
      (pss_cons (ps_fld (pv 0) (pv 8) rfl)
      (pss_cons (ps_fld (pv 0) (pv 9) rfl)
      (pss_cons (ps_fld (pv 0) (pv 10) rfl)
      (pss_cons (ps_fld (pv 0) (pv 11) rfl)
      (pss_one (ps_fld (pv 0) (C8.pe_c c_least_last hr (by decide) (by rfl) (pa_cons (pv 3) (pa_cons (pv 4) (pa_cons (pv 5) (pa_nil))))) rfl))))))))))))))), ?_⟩
    have md := mdM H0 p CR dx []
    have m : Mi H0 p CR dx [] H := ⟨e0, np, hp⟩
    refine g_asg md m (ev_call (ea_cons (ev_var rfl) (ea_cons (ev_var rfl) (ea_cons (ev_var rfl) (ea_cons (ev_var rfl) (ea_cons (ev_var rfl) (ea_cons (ev_var rfl) ea_nil))))))
      (spv mono_wc ⟨r.need, r.of, r.base, r.more, r.most, r.calm, rfl, ⟨ok.need, ok.of, ok.base, ok.more, ok.most, ok.calm⟩, rfl⟩)) fun H1 m => ?_
    refine g_yes md m (et_is (et_test (ev_op (ev_var rfl) ev_c rv_isN)) (by rfl)) fun H2 m => ?_
    refine g_asg1 md m (ev_call (ea_cons (ev_var rfl) (ea_cons (ev_var rfl) (ea_cons (ev_var rfl) (ea_cons (ev_var rfl) (ea_cons (ev_var rfl) ea_nil)))))
      (spv mono_wm ⟨r.back, r.hears, r.top, r.under, r.up, rfl, ⟨ok.back, ok.top, ok.under, ok.topu, ok.hears⟩, rfl⟩)) fun H3 m => ?_
    refine g_no md m (et_is (et_test (ev_op (ev_var rfl) ev_c rv_notN)) (by rfl)) fun H4 m => ?_
    refine g_fld m (ev_var rfl) (ev_var rfl) T.cl T.n_need (by decide) fun _ m => ?_
    refine g_fld m (ev_var rfl) (ev_var rfl) T.cl T.n_of (Nat.lt_of_le_of_lt (pl (Nat.le_refl 0)) (by decide)) fun _ m => ?_
    refine g_fld m (ev_var rfl) (ev_var rfl) T.cl T.n_base (Nat.lt_of_le_of_lt (pl (pl (Nat.le_refl 0))) (by decide)) fun _ m => ?_
    refine g_fld m (ev_var rfl) (ev_var rfl) T.cl T.n_more (Nat.lt_of_le_of_lt (pl (pl (pl (Nat.le_refl 0)))) (by decide)) fun _ m => ?_
    refine g_fld m (ev_var rfl) (ev_var rfl) T.cl T.n_most (Nat.lt_of_le_of_lt (pl (pl (pl (pl (Nat.le_refl 0))))) (by decide)) fun _ m => ?_
    refine g_fld m (ev_var rfl) (ev_var rfl) T.cl T.n_calm (Nat.lt_of_le_of_lt (pl (pl (pl (pl (pl (Nat.le_refl 0)))))) (by decide)) fun _ m => ?_
    refine g_fld m (ev_var rfl) (ev_var rfl) T.cl T.n_back (Nat.lt_of_le_of_lt (pl (pl (pl (pl (pl (pl (Nat.le_refl 0))))))) (by decide)) fun _ m => ?_
    refine g_fld m (ev_var rfl) (ev_var rfl) T.cl T.n_top (Nat.lt_of_le_of_lt (pl (pl (pl (pl (pl (pl (pl (Nat.le_refl 0)))))))) (by decide)) fun _ m => ?_
    refine g_fld m (ev_var rfl) (ev_var rfl) T.cl T.n_under (Nat.lt_of_le_of_lt (pl (pl (pl (pl (pl (pl (pl (pl (Nat.le_refl 0))))))))) (by decide)) fun _ m => ?_
    refine g_fld m (ev_var rfl) (ev_var rfl) T.cl T.n_up (Nat.lt_of_le_of_lt (pl (pl (pl (pl (pl (pl (pl (pl (pl (Nat.le_refl 0)))))))))) (by decide)) fun _ m => ?_
    refine g_fld m (ev_var rfl) (ev_var rfl) T.cl T.n_hears (Nat.lt_of_le_of_lt (pl (pl (pl (pl (pl (pl (pl (pl (pl (pl (Nat.le_refl 0))))))))))) (by decide)) fun _ m => ?_
    refine g_fld1 m (ev_call (ea_cons (ev_var rfl) (ea_cons (ev_var rfl) (ea_cons (ev_var rfl) ea_nil))) (spv mono_ll ⟨r.base, r.more, r.most, rfl, ⟨ok.more, ok.moreB⟩, rfl⟩)) (ev_var rfl) T.cl T.n_cap
      (Nat.lt_of_le_of_lt (pl (pl (pl (pl (pl (pl (pl (pl (pl (pl (pl (Nat.le_refl 0)))))))))))) (by decide)) fun H5 m => ?_
    exact k H5 m.ex m.at_
/-- what stands at p is the rule r -/
def RuleAt (CR : Addr) (r : RuleD) : HO → Prop := fun o => ∃ dx, o = .ins CR dx (flds r)
theorem evN_rule {σ : L2.St} {H : Hp} {E : XK} {ta : TA} {vs : List V} {r : RuleD} (h : EvA ta σ H vs) (e : vs = r.vals) (ok : r.ok) : EvN (tMake CR (spInit CR) [] E ta) σ H (RuleAt CR r) := fun H1 e1 Q q =>
  h H1 e1 _ fun H2 e2 x dx nx ndx nex => by
    subst e
    refine ⟨H2, x, dx, r, rfl, ok, nx, fun b o hb => ?_, upd_same, fun H' e3 h3 => ⟨rfl, q x H' _ (fresh_back e2 nx) (e2.trans e3) h3 ⟨dx, rfl⟩⟩⟩
    rw [upd_ne (ne_of_none hb nx), upd_ne (ne_of_none hb ndx)]
    exact hb
end

/-! ### readings, step by step -/
section
variable {K : PySem.W.Frag}
theorem x_add {i j : Int} {H : Hp} {Q : VK} (q : Q (.int (i + j)) H) : (rI0 fun i j => V.int (i + j)) (.int i) (.int j) H Q := ⟨i, j, rfl, rfl, q⟩
theorem x_ret {te : TE} {D : Ends} {σ : L2.St} {H : Hp} (h : te σ H D.rt) : tRet te D σ H := h
theorem x_op {r : R2} {ta tb : TE} {σ : L2.St} {H : Hp} {Q : VK} (h : ta σ H fun x H1 => tb σ H1 fun y H2 => r x y H2 Q) : tOp r ta tb σ H Q := h
theorem x_asg {te : TE} {tz : TS} {i : Nat} {D : Ends} {σ : L2.St} {H : Hp} (h : te σ H fun v H1 => tz D (σ.set i (some v)) H1) : tSeq (tAsg te (gName i)) tz D σ H := h
theorem x_tup {ta : TA} {σ : L2.St} {H : Hp} {Q : VK} (h : ta σ H fun xs H1 => xs.length ≤ sizeLine ∧ ∀ p, H1 p = none → Q (.ref p) (upd H1 p (.tup xs))) : tTup ta σ H Q := h
theorem x_lst {ta : TA} {σ : L2.St} {H : Hp} {Q : VK} (h : ta σ H fun xs H1 => xs.length ≤ sizeLine ∧ ∀ p, H1 p = none → Q (.ref p) (upd H1 p (.lst xs))) : tLst ta σ H Q := h
theorem x_cons {te : TE} {tr : TA} {σ : L2.St} {H : Hp} {Q : List V → Hp → Prop} (h : te σ H fun x H1 => tr σ H1 fun xs H2 => Q (x :: xs) H2) : tCons te tr σ H Q := h
theorem x_nil {σ : L2.St} {H : Hp} {Q : List V → Hp → Prop} (h : Q [] H) : tNil σ H Q := h
theorem x_par {i j : Nat} {ta tb : TE} {tz : TS} {D : Ends} {σ : L2.St} {H : Hp} (h : ta σ H fun x H1 => tb σ H1 fun y H2 => tz D ((σ.set i (some x)).set j (some y)) H2) : tSeq (tPar i j (tCons ta (tCons tb tNil))) tz D σ H := by
  show tCons ta (tCons tb tNil) σ H fun vs H1 => ∃ v w, vs = [v, w] ∧ tz D ((σ.set i (some v)).set j (some w)) H1
  refine x_cons ?_
  exact cast (congrArg (fun q => ta σ H q) (funext fun x => funext fun H1 => by
    show (tb σ H1 fun y H2 => tz D ((σ.set i (some x)).set j (some y)) H2) = (tb σ H1 fun y H2 => ∃ v w, [x, y] = [v, w] ∧ tz D ((σ.set i (some v)).set j (some w)) H2)
    refine congrArg (fun q => tb σ H1 q) (funext fun y => funext fun H2 => propext ⟨fun h => ⟨x, y, rfl, h⟩, fun ⟨v, w, e, h⟩ => by cases e; exact h⟩))) h
theorem x_call {sp : Sp} {dvs : List V} {E : XK} {t : TA} {σ : L2.St} {H : Hp} {Q : VK} (h : t σ H fun vs H1 => sp (vs ++ dvs) H1 Q E) : tCall sp dvs E t σ H Q := h
end

section
variable {P : Program} {w : World} {K : PySem.W.Frag} {mg : Str → Option Value} {base : Heap} {CR aB aH : Addr}
def limitOf (r : RuleD) (n : Int) : Int := if r.up = true then (n * r.top + r.under - 1) / r.under else n * r.top / r.under
def rLimit (CR : Addr) : Hp → List V → V → Prop := fun H vs v => ∃ (p : Addr) (n : Int) (r : RuleD) (o : HO), vs = [.ref p, .int n] ∧ H p = some o ∧ RuleAt CR r o ∧ r.ok ∧ v = .int (limitOf r n)
theorem mono_limit : Mono (rLimit CR) := fun _ _ _ _ e ⟨p, j, r, o, a, h, b⟩ => ⟨p, j, r, o, a, e _ _ h, b⟩
def rPart : Hp → List V → V → Prop := fun _ vs v => ∃ (n top under : Int) (up : Bool), vs = [.int n, .int top, .int under, .bl up] ∧ (CMul n top ∧ ∀ i, CDiv i under) ∧ v = .int (if up = true then (n * top + under - 1) / under else n * top / under)
theorem mono_part : Mono rPart := fun _ _ _ _ _ h => h
theorem ok_part {f : Addr} {fd : FuncData} (D : C8.Def K mg "part_of" st_part_of f fd) (b : Binds K fd ["many", "top", "under", "up"] []) : C8.Cal P w K mg base 1 "part_of" (spP rPart) [] := by
  refine C8.cal0 D b .nil sc_part_of (fun vs H Q E h => ?_) (fun cdv A outer s H vs Q E hr h => ?_)
  · obtain ⟨v, ⟨_, _, _, _, rfl, _⟩, _⟩ := h
    rfl
  · obtain ⟨v, ⟨n, top, under, up, rfl, ⟨cm, cd⟩, rfl⟩, k⟩ := h
    refine ⟨_, pss_cons (ps_if (pt_val (pv 3)) (pss_one (ps_ret (pe_op op_fdiv (pe_op op_sub (pe_op op_add (pe_op op_mul (pv 0) (pv 1)) (pv 2)) (pe_int)) (pv 2)))) (pss_nil))
      (pss_one (ps_ret (pe_op op_fdiv (pe_op op_mul (pv 0) (pv 1)) (pv 2)))), ?_⟩
    refine g_if (mdE H) (Ex.refl H) (et_B (ev_var rfl)) (fun hb H1 e1 => ?_) (fun hb H1 e1 => ?_)
    · rw [if_pos hb] at k
      exact g_ret (mdE H) e1 (ev_op (ev_op (ev_op (ev_op (ev_var rfl) (ev_var rfl) (rv_I cm)) (ev_var rfl) rv_I0) ev_c rv_I0) (ev_var rfl) (rv_I (cd _))) k
    · rw [hb, if_neg Bool.false_ne_true] at k
      exact g_ret (mdE H) e1 (ev_op (ev_op (ev_var rfl) (ev_var rfl) (rv_I cm)) (ev_var rfl) (rv_I (cd _))) k
theorem ok_limit {f : Addr} {fd : FuncData} (D : C8.Fun K "limit" "Rule.limit" st_Rule_limit f fd) (b : Binds K fd ["self", "n"] []) (me : Meth K CR "limit" f) (T : Tb K mg CR aB aH) (c_part_of : C8.Cal P w K mg base 1 "part_of" (spP rPart) []) : C8.Met P w K mg base 2 CR "limit" (spP (rLimit CR)) [] := by
  refine C8.met0 T.cl me D b sc_Rule_limit (fun vs H Q E h => ?_) (fun cdv A outer s H vs Q E hr h => ?_)
  · obtain ⟨v, ⟨_, _, _, _, rfl, _⟩, _⟩ := h
    rfl
  · obtain ⟨v, ⟨p, n, r, _, rfl, hp, ⟨dx, rfl⟩, ok, rfl⟩, k⟩ := h
    refine ⟨_, pss_one (ps_ret (C8.pe_c c_part_of hr (by decide) (by rfl) (pa_cons (pv 1) (pa_cons (pe_fld (pv 0) rfl) (pa_cons (pe_fld (pv 0) rfl) (pa_cons (pe_fld (pv 0) rfl) (pa_nil))))))), ?_⟩
    have u1 := ok.under
    have u2 := ok.underB
    have t1 := ok.top
    have t2 := ok.topu
    have cm : CMul n r.top := Or.inr ⟨by omega, by omega⟩
    have cd : ∀ i, CDiv i r.under := fun i => ⟨by omega, by omega⟩
    exact s_ret (ev_call (ea_cons (ev_var rfl) (ea_cons (ev_fld (ev_var rfl) hp T.cl T.n_top (fl_top r)) (ea_cons (ev_fld (ev_var rfl) hp T.cl T.n_under (fl_under r)) (ea_cons (ev_fld (ev_var rfl) hp T.cl T.n_up (fl_up r)) ea_nil)))) (spv mono_part ⟨n, r.top, r.under, r.up, rfl, ⟨cm, cd⟩, rfl⟩)) (fun H1 e => k H1 e)
/-! the numbers -/
theorem div_eq {N u q : Int} (u0 : 0 < u) (h1 : u * q ≤ N) (h2 : N < u * q + u) : N / u = q := by
  have e := Int.mul_ediv_add_emod N u
  have e1 := Int.emod_nonneg N (show u ≠ 0 by omega)
  have e2 := Int.emod_lt_of_pos N u0
  generalize N / u = z at *
  generalize N % u = y at *
  by_cases h : z < q
  · have p := Int.mul_le_mul_of_nonneg_left (show z + 1 ≤ q by omega) (show 0 ≤ u by omega)
    rw [Int.mul_add, Int.mul_one] at p
    omega
  · by_cases h' : q < z
    · have p := Int.mul_le_mul_of_nonneg_left (show q + 1 ≤ z by omega) (show 0 ≤ u by omega)
      rw [Int.mul_add, Int.mul_one] at p
      omega
    · omega
theorem up_eq {N u q z : Int} (u0 : 0 < u) (e : N = u * q + z) (z0 : 0 ≤ z) (z1 : z < u) : (N + u - 1) / u = q + (if 0 < z then 1 else 0) ∧ N / u = q := by
  refine ⟨?_, div_eq u0 (by omega) (by omega)⟩
  by_cases h : 0 < z
  · rw [if_pos h]
    refine div_eq u0 ?_ ?_ <;> rw [Int.mul_add, Int.mul_one] <;> omega
  · rw [if_neg h]
    refine div_eq u0 ?_ ?_ <;> rw [Int.add_zero] <;> omega
theorem limit_mono {r : RuleD} (ok : r.ok) {n m : Int} (h : n ≤ m) : limitOf r n ≤ limitOf r m := by
  have u1 := ok.under
  have p := Int.mul_le_mul_of_nonneg_right h ok.top
  unfold limitOf
  split
  · exact Int.ediv_le_ediv (by omega) (by omega)
  · exact Int.ediv_le_ediv (by omega) p
theorem limit_le {r : RuleD} (ok : r.ok) {n : Int} (h : 0 ≤ n) : limitOf r n ≤ n := by
  have u1 := ok.under
  have p := Int.mul_le_mul_of_nonneg_left ok.topu h
  unfold limitOf
  split
  · refine Int.le_of_lt_add_one (Int.ediv_lt_of_lt_mul (by omega) ?_)
    rw [Int.add_mul, Int.one_mul]
    omega
  · refine Int.le_of_lt_add_one (Int.ediv_lt_of_lt_mul (by omega) ?_)
    rw [Int.add_mul, Int.one_mul]
    omega
theorem ev_lim {σ : L2.St} {H : Hp} {ta tb : TE} {E : XK} {q dx : Addr} {r : RuleD} {n : Int} (h1 : Ev ta σ H (.ref q)) (hq : H q = some (.ins CR dx (flds r))) (ok : r.ok) (h2 : Ev tb σ H (.int n)) : Ev (tMeth CR "limit" (spP (rLimit CR)) [] E ta (tCons tb tNil)) σ H (.int (limitOf r n)) :=
  ev_meth h1 hq (fl_limit r) (ea_cons h2 ea_nil) (spv mono_limit ⟨q, n, r, _, rfl, hq, ⟨dx, rfl⟩, ok, rfl⟩)
end

/-! ### a law's own words -/
section
variable {P : Program} {w : World} {K : PySem.W.Frag} {mg : Str → Option Value} {base : Heap} {CR aB aH : Addr}
def spLaw (K : PySem.W.Frag) : Sp := fun vs H Q _ => ∃ (a : Addr) (ns : List Int), vs = [.ref a] ∧ SqL K H a (ns.map V.int) ∧ ns.length ≤ 63 ∧ ∀ H', Q (.bl true) H'
theorem x_deal {σ : L2.St} {a : Addr} {b : Int} {ns : List Int} {H : Hp} {E : XK} {ta : TA} {Q : VK} (h : EvA ta σ H [.ref a, .int b]) (hs : SqL K H a (ns.map V.int)) (hn : ns.length ≤ 63) (b0 : 0 ≤ b) (b1 : b ≤ 100) (k : ∀ d l H', In d l H H' → Q (.ref d) H') : tCall (spDeal K) [] E ta σ H Q :=
  h H (Ex.refl H) _ fun H2 e2 => ⟨a, b, ns, rfl, ex_l e2 hs, hn, b0, b1, fun d l H' nd nl e dk => k d l H' ⟨e2.trans e, fresh_back e2 nd, fresh_back e2 nl, dk⟩⟩
theorem x_meth {C : Addr} {m : Str} {sp : Sp} {dvs : List V} {E : XK} {ta : TE} {t : TA} {σ : L2.St} {H : Hp} {Q : VK} (h : ta σ H fun x H1 => ∃ a dx fs, x = .ref a ∧ H1 a = some (.ins C dx fs) ∧ fs.lookup m = none ∧ t σ H1 fun vs H2 => sp (x :: (vs ++ dvs)) H2 Q E) : tMeth C m sp dvs E ta t σ H Q := h
theorem x_asgG {te : TE} {g : TG} {tz : TS} {D : Ends} {σ : L2.St} {H : Hp} (h : te σ H fun v H1 => g v σ H1 fun σ2 H2 => tz D σ2 H2) : tSeq (tAsg te g) tz D σ H := h
end

/-! ### the text of a rule -/
structure RuleT (r : RuleD) : Prop where
  ok : r.ok
  of : r.of < 1000000
  most : r.most < 1000000
  calm : r.calm < 1000000
/-- numbers of at most two digits -/
structure RuleN (r : RuleD) : Prop where
  ok : r.ok
  of : r.of < 100
  most : r.most < 100
  calm : r.calm < 100
  more : r.more < 100
  under : r.under < 100
theorem RuleN.t {r : RuleD} (h : RuleN r) : RuleT r := ⟨h.ok, by have := h.of; omega, by have := h.most; omega, by have := h.calm; omega⟩
abbrev wl (s : String) : List Nat := s.toList.map Char.toNat
abbrev num (i : Int) : List Nat := TL.numL i.toNat
def sideW (up : Bool) : List Nat := if up = true then wl "up" else wl "down"
def ruleWords (r : RuleD) : List (List Nat) := [wl "leave", num r.need, wl "of", num r.of, wl "out", num r.base, wl "more", num r.more, wl "most", num r.most, wl "calm", num r.calm, wl "back", TL.tl r.back,
  wl "share", num r.top ++ ([47] ++ num r.under), sideW r.up, wl "hears", TL.tl r.hears]
def textOf (r : RuleD) : Str := SX.S (TL.joinL [32] (ruleWords r))
theorem num_no {s : Nat} (h : s < 48 ∨ 57 < s) (i : Int) : s ∉ num i := TL.numL_free h
theorem words_no (r : RuleD) (ok : r.ok) : ∀ p ∈ ruleWords r, 32 ∉ p := by
  have hb : 32 ∉ TL.tl r.back := by rcases ok.back with h | h | h <;> rw [h] <;> decide +kernel
  have hh : 32 ∉ TL.tl r.hears := by rcases ok.hears with h | h | h <;> rw [h] <;> decide +kernel
  have hs : 32 ∉ sideW r.up := by cases r.up <;> decide +kernel
  have hn := num_no (s := 32) (Or.inl (by decide))
  have ht : 32 ∉ num r.top ++ ([47] ++ num r.under) := by
    intro h
    rcases List.mem_append.mp h with h | h
    · exact hn _ h
    · rcases List.mem_append.mp h with h | h
      · revert h; decide
      · exact hn _ h
  have hl : ∀ s : String, decide (32 ∈ wl s) = false → 32 ∉ wl s := fun s h => of_decide_eq_false h
  intro p hp
  unfold ruleWords at hp
  simp only [List.mem_cons, List.not_mem_nil, or_false] at hp
  rcases hp with rfl | rfl | rfl | rfl | rfl | rfl | rfl | rfl | rfl | rfl | rfl | rfl | rfl | rfl | rfl | rfl | rfl | rfl | rfl
  all_goals first | exact hn _ | exact hb | exact hh | exact hs | exact ht | exact hl _ (by decide +kernel)
theorem text_words {r r' : RuleD} (ok : r.ok) (ok' : r'.ok) (h : textOf r = textOf r') : ruleWords r = ruleWords r' := by
  have e := SX.S_inj h
  have h1 := TL.spl_join (s := 32) (S := []) (parts := ruleWords r) (by unfold ruleWords; exact List.cons_ne_nil _ _) (words_no r ok)
  have h2 := TL.spl_join (s := 32) (S := []) (parts := ruleWords r') (by unfold ruleWords; exact List.cons_ne_nil _ _) (words_no r' ok')
  rw [← h1, ← h2, e]
theorem num_inj {i j : Int} (hi : 0 ≤ i) (hj : 0 ≤ j) (h : num i = num j) : i = j := by
  have := TL.numL_inj h
  omega
theorem side_inj {a b : Bool} (h : sideW a = sideW b) : a = b := by
  cases a <;> cases b <;> first | rfl | (exfalso; revert h; decide +kernel)
theorem text_inj {r r' : RuleD} (ok : r.ok) (ok' : r'.ok) (h : textOf r = textOf r') : r = r' := by
  have e := text_words ok ok' h
  unfold ruleWords at e
  simp only [List.cons.injEq, and_true, true_and] at e
  obtain ⟨e1, e2, e3, e4, e5, e6, e7, e8, e9, e10⟩ := e
  have sp : ∀ a b : Int, TL.spl [47] 0 [] (num a ++ ([47] ++ num b)) = [num a, num b] := fun a b =>
    TL.spl_join (s := 47) (S := []) (parts := [num a, num b]) (by simp) (fun p hp => by
      simp only [List.mem_cons, List.not_mem_nil, or_false] at hp
      rcases hp with rfl | rfl <;> exact num_no (Or.inl (by decide)) _)
  have es : [num r.top, num r.under] = [num r'.top, num r'.under] := by rw [← sp, ← sp, e8]
  simp only [List.cons.injEq, and_true] at es
  have n1 := num_inj (by have := ok.need; omega) (by have := ok'.need; omega) e1
  have n2 := num_inj (by have := ok.need; have := ok.of; omega) (by have := ok'.need; have := ok'.of; omega) e2
  have n3 := num_inj (by have := ok.base; omega) (by have := ok'.base; omega) e3
  have n4 := num_inj ok.more ok'.more e4
  have n5 := num_inj (by have := ok.base; have := ok.most; omega) (by have := ok'.base; have := ok'.most; omega) e5
  have n6 := num_inj ok.calm ok'.calm e6
  have n7 := TL.ext_tl e7
  have n8 := num_inj ok.top ok'.top es.1
  have n9 := num_inj (by have := ok.under; omega) (by have := ok'.under; omega) es.2
  have n10 := side_inj e9
  have n11 := TL.ext_tl e10
  cases r
  cases r'
  simp only at n1 n2 n3 n4 n5 n6 n7 n8 n9 n10 n11
  subst n1 n2 n3 n4 n5 n6 n7 n8 n9 n10 n11
  rfl
theorem numS {i : Int} (h : 0 ≤ i) : TL.tl ((toString i : String) : Str) = num i := by
  obtain ⟨n, rfl⟩ : ∃ n : Nat, i = (n : Int) := ⟨i.toNat, by omega⟩
  exact TL.tl_num n
theorem numLen {i : Int} (h : 0 ≤ i) (h1 : i < 1000000) : ((toString i : String) : Str).length ≤ 6 := by
  rw [TL.len_tl, numS h]
  exact TL.numL_len (by decide) (by omega)
theorem numLog {i : Int} (h : 0 ≤ i) (h1 : i < 1000000) : i.natAbs.log2 < 1920 := by
  by_cases h0 : i.natAbs = 0
  · rw [h0]; decide
  · exact (Nat.log2_lt h0).mpr (Nat.lt_of_lt_of_le (show i.natAbs < 2 ^ 20 by omega) (Nat.pow_le_pow_right (by decide) (by decide)))
theorem lenA (x y : Str) : (x ++ y).length = x.length + y.length := by rw [TL.len_tl, TL.tl_append, List.length_append, ← TL.len_tl, ← TL.len_tl]
theorem lenL (s : String) : (Str.ofString s).length = (wl s).length := by rw [TL.len_tl, TL.tl_ofString]
theorem len0 : Str.empty.length = 0 := rfl
theorem tl0 : TL.tl Str.empty = [] := rfl

section
variable {P : Program} {w : World} {K : PySem.W.Frag} {mg : Str → Option Value} {base : Heap} {CR aB aH : Addr}
def rSide : Hp → List V → V → Prop := fun _ vs v => ∃ up : Bool, vs = [.bl up] ∧ v = .str (if up = true then "up" else "down")
theorem mono_side : Mono rSide := fun _ _ _ _ _ h => h
theorem ok_side {f : Addr} {fd : FuncData} (D : C8.Def K mg "_side" st_side f fd) (b : Binds K fd ["up"] []) : C8.Cal P w K mg base 2 "_side" (spP rSide) [] := by
  refine C8.cal0 D b .nil sc_side (fun vs H Q E h => ?_) (fun cdv A outer s H vs Q E hr h => ?_)
  · obtain ⟨v, ⟨_, rfl, _⟩, _⟩ := h
    rfl
  · obtain ⟨v, ⟨up, rfl, rfl⟩, k⟩ := h
    refine ⟨_, pss_one (ps_ret (pe_ifExp (pt_val (pv 0)) (pe_str) (pe_str))), ?_⟩
    refine g_ret (mdE H) (Ex.refl H) (ev_is (ev_ifE (et_B (ev_var rfl)) ev_c ev_c) (by cases up <;> rfl)) k
def rStr (CR : Addr) : Hp → List V → V → Prop := fun H vs v => ∃ (p : Addr) (r : RuleD) (o : HO), vs = [.ref p] ∧ H p = some o ∧ RuleAt CR r o ∧ RuleT r ∧ v = .str (textOf r)
theorem mono_str : Mono (rStr CR) := fun _ _ _ _ e ⟨p, r, o, a, h, b⟩ => ⟨p, r, o, a, e _ _ h, b⟩
theorem ev_join {σ : L2.St} {H : Hp} {to te : TE} {a : Str} {ys : List Str} (h1 : Ev to σ H (.str a)) (h2 : EvL te σ H (ys.map V.str)) (hz : (ys.map (·.length)).sum + ys.length * a.length ≤ 16777216) :
    Ev (tM1 (fun x xs H Q => ∃ a p, ∃ ys : List Str, x = .str a ∧ xs = [.ref p] ∧ (SqL K H p (ys.map V.str) ∨ SqT K H p (ys.map V.str)) ∧ (ys.map (·.length)).sum + ys.length * a.length ≤ 16777216 ∧ Q (.str (Txt.join a ys)) H) to te) σ H (.str (Txt.join a ys)) := fun H1 e _ q =>
  h1 H1 e _ fun H2 e2 => ⟨⟨a, rfl⟩, h2 H2 (e.trans e2) _ fun p H3 _ e3 hp => ⟨a, p, ys, rfl, rfl, .inl (sq_of hp), hz, q H3 (e2.trans e3)⟩⟩
theorem ok_str {f : Addr} {fd : FuncData} (D : C8.Fun K "__str__" "Rule.__str__" st_Rule___str__ f fd) (b : Binds K fd ["self"] []) (hs : PySem.W.findIn K (.ref CR) "__str__" = some (some (.ref f))) (hf : PySem.W.isFn K (.ref f) = true) (T : Tb K mg CR aB aH)
    (c_side : C8.Cal P w K mg base 2 "_side" (spP rSide) []) : OwnM P w K mg base 3 CR "__str__" (rStr CR) := by
  refine ⟨f, fd, ["self"], C8.fn0 D sc_Rule___str__ (fun vs H Q E h => ?_) (fun cdv A outer s H vs Q E hr h => ?_), hs, hf, b⟩
  · obtain ⟨v, ⟨_, _, _, rfl, _⟩, _⟩ := h
    rfl
  · obtain ⟨v, ⟨p, r, _, rfl, hp, ⟨dx, rfl⟩, rt, rfl⟩, k⟩ := h
    refine ⟨_, pss_one (ps_ret (pe_join (pe_str) (pe_lst (pa_cons (pe_joined (.cons (pe_str) (.cons (pe_fmt (pe_fld (pv 0) rfl)) (.cons (pe_str) (.cons (pe_fmt (pe_fld (pv 0) rfl)) (.nil)))))) (pa_cons (pe_joined (.cons (pe_str) (.cons (pe_fmt (pe_fld (pv 0) rfl)) (.cons (pe_str) (.cons (pe_fmt (pe_fld (pv 0) rfl)) (.cons (pe_str) (.cons (pe_fmt (pe_fld (pv 0) rfl)) (.nil)))))))) (pa_cons (pe_joined (.cons (pe_str) (.cons (pe_fmt (pe_fld (pv 0) rfl)) (.cons (pe_str) (.cons (pe_fmt (pe_fld (pv 0) rfl)) (.nil)))))) (pa_cons (pe_joined (.cons (pe_str) (.cons (pe_fmt (pe_fld (pv 0) rfl)) (.cons (pe_str) (.cons (pe_fmt (pe_fld (pv 0) rfl)) (.cons (pe_str) (.cons (pe_fmt (C8.pe_c c_side hr (by decide) (by rfl) (pa_cons (pe_fld (pv 0) rfl) (pa_nil)))) (.nil)))))))) (pa_cons (pe_joined (.cons (pe_str) (.cons (pe_fmt (pe_fld (pv 0) rfl)) (.nil)))) (pa_nil))))))))), ?_⟩
    have ok := rt.ok
    have a1 : 0 ≤ r.need ∧ r.need < 1000000 := ⟨by have := ok.need; omega, by have := ok.of; have := rt.of; omega⟩
    have a2 : 0 ≤ r.of ∧ r.of < 1000000 := ⟨by have := ok.need; have := ok.of; omega, rt.of⟩
    have a3 : 0 ≤ r.base ∧ r.base < 1000000 := ⟨by have := ok.base; omega, by have := ok.most; have := rt.most; omega⟩
    have a4 : 0 ≤ r.more ∧ r.more < 1000000 := ⟨ok.more, ok.moreB⟩
    have a5 : 0 ≤ r.most ∧ r.most < 1000000 := ⟨by have := ok.base; have := ok.most; omega, rt.most⟩
    have a6 : 0 ≤ r.calm ∧ r.calm < 1000000 := ⟨ok.calm, rt.calm⟩
    have a7 : 0 ≤ r.under ∧ r.under < 1000000 := ⟨by have := ok.under; omega, ok.underB⟩
    have a8 : 0 ≤ r.top ∧ r.top < 1000000 := ⟨ok.top, by have := ok.topu; have := ok.underB; omega⟩
    have l1 := numLen a1.1 a1.2
    have l2 := numLen a2.1 a2.2
    have l3 := numLen a3.1 a3.2
    have l4 := numLen a4.1 a4.2
    have l5 := numLen a5.1 a5.2
    have l6 := numLen a6.1 a6.2
    have l7 := numLen a7.1 a7.2
    have l8 := numLen a8.1 a8.2
    have lb : r.back.length ≤ 5 := by rcases ok.back with h | h | h <;> rw [h] <;> decide +kernel
    have lh : r.hears.length ≤ 5 := by rcases ok.hears with h | h | h <;> rw [h] <;> decide +kernel
    have lu : ((if r.up = true then "up" else "down" : Str)).length ≤ 4 := by cases r.up <;> decide +kernel
    have q0 : ("leave " : Str).length = 6 := by decide +kernel
    have q1 : (" of " : Str).length = 4 := by decide +kernel
    have q2 : ("out " : Str).length = 4 := by decide +kernel
    have q3 : (" more " : Str).length = 6 := by decide +kernel
    have q4 : (" most " : Str).length = 6 := by decide +kernel
    have q5 : ("calm " : Str).length = 5 := by decide +kernel
    have q6 : (" back " : Str).length = 6 := by decide +kernel
    have q7 : ("share " : Str).length = 6 := by decide +kernel
    have q8 : ("/" : Str).length = 1 := by decide +kernel
    have q9 : (" " : Str).length = 1 := by decide +kernel
    have q10 : ("hears " : Str).length = 6 := by decide +kernel
    refine g_ret (mdE H) (Ex.refl H) (ev_is (ev_join (ys := [_, _, _, _, _]) ev_c (el_lst (ea_cons (ev_joined (ej_cons ev_c ?_ (ej_cons (ev_fmtI (ev_fld (ev_var rfl) hp T.cl T.n_need (fl_need r)) (numLog a1.1 a1.2)) ?_ (ej_cons ev_c ?_ (ej_cons (ev_fmtI (ev_fld (ev_var rfl) hp T.cl T.n_of (fl_of r)) (numLog a2.1 a2.2)) ?_ ej_nil)))))
      (ea_cons (ev_joined (ej_cons ev_c ?_ (ej_cons (ev_fmtI (ev_fld (ev_var rfl) hp T.cl T.n_base (fl_base r)) (numLog a3.1 a3.2)) ?_ (ej_cons ev_c ?_ (ej_cons (ev_fmtI (ev_fld (ev_var rfl) hp T.cl T.n_more (fl_more r)) (numLog a4.1 a4.2)) ?_ (ej_cons ev_c ?_ (ej_cons (ev_fmtI (ev_fld (ev_var rfl) hp T.cl T.n_most (fl_most r)) (numLog a5.1 a5.2)) ?_ ej_nil)))))))
      (ea_cons (ev_joined (ej_cons ev_c ?_ (ej_cons (ev_fmtI (ev_fld (ev_var rfl) hp T.cl T.n_calm (fl_calm r)) (numLog a6.1 a6.2)) ?_ (ej_cons ev_c ?_ (ej_cons (ev_fmtS (ev_fld (ev_var rfl) hp T.cl T.n_back (fl_back r)) (by omega)) ?_ ej_nil)))))
      (ea_cons (ev_joined (ej_cons ev_c ?_ (ej_cons (ev_fmtI (ev_fld (ev_var rfl) hp T.cl T.n_top (fl_top r)) (numLog a8.1 a8.2)) ?_ (ej_cons ev_c ?_ (ej_cons (ev_fmtI (ev_fld (ev_var rfl) hp T.cl T.n_under (fl_under r)) (numLog a7.1 a7.2)) ?_ (ej_cons ev_c ?_
        (ej_cons (ev_fmtS (ev_call (ea_cons (ev_fld (ev_var rfl) hp T.cl T.n_up (fl_up r)) ea_nil) (spv mono_side ⟨r.up, rfl, rfl⟩)) (by omega)) ?_ ej_nil)))))))
      (ea_cons (ev_joined (ej_cons ev_c ?_ (ej_cons (ev_fmtS (ev_fld (ev_var rfl) hp T.cl T.n_hears (fl_hears r)) (by omega)) ?_ ej_nil))) ea_nil))))) (by show 5 ≤ 100000; decide)) ?_) ?_) k
    all_goals try (simp only [lenA, len0, q0, q1, q2, q3, q4, q5, q6, q7, q8, q9, q10]; omega)
    · simp only [List.map_cons, List.map_nil, List.sum_cons, List.sum_nil, List.length_cons, List.length_nil, lenA, len0, q0, q1, q2, q3, q4, q5, q6, q7, q8, q9, q10]
      omega
    · refine congrArg V.str (TL.ext_tl ?_)
      have t0 : TL.tl ("leave " : Str) = wl "leave" ++ [32] := by decide +kernel
      have t1 : TL.tl (" of " : Str) = [32] ++ wl "of" ++ [32] := by decide +kernel
      have t2 : TL.tl ("out " : Str) = wl "out" ++ [32] := by decide +kernel
      have t3 : TL.tl (" more " : Str) = [32] ++ wl "more" ++ [32] := by decide +kernel
      have t4 : TL.tl (" most " : Str) = [32] ++ wl "most" ++ [32] := by decide +kernel
      have t5 : TL.tl ("calm " : Str) = wl "calm" ++ [32] := by decide +kernel
      have t6 : TL.tl (" back " : Str) = [32] ++ wl "back" ++ [32] := by decide +kernel
      have t7 : TL.tl ("share " : Str) = wl "share" ++ [32] := by decide +kernel
      have t8 : TL.tl ("/" : Str) = [47] := by decide +kernel
      have t9 : TL.tl (" " : Str) = [32] := by decide +kernel
      have t10 : TL.tl ("hears " : Str) = wl "hears" ++ [32] := by decide +kernel
      have tu : TL.tl (if r.up = true then ("up" : Str) else "down") = sideW r.up := by cases r.up <;> decide +kernel
      rw [TL.join_eq, TL.tl_join]
      unfold textOf
      rw [show TL.tl (SX.S (TL.joinL [32] (ruleWords r))) = TL.joinL [32] (ruleWords r) from rfl]
      simp only [List.map_cons, List.map_nil, TL.tl_append, tl0, t0, t1, t2, t3, t4, t5, t6, t7, t8, t9, t10, tu, numS a1.1, numS a2.1, numS a3.1, numS a4.1, numS a5.1, numS a6.1, numS a7.1, numS a8.1, ruleWords, TL.joinL, List.append_assoc, List.nil_append, List.cons_append]
def rEqR (CR : Addr) : Hp → List V → V → Prop := fun H vs v => ∃ (p q : Addr) (r r' : RuleD) (o o' : HO), vs = [.ref p, .ref q] ∧ H p = some o ∧ RuleAt CR r o ∧ RuleT r ∧ H q = some o' ∧ RuleAt CR r' o' ∧ RuleT r' ∧ v = .bl (decide (textOf r = textOf r'))
theorem mono_eqR : Mono (rEqR CR) := fun _ _ _ _ e ⟨p, q, r, r', o, o', a, h, b, c, h', d⟩ => ⟨p, q, r, r', o, o', a, e _ _ h, b, c, e _ _ h', d⟩
theorem kit_own {t : Value} : PySem.W.kitOne K t t = some true := by
  unfold PySem.W.kitOne
  exact if_pos (beq_self_eq_true t)
theorem ok_eqR {f : Addr} {fd : FuncData} (D : C8.Fun K "__eq__" "Rule.__eq__" st_Rule___eq__ f fd) (b : Binds K fd ["self", "other"] []) (hs : PySem.W.findIn K (.ref CR) "__eq__" = some (some (.ref f))) (hf : PySem.W.isFn K (.ref f) = true) (T : Tb K mg CR aB aH)
    (str_Rule : OwnM P w K mg base 3 CR "__str__" (rStr CR)) : OwnM P w K mg base 6 CR "__eq__" (rEqR CR) := by
  refine ⟨f, fd, ["self", "other"], C8.fn0 D sc_Rule___eq__ (fun vs H Q E h => ?_) (fun cdv A outer s H vs Q E hr h => ?_), hs, hf, b⟩
  · obtain ⟨v, ⟨_, _, _, _, _, _, rfl, _⟩, _⟩ := h
    rfl
  · obtain ⟨v, ⟨p, q, r, r', _, _, rfl, hp, ⟨dx, rfl⟩, rt, hq, ⟨dy, rfl⟩, rt', rfl⟩, k⟩ := h
    refine ⟨_, pss_one (ps_ret (pe_and (pe_callB call_isi (by rfl) T.bi_isinstance boot_isinstance (pa_cons (pv 1) (pa_cons (C8.pe_gc (by rfl) T.gc_Rule) (pa_nil)))) (pe_one (pe_cmpR (op_eq) (pe_callTy (call_strO str_Rule hr (by decide)) (by rfl) T.bi_str boot_str (pa_cons (pv 0) (pa_nil))) (pe_callTy (call_strO str_Rule hr (by decide)) (by rfl) T.bi_str boot_str (pa_cons (pv 1) (pa_nil))) (nomark _))))), ?_⟩
    refine g_ret (mdE H) (Ex.refl H) (ev_is (ev_and (ev_cb (ea_cons (ev_var rfl) (ea_cons ev_c ea_nil)) (rc_isi (b := true) (ClsV.own CR) (fun H1 e => TyX.base (TyOf.ins (e _ _ hq) T.cl T.cA T.cG T.cT T.cO)) kit_own))
      (ev_op (ev_cb (ea_cons (ev_var rfl) ea_nil) (rc_strO mono_str hp ⟨p, r, _, rfl, hp, ⟨dx, rfl⟩, rt, rfl⟩)) (ev_cb (ea_cons (ev_var rfl) ea_nil) (rc_strO mono_str hq ⟨q, r', _, rfl, hq, ⟨dy, rfl⟩, rt', rfl⟩)) (rv_eq rfl))) ?_) k
    rw [Bool.true_and]
    by_cases h : textOf r = textOf r'
    · rw [decide_eq_true h, decide_eq_true (congrArg V.str h)]
    · rw [decide_eq_false h, decide_eq_false (fun q => h (by injection q))]
end

/-! ### x != y of own objects: the text's own ==, turned round -/
section
variable {M : Model} {A : Around} {E : Value → Shared → Prop} {s : Shared} {K : PySem.W.Frag} {x y C f : Addr} {ox oy : Obj} {od od' : Option Obj}
theorem ne_bound {Q : Option Value → Shared → Prop} (X : K.In s.heap) (I : PySem.W.InstAt s.heap x ox C od) (hs : PySem.W.findIn K (.ref C) "__ne__" = some (some (.builtin "object.__ne__")))
    (h : wpAny M A (call (.builtin "object.__ne__") [.ref x, .ref y]) (fun v => Q (some v)) E s) : wpAny M A (callSpecialIfBound? (.ref x) "__ne__" [.ref y]) Q E s := by
  simp only [callSpecialIfBound?, bindSpecialIfBound?]
  refine wpAny_holding (wpAny_bind (wpAny_bind (wpAny_bind (I.type.here ((PySem.W.looks_findIn X hs).here ?_)))))
  simp only [PySem.F.cmp_object.ne.bind]
  refine wpAny_bind (wpAny_askSetting (wpAny_ite ?_))
  have fin : wpAny M A (call (.builtin "object.__ne__") ([.ref x] ++ [.ref y]) >>= fun v => pure (some v)) Q E s := wpAny_bind (wpAny_mono h (fun v s' h' => wpAny_pure h') fun _ _ h' => h')
  split
  · exact wpAny_bind (wpAny_pure (wpAny_pure fin))
  · exact wpAny_tryCatch (wpAny_bind (wpAny_pure (wpAny_pure fin)))
end
section
variable {prog : Program} {w : World} {A : Around} {E : Value → Shared → Prop} {s : Shared} {K : PySem.W.Frag} {x y C f : Addr} {ox oy : Obj} {od od' : Option Obj}
theorem ne_K {Q : Value → Shared → Prop} (hu : A.units + 1 < cLine) (X : K.In s.heap) (I : PySem.W.InstAt s.heap x ox C od) (J : PySem.W.InstAt s.heap y oy C od') (hn : PySem.W.findIn K (.ref C) "__ne__" = some (some (.builtin "object.__ne__")))
    (ho : PySem.W.mroIn K C (.type "object") = some true) (hs : PySem.W.findIn K (.ref C) "__eq__" = some (some (.ref f))) (hf : PySem.W.isFn K (.ref f) = true)
    (h : wpAny (model prog w) A.in1 (call (.ref f) [.ref x, .ref y]) (fun v s' => ∃ b, v = .bool b ∧ Q (.bool (!b)) s') E s) : wpAny (model prog w) A (richCompare .NotEq (.ref x) (.ref y)) Q E s := by
  have body : wpAny (model prog w) A.in1 (Builtin.«object.__ne__» ⟨[.ref x, .ref y], []⟩) (fun fin s' => match fin with | .done (.ret v) => ∃ b, v = .bool b ∧ Q (.bool b) s' | _ => False) E s := by
    unfold Builtin.«object.__ne__»
    repeat (first
      | with_reducible refine wpAny_cRoomFor hu ?_
      | (refine wpAny_bind (m := callSpecialIfBound? (.ref x) (Str.ofString "__eq__") [.ref y])
          (PySem.W.ifBound_K X I hs hf (wpAny_mono h (fun r s' hr => by
            obtain ⟨b, rfl, hq⟩ := hr
            repeat (first | exact ⟨_, rfl, hq⟩ | exact wpAny_pure ⟨_, rfl, hq⟩ | exact wpAny_truthy_bool ⟨_, rfl, hq⟩ | (refine wpAny_bind (m := truthy (.bool _)) (wpAny_truthy_bool ?_)) | wp_step)) fun _ _ e => e)))
      | wp_step)
  have one : wpAny (model prog w) A (tryCompare (.ref x) "__ne__" (.ref y)) (fun r s' => ∃ b, r = some (.bool b) ∧ Q (.bool b) s') E s := by
    unfold tryCompare
    refine wpAny_bind (ne_bound X I hn (wpAny_call (codeAny_call_builtin PySem.F.cmp_object.ne.plain PySem.F.cmpEntry_ne
      (PySem.W.check_slot PySem.F.cmpKind_ne PySem.F.cmpSplit_ne (I.type.andThen (PySem.W.looks_mroIn X ho)) (PySem.F.cmpArgs_ne _ _) (wpAny_mono body (fun fin s' hv => ?_) fun _ _ e => e)))))
    cases fin with
    | done r =>
      cases r with
      | ret v =>
        obtain ⟨b, rfl, hq⟩ := hv
        exact wpAny_pure ⟨b, rfl, hq⟩
      | _ => exact hv.elim
    | again c => exact hv.elim
  unfold richCompare
  simp only [oneThing_ref]
  refine wpAny_holding (wpAny_bind (wpAny_cRoomFor (by omega) ?_))
  rw [cmpInfo_NotEq]
  dsimp only
  refine wpAny_bind (I.type.here (wpAny_bind (J.type.here ?_)))
  rw [show (Value.ref C != Value.ref C) = false from by simp]
  simp only [Bool.false_eq_true, if_false]
  refine wpAny_bind (wpAny_pure ?_)
  simp only [Bool.false_eq_true, if_false]
  refine wpAny_bind (wpAny_mono one (fun r s' z => ?_) fun _ _ e => e)
  obtain ⟨b, rfl, hq⟩ := z
  exact wpAny_pure hq
end
section
variable {X : Cx} {k j : Nat} {C : Addr} {R : Hp → List V → V → Prop}
def rNeO (C : Addr) (R : Hp → List V → V → Prop) : R2 := fun x y H Q => ∃ (a b dx dy : Addr) (fs gs : List (Str × V)) (k : Bool), x = .ref a ∧ y = .ref b ∧ H a = some (.ins C dx fs) ∧ H b = some (.ins C dy gs) ∧ R H [.ref a, .ref b] (.bl k) ∧ ∀ H', Ex H H' → Q (.bl (!k)) H'
theorem op_neO (M : OwnM X.prog X.w X.K X.mg X.base k C "__eq__" R) (hne : PySem.W.findIn X.K (.ref C) "__ne__" = some (some (.builtin "object.__ne__"))) (ho : PySem.W.mroIn X.K C (.type "object") = some true) (hr : Room j X.A) (hk : k + 1 ≤ j) : OpR X (compareOp .NotEq) (rNeO C R) := by
  intro pins s σ H x y v u Q I rx ry h
  obtain ⟨f, fd, ps, F, hs, hf, hb⟩ := M.ex
  obtain ⟨a, b, dx, dy, fs, gs, k, rfl, rfl, ha, hb', hR, q⟩ := h
  cases rx
  cases ry
  obtain ⟨mA, J, _⟩ := ins_get I.hok ha
  obtain ⟨mB, J', _⟩ := ins_get I.hok hb'
  obtain ⟨od, J, _⟩ := J.look
  obtain ⟨od', J', _⟩ := J'.look
  have r2 : Room _ X.A.in1 := (hr.mono hk).in1
  show wpAny (model X.prog X.w) X.A (richCompare .NotEq (.ref a) (.ref b)) (EP X pins σ Q) X.xe s
  refine ne_K r2.units0 I.kIn J J' hne ho hs hf ?_
  have hsp : spP R [.ref a, .ref b] H (fun v H' => v = .bl k ∧ Ex H H') C8.E0 := ⟨.bl k, hR, fun H' e => ⟨rfl, e⟩⟩
  have e0 : Env0 X.prog X.w X.K X.mg X.base X.A.in1 X.stack s H := by
    have e := I.env0
    exact ⟨e.frames, e.mod, e.bs, e.bsz, e.funs, e.frf, e.hok, e.bare⟩
  have hl := F.len _ _ _ _ hsp
  refine wpAny_call (codeAny_mono (F.run X.A.in1 X.stack s H ⟨[.ref a, .ref b], []⟩ [.ref a, .ref b] [.ref a, .ref b] _ C8.E0 r2 e0 (by
    have := hb s [.ref a, .ref b] I.kIn (by simpa using hl)
    simpa using this) (.cons rfl (.cons rfl .nil)) hsp) fun r s' hq => ?_)
  cases r with
  | error e => exact False.elim hq
  | ok fl =>
    cases fl with
    | ret w =>
      obtain ⟨z, H', I', rz, ez, ex⟩ := I.after hq
      subst ez
      cases rz
      exact ⟨k, rfl, .bl (!k), H', I', rfl, q H' ex⟩
    | next => exact False.elim hq
    | brk => exact False.elim hq
    | cont => exact False.elim hq
end
section
variable {K : PySem.W.Frag} {σ : L2.St} {H : Hp} {C : Addr} {R : Hp → List V → V → Prop}
theorem rv_neO (m : Mono R) {a b dx dy : Addr} {fs gs : List (Str × V)} {k : Bool} (h : H a = some (.ins C dx fs)) (h' : H b = some (.ins C dy gs)) (hR : R H [.ref a, .ref b] (.bl k)) : RV (rNeO C R) (.ref a) (.ref b) H (.bl (!k)) :=
  fun H1 e _ q => ⟨a, b, dx, dy, fs, gs, k, rfl, rfl, e _ _ h, e _ _ h', m _ _ _ _ e hR, q⟩
end

/-! ### new tuples, pairs of a dict, sorted, methods of new objects -/
section
variable {K : PySem.W.Frag} {σ : L2.St} {Kn H H' : Hp} {M : Hp → Prop} {ta tb te tl tx : TE} {t : TT} {tz : TS} {D : Ends} {x y z v : V}
theorem eu_of {xs : List V} (h : EvN te σ H (· = .tup xs)) : EvU te σ H xs := fun H1 e Q q => h H1 e Q fun p H2 _ np e2 hp ho => q p H2 np e2 (by rw [hp, ho])
theorem en_of {xs : List V} (h : EvU te σ H xs) : EvN te σ H (· = .tup xs) := fun H1 e Q q => h H1 e Q fun p H2 np e2 hp => q p H2 _ np e2 hp rfl
theorem eu_slT {lo hi : TO} {l h : Option Int} {a : Addr} {xs : List V} (ha : Ev te σ H (.ref a)) (h1 : EvO lo σ H l) (h2 : EvO hi σ H h) (hs : SqT K H a xs) (hw : ¬ (HT.sIx xs.length 0 l = 0 ∧ HT.sIx xs.length xs.length h = xs.length)) : EvU (tSl (rSlT K) te lo hi) σ H (cutV xs l h) := fun H1 e _ q =>
  ha H1 e _ fun H2 e2 => h1 H2 (e.trans e2) _ fun H3 e3 => h2 H3 ((e.trans e2).trans e3) _ fun H4 e4 =>
    ⟨a, xs, rfl, ex_t (((e.trans e2).trans e3).trans e4) hs, hw, fun p hp => q p _ (fresh_back ((e2.trans e3).trans e4) hp) (((e2.trans e3).trans e4).trans (Ex.new hp)) upd_same⟩
theorem eu_catT {xs ys : List V} (ha : EvU ta σ H xs) (hb : EvU tb σ H ys) (x0 : xs ≠ []) (y0 : ys ≠ []) (hz : xs.length + ys.length ≤ 100000) : EvU (tOp (rCatT K) ta tb) σ H (xs ++ ys) := fun H1 e _ q =>
  ha H1 e _ fun p H2 np e2 hp => hb H2 (e.trans e2) _ fun p' H3 np' e3 hp' => ⟨p, p', xs, ys, rfl, rfl, st_of (e3 _ _ hp), st_of hp', x0, Nat.le_trans hz (by decide), fun z => (y0 z).elim, fun _ r nr => q r _ (fresh_back (e2.trans e3) nr) ((e2.trans e3).trans (Ex.new nr)) upd_same⟩
theorem ev_methN {C : Addr} {m : Str} {sp : Sp} {E : XK} {tq : TA} {vs : List V} {Pn : HO → Prop} (hn : EvN ta σ H Pn) (ho : ∀ o, Pn o → ∃ dx fs, o = .ins C dx fs ∧ fs.lookup m = none) (ht : EvA tq σ H vs)
    (hs : ∀ a o H1, Ex H H1 → H1 a = some o → Pn o → SpV sp (.ref a :: (vs ++ [])) H1 z) : Ev (tMeth C m sp [] E ta tq) σ H z := fun H1 e Q q =>
  hn H1 e _ fun a H2 o na e2 ha hp => by
    obtain ⟨dx, fs, rfl, hl⟩ := ho _ hp
    exact ⟨a, dx, fs, rfl, ha, hl, ht H2 (e.trans e2) _ fun H3 e3 => hs a _ H3 ((e.trans e2).trans e3) (e3 _ _ ha) hp H3 (Ex.refl H3) _ (fun H4 e4 => q H4 ((e2.trans e3).trans e4)) E⟩
theorem el_sorted {ns : List Int} (h : EvL te σ H (ns.map V.int)) (hs : ns.Pairwise (· ≤ ·)) : EvL (tCB (rSortedI K) (tCons te tNil)) σ H (ns.map V.int) := fun H1 e _ q =>
  h H1 e _ fun p H2 np e2 hp => ⟨p, ns, rfl, sq_of hp, fun ns' p' hP hS np' => by
    have en : ns' = ns := List.Perm.eq_of_pairwise (le := fun a b : Int => a ≤ b) (fun a b _ _ h1 h2 => Int.le_antisymm h1 h2) hS hs hP
    subst en
    exact q p' _ (fresh_back e2 np') (e2.trans (Ex.new np')) upd_same⟩
theorem el_mapV {a : Addr} {j : Nat} {vs : List Nat} {zs : List Int} (g : Int → Int) (h : Ev tl σ H (.ref a)) (hx : SqL K H a (zs.map V.int)) (hz : zs.length ≤ 40000) (hw : ∀ x, wipe ((wipe σ vs).set j (some x)) vs = wipe σ vs)
    (he : ∀ (z : Int) H1, Ex H H1 → z ∈ zs → Ev te ((wipe σ vs).set j (some (.int z))) H1 (.int (g z))) : EvL (tLc (iList K tl) (gName j) tYes te vs) σ H ((zs.map g).map V.int) := by
  refine el_is (el_lcL (fun _ => true) (fun i => .int (g (zs.getD i 0))) h hx (by rw [List.length_map]; exact hz) hw (fun _ _ _ _ _ => et_yes0) (fun i x H1 e hx _ => ?_)) ?_
  · rw [List.getElem?_map] at hx
    cases e1 : zs[i]? with
    | none => rw [e1] at hx; cases hx
    | some q =>
      rw [e1] at hx
      obtain rfl := (Option.some.inj hx).symm
      have : zs.getD i 0 = q := by rw [List.getD_eq_getElem?_getD, e1]; rfl
      rw [this]
      exact he q H1 e (List.mem_of_getElem? e1)
  · rw [given_all, List.length_map]
    congr 1
    refine List.ext_getElem? fun i => ?_
    rw [List.getElem?_map, List.getElem?_map]
    by_cases h1 : i < zs.length
    · rw [List.getElem?_eq_getElem h1, List.getElem?_range h1]
      show some (g (zs.getD i 0)) = some (g zs[i])
      rw [List.getD_eq_getElem?_getD, List.getElem?_eq_getElem h1]
      rfl
    · rw [List.getElem?_eq_none (show zs.length ≤ i by omega), List.getElem?_eq_none (show (List.range zs.length).length ≤ i by rw [List.length_range]; omega)]
      rfl
theorem el_mapR2 {tq : TA} {j : Nat} {vs : List Nat} {lo n : Int} (g : Int → Int) (h : EvA tq σ H [.int lo, .int n]) (hn : 0 ≤ lo ∧ lo ≤ 40000 ∧ -40000 ≤ n ∧ n ≤ 40000) (hw : ∀ x, wipe ((wipe σ vs).set j (some x)) vs = wipe σ vs)
    (he : ∀ (i : Nat) H1, Ex H H1 → lo + (i : Int) < n → Ev te ((wipe σ vs).set j (some (.int (lo + (i : Int))))) H1 (.int (g (lo + (i : Int))))) : EvL (tLc (iRng2 tq) (gName j) tYes te vs) σ H (((List.range (n - lo).toNat).map fun (i : Nat) => g (lo + (i : Int))).map V.int) :=
  el_is (el_lcR2 (fun _ => true) (fun i => .int (g (lo + (i : Int)))) h hn hw (fun _ _ _ _ => et_yes0) (fun i H1 e hi _ => he i H1 e hi)) (given_all _ _)
/-! pairs -/
def EvP (te : TE) (σ : L2.St) (H : Hp) (kvs : List (Key × V)) : Prop := ∀ H1, Ex H H1 → ∀ Q : VK, (∀ p (ps : List Addr) H2, H1 p = none → Ex H1 H2 → H2 p = some (.lst (ps.map V.ref)) → Paired (fun p (kv : Key × V) => H2 p = some (.tup [kV kv.1, kv.2])) ps kvs → Q (.ref p) H2) → te σ H1 Q
theorem Paired.imp {α β : Type} {F G : α → β → Prop} (h : ∀ a b, F a b → G a b) : ∀ {l1 : List α} {l2 : List β}, Paired F l1 l2 → Paired G l1 l2
  | _, _, .nil => .nil
  | _, _, .cons a t => .cons (h _ _ a) (Paired.imp h t)
theorem Paired.len {α β : Type} {F : α → β → Prop} : ∀ {l1 : List α} {l2 : List β}, Paired F l1 l2 → l1.length = l2.length
  | _, _, .nil => rfl
  | _, _, .cons _ t => by rw [List.length_cons, List.length_cons, Paired.len t]
theorem ep_lcL {a : Addr} {xs : List V} {j : Nat} {vs : List Nat} (kv : Nat → Key × V) (h : Ev tl σ H (.ref a)) (hx : SqL K H a xs) (hz : xs.length ≤ 40000) (hw : ∀ x, wipe ((wipe σ vs).set j (some x)) vs = wipe σ vs)
    (he : ∀ (i : Nat) (x : V) H1, Ex H H1 → xs[i]? = some x → EvU te ((wipe σ vs).set j (some x)) H1 [kV (kv i).1, (kv i).2]) : EvP (tLc (iList K tl) (gName j) tYes te vs) σ H ((List.range xs.length).map kv) := fun H0 e Q q => h H0 e _ fun H1 e1 => ⟨a, rfl, ⟨xs, ex_l (e.trans e1) hx⟩, fun Dl hD =>
  lc_list (xs := xs) (fun i H' => H1 Dl = none ∧ Ex H1 H' ∧ ∃ ps : List Addr, H' Dl = some (.lst (ps.map V.ref)) ∧ Paired (fun p (kv : Key × V) => H' p = some (.tup [kV kv.1, kv.2]) ∧ p ≠ Dl) ps ((List.range i).map kv))
    ⟨hD, Ex.new hD, [], upd_same, .nil⟩ (fun i H' _ p => ex_l ((e.trans e1).trans p.2.1) hx) (fun i x H' hi ⟨_, e2, ps, hps, hP⟩ => ⟨hw x, by
      show te ((wipe σ vs).set j (some x)) H' fun y H4 => ∃ acc, H4 Dl = some (.lst acc) ∧ acc.length < sizeLine ∧ _
      refine he i x H' ((e.trans e1).trans e2) hi H' (Ex.refl H') _ fun p H4 np e4 hp => ?_
      have nD : p ≠ Dl := fun z => by subst z; rw [hps] at np; cases np
      have hl := Paired.len hP
      rw [List.length_map, List.length_range] at hl
      have hlt := (List.getElem?_eq_some_iff.mp hi).1
      refine ⟨ps.map V.ref, e4 _ _ hps, sz_lt (by rw [List.length_map]; omega), hD, Ex.mut (e2.trans e4) hD, ps ++ [p], ?_, ?_⟩
      · rw [upd_same, List.map_append]
        rfl
      · rw [List.range_succ, List.map_append]
        refine Paired.snoc (Paired.imp (fun a b ⟨h1, h2⟩ => ⟨by rw [upd_ne h2]; exact e4 _ _ h1, h2⟩) hP) ⟨?_, nD⟩
        rw [upd_ne nD]
        exact hp⟩) (fun H' ⟨_, e2, ps, hps, hP⟩ => q Dl ps H' (fresh_back e1 hD) (e1.trans e2) hps (Paired.imp (fun _ _ h => h.1) hP))⟩
def rDictP (K : PySem.W.Frag) : List V → Hp → VK → Prop := fun xs H Q => ∃ (a : Addr) (ps : List Addr) (kvs : List (Key × V)), xs = [.ref a] ∧ SqL K H a (ps.map V.ref) ∧ Paired (fun p (kv : Key × V) => SqT K H p [kV kv.1, kv.2]) ps kvs ∧ ∀ p, H p = none → Q (.ref p) (upd H p (.dK (mergeK [] kvs)))
def rLenD : List V → Hp → VK → Prop := fun xs H Q => ∃ a kvs, xs = [V.ref a] ∧ H a = some (.dK kvs) ∧ Q (.int kvs.length) H
theorem ev_lenDict {kvs : List (Key × V)} (h : EvP te σ H kvs) : Ev (tCB rLenD (tCons (tCB (rDictP K) (tCons te tNil)) tNil)) σ H (.int ((mergeK [] kvs).length : Int)) := fun H1 e _ q =>
  h H1 e _ fun p ps H2 np e2 hp hP => ⟨p, ps, kvs, rfl, sq_of hp, Paired.imp (fun _ _ h => st_of h) hP, fun d nd => ⟨d, _, rfl, upd_same, q _ (e2.trans (Ex.new nd))⟩⟩
theorem cr_dictP {X : Cx} (hc : X.calm = true) : CallR X (.type "dict") (rDictP X.K) := call_dictP hc
theorem cr_lenD {X : Cx} : CallR X (.builtin "len") rLenD := call_lenD
/-- how many keys: rising up to the c-th, then the same -/
theorem merge_count {g : Nat → Int} {v : V} {c : Nat} (c0 : 1 ≤ c) (up : ∀ i j, i < j → j < c → g i < g j) (st : ∀ i, c ≤ i → g i = g (c - 1)) : ∀ n, (mergeK [] ((List.range n).map fun i => ((Sum.inl (g i) : Key), v))).length = min n c ∧
    ∀ z, (valV (mergeK [] ((List.range n).map fun i => ((Sum.inl (g i) : Key), v))) (Sum.inl z)).isSome = true ↔ ∃ j, j < n ∧ g j = z := by
  intro n
  induction n with
  | zero => exact ⟨by rw [Nat.zero_min]; rfl, fun z => ⟨fun h => (by cases h), fun ⟨j, h, _⟩ => absurd h (Nat.not_lt_zero _)⟩⟩
  | succ n ih =>
    obtain ⟨h1, h2⟩ := ih
    have es : mergeK [] ((List.range (n + 1)).map fun i => ((Sum.inl (g i) : Key), v)) = putK (mergeK [] ((List.range n).map fun i => ((Sum.inl (g i) : Key), v))) (Sum.inl (g n)) v := by
      unfold mergeK
      rw [List.range_succ, List.map_append, List.foldl_append]
      rfl
    rw [es]
    generalize mergeK [] ((List.range n).map fun i => ((Sum.inl (g i) : Key), v)) = acc at *
    refine ⟨?_, fun z => ?_⟩
    · by_cases hn : n < c
      · have no : valV acc (Sum.inl (g n)) = none := by
          cases e : valV acc (Sum.inl (g n)) with
          | none => rfl
          | some u =>
            obtain ⟨j, hj, ej⟩ := (h2 (g n)).mp (by rw [e]; rfl)
            have := up j n hj hn
            omega
        unfold putK
        rw [valV_any, no, if_neg (by decide), List.length_append, h1, List.length_singleton]
        omega
      · have yes : (valV acc (Sum.inl (g n))).isSome = true := (h2 _).mpr ⟨c - 1, by omega, (st n (by omega)).symm⟩
        obtain ⟨u, hu⟩ := Option.isSome_iff_exists.mp yes
        rw [putK_len v hu, h1]
        omega
    · rw [valV_put]
      constructor
      · intro h
        by_cases e : (Sum.inl z : Key) = Sum.inl (g n)
        · injection e with e
          exact ⟨n, Nat.lt_succ_self n, e.symm⟩
        · rw [if_neg e] at h
          obtain ⟨j, hj, ej⟩ := (h2 z).mp h
          exact ⟨j, Nat.lt_succ_of_lt hj, ej⟩
      · rintro ⟨j, hj, rfl⟩
        by_cases e : (Sum.inl (g j) : Key) = Sum.inl (g n)
        · rw [if_pos e]; rfl
        · rw [if_neg e]
          refine (h2 _).mpr ⟨j, ?_, rfl⟩
          rcases Nat.lt_or_ge j n with h | h
          · exact h
          · exact absurd (by rw [show j = n by omega]) e
/-- a list that may grow by one thing -/
theorem g_ifApp {d l L : Addr} {ws : List V} {b : Bool} {Pn : HO → Prop} (I : In d l Kn H) (hL : H L = some (.lst ws)) (kL : Kn L = none) (nd : L ≠ d) (nl : L ≠ l) (h : EvT t σ Kn b) (ha : Ev ta σ Kn (.ref L)) (hv : b = true → EvN te σ Kn Pn) (hz : ws.length < 1000)
    (k : ∀ ws' K1 H1, Ex Kn K1 → K1 L = some (.lst ws') → (ws' = ws ∨ b = true ∧ ∃ p o, ws' = ws ++ [.ref p] ∧ K1 p = some o ∧ Pn o) → In d l K1 H1 → tz D σ H1) :
    tSeq (tIfS t (tDrop (tBM K "list" rAppend ta (tCons te tNil))) tNext) tz D σ H := by
  refine q_when (h.mono I.ex) (fun hb H1 e1 => ?_) (fun hb H1 e1 => ?_)
  · have I1 := I.to e1
    refine ha H1 I1.ex _ fun H2 e2 => ⟨Or.inl ⟨rfl, ws, sq_of (e2 _ _ (e1 _ _ hL))⟩, hv hb H2 (I1.to e2).ex _ fun p H3 o np e3 hp ho => ⟨L, ws, .ref p, rfl, rfl, e3 _ _ (e2 _ _ (e1 _ _ hL)), sz_lt (by omega), ?_⟩⟩
    have I3 := (I1.to e2).to e3
    have hL2 := e2 _ _ (e1 _ _ hL)
    have np0 : H p = none := fresh_back (e1.trans e2) np
    have pL : p ≠ L := fun z => by subst z; rw [hL2] at np; cases np
    have I4 := ((I1.to e2).new np e3 hp)
    have kp : Kn p = none := fresh_back I.ex np0
    have hk : Ex Kn (upd Kn p o) := I4.2
    -- the list is known now
    refine k (ws ++ [.ref p]) (upd (upd Kn p o) L (.lst (ws ++ [.ref p]))) _ (hk.trans (Ex.new (by rw [upd_ne pL.symm]; exact kL))) upd_same (.inr ⟨hb, p, o, rfl, by rw [upd_ne pL, upd_same], ho⟩) ?_
    have m : Ex (upd Kn p o) (upd H3 L (.lst (ws ++ [.ref p]))) := Ex.mut I4.1.ex (by rw [upd_ne pL.symm]; exact kL)
    have dk : Dk d l (upd H3 L (.lst (ws ++ [.ref p]))) := by
      obtain ⟨kvs, ms, g1, g2, g3⟩ := I3.dk
      exact ⟨kvs, ms, by rw [upd_ne nd.symm]; exact g1, g2, by rw [upd_ne nl.symm]; exact g3⟩
    exact In.more (⟨m, I4.1.dn, I4.1.ln, dk⟩ : In d l (upd Kn p o) _) upd_same (by rw [upd_ne pL.symm]; exact kL) nd nl
  · have I1 := I.to e1
    exact k ws (upd Kn L (.lst ws)) H1 (Ex.new kL) upd_same (.inl rfl) (I1.more (e1 _ _ hL) kL nd nl)
end
section
variable {K : PySem.W.Frag} {σ : L2.St} {H : Hp} {ta tb : TE} {y z : V}
theorem ev_opN {r : R2} {Pn : HO → Prop} (ha : EvN ta σ H Pn) (hb : Ev tb σ H y) (hr : ∀ p o H1, H1 p = some o → Pn o → Ex H H1 → RV r (.ref p) y H1 z) : Ev (tOp r ta tb) σ H z := fun H1 e Q q =>
  ha H1 e _ fun p H2 o np e2 hp ho => hb H2 (e.trans e2) _ fun H3 e3 => hr p o H3 (e3 _ _ hp) ho ((e.trans e2).trans e3) H3 (Ex.refl H3) Q fun H4 e4 => q H4 ((e2.trans e3).trans e4)
end

/-! ### the law's own def, called at the top: nothing is under way there, so repr of data can be told -/
section
variable {P : Program} {w : World} {K : PySem.W.Frag} {mg mb : Str → Option Value} {k : Nat} {fa a : Addr} {qn nm x : Str} {prms : Arguments} {code : List Stmt} {sc : Scope} {dV kV doc pm cdv ct oc : Value} {an od : Option Addr} {osl : Array (Option Value)} {N : List Str}
/-- the body of the law's def, run at the top over base -/
def BodyAt (P : Program) (w : World) (K : PySem.W.Frag) (mg : Str → Option Value) (base : Heap) (k : Nat) (fa a : Addr) (qn : Str) (code : List Stmt) (sc : Scope) (cdv : Value) (N : List Str) (ns : List Int) : Prop :=
  ∀ (s : Shared) (H : Hp), Room k (callerA.deeper (envOfC qn sc s.heap.objs.size fa cdv)) → SqL K H a (ns.map V.int) →
    ∃ t, PSs (cxOf C8.CX0 P w K mg base N qn sc fa cdv callerA [] s H C8.E0).nox code t ∧ t { nx := fun _ _ => False, rt := fun v _ => v = .bl true } (start N [.ref a]) H
theorem top_at {base : Heap} {s : Shared} {H : Hp} {ns : List Int} (lk : K.lookup fa = some ⟨oc, od, .func (PySem.W.fnOf nm qn prms code sc dV kV doc pm an cdv ct), osl⟩) (hc : PySem.W.codeIn K cdv qn = true) (S : FnScope N [x] sc) (hr : Room (k + 1) callerA)
    (hb : ∀ (s : Shared) (u : Value), BindsTo s (PySem.W.fnOf nm qn prms code sc dV kV doc pm an cdv ct) ⟨[u], []⟩ [(x, u)]) (B : BodyAt P w K mg base k fa a qn code sc cdv N ns) (e0 : Env0 P w K mg base callerA [] s H) (hs : SqL K H a (ns.map V.int)) :
    codeAny (model P w) callerA (.call (.ref fa) ⟨[.ref a], []⟩) (CR C8.CX0 [] P w H s (fun v _ => v = .bl true) C8.E0) s := by
  have stay : ∀ b o, base.get? b = some o → s.heap.get? b = some o := fun b o e => (e0.bs b o e).1
  have kin : K.In s.heap := e0.mod.kin.keeps stay
  have one : Vals [V.ref a] [Value.ref a] := .cons rfl .nil
  have names : ∀ y ∈ [x].zip [Value.ref a], sc.names.lookup y.1 = some .local ∨ (sc.names.lookup y.1 = some .cell ∧ ((cellsFrom (s.heap.objs.size + 1) sc.names []).lookup y.1).isSome = true) := by
    intro y hy
    obtain ⟨m, v⟩ := y
    exact (S.par m (List.of_mem_zip hy).1).imp id fun q => ⟨q, PySem.W.cellsFrom_some _ _ _ (.inl q)⟩
  apply codeAny_call_function hr.depth (kin _ _ lk) rfl S.co S.gen rfl (PySem.W.codeRec_of kin hc) (hb _ _ _ _ _ _ ?_)
  refine wpAny_newFunctionEnv_cells S.kind names fun env he s1 entered => ?_
  cases he
  have lim := (e0.mod.nolimit.keeps stay).keeps entered.toInCall.keep
  refine ⟨lim, codeAny_func ?_⟩
  obtain ⟨t, ht, go⟩ := B s H (hr.deeper _) hs
  have I0 := inv_start (CX := C8.CX0) (E := C8.E0) S hr.hd e0 rfl one entered
  refine wpAny_mono (ht.nox.run [] s1 (start N [.ref a]) H _ I0 go) (fun way s' back => ?_) fun _ _ h => h
  cases way with
  | ret u =>
    obtain ⟨v, σ', H', J, rv, q⟩ := back
    exact ⟨v, H', J.os, J.bare, J.base, J.hok, rv, q⟩
  | next =>
    obtain ⟨_, _, _, q⟩ := back
    exact q.elim
  | brk =>
    obtain ⟨_, _, _, q⟩ := back
    exact q.elim
  | cont =>
    obtain ⟨_, _, _, q⟩ := back
    exact q.elim
end
section
variable {P : Program} {w : World} {K : PySem.W.Frag} {mg mb : Str → Option Value} {k : Nat} {fa a : Addr} {qn nm x : Str} {prms : Arguments} {code : List Stmt} {sc : Scope} {dV kV doc pm cdv ct oc : Value} {an od : Option Addr} {osl : Array (Option Value)} {N : List Str}
/-- the script's list as it stands -/
abbrev scr (vs : List Value) : Obj := { cls := .type "list", data := .seq vs.toArray }
/-- H tells of the script or of nothing -/
def OnlyScr (K : PySem.W.Frag) (a : Addr) (vs : List Value) (ns : List Int) (H : Hp) : Prop := ∀ b u, H b = some u → b = a ∧ u = .frz (scr vs) (.lst (ns.map V.int)) ∧ K.lookup a = none
theorem top_law {s : Shared} {vs : List Value} {ns : List Int} (lk : K.lookup fa = some ⟨oc, od, .func (PySem.W.fnOf nm qn prms code sc dV kV doc pm an cdv ct), osl⟩) (hc : PySem.W.codeIn K cdv qn = true) (S : FnScope N [x] sc) (hr : Room (k + 1) callerA)
    (hb : ∀ (s : Shared) (u : Value), BindsTo s (PySem.W.fnOf nm qn prms code sc dV kV doc pm an cdv ct) ⟨[u], []⟩ [(x, u)]) (B : ∀ base : Heap, K.In base → base.Ns mainGlobals mg → BodyAt P w K mg base k fa a qn code sc cdv N ns)
    (KX : K.In s.heap) (g1 : s.heap.Ns mainGlobals mg) (g2 : s.heap.Ns builtinsNs mb) (g3 : ∀ x : Str, x ≠ "__name__" → mb x = bootBuiltins x) (g4 : s.heap.NoLimit) (g5 : s.gens = #[])
    (ha : s.heap.get? a = some (scr vs)) (hi : IntsAre vs ns) (hl : ns.length ≤ sizeLine) :
    codeAny (model P w) callerA (.call (.ref fa) ⟨[.ref a], []⟩) (fun r s' => r = .ok (.ret (.bool true)) ∧ OldK s.heap s'.heap ∧ s'.os = s.os ∧ AllBare s'.gens) s := by
  have rel := vals_ints hi
  have over : ∀ H : Hp, OnlyScr K a vs ns H → HOk P w H s.heap → SqL K H a (ns.map V.int) →
      codeAny (model P w) callerA (.call (.ref fa) ⟨[.ref a], []⟩) (fun r s' => r = .ok (.ret (.bool true)) ∧ OldK s.heap s'.heap ∧ s'.os = s.os ∧ AllBare s'.gens) s := by
    intro H tells good hs
    have out : ∀ {b : Addr} {o : Obj}, s.heap.get? b = some o → o ≠ scr vs → H b = none := by
      intro b o e ne
      rcases hH : H b with _ | u
      · rfl
      · obtain ⟨rfl, _, _⟩ := tells b u hH
        exact absurd (Option.some.inj (e.symm.trans ha)) ne
    have ns_in : ∀ {b : Addr} {m : Str → Option Value}, s.heap.Ns b m → (hidT s.heap H).Ns b m := by
      rintro b m ⟨o, es, ep, e, d, r⟩
      refine ⟨o, es, ep, hidT_get e (out e fun z => ?_), d, r⟩
      rw [z] at d
      exact nomatch d
    have k_in : K.In (hidT s.heap H) := by
      intro b o e
      refine hidT_get (KX b o e) ?_
      rcases hH : H b with _ | u
      · rfl
      · obtain ⟨rfl, _, z⟩ := tells b u hH
        rw [z] at e
        exact nomatch e
    have modOk : Mod K mg (hidT s.heap H) := ⟨k_in, ns_in g1, ⟨mb, ns_in g2, g3⟩, g4.elim fun mc z => ⟨mc, ns_in z.1, z.2⟩⟩
    have e0 : Env0 P w K mg (hidT s.heap H) callerA [] s H := ⟨rfl, modOk, fun _ _ e => of_hidT e, Nat.le_of_eq (hidT_size _ _), trivial, fun _ hb => (nomatch hb), good, .of_eq g5⟩
    refine codeAny_mono (top_at lk hc S hr hb (B _ k_in (ns_in g1)) e0 hs) fun res s' h => ?_
    match res, h with
    | .ok (.ret u), h =>
      obtain ⟨v, H', os, bare, un, good', ru, rfl⟩ := h
      cases ru
      refine ⟨rfl, OldK.of_keep fun b o e => ?_, os, bare⟩
      rcases hH : H b with _ | u
      · exact un.keep b o e hH (fun z => (nomatch z)) (fun z => (nomatch z))
      · obtain ⟨rfl, rfl, _⟩ := tells b u hH
        obtain ⟨still, _⟩ := good' b _ (un.frzs b _ _ hH)
        rw [ha] at e
        rw [still]
        exact e
    | .ok .next, h => exact False.elim h
    | .ok .brk, h => exact False.elim h
    | .ok .cont, h => exact False.elim h
    | .error e, h => exact False.elim h
  rcases hk : K.lookup a with _ | o
  · refine over (fun b => if b = a then some (.frz (scr vs) (.lst (ns.map V.int))) else none) (fun b u z => ?_) (fun b u z => ?_) (.inl (.inr ⟨scr vs, if_pos rfl⟩))
    · change (if b = a then some (HO.frz (scr vs) (.lst (ns.map V.int))) else none) = some u at z
      by_cases q : b = a
      · rw [if_pos q] at z
        exact ⟨q, (Option.some.inj z).symm, hk⟩
      · rw [if_neg q] at z
        exact nomatch z
    · change (if b = a then some (HO.frz (scr vs) (.lst (ns.map V.int))) else none) = some u at z
      by_cases q : b = a
      · rw [if_pos q] at z
        subst q
        obtain rfl := Option.some.inj z
        exact ⟨ha, by rw [List.length_map]; exact hl, vs, _, rel, ha⟩
      · rw [if_neg q] at z
        exact nomatch z
  · have e := KX a o hk
    obtain rfl := Option.some.inj (e.symm.trans ha)
    exact over (fun _ => none) (fun _ _ z => (nomatch z)) (fun _ _ z => (nomatch z)) (.inr ⟨_, vs.toArray, _, hk, rfl, rfl, rfl, by rw [List.size_toArray, hi.length]; exact hl, by simpa using rel⟩)
end
/-- what the head wants of a law whose def runs at the top -/
theorem top_walk {l : PySem.W.OpenLaw} {n k : Nat} {q : Program} {loose : List Str} {XP : (Str → Option Value) → Heap → Prop} {YP : World → Heap → Prop} {d : DefRec} {K : Params → PySem.W.Frag} {x : Str}
    (hn : l.most = some n) (hn2 : n ≤ sizeLine) (hdf : d.params.defaults = []) (hr : Room (k + 1) callerA) (hY : ∀ (w : World) (h : Heap), YP w h → (K w.params).In h)
    (F : ∀ (w : World) (mg : Str → Option Value) (fa : Addr) (h : Heap), (K w.params).In h → h.Ns mainGlobals mg → mg d.name = some (.ref fa) →
      ∃ (nm qn : Str) (prms : Arguments) (code : List Stmt) (sc : Scope) (dV kV doc pm cdv ct oc : Value) (an od : Option Addr) (osl : Array (Option Value)) (N : List Str),
        (K w.params).lookup fa = some ⟨oc, od, .func (PySem.W.fnOf nm qn prms code sc dV kV doc pm an cdv ct), osl⟩ ∧ PySem.W.codeIn (K w.params) cdv qn = true ∧ FnScope N [x] sc ∧
        (∀ (s : Shared) (u : Value), BindsTo s (PySem.W.fnOf nm qn prms code sc dV kV doc pm an cdv ct) ⟨[u], []⟩ [(x, u)]) ∧
        ∀ base : Heap, (K w.params).In base → base.Ns mainGlobals mg → ∀ (a : Addr) (ns : List Int), ns.length ≤ n → BodyAt l.prog w (K w.params) mg base k fa a qn code sc cdv N ns) :
    PySem.W.WalkO q loose XP YP l.row.toRowW d [] (fun f vs => PySem.call f vs) := by
  refine Att.attach_call hn hdf fun w s0 s1 mg mb fa o pm cd doc a vs ns G Y _ _ _ hmg hobj hints hlen hg => ?_
  obtain ⟨nm, qn, prms, code, sc, dV, kV, doc, pm, cdv, ct, oc, an, od, osl, N, lk, hc, S, hb, B⟩ := F w mg fa _ (hY w _ Y) G.T.g hmg
  exact top_law lk hc S hr hb (fun base k1 k2 => B base k1 k2 a ns hlen) (hY w _ Y) G.T.g G.T.b G.T.builtins G.T.nolimit hg hobj hints (Nat.le_trans hlen hn2)

/-! ### repr of data at the top, what both ways of an if share -/
def rRepr (K : PySem.W.Frag) : List V → Hp → VK → Prop := fun xs H Q => ∃ (a : Addr) (d : PyData), xs = [.ref a] ∧ Dp K H (.ref a) d ∧ d.showable = true ∧ d.hasDict = false ∧ d.depth ≤ 64 ∧ d.shown.length ≤ 100000 ∧ Q (.str d.shown) H
theorem cr_repr {X : Cx} {j : Nat} (hg : X.A.guards = some []) (hr : Room j X.A) : CallR X (.builtin "repr") (rRepr X.K) := by
  intro pins s σ H xs us Q I rx h
  obtain ⟨a, d, rfl, hd, s1, s2, s3, s4, q⟩ := h
  obtain ⟨u, rfl, ru⟩ := Vals.one rx
  obtain rfl : u = Value.ref a := ru
  obtain ⟨as, r⟩ := Dp.reads I d _ _ hd rfl
  have un := hr.un
  exact repr_of_reads' r s1 (PyData.noDict_hsm s2) hg (by omega) (fun _ _ e => e) (fun h' u tk k => ⟨.str d.shown, H, I.kept (t' := tk) k, ⟨u, rfl⟩, q⟩) (Nat.le_trans s4 (by decide))
section
variable {K : PySem.W.Frag} {σ : L2.St} {H : Hp} {ta tb te : TE} {x y z : V}
theorem rc_repr {a : Addr} {d : PyData} (hd : Dp K H (.ref a) d) (s1 : d.showable = true) (s2 : d.hasDict = false) (s3 : d.depth ≤ 64) (s4 : d.shown.length ≤ 100000) : RC (rRepr K) [.ref a] H (.str d.shown) := fun H1 e _ q => ⟨a, d, rfl, dp_up e hd, s1, s2, s3, s4, q H1 (Ex.refl H1)⟩
theorem ev_reprN {xs : List V} {d : PyData} (h : EvU te σ H xs) (hd : ∀ a H1, H1 a = some (.tup xs) → Ex H H1 → Dp K H1 (.ref a) d) (s1 : d.showable = true) (s2 : d.hasDict = false) (s3 : d.depth ≤ 64) (s4 : d.shown.length ≤ 100000) : Ev (tCB (rRepr K) (tCons te tNil)) σ H (.str d.shown) := fun H1 e _ q =>
  h H1 e _ fun p H2 _ e2 hp => ⟨p, d, rfl, hd p H2 hp (e.trans e2), s1, s2, s3, s4, q H2 e2⟩
theorem ev_strN {C : Addr} {R : Hp → List V → V → Prop} {s : Str} {Pn : HO → Prop} (h : EvN te σ H Pn) (hp : ∀ a o H1, H1 a = some o → Pn o → Ex H H1 → (∃ dx fs, o = .ins C dx fs) ∧ R H1 [.ref a] (.str s)) : Ev (tCB (rStrO C R) (tCons te tNil)) σ H (.str s) := fun H1 e _ q =>
  h H1 e _ fun a H2 o _ e2 ha ho => by
    obtain ⟨⟨dx, fs, rfl⟩, hR⟩ := hp a o H2 ha ho (e.trans e2)
    exact ⟨a, dx, fs, s, rfl, ha, hR, fun H' e3 => q H' (e2.trans e3)⟩
theorem el_catV {a : Addr} {xs ys : List V} (h1 : Ev ta σ H (.ref a)) (ha : H a = some (.lst xs)) (h2 : EvL tb σ H ys) (hz : xs.length + ys.length ≤ 100000) : EvL (tOp rCat ta tb) σ H (xs ++ ys) := fun H1 e _ q =>
  h1 H1 e _ fun H2 e2 => h2 H2 (e.trans e2) _ fun p' H3 np' e3 hp' => ⟨a, p', xs, ys, rfl, rfl, ((e.trans e2).trans e3) _ _ ha, hp', Nat.le_trans hz (by decide), fun r nr => q r _ (fresh_back (e2.trans e3) nr) ((e2.trans e3).trans (Ex.new nr)) upd_same⟩
theorem rv_addS {a b : Str} (h : a.length + b.length ≤ 100000) : RV (fun x y H Q => ∃ i j, x = V.str i ∧ y = V.str j ∧ i.length + j.length ≤ sizeLine ∧ Q (.str (i ++ j)) H) (.str a) (.str b) H (.str (a ++ b)) := fun H1 _ _ q => ⟨a, b, rfl, rfl, Nat.le_trans h (by decide), q H1 (Ex.refl H1)⟩
/-- an if that may set a name: the rest is shown once -/
theorem x_ifShare {i : Nat} {t : TT} {tz : TS} {D : Ends} (C : V → Hp → Prop) (rest : ∀ v H', C v H' → tz D (σ.set i (some v)) H') (h : (∀ v H', C v H' → tz D (σ.set i (some v)) H') → t σ H fun b H1 => if b = true then te σ H1 (fun v H2 => tz D (σ.set i (some v)) H2) else tz D σ H1) :
    tSeq (tIfS t (tAsg te (gName i)) tNext) tz D σ H := h rest
theorem x_test {Q : Bool → Hp → Prop} (h : te σ H fun v H1 => ∃ b, v = .bl b ∧ Q b H1) : tTest te σ H Q := h
end
/-! ### a rule's arguments as data -/
def RuleD.data (r : RuleD) : PyData := .tuple [.int r.need, .int r.of, .int r.base, .int r.more, .int r.most, .int r.calm, .str r.back, .int r.top, .int r.under, .bool r.up, .str r.hears]
theorem dp_rule {K : PySem.W.Frag} {H : Hp} {p : Addr} {r : RuleD} (h : SqT K H p r.vals) : Dp K H (.ref p) r.data := .tup h (.cons (.int _) (.cons (.int _) (.cons (.int _) (.cons (.int _) (.cons (.int _) (.cons (.int _) (.cons (.str _) (.cons (.int _) (.cons (.int _) (.cons (.bl _) (.cons (.str _) .nil)))))))))))
theorem eqv_rule (r r' : RuleD) : PyData.eqv r.data r'.data = true ↔ r = r' := by
  cases r
  cases r'
  simp [RuleD.data, PyData.eqv, PyData.eqvAll]
theorem shaped_rule {r : RuleD} (ok : r.ok) : SeqAt.shaped r.data = true := by
  have sb : PyData.canLay0 (.str r.back) = true := by rcases ok.back with h | h | h <;> rw [h] <;> decide +kernel
  have sh : PyData.canLay0 (.str r.hears) = true := by rcases ok.hears with h | h | h <;> rw [h] <;> decide +kernel
  have si : ∀ i, PyData.canLay0 (.int i) = true := fun _ => rfl
  have su : ∀ i, PyData.canLay0 (.bool i) = true := fun _ => rfl
  have e1 : PyData.canLay0 r.data = true := by
    show PyData.canLayAll0 [_, _, _, _, _, _, _, _, _, _, _] = true
    simp only [PyData.canLayAll0, si, su, sb, sh, Bool.and_self]
  have e2 : PyData.depth r.data = 1 := by
    simp [RuleD.data, PyData.depth, PyData.depthAll]
  unfold SeqAt.shaped
  rw [e1, e2]
  decide
theorem show_rule {r : RuleD} (h : RuleN r) : r.data.showable = true ∧ r.data.hasDict = false ∧ r.data.depth ≤ 64 ∧ r.data.shown.length ≤ 100000 := by
  have ok := h.ok
  have a : ∀ z : Int, 0 ≤ z → z < 100 → PyData.showable (.int z) = true ∧ (PyData.shown (.int z)).length ≤ 6 := fun z h0 h1 => ⟨decide_eq_true (numLog h0 (by omega)), numLen h0 (by omega)⟩
  have a1 := a r.need (by have := ok.need; omega) (by have := ok.of; have := h.of; omega)
  have a2 := a r.of (by have := ok.need; have := ok.of; omega) h.of
  have a3 := a r.base (by have := ok.base; omega) (by have := ok.most; have := h.most; omega)
  have a4 := a r.more ok.more h.more
  have a5 := a r.most (by have := ok.base; have := ok.most; omega) h.most
  have a6 := a r.calm ok.calm h.calm
  have a7 := a r.top ok.top (by have := ok.topu; have := h.under; omega)
  have a8 := a r.under (by have := ok.under; omega) h.under
  have lb : (PyData.shown (.str r.back)).length ≤ 10 := by rcases ok.back with h | h | h <;> rw [h] <;> decide +kernel
  have lh : (PyData.shown (.str r.hears)).length ≤ 10 := by rcases ok.hears with h | h | h <;> rw [h] <;> decide +kernel
  have lu : (PyData.shown (.bool r.up)).length ≤ 10 := by cases r.up <;> decide +kernel
  have ss : ∀ s, PyData.showable (.str s) = true := fun _ => rfl
  have su : ∀ b, PyData.showable (.bool b) = true := fun _ => rfl
  refine ⟨?_, ?_, ?_, ?_⟩
  · show PyData.showableAll [_, _, _, _, _, _, _, _, _, _, _] = true
    simp only [PyData.showableAll, a1.1, a2.1, a3.1, a4.1, a5.1, a6.1, a7.1, a8.1, ss, su, Bool.and_self]
  · simp [RuleD.data, PyData.hasDict, PyData.hasDictAll]
  · simp [RuleD.data, PyData.depth, PyData.depthAll]
  · show (tupleText (PyData.shownAll [_, _, _, _, _, _, _, _, _, _, _])).length ≤ 100000
    refine Nat.le_trans (tupleText_len_le _) ?_
    simp only [PyData.shownAll, List.map_cons, List.map_nil, List.sum_cons, List.sum_nil, List.length_cons, List.length_nil]
    have := a1.2
    have := a2.2
    have := a3.2
    have := a4.2
    have := a5.2
    have := a6.2
    have := a7.2
    have := a8.2
    omega
section
variable {K : PySem.W.Frag}
theorem eu_catV {σ : L2.St} {H : Hp} {ta tb : TE} {a : Addr} {xs ys : List V} (h1 : Ev ta σ H (.ref a)) (ha : SqT K H a xs) (h2 : EvU tb σ H ys) (x0 : xs ≠ []) (y0 : ys ≠ []) (hz : xs.length + ys.length ≤ 100000) : EvU (tOp (rCatT K) ta tb) σ H (xs ++ ys) := fun H1 e _ q =>
  h1 H1 e _ fun H2 e2 => h2 H2 (e.trans e2) _ fun p' H3 np' e3 hp' => ⟨a, p', xs, ys, rfl, rfl, ex_t ((e.trans e2).trans e3) ha, st_of hp', x0, Nat.le_trans hz (by decide), fun z => (y0 z).elim, fun _ r nr => q r _ (fresh_back (e2.trans e3) nr) ((e2.trans e3).trans (Ex.new nr)) upd_same⟩
theorem eq_text {r r' : RuleD} (ok : r.ok) (ok' : r'.ok) : decide (textOf r = textOf r') = PyData.eqv r.data r'.data := by
  by_cases h : r = r'
  · subst h
    rw [decide_eq_true rfl, (eqv_rule r r).mpr rfl]
  · rw [decide_eq_false fun z => h (text_inj ok ok' z)]
    cases e : PyData.eqv r.data r'.data with
    | false => rfl
    | true => exact absurd ((eqv_rule r r').mp e) h
end

/-! ### a box of draws kept as a dict of a list and a number -/
abbrev kBlend : Key := .inr "blend"
structure GkO (l : Addr) (kvs : List (Key × V)) : Prop where
  len : kvs.length ≤ 2
  g : valV kvs kGreat = some (.ref l)
  m : ∃ a : Int, valV kvs kBlend = some (.int a)
def Gk (d l : Addr) (H : Hp) : Prop := ∃ (kvs : List (Key × V)) (ns : List Int), H d = some (.dK kvs) ∧ GkO l kvs ∧ H l = some (.lst (ns.map V.int)) ∧ ns.length ≤ 63
structure Ig (d l : Addr) (Kn H : Hp) : Prop where
  ex : Ex Kn H
  dn : Kn d = none
  ln : Kn l = none
  dk : Gk d l H
section
variable {d l p : Addr} {K0 Kn H H' H1 : Hp} {o : HO}
theorem Gk.ex (h : Gk d l H) (e : Ex H H') : Gk d l H' := let ⟨kvs, ns, h1, h2, h3, h4⟩ := h; ⟨kvs, ns, e _ _ h1, h2, e _ _ h3, h4⟩
theorem Ig.to (h : Ig d l Kn H) (e : Ex H H') : Ig d l Kn H' := ⟨h.ex.trans e, h.dn, h.ln, h.dk.ex e⟩
theorem Ig.less (h : Ig d l Kn H) (e : Ex K0 Kn) : Ig d l K0 H := ⟨e.trans h.ex, fresh_back e h.dn, fresh_back e h.ln, h.dk⟩
theorem Ig.more (h : Ig d l Kn H) (hp : H p = some o) (hk : Kn p = none) (nd : p ≠ d) (nl : p ≠ l) : Ig d l (upd Kn p o) H := by
  refine ⟨fun a u e => ?_, by rw [upd_ne nd.symm]; exact h.dn, by rw [upd_ne nl.symm]; exact h.ln, h.dk⟩
  by_cases q : a = p
  · subst q
    rw [upd_same] at e
    rw [hp, ← e]
  · rw [upd_ne q] at e
    exact h.ex a u e
theorem Ig.new (h : Ig d l Kn H) (np : H p = none) (e : Ex H H1) (hp : H1 p = some o) : Ig d l (upd Kn p o) H1 ∧ Ex Kn (upd Kn p o) := by
  obtain ⟨kvs, ns, h1, h2, h3, h4⟩ := id h.dk
  have kp : Kn p = none := fresh_back h.ex np
  exact ⟨(h.to e).more hp kp (fun q => by subst q; rw [h1] at np; cases np) (fun q => by subst q; rw [h3] at np; cases np), Ex.new kp⟩
theorem Ig.lay (h : Ig d l Kn H) (np : H p = none) : Ig d l (upd Kn p o) (upd H p o) ∧ Ex Kn (upd Kn p o) := h.new np (Ex.new np) upd_same
theorem Ig.ev {te : TE} {σ : L2.St} {v : V} {Q : VK} (h : Ig d l Kn H) (e : Ev te σ Kn v) (k : ∀ H', Ig d l Kn H' → Q v H') : te σ H Q := e H h.ex Q fun H2 e2 => k H2 (h.to e2)
theorem Ig.evL {te : TE} {σ : L2.St} {xs : List V} {Q : VK} (h : Ig d l Kn H) (e : EvL te σ Kn xs) (k : ∀ p K1 H', Ex Kn K1 → K1 p = some (.lst xs) → Ig d l K1 H' → Q (.ref p) H') : te σ H Q := e H h.ex Q fun p H2 np e2 hp => k p _ H2 (h.new np e2 hp).2 upd_same (h.new np e2 hp).1
theorem Ig.evN {te : TE} {σ : L2.St} {Pn : HO → Prop} {Q : VK} (h : Ig d l Kn H) (e : EvN te σ Kn Pn) (k : ∀ p K1 H' o, Ex Kn K1 → K1 p = some o → Pn o → Ig d l K1 H' → Q (.ref p) H') : te σ H Q := e H h.ex Q fun p H2 o np e2 hp ho => k p _ H2 o (h.new np e2 hp).2 upd_same ho (h.new np e2 hp).1
theorem mdG (d l : Addr) (Kn : Hp) : Md Kn (Ig d l Kn) := ⟨fun _ h => h.ex, fun _ _ h e => h.to e⟩
end
structure Dg (d l : Addr) (Kn : Hp) (kvs : List (Key × V)) (ns : List Int) (H : Hp) : Prop where
  ex : Ex Kn H
  dn : Kn d = none
  ln : Kn l = none
  hd : H d = some (.dK kvs)
  ok : GkO l kvs
  hl : H l = some (.lst (ns.map V.int))
  hz : ns.length ≤ 63
section
variable {d l : Addr} {Kn H H' : Hp} {kvs : List (Key × V)} {ns : List Int}
theorem Dg.of (h : Ig d l Kn H) : ∃ kvs ns, Dg d l Kn kvs ns H := by
  obtain ⟨kvs, ns, h1, h2, h3, h4⟩ := h.dk
  exact ⟨kvs, ns, h.ex, h.dn, h.ln, h1, h2, h3, h4⟩
theorem Dg.in_ (h : Dg d l Kn kvs ns H) : Ig d l Kn H := ⟨h.ex, h.dn, h.ln, kvs, ns, h.hd, h.ok, h.hl, h.hz⟩
theorem Dg.up (h : Dg d l Kn kvs ns H) (e : Ex H H') : Dg d l Kn kvs ns H' := ⟨h.ex.trans e, h.dn, h.ln, e _ _ h.hd, h.ok, e _ _ h.hl, h.hz⟩
theorem Dg.ne (h : Dg d l Kn kvs ns H) : d ≠ l := ne_of h.hd h.hl (by intro z; cases z)
theorem Dg.len (h : Dg d l Kn kvs ns H) : kvs.length < sizeLine := Nat.lt_of_le_of_lt h.ok.len (by decide)
theorem Dg.lay (h : Dg d l Kn kvs ns H) {ms : List Int} (hz : ms.length ≤ 63) : Dg d l Kn kvs ms (upd H l (.lst (ms.map V.int))) :=
  ⟨Ex.mut h.ex h.ln, h.dn, h.ln, by rw [upd_ne h.ne]; exact h.hd, h.ok, upd_same, hz⟩
theorem Dg.put (h : Dg d l Kn kvs ns H) (z : Int) : Dg d l Kn (putK kvs kBlend (.int z)) ns (upd H d (.dK (putK kvs kBlend (.int z)))) := by
  obtain ⟨a, ha⟩ := h.ok.m
  refine ⟨Ex.mut h.ex h.dn, h.dn, h.ln, upd_same, ⟨by rw [putK_len _ ha]; exact h.ok.len, by rw [valV_put, if_neg (by decide +kernel)]; exact h.ok.g, z, by rw [valV_put, if_pos rfl]⟩, by rw [upd_ne h.ne.symm]; exact h.hl, h.hz⟩
theorem ev_dgetG {σ : L2.St} {td ty : TE} {k : Key} {v : V} (h1 : Ev td σ H (.ref d)) (h2 : Ev ty σ H (kV k)) (hd : H d = some (.dK kvs)) (hv : valV kvs k = some v) : Ev (tDGet td ty) σ H v := fun H1 e _ q =>
  h1 H1 e _ fun H2 e2 => h2 H2 (e.trans e2) _ fun H3 e3 => ⟨d, v, rfl, by rw [← hv]; exact DGet.k (((e.trans e2).trans e3) _ _ hd), q H3 (e2.trans e3)⟩
theorem q_dputG {σ : L2.St} {D : Ends} {tz : TS} {td ty tv : TE} {z : Int} (h : Dg d l Kn kvs ns H) (hv : Ev tv σ H (.int z)) (h1 : Ev td σ H (.ref d)) (h2 : Ev ty σ H (kV kBlend))
    (q : ∀ H', Dg d l Kn (putK kvs kBlend (.int z)) ns H' → tz D σ H') : tSeq (sDPut td ty tv) tz D σ H :=
  hv H (Ex.refl H) _ fun H1 e1 => h1 H1 e1 _ fun H2 e2 => h2 H2 (e1.trans e2) _ fun H3 e3 => by
    have h3 := h.up ((e1.trans e2).trans e3)
    exact ⟨d, _, rfl, DPut.k h3.hd h3.len, q _ (h3.put z)⟩
end
def spTakeG : Sp := fun vs H Q _ => ∃ (d l : Addr) (m : Int) (Kn : Hp), vs = [.ref d, .int m] ∧ 0 < m ∧ m < 1073741824 ∧ Ig d l Kn H ∧ ∀ v H', 0 ≤ v → v < m → Ig d l Kn H' → Q (.int v) H'
def spPickG (K : PySem.W.Frag) : Sp := fun vs H Q _ => ∃ (d l p : Addr) (xs : List V) (Kn : Hp), vs = [.ref d, .ref p] ∧ SqL K Kn p xs ∧ 0 < xs.length ∧ xs.length < 1000000 ∧ Ig d l Kn H ∧ ∀ v H', v ∈ xs → Ig d l Kn H' → Q v H'
def spFeed (K : PySem.W.Frag) : Sp := fun vs H Q _ => ∃ (a : Addr) (b : Int) (ns : List Int), vs = [.ref a, .int b] ∧ SqL K H a (ns.map V.int) ∧ ns.length ≤ 63 ∧ 0 ≤ b ∧ b ≤ 100 ∧
  ∀ d l H', H d = none → H l = none → Ex H H' → Gk d l H' → Q (.ref d) H'
theorem given_int (n : Nat) (f : Nat → Bool) (g : Nat → Int) : given n f (fun i => V.int (g i)) = (((List.range n).filter f).map g).map V.int := by
  unfold given
  rw [List.map_map]
  rfl
theorem given_int_len (n : Nat) (f : Nat → Bool) (g : Nat → Int) : (((List.range n).filter f).map g).length ≤ n := by
  rw [List.length_map]
  have h := List.length_filter_le f (List.range n)
  rw [List.length_range] at h
  exact h
theorem cut_int (ns : List Int) (lo hi : Option Int) : ∃ ms : List Int, cutV (ns.map V.int) lo hi = ms.map V.int ∧ ms.length ≤ ns.length := by
  refine ⟨(ns.drop (HT.sIx (ns.map V.int).length 0 lo)).take (HT.sIx (ns.map V.int).length (ns.map V.int).length hi - HT.sIx (ns.map V.int).length 0 lo), ?_, ?_⟩
  · unfold cutV
    rw [List.map_take, List.map_drop]
  · rw [List.length_take, List.length_drop]
    omega
theorem at_int {ns : List Int} {i : Nat} {x : V} (h : (ns.map V.int)[i]? = some x) : x = .int (ns.getD i 0) ∧ i < ns.length := by
  rw [List.getElem?_map] at h
  cases e : ns[i]? with
  | none =>
    rw [e] at h
    cases h
  | some z =>
    rw [e] at h
    rw [List.getD_eq_getElem?_getD, e]
    exact ⟨(Option.some.inj h).symm, (List.getElem?_eq_some_iff.mp e).1⟩
section
variable {P : Program} {w : World} {K : PySem.W.Frag} {mg : Str → Option Value} {base : Heap} {CR aB aH : Addr}
theorem x_drop {te : TE} {tz : TS} {D : Ends} {σ : L2.St} {H : Hp} (h : te σ H fun _ H1 => tz D σ H1) : tSeq (tDrop te) tz D σ H := h
theorem x_bm {T : String} {r : V → List V → Hp → VK → Prop} {to : TE} {t : TA} {σ : L2.St} {H : Hp} {Q : VK} (h : to σ H fun x H1 => tyV K T x H1 ∧ t σ H1 fun xs H2 => r x xs H2 Q) : tBM K T r to t σ H Q := h
theorem x_pop1 {T : String} {r : V → List V → Hp → VK → Prop} {te : TE} {D : Ends} {σ : L2.St} {H : Hp} (h : te σ H fun x H1 => tyV K T x H1 ∧ r x [] H1 fun _ H2 => D.nx σ H2) : tDrop (tBM0 K T r te) D σ H := h
theorem x_pop {T : String} {r : V → List V → Hp → VK → Prop} {te : TE} {Q : VK} {σ : L2.St} {H : Hp} (h : te σ H fun x H1 => tyV K T x H1 ∧ r x [] H1 Q) : tBM0 K T r te σ H Q := h
theorem x_pairC {k : V} {tv : TE} {ps : List (TE × TE)} {σ : L2.St} {H : Hp} {Q : List (V × V) → Hp → Prop} (h : tv σ H fun y H1 => tPairs ps σ H1 fun qs H2 => Q ((k, y) :: qs) H2) : tPairs ((tC k, tv) :: ps) σ H Q := h
theorem x_pair0 {σ : L2.St} {H : Hp} {Q : List (V × V) → Hp → Prop} (h : Q [] H) : tPairs [] σ H Q := h
theorem x_revL {te : TE} {σ : L2.St} {H : Hp} {Q : VK} (h : te σ H fun x H1 => ∃ a xs, x = .ref a ∧ SqL K H1 a xs ∧ ∀ p, H1 p = none → Q (.ref p) (upd H1 p (.lst xs.reverse))) : tRevL K te σ H Q := h
theorem el_go {te : TE} {σ : L2.St} {H : Hp} {xs : List V} {Q : VK} (h : EvL te σ H xs) (k : ∀ p H2, H p = none → Ex H H2 → H2 p = some (.lst xs) → Q (.ref p) H2) : te σ H Q := h H (Ex.refl H) Q k
theorem et_yes {σ : L2.St} {H : Hp} : EvT tYes σ H true := fun H1 _ _ q => q H1 (Ex.refl H1)
theorem eqv_nil (zs : List Int) : PyData.eqv (.list (zs.map PyData.int)) (.list []) = decide (zs = []) := by
  cases zs with
  | nil => rfl
  | cons a t => simp [PyData.eqv, PyData.eqvAll]
theorem et_neNilV {σ : L2.St} {H : Hp} {te : TE} {p : Addr} {zs : List Int} (h : Ev te σ H (.ref p)) (hp : SqL K H p (zs.map V.int)) : EvT (tTest (tOp (rNeD K) te (tLst tNil))) σ H (!decide (zs = [])) := by
  refine et_test (fun H1 e Q q => h H1 e _ fun H2 e2 => el_lst ea_nil (by decide) H2 (e.trans e2) _ fun p' H3 _ e3 hp' => ?_)
  refine rv_neD (d := .list (zs.map PyData.int)) (e := .list []) (.lst (ex_l ((e.trans e2).trans e3) hp) (dp_ints zs)) (.lst (sq_of hp') .nil) (PySem.W.ke_shaped_ints _) (by rfl) H3 (Ex.refl H3) Q fun H4 e4 => ?_
  rw [eqv_nil]
  exact q H4 ((e2.trans e3).trans e4)
theorem et_eqNilL {σ : L2.St} {H : Hp} {te : TE} {zs : List Int} (h : EvL te σ H (zs.map V.int)) : EvT (tTest (tOp (rEqD K) te (tLst tNil))) σ H (decide (zs = [])) := by
  refine et_is (et_test (ev_opLL h (el_lst ea_nil (by decide)) fun p q H1 hp hq _ => rv_eqD (d := .list (zs.map PyData.int)) (e := .list []) (.lst (sq_of hp) (dp_ints zs)) (.lst (sq_of hq) .nil) (PySem.W.ke_shaped_ints _) (by rfl))) (eqv_nil zs)
theorem ok_takeG {f : Addr} {fd : FuncData} (D : C8.Def K mg "_law_take" st_law_take f fd) (b : Binds K fd ["_law_box", "_law_wide"] []) (T : Tb K mg CR aB aH) : C8.Cal P w K mg base 1 "_law_take" spTakeG [] := by
  refine C8.cal0 D b .nil sc_law_take (fun vs H Q E h => ?_) (fun cdv A outer s H vs Q E hr h => ?_)
  · obtain ⟨_, _, _, _, rfl, _⟩ := h
    rfl
  · obtain ⟨d, l, m, Kn, rfl, m0, m1, I, k⟩ := h
    have hu := hu_of hr
    refine ⟨_, pss_cons (ps_set (i := 2) sc_law_take.nd rfl (Or.inl rfl) (pe_dget hu (pv 0) (pe_str) (fun _ _ => rfl)))
      (pss_cons (ps_while PassesOwn.never (PW.pt (pw_and (pt_cmpR (op_neD hr.units) (pv 2) (pe_lst (pa_nil)) (nomark _)) (pw_and1 (pt_cmpR (op_eq) (pe_ix ix_list (pv 2) (pe_un un_neg (pe_int)) (fun _ _ => rfl)) (pe_int) (nomark _))))) (pss_one (ps_expr (pe_bm0 PySem.F.plainAttrs_list PySem.F.slot_list_pop PySem.F.type_list_pop mt_pop (pv 2)))))
      (pss_cons (ps_if (pt_cmpR (op_neD hr.units) (pv 2) (pe_lst (pa_nil)) (nomark _)) (pss_cons (ps_set (i := 3) sc_law_take.nd rfl (Or.inl rfl) (pe_bm0 PySem.F.plainAttrs_list PySem.F.slot_list_pop PySem.F.type_list_pop mt_pop (pv 2)))
        (pss_cons (ps_expr (pe_bm PySem.F.plainAttrs_list PySem.F.slot_list_append PySem.F.type_list_append mt_append (pv 2) (pa_cons (pe_op op_fdiv (pv 3) (pv 1)) (pa_nil))))
        (pss_one (ps_ret (pe_op op_mod (pe_callTy call_int1 (by rfl) T.bi_int boot_int (pa_cons (pv 3) (pa_nil))) (pv 1)))))) (pss_nil))
      (pss_cons (ps_dput hu (pv 0) (pe_str) (pe_op op_mod (pe_callTy call_int1 (by rfl) T.bi_int boot_int (pa_cons (pe_op op_add (pe_op op_mul (pe_dget hu (pv 0) (pe_str) (fun _ _ => rfl)) (pe_int)) (pe_int)) (pa_nil))) (pe_int)) rfl)
      (pss_one (ps_ret (pe_op op_mod (pe_callTy call_int1 (by rfl) T.bi_int boot_int (pa_cons (pe_op op_fdiv (pe_dget hu (pv 0) (pe_str) (fun _ _ => rfl)) (pe_int)) (pa_nil))) (pv 1))))))), ?_⟩
    obtain ⟨kvs, ns, I⟩ := Dg.of I
    refine q_asg (ev_dgetG (k := kGreat) (ev_var rfl) ev_c I.hd I.ok.g) fun H1 e1 => ?_
    have I := I.up e1
    refine q_while (fun n σ' H' => σ' = [some (.ref d), some (.int m), some (.ref l), none] ∧ ∃ ns, Dg d l Kn kvs ns H' ∧ ns.length = n) ns.length ⟨rfl, ns, I, rfl⟩ ?_
    rintro n σ' H' ⟨rfl, ns, I, rfl⟩
    have nz : ns ≠ [] → ns[ns.length - 1]? = some (ns.getD (ns.length - 1) 0) := fun h => by
      have : 0 < ns.length := List.length_pos_iff.mpr h
      rw [List.getD_eq_getElem?_getD, List.getElem?_eq_getElem (show ns.length - 1 < ns.length by omega)]
      rfl
    refine ⟨_, et_and (et_neNilV (ev_var rfl) (sq_of I.hl)) (fun hb => et_test (ev_op (ev_op (ev_var rfl) (ev_un ev_c ru_neg) (rv_ixL (sq_of I.hl) (v := .int (ns.getD (ns.length - 1) 0)) ?_)) ev_c (rv_eq rfl))), fun hb H1 e1 => ?_, fun hb H1 e1 => ?_⟩
    · have h := nz (by simpa using hb)
      have : 0 < ns.length := List.length_pos_iff.mpr (by simpa using hb)
      unfold atI ixN
      rw [List.length_map, if_neg (by decide), if_pos (by omega)]
      show (ns.map V.int)[(-1 + (ns.length : Int)).toNat]? = _
      rw [show (-1 + (ns.length : Int)).toNat = ns.length - 1 by omega, List.getElem?_map, h]
      rfl
    · have hn : ns ≠ [] := by
        rw [Bool.and_eq_true] at hb
        simpa using hb.1
      have I1 := I.up e1
      refine ⟨fun σ2 H2 => σ2 = [some (.ref d), some (.int m), some (.ref l), none] ∧ ∃ ns', Dg d l Kn kvs ns' H2 ∧ ns'.length < ns.length, fun σ2 H2 ⟨e, ns', I2, hl⟩ => ⟨ns'.length, hl, e, ns', I2, rfl⟩, ?_⟩
      refine x_pop1 ((ev_var rfl) H1 (Ex.refl H1) _ fun H2 e2 => ?_)
      have I2 := I1.up e2
      refine ⟨Or.inl ⟨rfl, _, sq_of I2.hl⟩, l, _, .int (ns.getD (ns.length - 1) 0), rfl, rfl, I2.hl, by rw [List.length_map, List.getElem?_map, nz hn]; rfl, ?_⟩
      rw [← List.map_dropLast]
      have hz := I2.hz
      have : 0 < ns.length := List.length_pos_iff.mpr hn
      exact ⟨rfl, _, I2.lay (by rw [List.length_dropLast]; omega), by rw [List.length_dropLast]; omega⟩
    · have I := I.up e1
      refine q_when (et_neNilV (ev_var rfl) (sq_of I.hl)) (fun hb H2 e2 => ?_) (fun hb H2 e2 => ?_)
      · have I := I.up e2
        have hn : ns ≠ [] := by simpa using hb
        have h0 : 0 < ns.length := List.length_pos_iff.mpr hn
        have hz := I.hz
        refine x_asg (x_pop ((ev_var rfl) H2 (Ex.refl H2) _ fun H3 e3 => ?_))
        have I := I.up e3
        refine ⟨Or.inl ⟨rfl, _, sq_of I.hl⟩, l, _, .int (ns.getD (ns.length - 1) 0), rfl, rfl, I.hl, by rw [List.length_map, List.getElem?_map, nz hn]; rfl, ?_⟩
        rw [← List.map_dropLast]
        have I := I.lay (ms := ns.dropLast) (by rw [List.length_dropLast]; omega)
        generalize upd H3 l (.lst (ns.dropLast.map V.int)) = H4 at *
        refine x_drop (x_bm ((ev_var rfl) H4 (Ex.refl H4) _ fun H5 e5 => ?_))
        have I := I.up e5
        refine ⟨Or.inl ⟨rfl, _, sq_of I.hl⟩, ea_cons (ev_op (ev_var rfl) (ev_var rfl) (rv_I ⟨m0, m1⟩)) ea_nil H5 (Ex.refl H5) _ fun H6 e6 => ?_⟩
        have I := I.up e6
        refine ⟨l, _, _, rfl, rfl, I.hl, Nat.lt_of_le_of_lt (by rw [List.length_map, List.length_dropLast]; omega : _ ≤ 63) (by decide), ?_⟩
        have I := I.lay (ms := ns.dropLast ++ [ns.getD (ns.length - 1) 0 / m]) (by rw [List.length_append, List.length_dropLast, List.length_singleton]; omega)
        rw [List.map_append] at I
        exact s_ret (ev_op (ev_cb (ea_cons (ev_var rfl) ea_nil) rc_int1) (ev_var rfl) (rv_I m0)) fun H7 e7 => k _ _ (Int.emod_nonneg _ (by omega)) (Int.emod_lt_of_pos _ m0) (I.up e7).in_
      · have I := I.up e2
        obtain ⟨x, hx⟩ := I.ok.m
        refine q_dputG I (ev_op (ev_cb (ea_cons (ev_op (ev_op (ev_dgetG (k := kBlend) (ev_var rfl) ev_c I.hd hx) ev_c (rv_I (Or.inr ⟨by decide, by decide⟩))) ev_c rv_I0) ea_nil) rc_int1) ev_c (rv_I (by decide))) (ev_var rfl) ev_c fun H3 I => ?_
        obtain ⟨x, hx⟩ := I.ok.m
        exact s_ret (ev_op (ev_cb (ea_cons (ev_op (ev_dgetG (k := kBlend) (ev_var rfl) ev_c I.hd hx) ev_c (rv_I ⟨by decide, by decide⟩)) ea_nil) rc_int1) (ev_var rfl) (rv_I m0)) fun H5 e5 => k _ _ (Int.emod_nonneg _ (by omega)) (Int.emod_lt_of_pos _ m0) (I.up e5).in_
theorem x_takeG {σ : L2.St} {d l : Addr} {Kn H : Hp} {E : XK} {ta : TA} {m : Int} {Q : VK} (I : Ig d l Kn H) (m0 : 0 < m) (m1 : m < 1073741824) (h : EvA ta σ Kn [.ref d, .int m]) (k : ∀ v H', 0 ≤ v → v < m → Ig d l Kn H' → Q (.int v) H') : tCall spTakeG [] E ta σ H Q :=
  h H I.ex _ fun H2 e2 => ⟨d, l, m, Kn, rfl, m0, m1, I.to e2, k⟩
theorem ok_pickG {f : Addr} {fd : FuncData} (D : C8.Def K mg "_law_pick" st_law_pick f fd) (b : Binds K fd ["_law_box", "_law_some"] []) (T : Tb K mg CR aB aH) (c_law_take : C8.Cal P w K mg base 1 "_law_take" spTakeG []) : C8.Cal P w K mg base 2 "_law_pick" (spPickG K) [] := by
  refine C8.cal0 D b .nil sc_law_pick (fun vs H Q E h => ?_) (fun cdv A outer s H vs Q E hr h => ?_)
  · obtain ⟨_, _, _, _, _, rfl, _⟩ := h
    rfl
  · obtain ⟨d, l, p, xs, Kn, rfl, hp, h0, h1, I, k⟩ := h
    refine ⟨_, pss_one (ps_ret (pe_ix ix_list (pv 1) (C8.pe_c c_law_take hr (by decide) (by rfl) (pa_cons (pv 0) (pa_cons (pe_callB call_len_seq (by rfl) T.bi_len boot_len (pa_cons (pv 1) (pa_nil))) (pa_nil)))) (fun _ _ => rfl))), ?_⟩
    refine x_ret (x_op (I.ev (ev_var rfl) fun H1 I1 => ?_))
    refine x_takeG (m := (xs.length : Int)) I1 (by omega) (by omega) (ea_cons (ev_var rfl) (ea_cons (ev_cb (ea_cons (ev_var rfl) ea_nil) (rc_lenL hp)) ea_nil)) fun v H2 v0 v1 I2 => ?_
    obtain ⟨n, rfl⟩ : ∃ n : Nat, v = (n : Int) := ⟨v.toNat, by omega⟩
    have hv : n < xs.length := by omega
    exact ⟨p, xs, (n : Int), xs[n], rfl, rfl, ex_l I2.ex hp, atI_nat (List.getElem?_eq_getElem hv), k _ _ (List.getElem_mem hv) I2⟩
theorem ok_feed {f : Addr} {fd : FuncData} (D : C8.Def K mg "_law_feed" st_law_feed f fd) (b : Binds K fd ["_law_script", "_law_first"] []) (T : Tb K mg CR aB aH) : C8.Cal P w K mg base 1 "_law_feed" (spFeed K) [] := by
  refine C8.cal0 D b .nil sc_law_feed (fun vs H Q E h => ?_) (fun cdv A outer s H vs Q E hr h => ?_)
  · obtain ⟨_, _, _, rfl, _⟩ := h
    rfl
  · obtain ⟨a, b, ns, rfl, hs, hn, b0, b1, k⟩ := h
    refine ⟨_, pss_cons (ps_setLc (i := 2) (own := [("_law_cell", 3)]) (g := gName 3) (tt := tYes) (by rfl) sc_law_feed.nd rfl rfl (sw_true rfl rfl rfl (by decide +kernel)) (pi_list (pe_slice sl_list (pv 0) (po_some (pv 1)) (po_some (pe_op op_add (pv 1) (pe_int))))) (blkOk_by (own := [("_law_cell", 3)]) (N := ["_law_script", "_law_first", "_law_cells", "_law_cell", "_law_blend"]) (sc := C8.fnScope st_law_feed) (by decide +kernel)) (fun _ _ _ _ _ => pg_name (i := 3) sc_law_feed.nd rfl (Or.inl rfl)) (fun _ _ _ _ _ => pts_nil) (fun _ _ _ _ _ => pe_callB call_abs (by rfl) T.bi_abs boot_abs (pa_cons (pe_callTy call_int1 (by rfl) T.bi_int boot_int (pa_cons (pv 3) (pa_nil))) (pa_nil))))
      (pss_cons (ps_set (i := 4) sc_law_feed.nd rfl (Or.inl rfl) (pe_op op_add (pe_int) (pe_op op_mul (pe_int) (pv 1))))
      (pss_cons (ps_for PassesOwn.never rfl (pi_list (pv 2)) (pg_name (i := 3) sc_law_feed.nd rfl (Or.inl rfl)) (pss_one (ps_set (i := 4) sc_law_feed.nd rfl (Or.inl rfl) (pe_op op_mod (pe_callTy call_int1 (by rfl) T.bi_int boot_int (pa_cons (pe_op op_add (pe_op op_add (pe_callTy call_int1 (by rfl) T.bi_int boot_int (pa_cons (pe_op op_mul (pv 4) (pe_int)) (pa_nil))) (pe_op op_mod (pe_callTy call_int1 (by rfl) T.bi_int boot_int (pa_cons (pv 3) (pa_nil))) (pe_int))) (pe_int)) (pa_nil))) (pe_int)))))
      (pss_one (ps_ret (pe_disp (pps_cons (pe_str) (pe_revL (pe_lc (own := [("_law_cell", 3)]) (g := gName 3) (by rfl) sc_law_feed.nd (pi_list (pv 2)) (blkOk_by (own := [("_law_cell", 3)]) (N := ["_law_script", "_law_first", "_law_cells", "_law_cell", "_law_blend"]) (sc := C8.fnScope st_law_feed) (by decide +kernel)) (fun _ _ _ _ _ => pg_name (i := 3) sc_law_feed.nd rfl (Or.inl rfl)) (fun _ _ _ _ _ => pts_one (pt_cmpR (op_ge) (pv 3) (pe_op op_pow (pe_int) (pe_int)) (nomark _))) (fun _ _ _ _ _ => pv 3))) (pps_cons (pe_str) (pv 4) (pps_nil))) (by rfl) (by rfl) (fun z => by cases z) (by decide)))))), ?_⟩
    obtain ⟨ms, hm, hml⟩ := cut_int ns (some b) (some (b + 60))
    refine q_asgL (el_lcNL (fun _ => true) (fun i => .int (if ms.getD i 0 < 0 then -(ms.getD i 0) else ms.getD i 0)) (el_sl (ev_var rfl) (eo_some (ev_var rfl)) (eo_some (ev_op (ev_var rfl) ev_c rv_I0)) hs) (Nat.le_trans (cutV_length _ _ _) (by rw [List.length_map]; omega)) (fun _ => rfl)
      (fun i x H1 _ _ => et_yes) (fun i x H1 _ hx _ => ?_)) ?_
    · rw [hm] at hx
      obtain ⟨rfl, _⟩ := at_int hx
      exact ev_cb (ea_cons (ev_cb (ea_cons (ev_var rfl) ea_nil) rc_int1) ea_nil) rc_abs
    rw [given_int]
    generalize hcs : (((List.range (cutV (ns.map V.int) (some b) (some (b + 60))).length).filter fun _ => true).map fun i => if ms.getD i 0 < 0 then -(ms.getD i 0) else ms.getD i 0) = cs
    have hcl : cs.length ≤ 63 := by
      rw [← hcs]
      refine Nat.le_trans (given_int_len _ _ _) (Nat.le_trans (cutV_length _ _ _) ?_)
      rw [List.length_map]
      exact hn
    intro pc H1 _ e1 hc
    refine q_asg (ev_op ev_c (ev_op ev_c (ev_var rfl) (rv_I (Or.inl ⟨by decide, by decide⟩))) rv_I0) fun H2 e2 => ?_
    have hc2 := e2 _ _ hc
    refine q_forLn (K := K) (xs := cs.map V.int) (ev_var rfl) (sq_of hc2) (fun i σ' H' => ∃ (x : Int) (c : Option V), σ' = [some (.ref a), some (.int b), some (.ref pc), c, some (.int x)] ∧ Ex H2 H') (fun H3 e3 => ⟨_, _, rfl, e3⟩)
      (fun i σ' H' _ ⟨_, _, _, e⟩ => sq_of (e _ _ hc2)) ?_ ?_
    · rintro i x σ' H' hx ⟨z, c, rfl, e⟩
      obtain ⟨rfl, _⟩ := at_int hx
      exact s_asg (ev_op (ev_cb (ea_cons (ev_op (ev_op (ev_cb (ea_cons (ev_op (ev_var rfl) ev_c (rv_I (Or.inr ⟨by decide, by decide⟩))) ea_nil) rc_int1) (ev_op (ev_cb (ea_cons (ev_var rfl) ea_nil) rc_int1) ev_c (rv_I (by decide))) rv_I0) ev_c rv_I0) ea_nil) rc_int1) ev_c (rv_I (by decide))) fun H4 e4 => ⟨_, _, rfl, e.trans e4⟩
    · rintro σ' H3 ⟨z, c, rfl, e3⟩
      intro d nd
      have hc3 := e3 _ _ hc2
      have hcd := (Ex.new (o := .dK []) nd) _ _ hc3
      refine x_pairC (x_revL (el_go (el_lcL (K := K) (fun i => decide ((10 : Int) ^ (18 : Int).toNat ≤ cs.getD i 0)) (fun i => .int (cs.getD i 0)) (ev_var rfl) (sq_of hcd) (by rw [List.length_map]; omega) (fun _ => rfl) (fun i x H4 _ hx => ?_) (fun i x H4 _ hx _ => ?_)) ?_))
      · obtain ⟨rfl, _⟩ := at_int hx
        exact et_test (ev_op (ev_var rfl) (ev_op ev_c ev_c (rv_I ⟨by decide, by decide, by decide⟩)) rv_I0)
      · obtain ⟨rfl, _⟩ := at_int hx
        exact ev_var rfl
      rw [given_int]
      have hgl : (((List.range (cs.map V.int).length).filter fun i => decide ((10 : Int) ^ (18 : Int).toNat ≤ cs.getD i 0)).map fun i => cs.getD i 0).length ≤ 63 := Nat.le_trans (given_int_len _ _ _) (by rw [List.length_map]; exact hcl)
      generalize (((List.range (cs.map V.int).length).filter fun i => decide ((10 : Int) ^ (18 : Int).toNat ≤ cs.getD i 0)).map fun i => cs.getD i 0) = gs at *
      intro pg H4 np4 e4 hg
      refine ⟨pg, gs.map V.int, rfl, sq_of hg, fun l nl => ?_⟩
      have hd4 : H4 d = some (.dK []) := e4 _ _ upd_same
      have ndl : d ≠ l := fun q => by
        subst q
        rw [hd4] at nl
        cases nl
      refine x_pairC ((ev_var rfl) _ (Ex.refl _) _ fun H5 e5 => x_pair0 ?_)
      have hd5 : H5 d = some (.dK []) := e5 _ _ (by rw [upd_ne ndl]; exact hd4)
      have hl5 : H5 l = some (.lst (gs.map V.int).reverse) := e5 _ _ upd_same
      refine ⟨hd5, [(kGreat, .ref l), (kBlend, .int z)], rfl, (by show 2 ≤ 15; decide), ?_⟩
      have e03 : Ex H H3 := e1.trans (e2.trans e3)
      have hm : mergeK [] [(kGreat, V.ref l), (kBlend, .int z)] = putK (putK [] kGreat (.ref l)) kBlend (.int z) := rfl
      rw [hm]
      have nl3 : H3 l = none := by
        have := fresh_back e4 nl
        rw [upd_ne ndl.symm] at this
        exact this
      refine k d l _ (fresh_back e03 nd) (fresh_back e03 nl3) (fun x o ho => ?_) ⟨_, gs.reverse, upd_same, ⟨?_, ?_, z, ?_⟩, ?_, ?_⟩
      · have h3 := e03 _ _ ho
        have xd := ne_of_none h3 nd
        have xl := ne_of_none h3 nl3
        rw [upd_ne xd]
        refine e5 _ _ ?_
        rw [upd_ne xl]
        refine e4 _ _ ?_
        rw [upd_ne xd]
        exact h3
      · exact Nat.le_trans (length_putK _ _ _) (Nat.succ_le_succ (length_putK _ _ _))
      · rw [valV_put, if_neg (by decide +kernel), valV_put, if_pos rfl]
      · rw [valV_put, if_pos rfl]
      · rw [upd_ne ndl.symm, hl5, List.map_reverse]
      · rw [List.length_reverse]
        exact hgl
end

/-! ### how many are left, the greatest top -/
def leftOf (n top under : Int) (up : Bool) : Int := n - (if up = true then (n * top + under - 1) / under else n * top / under)
def dueOf (P : Nat → Bool) : Nat → Option Nat
  | 0 => none
  | k + 1 => if P k = true then some k else dueOf P k
theorem dueOf_lt {P : Nat → Bool} : ∀ {n k : Nat}, dueOf P n = some k → k < n ∧ P k = true
  | 0, _, h => by cases h
  | n + 1, k, h => by
    unfold dueOf at h
    by_cases e : P n = true
    · rw [if_pos e] at h
      obtain rfl := Option.some.inj h
      exact ⟨Nat.lt_succ_self _, e⟩
    · rw [if_neg e] at h
      have := dueOf_lt h
      exact ⟨by omega, this.2⟩
def optV : Option Nat → V
  | none => .non
  | some k => .int (k : Int)
def optD : Option Nat → PyData
  | none => .none
  | some k => .int (k : Int)
theorem dp_opt {K : PySem.W.Frag} {H : Hp} : ∀ o : Option Nat, Dp K H (optV o) (optD o)
  | none => .non
  | some _ => .int _
def topOk (under : Int) (up : Bool) (spare start : Int) (k : Nat) : Bool := decide (spare ≤ leftOf start (k : Int) under up)
theorem left_mono {n m top under : Int} {up : Bool} (t0 : 0 ≤ top) (t1 : top ≤ under) (u1 : 1 ≤ under) (h : n ≤ m) : leftOf n top under up ≤ leftOf m top under up := by
  have p := Int.mul_le_mul_of_nonneg_left t1 (show 0 ≤ m - n by omega)
  have e1 : (m - n) * top = m * top - n * top := Int.sub_mul ..
  unfold leftOf
  split
  · have h1 := Int.mul_ediv_add_emod (n * top + under - 1) under
    have h2 := Int.emod_nonneg (n * top + under - 1) (show under ≠ 0 by omega)
    have h3 := Int.emod_lt_of_pos (n * top + under - 1) (show 0 < under by omega)
    have : (m * top + under - 1) / under ≤ (n * top + under - 1) / under + (m - n) := by
      refine Int.le_of_lt_add_one (Int.ediv_lt_of_lt_mul (by omega) ?_)
      rw [Int.mul_comm under] at h1
      rw [Int.add_mul, Int.add_mul, Int.one_mul]
      omega
    omega
  · have h1 := Int.mul_ediv_add_emod (n * top) under
    have h2 := Int.emod_nonneg (n * top) (show under ≠ 0 by omega)
    have h3 := Int.emod_lt_of_pos (n * top) (show 0 < under by omega)
    have : m * top / under ≤ n * top / under + (m - n) := by
      refine Int.le_of_lt_add_one (Int.ediv_lt_of_lt_mul (by omega) ?_)
      rw [Int.mul_comm under] at h1
      rw [Int.add_mul, Int.add_mul, Int.one_mul]
      omega
    omega
theorem left_limit (r : RuleD) (n : Int) : limitOf r n = n - leftOf n r.top r.under r.up := by
  unfold limitOf leftOf
  split <;> omega
theorem left_count {n top under : Int} (up : Bool) (u1 : 1 ≤ under) : n - n * top / under - (if (up && decide (n * top % under > 0)) = true then 1 else 0) = leftOf n top under up := by
  have e := Int.mul_ediv_add_emod (n * top) under
  have e1 := Int.emod_nonneg (n * top) (show under ≠ 0 by omega)
  have e2 := Int.emod_lt_of_pos (n * top) (show 0 < under by omega)
  have h := up_eq (N := n * top) (show 0 < under by omega) e.symm e1 e2
  unfold leftOf
  cases up with
  | true =>
    rw [if_pos rfl, h.1]
    simp
    omega
  | false => simp
section
variable {P : Program} {w : World} {K : PySem.W.Frag} {mg : Str → Option Value} {base : Heap} {CR aB aH : Addr}
def rSafe : Hp → List V → V → Prop := fun _ vs v => ∃ (under spare start : Int) (up : Bool), vs = [.int under, .bl up, .int spare, .int start] ∧ (1 ≤ under ∧ under ≤ 100 ∧ 0 ≤ start ∧ start ≤ 1000) ∧ v = optV (dueOf (topOk under up spare start) (under.toNat + 1))
theorem mono_safe : Mono rSafe := fun _ _ _ _ _ h => h
theorem q_forC {σ : L2.St} {H : Hp} {D : Ends} {tu tz : TS} {ta : TA} {j : Nat} {lo hi : Int} (h : EvA ta σ H [.int lo, .int hi, .int (-1)]) (h1 : -1000 ≤ lo ∧ lo ≤ 1000 ∧ -1000 ≤ hi ∧ hi ≤ 1000) (Pv : Nat → L2.St → Hp → Prop) (h0 : ∀ H1, Ex H H1 → Pv 0 σ H1)
    (hs : ∀ (i : Nat) σ' H', i < (lo - hi).toNat → Pv i σ' H' → tu { D with nx := Pv (i + 1), ct := Pv (i + 1), bk := tz D } (σ'.set j (some (.int (lo + (i : Int) * -1)))) H') (hd : ∀ σ' H', Pv (lo - hi).toNat σ' H' → tz D σ' H') : tSeq (tFor (iRng3 ta) (gName j) tu) tz D σ H :=
  h H (Ex.refl H) _ fun H1 e1 => ⟨lo, hi, -1, _, rfl, RgC.neg (by omega) (by omega) (by omega) (by omega), for_rangeC (lo := lo) (c := -1) (n := (lo - hi).toNat) Pv (h0 H1 e1) hs hd⟩
theorem ok_safe {f : Addr} {fd : FuncData} (D : C8.Def K mg "safe_top" st_safe_top f fd) (b : Binds K fd ["under", "up", "spare", "start"] []) (T : Tb K mg CR aB aH) (c_part_of : C8.Cal P w K mg base 1 "part_of" (spP rPart) []) : C8.Cal P w K mg base 2 "safe_top" (spP rSafe) [] := by
  refine C8.cal0 D b .nil sc_safe_top (fun vs H Q E h => ?_) (fun cdv A outer s H vs Q E hr h => ?_)
  · obtain ⟨_, ⟨_, _, _, _, rfl, _⟩, _⟩ := h
    rfl
  · obtain ⟨_, ⟨under, spare, start, up, rfl, ⟨u0, u1, s0, s1⟩, rfl⟩, k⟩ := h
    refine ⟨_, pss_cons (ps_for PassesOwn.never rfl (pi_range3 (by rfl) T.bi_range (pa_cons (pv 0) (pa_cons (pe_un un_neg (pe_int)) (pa_cons (pe_un un_neg (pe_int)) (pa_nil))))) (pg_name (i := 4) sc_safe_top.nd rfl (Or.inl rfl)) (pss_one (ps_if (pt_cmpR (op_ge) (pe_op op_sub (pv 3) (C8.pe_c c_part_of hr (by decide) (by rfl) (pa_cons (pv 3) (pa_cons (pv 4) (pa_cons (pv 0) (pa_cons (pv 1) (pa_nil))))))) (pv 2) (nomark _)) (pss_one (ps_ret (pv 4))) (pss_nil))))
      (pss_one (ps_ret (pe_non))), ?_⟩
    have hU : ((under.toNat : Nat) : Int) = under := by omega
    refine q_forC (lo := under) (hi := -1) (ea_cons (ev_var rfl) (ea_cons (ev_un ev_c ru_neg) (ea_cons (ev_un ev_c ru_neg) ea_nil))) (by omega)
      (fun i σ' H' => ∃ x : Option V, σ' = [some (.int under), some (.bl up), some (.int spare), some (.int start), x] ∧ Ex H H' ∧ dueOf (topOk under up spare start) (under.toNat + 1) = dueOf (topOk under up spare start) (under.toNat + 1 - i)) (fun H1 e => ⟨_, rfl, e, rfl⟩) ?_ ?_
    · rintro i σ' H1 hi ⟨x, rfl, e1, hd⟩
      have hi' : i ≤ under.toNat := by omega
      obtain ⟨t, ht⟩ : ∃ t : Nat, under.toNat - i = t := ⟨_, rfl⟩
      have et : under + (i : Int) * -1 = (t : Int) := by omega
      rw [show under.toNat + 1 - i = t + 1 by omega] at hd
      show tIfS _ _ _ _ [some (.int under), some (.bl up), some (.int spare), some (.int start), some (.int (under + (i : Int) * -1))] H1
      rw [et]
      refine s_when (et_is (et_test (ev_op (ev_op (ev_var rfl) (ev_call (ea_cons (ev_var rfl) (ea_cons (ev_var rfl) (ea_cons (ev_var rfl) (ea_cons (ev_var rfl) ea_nil)))) (spv mono_part ⟨start, (t : Int), under, up, rfl, ⟨Or.inr ⟨by omega, by omega⟩, fun j => ⟨by omega, by omega⟩⟩, rfl⟩)) rv_I0) (ev_var rfl) rv_I0)) (show _ = topOk under up spare start t from rfl)) (fun hb H2 e2 => ?_) (fun hb H2 e2 => ?_)
      · refine s_ret (ev_var rfl) fun H3 e3 => ?_
        have : dueOf (topOk under up spare start) (t + 1) = some t := by
          unfold dueOf
          rw [if_pos hb]
        rw [hd, this] at k
        exact k _ (e1.trans (e2.trans e3))
      · refine ⟨_, rfl, e1.trans e2, ?_⟩
        rw [hd, show under.toNat + 1 - (i + 1) = t by omega]
        show (if topOk under up spare start t = true then some t else dueOf (topOk under up spare start) t) = _
        rw [hb, if_neg Bool.false_ne_true]
    · rintro σ' H1 ⟨x, rfl, e1, hd⟩
      rw [show under.toNat + 1 - (under - -1).toNat = 0 by omega] at hd
      rw [hd] at k
      exact s_ret ev_c fun H2 e2 => k _ (e1.trans e2)
def rLeft : Hp → List V → V → Prop := fun _ vs v => ∃ (n top under : Int) (up : Bool), vs = [.int n, .int top, .int under, .bl up] ∧ (0 ≤ top ∧ top ≤ 1000 ∧ 1 ≤ under ∧ under ≤ 1000) ∧ v = .int (leftOf n top under up)
theorem mono_left : Mono rLeft := fun _ _ _ _ _ h => h
theorem ok_left {f : Addr} {fd : FuncData} (D : C8.Def K mg "_law_left" st_law_left f fd) (b : Binds K fd ["_law_number", "_law_top", "_law_under", "_law_up"] []) : C8.Cal P w K mg base 1 "_law_left" (spP rLeft) [] := by
  refine C8.cal0 D b .nil sc_law_left (fun vs H Q E h => ?_) (fun cdv A outer s H vs Q E hr h => ?_)
  · obtain ⟨_, ⟨_, _, _, _, rfl, _⟩, _⟩ := h
    rfl
  · obtain ⟨_, ⟨n, top, under, up, rfl, ⟨t0, t1, u0, u1⟩, rfl⟩, k⟩ := h
    refine ⟨_, pss_cons (ps_par (by rfl) sc_law_left.nd (i := 4) (j := 5) rfl rfl (by decide) rfl rfl (pa_cons (pe_op op_fdiv (pe_op op_mul (pv 0) (pv 1)) (pv 2)) (pa_cons (pe_op op_mod (pe_op op_mul (pv 0) (pv 1)) (pv 2)) pa_nil)) (by rfl))
      (pss_one (ps_ret (pe_op op_sub (pe_op op_sub (pv 0) (pv 4)) (pe_ifExp (PW.pt (pw_and (pt_val (pv 3)) (pw_and1 (pt_cmpR (op_gt) (pv 5) (pe_int) (nomark _))))) (pe_int) (pe_int))))), ?_⟩
    have cm : CMul n top := Or.inr ⟨by omega, by omega⟩
    refine x_par (m_ev (mdE H) (Ex.refl H) (ev_op (ev_op (ev_var rfl) (ev_var rfl) (rv_I cm)) (ev_var rfl) (rv_I ⟨by omega, by omega⟩)) fun H1 e1 => m_ev (mdE H) e1 (ev_op (ev_op (ev_var rfl) (ev_var rfl) (rv_I cm)) (ev_var rfl) (rv_I (by omega))) fun H2 e2 => ?_)
    refine g_ret (mdE H) e2 (ev_is (ev_op (ev_op (ev_var rfl) (ev_var rfl) rv_I0) (ev_is (w := .int (if (up && decide (0 < n * top % under)) = true then 1 else 0)) (ev_ifE (et_and2 (et_B (ev_var rfl)) (et_test (ev_op (ev_var rfl) ev_c rv_I0))) ev_c ev_c) (by split <;> rfl)) rv_I0) (congrArg V.int (left_count up u0))) k
end

/-! ### repr of a number or None at the top -/
def noneS : Str := "None"
def rReprV : List V → Hp → VK → Prop := fun xs H Q => (∃ i : Int, xs = [.int i] ∧ i.natAbs.log2 < 1920 ∧ Q (.str (toString i)) H) ∨ (xs = [.non] ∧ Q (.str noneS) H)
theorem cr_reprV {X : Cx} : CallR X (.builtin "repr") rReprV := by
  intro pins s σ H xs us Q I rx h
  rcases h with ⟨i, rfl, hl, q⟩ | ⟨rfl, q⟩
  · exact SkE.call_repr_int pins s σ H _ us Q I rx ⟨i, rfl, hl, q⟩
  · obtain ⟨u, rfl, ru⟩ := Vals.one rx
    obtain rfl : u = Value.none := ru
    exact PySem.P.repr_of_none ⟨.str noneS, H, I.kept (fun _ _ e => e), ⟨_, rfl⟩, q⟩
section
variable {H : Hp}
theorem rc_reprI {i : Int} (h : i.natAbs.log2 < 1920) : RC rReprV [.int i] H (.str (toString i)) := fun H1 _ _ q => .inl ⟨i, rfl, h, q H1 (Ex.refl H1)⟩
theorem rc_reprN : RC rReprV [.non] H (.str noneS) := fun H1 _ _ q => .inr ⟨rfl, q H1 (Ex.refl H1)⟩
def optS : Option Nat → Str
  | none => noneS
  | some k => toString (k : Int)
theorem rc_reprO {o : Option Nat} (h : ∀ k, o = some k → k < 1000) : RC rReprV [optV o] H (.str (optS o)) := by
  cases o with
  | none => exact rc_reprN
  | some k =>
    refine rc_reprI ?_
    have := h k rfl
    exact decide_eq_true_eq.mp (by
      have : (k : Int).natAbs = k := by simp
      rw [this]
      exact decide_eq_true (Nat.lt_of_le_of_lt (Nat.log2_le_self k) (by omega)))
end

section
variable {P : Program} {w : World} {K : PySem.W.Frag} {mg : Str → Option Value} {base : Heap} {CR aB aH : Addr}
theorem due_list {sp st t u : Int} {up : Bool} {n : Nat} (n0 : 0 < n) (t0 : 0 ≤ t) (t1 : t ≤ u) (u1 : 1 ≤ u) :
    decide ((((List.range n).filter fun (j : Nat) => decide (leftOf (st + (j : Int)) t u up < sp)).map fun (j : Nat) => st + (j : Int)) = []) = decide (sp ≤ leftOf st t u up) := by
  by_cases h : sp ≤ leftOf st t u up
  · rw [decide_eq_true h]
    refine decide_eq_true ?_
    rw [List.filter_eq_nil_iff.mpr]
    · rfl
    · intro j _
      have := left_mono (up := up) t0 t1 u1 (show st ≤ st + (j : Int) by omega)
      simp
      omega
  · rw [decide_eq_false h]
    refine decide_eq_false fun e => ?_
    have e := List.map_eq_nil_iff.mp e
    have := List.filter_eq_nil_iff.mp e 0 (List.mem_range.mpr n0)
    rw [show st + ((0 : Nat) : Int) = st by omega] at this
    exact h (by simpa using this)
def topI (o : Option Nat) (u : Int) : Int := match o with
  | none => u
  | some k => (k : Int)
theorem x_forU {te : TE} {g : TG} {tb : TS} {D : Ends} {σ : L2.St} {H : Hp} (h : te σ H fun x H1 => ∃ a, x = V.ref a ∧ (∃ xs, SqT K H1 a xs) ∧ ∃ W : Nat → Nat → L2.St → Hp → Prop, (∃ m, W 0 m σ H1) ∧ ∀ (i m : Nat) (σ : L2.St) (H : Hp), W i m σ H →
    (Itt K a).stop i H ∧ D.nx σ H ∨ (Itt K a).go i H ∧ ∃ N : L2.St → Hp → Prop, (∀ (σ' : L2.St) (H' : Hp), N σ' H' → ∃ m', m' < m ∧ W (i + 1) m' σ' H') ∧ ∀ (x : V) (H' : Hp), (Itt K a).yld i H x H' → g x σ H' fun σ2 H2 => tb { nx := N, rt := D.rt, bk := D.nx, ct := N } σ2 H2) : tFor (iTup K te) g tb D σ H := h
theorem pick2 {m n : Int} {v : V} (h : v ∈ [V.int m, .int n]) : v = .int m ∨ v = .int n := by simpa using h
theorem s_forR1' {ta : TA} {tu : TS} {D : Ends} {σ : L2.St} {H : Hp} {j : Nat} {n : Int} (h : EvA ta σ H [.int n]) (hn : 0 ≤ n ∧ n ≤ 100000) (Pv : Nat → L2.St → Hp → Prop) (h0 : ∀ H1, Ex H H1 → Pv 0 σ H1)
    (hs : ∀ (i : Nat) σ' H', (i : Int) < n → Pv i σ' H' → tu { D with nx := Pv (i + 1), ct := Pv (i + 1), bk := D.nx } (σ'.set j (some (.int (i : Int)))) H') (hd : ∀ σ' H', Pv n.toNat σ' H' → D.nx σ' H') : tFor (iRng1 ta) (gName j) tu D σ H := s_forR1 h hn Pv h0 hs hd
theorem body_law {f a : Addr} {cdv : Value} {ns : List Int} (T : Tb K mg CR aB aH) (hn : ns.length ≤ 63) (c_law_feed : C8.Cal P w K mg base 1 "_law_feed" (spFeed K) []) (c_law_take : C8.Cal P w K mg base 1 "_law_take" spTakeG []) (c_law_pick : C8.Cal P w K mg base 2 "_law_pick" (spPickG K) [])
    (c_law_left : C8.Cal P w K mg base 1 "_law_left" (spP rLeft) []) (c_safe_top : C8.Cal P w K mg base 2 "safe_top" (spP rSafe) []) (mk_Rule : C8.Mak P w K mg base 4 "Rule" CR (spInit CR) []) (m_limit : C8.Met P w K mg base 2 CR "limit" (spP (rLimit CR)) []) :
    BodyAt P w K mg base 6 f a "law" (C8.fnBody st_law) (C8.fnScope st_law) cdv ["_law_script", "_law_base", "_law_box", "_law_turn", "_law_under", "_law_up", "_law_start", "_law_spare", "_law_due", "_law_top", "_law_n", "_law_rule"] ns := by
  intro s H0 hr hs
  refine ⟨_, pss_cons (ps_for PassesOwn.never rfl (pi_range1 (by rfl) T.bi_range (pa_cons (pe_callB (call_max2 rfl) (by rfl) T.bi_max boot_max (pa_cons (pe_int) (pa_cons (pe_callB (call_min2 rfl) (by rfl) T.bi_min boot_min (pa_cons (pe_int) (pa_cons (pe_callB call_len_seq (by rfl) T.bi_len boot_len (pa_cons (pv 0) (pa_nil))) (pa_nil)))) (pa_nil)))) (pa_nil))) (pg_name (i := 1) sc_law.nd rfl (Or.inl rfl)) (pss_cons (ps_set (i := 2) sc_law.nd rfl (Or.inl rfl) (C8.pe_c c_law_feed hr (by decide) (by rfl) (pa_cons (pv 0) (pa_cons (pv 1) (pa_nil)))))
        (pss_one (ps_for PassesOwn.never rfl (pi_range1 (by rfl) T.bi_range (pa_cons (pe_int) (pa_nil))) (pg_name (i := 3) sc_law.nd rfl (Or.inl rfl)) (pss_cons (ps_asg (pe_tup (pa_cons (pe_op op_add (pe_int) (C8.pe_c c_law_take hr (by decide) (by rfl) (pa_cons (pv 2) (pa_cons (pe_int) (pa_nil))))) (pa_cons (pe_cmpR (op_eq) (C8.pe_c c_law_take hr (by decide) (by rfl) (pa_cons (pv 2) (pa_cons (pe_int) (pa_nil)))) (pe_int) (nomark _)) (pa_nil)))) (pg_tup (by rfl) (pgs_cons (pg_name (i := 4) sc_law.nd rfl (Or.inr rfl)) (pgs_cons (pg_name (i := 5) sc_law.nd rfl (Or.inr rfl)) (pgs_nil)))))
          (pss_cons (ps_set (i := 6) sc_law.nd rfl (Or.inl rfl) (pe_op op_add (pe_int) (C8.pe_c c_law_take hr (by decide) (by rfl) (pa_cons (pv 2) (pa_cons (C8.pe_c c_law_pick hr (by decide) (by rfl) (pa_cons (pv 2) (pa_cons (pe_lst (pa_cons (pe_int) (pa_cons (pe_int) (pa_nil)))) (pa_nil)))) (pa_nil))))))
          (pss_cons (ps_set (i := 7) sc_law.nd rfl (Or.inr rfl) (C8.pe_c c_law_take hr (by decide) (by rfl) (pa_cons (pv 2) (pa_cons (C8.pe_c c_law_pick hr (by decide) (by rfl) (pa_cons (pv 2) (pa_cons (pe_lst (pa_cons (pe_int) (pa_cons (pe_callB (call_min2 rfl) (by rfl) T.bi_min boot_min (pa_cons (pe_int) (pa_cons (pe_callTy call_int1 (by rfl) T.bi_int boot_int (pa_cons (pe_op op_add (pv 6) (pe_int)) (pa_nil))) (pa_nil)))) (pa_cons (pe_int) (pa_nil))))) (pa_nil)))) (pa_nil)))))
          (pss_cons (ps_set (i := 8) sc_law.nd rfl (Or.inl rfl) (pe_non))
          (pss_cons (ps_for PassesOwn.never rfl (pi_range1 (by rfl) T.bi_range (pa_cons (pe_op op_add (pv 4) (pe_int)) (pa_nil))) (pg_name (i := 9) sc_law.nd rfl (Or.inr rfl)) (pss_one (ps_if (pt_cmpR (op_eqD hr.units) (pe_lc (own := [("_law_n", 10)]) (g := gName 10) (by rfl) sc_law.nd (pi_range2 (by rfl) T.bi_range (pa_cons (pv 6) (pa_cons (pe_op op_add (pv 6) (pe_int)) (pa_nil)))) (blkOk_by (own := [("_law_n", 10)]) (N := ["_law_script", "_law_base", "_law_box", "_law_turn", "_law_under", "_law_up", "_law_start", "_law_spare", "_law_due", "_law_top", "_law_n", "_law_rule"]) (sc := C8.fnScope st_law) (by decide +kernel)) (fun _ _ _ _ _ => pg_name (i := 10) sc_law.nd rfl (Or.inl rfl)) (fun _ _ _ _ _ => pts_one (pt_cmpR (op_lt) (C8.pe_c c_law_left hr (by decide) (by rfl) (pa_cons (pv 10) (pa_cons (pv 9) (pa_cons (pv 4) (pa_cons (pv 5) (pa_nil)))))) (pv 7) (nomark _))) (fun _ _ _ _ _ => pv 10)) (pe_lst (pa_nil)) (nomark _)) (pss_one (ps_set (i := 8) sc_law.nd rfl (Or.inl rfl) (pv 9))) (pss_nil))))
          (pss_cons (ps_if (pt_cmpR (op_ne) (pe_callB cr_reprV (by rfl) T.bi_repr boot_repr (pa_cons (C8.pe_c c_safe_top hr (by decide) (by rfl) (pa_cons (pv 4) (pa_cons (pv 5) (pa_cons (pv 7) (pa_cons (pv 6) (pa_nil)))))) (pa_nil))) (pe_callB cr_reprV (by rfl) T.bi_repr boot_repr (pa_cons (pv 8) (pa_nil))) (nomark _)) (pss_one (ps_ret (pe_bl))) (pss_nil))
          (pss_cons (ps_set (i := 11) sc_law.nd rfl (Or.inl rfl) (C8.pe_mk mk_Rule hr (by decide) (by rfl) (pa_cons (pe_int) (pa_cons (pe_int) (pa_cons (pe_int) (pa_cons (pe_int) (pa_cons (pe_int) (pa_cons (pe_int) (pa_cons (pe_str) (pa_cons (pe_ifExp (pt_cmpR (op_isN) (pv 8) (pe_non) (nomark _)) (pv 4) (pv 8)) (pa_cons (pv 4) (pa_cons (pv 5) (pa_cons (pe_str) (pa_nil))))))))))))))
          (pss_one (ps_for PassesOwn.never rfl (pi_tup (pe_tup (pa_cons (pv 6) (pa_cons (pe_op op_add (pv 6) (pe_int)) (pa_cons (pe_op op_add (pv 6) (pe_int)) (pa_nil)))))) (pg_name (i := 10) sc_law.nd rfl (Or.inl rfl)) (pss_cons (ps_if (pt_cmpR (op_ne) (C8.pe_mt m_limit hr (by decide) (pv 11) (pa_cons (pv 10) (pa_nil))) (pe_op op_sub (pv 10) (C8.pe_c c_law_left hr (by decide) (by rfl) (pa_cons (pv 10) (pa_cons (pe_fld (pv 11) rfl) (pa_cons (pv 4) (pa_cons (pv 5) (pa_nil))))))) (nomark _)) (pss_one (ps_ret (pe_bl))) (pss_nil))
            (pss_one (ps_if (PW.pt (pw_and (pt_cmpR (op_notN) (pv 8) (pe_non) (nomark _)) (pw_and1 (pt_cmpR (op_lt) (pe_op op_sub (pv 10) (C8.pe_mt m_limit hr (by decide) (pv 11) (pa_cons (pv 10) (pa_nil)))) (pv 7) (nomark _))))) (pss_one (ps_ret (pe_bl))) (pss_nil)))))))))))))))))
      (pss_one (ps_ret (pe_and (pe_cmpR (op_eq) (C8.pe_c c_safe_top hr (by decide) (by rfl) (pa_cons (pe_int) (pa_cons (pe_bl) (pa_cons (pe_int) (pa_cons (pe_int) (pa_nil)))))) (pe_int) (nomark _)) (pe_and (pe_cmpR (op_eq) (C8.pe_c c_safe_top hr (by decide) (by rfl) (pa_cons (pe_int) (pa_cons (pe_bl) (pa_cons (pe_int) (pa_cons (pe_int) (pa_nil)))))) (pe_int) (nomark _)) (pe_one (pe_cmpR (op_isN) (C8.pe_c c_safe_top hr (by decide) (by rfl) (pa_cons (pe_int) (pa_cons (pe_bl) (pa_cons (pe_int) (pa_cons (pe_int) (pa_nil)))))) (pe_non) (nomark _))))))), ?_⟩
  have tl : ∀ {H' : Hp} {σ : L2.St}, σ[0]? = some (some (.ref a)) → Ex H0 H' → Ev (tCB (fun xs H Q => ∃ p ys, xs = [V.ref p] ∧ (SqL K H p ys ∨ SqT K H p ys) ∧ Q (.int ys.length) H) (tCons (tVar 0) tNil)) σ H' (.int (ns.length : Int)) := by
    intro H' σ h0 e
    have h := ev_cb (ea_cons (ev_var (σ := σ) (i := 0) h0) ea_nil) (rc_lenL (K := K) (ex_l e hs))
    rw [List.length_map] at h
    exact h
  refine q_forR1 (n := if (if (ns.length : Int) < 3 then (ns.length : Int) else 3) > 1 then (if (ns.length : Int) < 3 then (ns.length : Int) else 3) else 1) (ea_cons (ev_cb (ea_cons ev_c (ea_cons (ev_cb (ea_cons ev_c (ea_cons (tl rfl (Ex.refl H0)) ea_nil)) rc_min) ea_nil)) rc_max) ea_nil) (by split <;> split <;> omega)
    (fun i σ' H' => ∃ (x1 x2 x3 x4 x5 x6 x7 x8 x9 x10 x11 : Option V), σ' = [some (.ref a), x1, x2, x3, x4, x5, x6, x7, x8, x9, x10, x11] ∧ Ex H0 H') (fun H2 e => ⟨_, _, _, _, _, _, _, _, _, _, _, rfl, e⟩) ?_ ?_
  · rintro i σ' H1 hi ⟨x1, x2, x3, x4, x5, x6, x7, x8, x9, x10, x11, rfl, e1⟩
    have hi3 : (i : Int) ≤ 3 := by revert hi; split <;> split <;> omega
    refine x_asg (x_call ((ea_cons (ev_var rfl) (ea_cons (ev_var rfl) ea_nil)) H1 (Ex.refl H1) _ fun H2 e2 => ⟨a, i, ns, rfl, ex_l (e1.trans e2) hs, hn, by omega, by omega, fun d l H3 nd nl e3 hd => ?_⟩))
    have I : Ig d l H2 H3 := ⟨e3, nd, nl, hd⟩
    have e02 := e1.trans e2
    refine s_forR1' (ea_cons ev_c ea_nil) (by decide) (fun i' σ' H' => ∃ (x3 x4 x5 x6 x7 x8 x9 x10 x11 : Option V), σ' = [some (.ref a), some (.int (i : Int)), some (.ref d), x3, x4, x5, x6, x7, x8, x9, x10, x11] ∧ Ig d l H2 H') (fun H4 e => ⟨_, _, _, _, _, _, _, _, _, rfl, I.to e⟩) ?_ ?_
    · rintro i' σ' H4 hi' ⟨x3, x4, x5, x6, x7, x8, x9, x10, x11, rfl, I⟩
      refine x_asgG (x_tup (x_cons (x_op (I.ev ev_c fun _ I => x_takeG I (by decide) (by decide) (ea_cons (ev_var rfl) (ea_cons ev_c ea_nil)) fun u H u0 u1 I => x_add (x_cons (x_op (x_takeG I (by decide) (by decide) (ea_cons (ev_var rfl) (ea_cons ev_c ea_nil)) fun vp H _ _ I => ⟨rfl, x_nil ⟨(by show 2 ≤ sizeLine; decide), fun p0 np0 => ?_⟩⟩)))))))
      generalize decide (V.int vp = V.int 0) = up at *
      obtain ⟨un, hun⟩ : ∃ un : Int, 1 + u = un := ⟨_, rfl⟩
      have n0 : 1 ≤ un := by omega
      have n1 : un ≤ 20 := by omega
      rw [hun] at *
      clear u0 u1
      obtain ⟨I, e3⟩ := I.lay (o := .tup [.int un, .bl up]) np0
      refine ⟨p0, _, rfl, st_of upd_same, rfl, _, _, rfl, _, _, rfl, rfl, ?_⟩
      -- the first number of servers
      refine x_asg (x_op (I.ev ev_c fun _ I => x_call (x_cons (I.ev (ev_var rfl) fun _ I => x_cons (x_call (x_cons (I.ev (ev_var rfl) fun _ I => x_cons (I.evL (el_lst (ea_cons ev_c (ea_cons ev_c ea_nil)) (by show 2 ≤ 100000; decide)) fun pf K4 H eK4 hpf I => x_nil ⟨d, l, pf, _, K4, rfl, sq_of hpf, by show 0 < 2; decide, by show 2 < 1000000; decide, I, fun v H hv I => ?_⟩))))))))
      obtain ⟨m, rfl, m0, m1⟩ : ∃ m : Int, v = .int m ∧ 0 < m ∧ m ≤ 50 := by
        rcases pick2 hv with rfl | rfl
        · exact ⟨_, rfl, by decide, by decide⟩
        · exact ⟨_, rfl, by decide, by decide⟩
      refine x_nil ⟨d, l, m, K4, rfl, m0, by omega, I, fun s1 H s10 s11 I => x_add ?_⟩
      obtain ⟨st, hst⟩ : ∃ st : Int, 1 + s1 = st := ⟨_, rfl⟩
      have t0 : 1 ≤ st := by omega
      have t1 : st ≤ 50 := by omega
      rw [hst]
      clear s10 s11 hv
      -- how many have to be left
      refine x_asg (x_call (x_cons (I.ev (ev_var rfl) fun _ I => x_cons (x_call (x_cons (I.ev (ev_var rfl) fun _ I => x_cons (I.evL (el_lst (ea_cons ev_c (ea_cons (ev_cb (ea_cons ev_c (ea_cons (ev_cb (ea_cons (ev_op (ev_var rfl) ev_c rv_I0) ea_nil) rc_int1) ea_nil)) rc_min) (ea_cons ev_c ea_nil))) (by show 3 ≤ 100000; decide)) fun pg K5 H eK5 hpg I => x_nil ⟨d, l, pg, _, K5, rfl, sq_of hpg, by show 0 < 3; decide, by show 3 < 1000000; decide, I, fun v H hv I => ?_⟩)))))))
      obtain ⟨m, rfl, m0, m1⟩ : ∃ m : Int, v = .int m ∧ 0 < m ∧ m ≤ 60 := by
        rcases List.mem_cons.mp hv with rfl | hv
        · exact ⟨_, rfl, by decide, by decide⟩
        · rcases pick2 hv with rfl | rfl
          · exact ⟨_, rfl, by split <;> omega, by split <;> omega⟩
          · exact ⟨_, rfl, by decide, by decide⟩
      refine x_nil ⟨d, l, m, K5, rfl, m0, by omega, I, fun sp H s0 s1 I => ?_⟩
      have md := mdG d l K5
      have e25 : Ex H2 K5 := e3.trans (eK4.trans eK5)
      refine g_asg md I ev_c fun H5 I => ?_
      refine q_forR1 (n := un + 1) (ea_cons (ev_op (ev_var rfl) ev_c rv_I0) ea_nil) (by omega) (fun j σ' H' => ∃ (x9 x10 : Option V), σ' = [some (.ref a), some (.int (i : Int)), some (.ref d), some (.int (i' : Int)), some (.int un), some (.bl up), some (.int st), some (.int sp), some (optV (dueOf (topOk un up sp st) j)), x9, x10, x11] ∧ Ig d l K5 H') (fun H6 e => ⟨_, _, rfl, I.to e⟩) ?_ ?_
      · rintro j σ' H6 hj ⟨x9, x10, rfl, I⟩
        refine s_when (b := topOk un up sp st j) ((EvT.mono I.ex) (et_is (et_eqNilL (el_is (el_lcR2 (fun (k : Nat) => decide (leftOf (st + (k : Int)) (j : Int) un up < sp)) (fun (k : Nat) => .int (st + (k : Int))) (ea_cons (ev_var rfl) (ea_cons (ev_op (ev_var rfl) ev_c rv_I0) ea_nil)) (by omega) (fun _ => rfl)
          (fun k H7 _ _ => et_test (ev_op (ev_call (ea_cons (ev_var rfl) (ea_cons (ev_var rfl) (ea_cons (ev_var rfl) (ea_cons (ev_var rfl) ea_nil)))) (spv mono_left ⟨st + (k : Int), (j : Int), un, up, rfl, ⟨by omega, by omega, by omega, by omega⟩, rfl⟩)) (ev_var rfl) rv_I0)) (fun k H7 _ _ _ => ev_var rfl)) (given_int _ _ _))) (due_list (by omega) (by omega) (by omega) n0))) (fun hb H7 e7 => ?_) (fun hb H7 e7 => ?_)
        · have hd : dueOf (topOk un up sp st) (j + 1) = some j := by
            unfold dueOf
            rw [if_pos hb]
          exact s_asg (ev_var rfl) fun H8 e8 => ⟨some (.int (j : Int)), x10, by rw [hd]; rfl, (I.to e7).to e8⟩
        · have hd : dueOf (topOk un up sp st) (j + 1) = dueOf (topOk un up sp st) j := by
            show (if topOk un up sp st j = true then some j else dueOf (topOk un up sp st) j) = _
            rw [hb, if_neg Bool.false_ne_true]
          exact ⟨some (.int (j : Int)), x10, by rw [hd]; rfl, I.to e7⟩
      · rintro σ' H6 ⟨x9, x10, rfl, I⟩
        have hU : (un + 1).toNat = un.toNat + 1 := by omega
        rw [hU]
        have hlt := fun k (h : dueOf (topOk un up sp st) (un.toNat + 1) = some k) => dueOf_lt h
        obtain ⟨o, ho⟩ : ∃ o, dueOf (topOk un up sp st) (un.toNat + 1) = o := ⟨_, rfl⟩
        rw [ho] at hlt ⊢
        have hk : ∀ k, o = some k → k < 1000 := fun k h => by have := (hlt k h).1; omega
        refine g_no md I (et_is (et_test (ev_op (ev_cb (ea_cons (ev_call (ea_cons (ev_var rfl) (ea_cons (ev_var rfl) (ea_cons (ev_var rfl) (ea_cons (ev_var rfl) ea_nil)))) (spv mono_safe ⟨un, sp, st, up, rfl, ⟨by omega, by omega, by omega, by omega⟩, congrArg optV ho.symm⟩)) ea_nil) (rc_reprO hk)) (ev_cb (ea_cons (ev_var rfl) ea_nil) (rc_reprO hk)) (rv_ne rfl))) (by simp)) fun H7 I => ?_
        have hp : 0 ≤ topI o un ∧ topI o un ≤ un := by
          cases o with
          | none => exact ⟨by show 0 ≤ un; omega, Int.le_refl _⟩
          | some k =>
            have := (hlt k rfl).1
            exact ⟨by show 0 ≤ (k : Int); omega, by show (k : Int) ≤ un; omega⟩
        obtain ⟨tp, htp⟩ : ∃ tp, topI o un = tp := ⟨_, rfl⟩
        rw [htp] at hp
        have ok : RuleD.ok ⟨1, 1, 1, 0, 1, 0, "open", tp, un, up, "no"⟩ := ⟨by show (1 : Int) ≤ 1; decide, by show (1 : Int) ≤ 1; decide, by show (1 : Int) ≤ 1; decide, by show (0 : Int) ≤ 0; decide, by show (1 : Int) ≤ 1; decide, by show (0 : Int) ≤ 0; decide, .inr (.inl rfl), hp.1, n0, hp.2, .inr (.inl rfl), by show (0 : Int) < 1000000; decide, by show un < 1000000; omega⟩
        refine x_asg (I.evN (evN_rule (r := ⟨1, 1, 1, 0, 1, 0, "open", tp, un, up, "no"⟩) (ea_cons ev_c (ea_cons ev_c (ea_cons ev_c (ea_cons ev_c (ea_cons ev_c (ea_cons ev_c (ea_cons ev_c (ea_cons (ev_is (v := if decide (optV o = V.non) = true then V.int un else optV o) (w := V.int tp) (ev_ifE (et_test (ev_op (ev_var rfl) ev_c rv_isN)) (ev_var rfl) (ev_var rfl)) (by
          rw [← htp]
          cases o with
          | none => rfl
          | some k => rfl)) (ea_cons (ev_var rfl) (ea_cons (ev_var rfl) (ea_cons ev_c ea_nil))))))))))) rfl ok) fun q K6 H8 oq eK6 hq hoq I => ?_)
        obtain ⟨dx, rfl⟩ := id hoq
        obtain ⟨r, hr'⟩ : ∃ r : RuleD, (⟨1, 1, 1, 0, 1, 0, "open", tp, un, up, "no"⟩ : RuleD) = r := ⟨_, rfl⟩
        have ht : r.top = tp := by rw [← hr']
        have hu' : r.under = un := by rw [← hr']
        have hup : r.up = up := by rw [← hr']
        rw [hr'] at hq hoq ok
        have hfl := fl_top r
        rw [ht] at hfl
        -- some numbers of servers
        refine x_forU (x_tup (x_cons (I.ev (ev_var rfl) fun _ I => ?_)))
        refine x_cons (I.ev (ev_op (ev_var rfl) ev_c rv_I0) fun _ I => ?_)
        refine x_cons (I.ev (ev_op (ev_var rfl) ev_c rv_I0) fun H9 I => x_nil ⟨(by show 3 ≤ sizeLine; decide), fun p6 np6 => ?_⟩)
        obtain ⟨I, eK7⟩ := I.lay (o := .tup [.int st, .int (st + 1), .int (st + 7)]) np6
        have hp6 : (upd K6 p6 (.tup [.int st, .int (st + 1), .int (st + 7)])) p6 = some (.tup [.int st, .int (st + 1), .int (st + 7)]) := upd_same
        have hq := eK7 _ _ hq
        have e27 := e25.trans (eK6.trans eK7)
        generalize upd K6 p6 (.tup [.int st, .int (st + 1), .int (st + 7)]) = K7 at *
        have md := mdG d l K7
        refine ⟨p6, rfl, ⟨_, st_of upd_same⟩, for_tup (K := K) (a := p6) (xs := [.int st, .int (st + 1), .int (st + 7)]) (fun j σ' H' => ∃ x10 : Option V, σ' = [some (.ref a), some (.int (i : Int)), some (.ref d), some (.int (i' : Int)), some (.int un), some (.bl up), some (.int st), some (.int sp), some (optV o), x9, x10, some (.ref q)] ∧ Ig d l K7 H') ⟨_, rfl, I⟩
          (fun j σ' H' _ ⟨_, _, I⟩ => st_of (I.ex _ _ hp6)) ?_ ?_⟩
        · rintro j x σ' H' hx ⟨x10, rfl, I⟩
          obtain ⟨m, rfl, m0⟩ : ∃ m : Int, x = .int m ∧ st ≤ m := by
            have h := List.mem_of_getElem? hx
            rcases List.mem_cons.mp h with rfl | h
            · exact ⟨_, rfl, by omega⟩
            · rcases pick2 h with rfl | rfl
              · exact ⟨_, rfl, by omega⟩
              · exact ⟨_, rfl, by omega⟩
          have ll := left_limit r m
          rw [ht, hu', hup] at ll
          refine g_no md I (et_is (et_test (ev_op (ev_lim (ev_var rfl) hq ok (ev_var rfl)) (ev_op (ev_var rfl) (ev_call (ea_cons (ev_var rfl) (ea_cons (ev_fld (ev_var rfl) hq T.cl T.n_top hfl) (ea_cons (ev_var rfl) (ea_cons (ev_var rfl) ea_nil)))) (spv mono_left ⟨m, tp, un, up, rfl, ⟨hp.1, by omega, n0, by omega⟩, rfl⟩)) rv_I0) (rv_ne rfl))) (by
            rw [ll]
            simp)) fun H9 I => ?_
          refine g_no1 md I (et_is (et_and2 (et_test (ev_op (ev_var rfl) ev_c rv_notN)) (et_test (ev_op (ev_op (ev_var rfl) (ev_lim (ev_var rfl) hq ok (ev_var rfl)) rv_I0) (ev_var rfl) rv_I0))) (by
            rw [ll]
            cases o with
            | none => rfl
            | some k =>
              have h1 : sp ≤ leftOf st (k : Int) un up := of_decide_eq_true (hlt k rfl).2
              have h2 : (k : Int) = tp := htp
              rw [h2] at h1
              have h3 := left_mono (up := up) hp.1 hp.2 n0 m0
              rw [decide_eq_false (show ¬ m - (m - leftOf m tp un up) < sp by omega), Bool.and_false])) fun H10 I => ?_
          exact ⟨_, rfl, I⟩
        · rintro σ' H9 ⟨x10, rfl, I⟩
          exact ⟨_, _, _, _, _, _, _, _, _, rfl, I.less e27⟩
    · rintro σ' H4 ⟨x3, x4, x5, x6, x7, x8, x9, x10, x11, rfl, I⟩
      exact ⟨_, _, _, _, _, _, _, _, _, _, _, rfl, e02.trans I.ex⟩
  · rintro σ' H1 ⟨x1, x2, x3, x4, x5, x6, x7, x8, x9, x10, x11, rfl, e1⟩
    refine s_ret (ev_is (v := .bl (decide (optV (dueOf (topOk 1 true 0 1) ((1 : Int).toNat + 1)) = V.int 1) && (decide (optV (dueOf (topOk 1 false 1 1) ((1 : Int).toNat + 1)) = V.int 0) && decide (optV (dueOf (topOk 20 true 50 49) ((20 : Int).toNat + 1)) = V.non)))) (w := .bl true)
      (ev_and (ev_op (ev_call (ea_cons ev_c (ea_cons ev_c (ea_cons ev_c (ea_cons ev_c ea_nil)))) (spv mono_safe ⟨1, 0, 1, true, rfl, by decide, rfl⟩)) ev_c (rv_eq rfl))
        (ev_and (ev_op (ev_call (ea_cons ev_c (ea_cons ev_c (ea_cons ev_c (ea_cons ev_c ea_nil)))) (spv mono_safe ⟨1, 1, 1, false, rfl, by decide, rfl⟩)) ev_c (rv_eq rfl))
          (ev_op (ev_call (ea_cons ev_c (ea_cons ev_c (ea_cons ev_c (ea_cons ev_c ea_nil)))) (spv mono_safe ⟨20, 50, 49, true, rfl, by decide, rfl⟩)) ev_c rv_isN))) (by decide +kernel)) fun H2 e2 => rfl
end

/-! ### what the top has written, the head -/
theorem all_mk {l : PySem.W.OpenLaw} {w : World} {K : PySem.W.Frag} {h : Heap} {mg : Str → Option Value} {fa : Addr} (X : K.In h) (G : h.Ns mainGlobals mg) (hfa : mg "law" = some (.ref fa))
    {f_is_integer : Addr} {od_is_integer an_is_integer : Option Addr} {sl_is_integer : Array (Option Value)} {oc_is_integer kV_is_integer dc_is_integer pm_is_integer cd_is_integer ct_is_integer : Value}
    {f_is_from : Addr} {od_is_from an_is_from : Option Addr} {sl_is_from : Array (Option Value)} {oc_is_from kV_is_from dc_is_from pm_is_from cd_is_from ct_is_from : Value}
    {f_wrong_count : Addr} {od_wrong_count an_wrong_count : Option Addr} {sl_wrong_count : Array (Option Value)} {oc_wrong_count kV_wrong_count dc_wrong_count pm_wrong_count cd_wrong_count ct_wrong_count : Value}
    {f_wrong_manner : Addr} {od_wrong_manner an_wrong_manner : Option Addr} {sl_wrong_manner : Array (Option Value)} {oc_wrong_manner kV_wrong_manner dc_wrong_manner pm_wrong_manner cd_wrong_manner ct_wrong_manner : Value}
    {f_least_last : Addr} {od_least_last an_least_last : Option Addr} {sl_least_last : Array (Option Value)} {oc_least_last kV_least_last dc_least_last pm_least_last cd_least_last ct_least_last : Value}
    {f_part_of : Addr} {od_part_of an_part_of : Option Addr} {sl_part_of : Array (Option Value)} {oc_part_of kV_part_of dc_part_of pm_part_of cd_part_of ct_part_of : Value}
    {f_side : Addr} {od_side an_side : Option Addr} {sl_side : Array (Option Value)} {oc_side kV_side dc_side pm_side cd_side ct_side : Value}
    {f_law_take : Addr} {od_law_take an_law_take : Option Addr} {sl_law_take : Array (Option Value)} {oc_law_take kV_law_take dc_law_take pm_law_take cd_law_take ct_law_take : Value}
    {f_law_pick : Addr} {od_law_pick an_law_pick : Option Addr} {sl_law_pick : Array (Option Value)} {oc_law_pick kV_law_pick dc_law_pick pm_law_pick cd_law_pick ct_law_pick : Value}
    {f_law_feed : Addr} {od_law_feed an_law_feed : Option Addr} {sl_law_feed : Array (Option Value)} {oc_law_feed kV_law_feed dc_law_feed pm_law_feed cd_law_feed ct_law_feed : Value}
    {f_safe_top : Addr} {od_safe_top an_safe_top : Option Addr} {sl_safe_top : Array (Option Value)} {oc_safe_top kV_safe_top dc_safe_top pm_safe_top cd_safe_top ct_safe_top : Value}
    {f_law_left : Addr} {od_law_left an_law_left : Option Addr} {sl_law_left : Array (Option Value)} {oc_law_left kV_law_left dc_law_left pm_law_left cd_law_left ct_law_left : Value}
    {f_law : Addr} {od_law an_law : Option Addr} {sl_law : Array (Option Value)} {oc_law kV_law dc_law pm_law cd_law ct_law : Value}
    {CR aB aH : Addr} {odB odH : Option Addr} {tB1 tB2 tB3 tH1 tH2 tH3 : Tok} {nB nH : Nat} {slB slH : Array (Option Value)}
    {f_Rule___init__ : Addr} {od_Rule___init__ an_Rule___init__ : Option Addr} {sl_Rule___init__ : Array (Option Value)} {oc_Rule___init__ kV_Rule___init__ dc_Rule___init__ pm_Rule___init__ cd_Rule___init__ ct_Rule___init__ : Value}
    {f_Rule_limit : Addr} {od_Rule_limit an_Rule_limit : Option Addr} {sl_Rule_limit : Array (Option Value)} {oc_Rule_limit kV_Rule_limit dc_Rule_limit pm_Rule_limit cd_Rule_limit ct_Rule_limit : Value}
    {f_Rule___str__ : Addr} {od_Rule___str__ an_Rule___str__ : Option Addr} {sl_Rule___str__ : Array (Option Value)} {oc_Rule___str__ kV_Rule___str__ dc_Rule___str__ pm_Rule___str__ cd_Rule___str__ ct_Rule___str__ : Value}
    {f_Rule___eq__ : Addr} {od_Rule___eq__ an_Rule___eq__ : Option Addr} {sl_Rule___eq__ : Array (Option Value)} {oc_Rule___eq__ kV_Rule___eq__ dc_Rule___eq__ pm_Rule___eq__ cd_Rule___eq__ ct_Rule___eq__ : Value}
    (a_is_integer : PySem.W.nsIn K mainGlobals "is_integer" = some (some (.ref f_is_integer)))
    (l_is_integer : K.lookup f_is_integer = some ⟨oc_is_integer, od_is_integer, .func (PySem.W.fnOf "is_integer" "is_integer" (C8.fnArgs st_is_integer) (C8.fnBody st_is_integer) (C8.fnScope st_is_integer) .none kV_is_integer dc_is_integer pm_is_integer an_is_integer cd_is_integer ct_is_integer), sl_is_integer⟩)
    (c_is_integer : PySem.W.codeIn K cd_is_integer "is_integer" = true)
    (k_is_integer : PySem.W.keepIn K (.ref f_is_integer) = true)
    (a_is_from : PySem.W.nsIn K mainGlobals "is_from" = some (some (.ref f_is_from)))
    (l_is_from : K.lookup f_is_from = some ⟨oc_is_from, od_is_from, .func (PySem.W.fnOf "is_from" "is_from" (C8.fnArgs st_is_from) (C8.fnBody st_is_from) (C8.fnScope st_is_from) .none kV_is_from dc_is_from pm_is_from an_is_from cd_is_from ct_is_from), sl_is_from⟩)
    (c_is_from : PySem.W.codeIn K cd_is_from "is_from" = true)
    (k_is_from : PySem.W.keepIn K (.ref f_is_from) = true)
    (a_wrong_count : PySem.W.nsIn K mainGlobals "_wrong_count" = some (some (.ref f_wrong_count)))
    (l_wrong_count : K.lookup f_wrong_count = some ⟨oc_wrong_count, od_wrong_count, .func (PySem.W.fnOf "_wrong_count" "_wrong_count" (C8.fnArgs st_wrong_count) (C8.fnBody st_wrong_count) (C8.fnScope st_wrong_count) .none kV_wrong_count dc_wrong_count pm_wrong_count an_wrong_count cd_wrong_count ct_wrong_count), sl_wrong_count⟩)
    (c_wrong_count : PySem.W.codeIn K cd_wrong_count "_wrong_count" = true)
    (k_wrong_count : PySem.W.keepIn K (.ref f_wrong_count) = true)
    (a_wrong_manner : PySem.W.nsIn K mainGlobals "_wrong_manner" = some (some (.ref f_wrong_manner)))
    (l_wrong_manner : K.lookup f_wrong_manner = some ⟨oc_wrong_manner, od_wrong_manner, .func (PySem.W.fnOf "_wrong_manner" "_wrong_manner" (C8.fnArgs st_wrong_manner) (C8.fnBody st_wrong_manner) (C8.fnScope st_wrong_manner) .none kV_wrong_manner dc_wrong_manner pm_wrong_manner an_wrong_manner cd_wrong_manner ct_wrong_manner), sl_wrong_manner⟩)
    (c_wrong_manner : PySem.W.codeIn K cd_wrong_manner "_wrong_manner" = true)
    (k_wrong_manner : PySem.W.keepIn K (.ref f_wrong_manner) = true)
    (a_least_last : PySem.W.nsIn K mainGlobals "_least_last" = some (some (.ref f_least_last)))
    (l_least_last : K.lookup f_least_last = some ⟨oc_least_last, od_least_last, .func (PySem.W.fnOf "_least_last" "_least_last" (C8.fnArgs st_least_last) (C8.fnBody st_least_last) (C8.fnScope st_least_last) .none kV_least_last dc_least_last pm_least_last an_least_last cd_least_last ct_least_last), sl_least_last⟩)
    (c_least_last : PySem.W.codeIn K cd_least_last "_least_last" = true)
    (k_least_last : PySem.W.keepIn K (.ref f_least_last) = true)
    (a_part_of : PySem.W.nsIn K mainGlobals "part_of" = some (some (.ref f_part_of)))
    (l_part_of : K.lookup f_part_of = some ⟨oc_part_of, od_part_of, .func (PySem.W.fnOf "part_of" "part_of" (C8.fnArgs st_part_of) (C8.fnBody st_part_of) (C8.fnScope st_part_of) .none kV_part_of dc_part_of pm_part_of an_part_of cd_part_of ct_part_of), sl_part_of⟩)
    (c_part_of : PySem.W.codeIn K cd_part_of "part_of" = true)
    (k_part_of : PySem.W.keepIn K (.ref f_part_of) = true)
    (a_side : PySem.W.nsIn K mainGlobals "_side" = some (some (.ref f_side)))
    (l_side : K.lookup f_side = some ⟨oc_side, od_side, .func (PySem.W.fnOf "_side" "_side" (C8.fnArgs st_side) (C8.fnBody st_side) (C8.fnScope st_side) .none kV_side dc_side pm_side an_side cd_side ct_side), sl_side⟩)
    (c_side : PySem.W.codeIn K cd_side "_side" = true)
    (k_side : PySem.W.keepIn K (.ref f_side) = true)
    (a_law_take : PySem.W.nsIn K mainGlobals "_law_take" = some (some (.ref f_law_take)))
    (l_law_take : K.lookup f_law_take = some ⟨oc_law_take, od_law_take, .func (PySem.W.fnOf "_law_take" "_law_take" (C8.fnArgs st_law_take) (C8.fnBody st_law_take) (C8.fnScope st_law_take) .none kV_law_take dc_law_take pm_law_take an_law_take cd_law_take ct_law_take), sl_law_take⟩)
    (c_law_take : PySem.W.codeIn K cd_law_take "_law_take" = true)
    (k_law_take : PySem.W.keepIn K (.ref f_law_take) = true)
    (a_law_pick : PySem.W.nsIn K mainGlobals "_law_pick" = some (some (.ref f_law_pick)))
    (l_law_pick : K.lookup f_law_pick = some ⟨oc_law_pick, od_law_pick, .func (PySem.W.fnOf "_law_pick" "_law_pick" (C8.fnArgs st_law_pick) (C8.fnBody st_law_pick) (C8.fnScope st_law_pick) .none kV_law_pick dc_law_pick pm_law_pick an_law_pick cd_law_pick ct_law_pick), sl_law_pick⟩)
    (c_law_pick : PySem.W.codeIn K cd_law_pick "_law_pick" = true)
    (k_law_pick : PySem.W.keepIn K (.ref f_law_pick) = true)
    (a_law_feed : PySem.W.nsIn K mainGlobals "_law_feed" = some (some (.ref f_law_feed)))
    (l_law_feed : K.lookup f_law_feed = some ⟨oc_law_feed, od_law_feed, .func (PySem.W.fnOf "_law_feed" "_law_feed" (C8.fnArgs st_law_feed) (C8.fnBody st_law_feed) (C8.fnScope st_law_feed) .none kV_law_feed dc_law_feed pm_law_feed an_law_feed cd_law_feed ct_law_feed), sl_law_feed⟩)
    (c_law_feed : PySem.W.codeIn K cd_law_feed "_law_feed" = true)
    (k_law_feed : PySem.W.keepIn K (.ref f_law_feed) = true)
    (a_safe_top : PySem.W.nsIn K mainGlobals "safe_top" = some (some (.ref f_safe_top)))
    (l_safe_top : K.lookup f_safe_top = some ⟨oc_safe_top, od_safe_top, .func (PySem.W.fnOf "safe_top" "safe_top" (C8.fnArgs st_safe_top) (C8.fnBody st_safe_top) (C8.fnScope st_safe_top) .none kV_safe_top dc_safe_top pm_safe_top an_safe_top cd_safe_top ct_safe_top), sl_safe_top⟩)
    (c_safe_top : PySem.W.codeIn K cd_safe_top "safe_top" = true)
    (k_safe_top : PySem.W.keepIn K (.ref f_safe_top) = true)
    (a_law_left : PySem.W.nsIn K mainGlobals "_law_left" = some (some (.ref f_law_left)))
    (l_law_left : K.lookup f_law_left = some ⟨oc_law_left, od_law_left, .func (PySem.W.fnOf "_law_left" "_law_left" (C8.fnArgs st_law_left) (C8.fnBody st_law_left) (C8.fnScope st_law_left) .none kV_law_left dc_law_left pm_law_left an_law_left cd_law_left ct_law_left), sl_law_left⟩)
    (c_law_left : PySem.W.codeIn K cd_law_left "_law_left" = true)
    (k_law_left : PySem.W.keepIn K (.ref f_law_left) = true)
    (a_law : PySem.W.nsIn K mainGlobals "law" = some (some (.ref f_law)))
    (l_law : K.lookup f_law = some ⟨oc_law, od_law, .func (PySem.W.fnOf "law" "law" (C8.fnArgs st_law) (C8.fnBody st_law) (C8.fnScope st_law) .none kV_law dc_law pm_law an_law cd_law ct_law), sl_law⟩)
    (c_law : PySem.W.codeIn K cd_law "law" = true)
    (k_law : PySem.W.keepIn K (.ref f_law) = true)
    (aC : PySem.W.nsIn K mainGlobals "Rule" = some (some (.ref CR)))
    (pg : PySem.W.plainGet K CR Str.empty = true)
    (hd : PySem.W.hasDictIn K CR = true)
    (po : PySem.W.plainOver K CR = true)
    (sa : PySem.W.findIn K (.ref CR) "__setattr__" = some (some (.builtin "object.__setattr__")))
    (mk : PySem.W.makesIn K CR = true)
    (kc : PySem.W.keepIn K (.ref CR) = true)
    (cA : PySem.W.findIn K (.ref CR) "__class__" = some (some (.builtin "object.__class__")))
    (cG : PySem.W.specialIn K (.builtin "object.__class__") "__get__" = some (some (.builtin "getset_descriptor.__get__")))
    (cT : PySem.W.takesIn K (.builtin "object.__class__") = some true)
    (cO : PySem.W.mroIn K CR (.type "object") = some true)
    (n_need : PySem.W.findIn K (.ref CR) "need" = some none)
    (n_of : PySem.W.findIn K (.ref CR) "of" = some none)
    (n_base : PySem.W.findIn K (.ref CR) "base" = some none)
    (n_more : PySem.W.findIn K (.ref CR) "more" = some none)
    (n_most : PySem.W.findIn K (.ref CR) "most" = some none)
    (n_calm : PySem.W.findIn K (.ref CR) "calm" = some none)
    (n_back : PySem.W.findIn K (.ref CR) "back" = some none)
    (n_top : PySem.W.findIn K (.ref CR) "top" = some none)
    (n_under : PySem.W.findIn K (.ref CR) "under" = some none)
    (n_up : PySem.W.findIn K (.ref CR) "up" = some none)
    (n_hears : PySem.W.findIn K (.ref CR) "hears" = some none)
    (n_cap : PySem.W.findIn K (.ref CR) "cap" = some none)
    (gB : PySem.W.nsIn K mainGlobals "_BACKS" = some (some (.ref aB)))
    (lB : K.lookup aB = some ⟨.type "tuple", odB, .seq #[.str "half" tB1, .str "open" tB2, .str "trial" tB3] nB, slB⟩)
    (gH : PySem.W.nsIn K mainGlobals "_HEARINGS" = some (some (.ref aH)))
    (lH : K.lookup aH = some ⟨.type "tuple", odH, .seq #[.str "fault" tH1, .str "no" tH2, .str "out" tH3] nH, slH⟩)
    (a_Rule___init__ : PySem.W.findIn K (.ref CR) "__init__" = some (some (.ref f_Rule___init__)))
    (i_Rule___init__ : PySem.W.isFn K (.ref f_Rule___init__) = true)
    (l_Rule___init__ : K.lookup f_Rule___init__ = some ⟨oc_Rule___init__, od_Rule___init__, .func (PySem.W.fnOf "__init__" "Rule.__init__" (C8.fnArgs st_Rule___init__) (C8.fnBody st_Rule___init__) (C8.fnScope st_Rule___init__) .none kV_Rule___init__ dc_Rule___init__ pm_Rule___init__ an_Rule___init__ cd_Rule___init__ ct_Rule___init__), sl_Rule___init__⟩)
    (c_Rule___init__ : PySem.W.codeIn K cd_Rule___init__ "Rule.__init__" = true)
    (k_Rule___init__ : PySem.W.keepIn K (.ref f_Rule___init__) = true)
    (a_Rule_limit : PySem.W.findIn K (.ref CR) "limit" = some (some (.ref f_Rule_limit)))
    (i_Rule_limit : PySem.W.isFn K (.ref f_Rule_limit) = true)
    (l_Rule_limit : K.lookup f_Rule_limit = some ⟨oc_Rule_limit, od_Rule_limit, .func (PySem.W.fnOf "limit" "Rule.limit" (C8.fnArgs st_Rule_limit) (C8.fnBody st_Rule_limit) (C8.fnScope st_Rule_limit) .none kV_Rule_limit dc_Rule_limit pm_Rule_limit an_Rule_limit cd_Rule_limit ct_Rule_limit), sl_Rule_limit⟩)
    (c_Rule_limit : PySem.W.codeIn K cd_Rule_limit "Rule.limit" = true)
    (k_Rule_limit : PySem.W.keepIn K (.ref f_Rule_limit) = true)
    (a_Rule___str__ : PySem.W.findIn K (.ref CR) "__str__" = some (some (.ref f_Rule___str__)))
    (i_Rule___str__ : PySem.W.isFn K (.ref f_Rule___str__) = true)
    (l_Rule___str__ : K.lookup f_Rule___str__ = some ⟨oc_Rule___str__, od_Rule___str__, .func (PySem.W.fnOf "__str__" "Rule.__str__" (C8.fnArgs st_Rule___str__) (C8.fnBody st_Rule___str__) (C8.fnScope st_Rule___str__) .none kV_Rule___str__ dc_Rule___str__ pm_Rule___str__ an_Rule___str__ cd_Rule___str__ ct_Rule___str__), sl_Rule___str__⟩)
    (c_Rule___str__ : PySem.W.codeIn K cd_Rule___str__ "Rule.__str__" = true)
    (k_Rule___str__ : PySem.W.keepIn K (.ref f_Rule___str__) = true)
    (a_Rule___eq__ : PySem.W.findIn K (.ref CR) "__eq__" = some (some (.ref f_Rule___eq__)))
    (i_Rule___eq__ : PySem.W.isFn K (.ref f_Rule___eq__) = true)
    (l_Rule___eq__ : K.lookup f_Rule___eq__ = some ⟨oc_Rule___eq__, od_Rule___eq__, .func (PySem.W.fnOf "__eq__" "Rule.__eq__" (C8.fnArgs st_Rule___eq__) (C8.fnBody st_Rule___eq__) (C8.fnScope st_Rule___eq__) .none kV_Rule___eq__ dc_Rule___eq__ pm_Rule___eq__ an_Rule___eq__ cd_Rule___eq__ ct_Rule___eq__), sl_Rule___eq__⟩)
    (c_Rule___eq__ : PySem.W.codeIn K cd_Rule___eq__ "Rule.__eq__" = true)
    (k_Rule___eq__ : PySem.W.keepIn K (.ref f_Rule___eq__) = true)
    (z_isinstance : PySem.W.nsIn K mainGlobals "isinstance" = some none)
    (z_int : PySem.W.nsIn K mainGlobals "int" = some none)
    (z_bool : PySem.W.nsIn K mainGlobals "bool" = some none)
    (z_max : PySem.W.nsIn K mainGlobals "max" = some none)
    (z_min : PySem.W.nsIn K mainGlobals "min" = some none)
    (z_len : PySem.W.nsIn K mainGlobals "len" = some none)
    (z_abs : PySem.W.nsIn K mainGlobals "abs" = some none)
    (z_range : PySem.W.nsIn K mainGlobals "range" = some none)
    (z_list : PySem.W.nsIn K mainGlobals "list" = some none)
    (z_str : PySem.W.nsIn K mainGlobals "str" = some none)
    (z_repr : PySem.W.nsIn K mainGlobals "repr" = some none)
    (z_sorted : PySem.W.nsIn K mainGlobals "sorted" = some none)
    (z_dict : PySem.W.nsIn K mainGlobals "dict" = some none)
    (z_tuple : PySem.W.nsIn K mainGlobals "tuple" = some none)
    (z_zip : PySem.W.nsIn K mainGlobals "zip" = some none)
    (z_enumerate : PySem.W.nsIn K mainGlobals "enumerate" = some none)
    : ∃ (nm qn : Str) (prms : Arguments) (code : List Stmt) (sc : Scope) (dV kV doc pm cdv ct oc : Value) (an od : Option Addr) (osl : Array (Option Value)) (N : List Str), K.lookup fa = some ⟨oc, od, .func (PySem.W.fnOf nm qn prms code sc dV kV doc pm an cdv ct), osl⟩ ∧ PySem.W.codeIn K cdv qn = true ∧ FnScope N ["_law_script"] sc ∧ (∀ (s : Shared) (u : Value), BindsTo s (PySem.W.fnOf nm qn prms code sc dV kV doc pm an cdv ct) ⟨[u], []⟩ [("_law_script", u)]) ∧ ∀ base : Heap, K.In base → base.Ns mainGlobals mg → ∀ (a : Addr) (ns : List Int), ns.length ≤ 63 → BodyAt l.prog w K mg base 6 fa a qn code sc cdv N ns := by
  have e := hfa.symm.trans (PySem.W.mg_of X G a_law)
  cases e
  have T : Tb K mg CR aB aH := ⟨PySem.W.mg_none_of X G z_isinstance, PySem.W.mg_none_of X G z_int, PySem.W.mg_none_of X G z_bool, PySem.W.mg_none_of X G z_max, PySem.W.mg_none_of X G z_min, PySem.W.mg_none_of X G z_len, PySem.W.mg_none_of X G z_abs, PySem.W.mg_none_of X G z_range, PySem.W.mg_none_of X G z_list, PySem.W.mg_none_of X G z_str, PySem.W.mg_none_of X G z_repr, PySem.W.mg_none_of X G z_sorted, PySem.W.mg_none_of X G z_dict, PySem.W.mg_none_of X G z_tuple, PySem.W.mg_none_of X G z_zip, PySem.W.mg_none_of X G z_enumerate, ⟨_, PySem.W.mg_of X G gB, rfl⟩, ⟨_, PySem.W.mg_of X G gH, rfl⟩, fun H => .inr ⟨_, _, _, lB, rfl, rfl, (by show 3 ≤ sizeLine; decide), .cons ⟨_, rfl⟩ (.cons ⟨_, rfl⟩ (.cons ⟨_, rfl⟩ .nil))⟩, fun H => .inr ⟨_, _, _, lH, rfl, rfl, (by show 3 ≤ sizeLine; decide), .cons ⟨_, rfl⟩ (.cons ⟨_, rfl⟩ (.cons ⟨_, rfl⟩ .nil))⟩, ⟨pg, hd, po, sa⟩, n_need, n_of, n_base, n_more, n_most, n_calm, n_back, n_top, n_under, n_up, n_hears, n_cap, ⟨_, PySem.W.mg_of X G aC, rfl⟩, cA, cG, cT, cO⟩
  have D_is_integer : C8.Def K mg "is_integer" st_is_integer f_is_integer _ := ⟨⟨_, _, _, _, _, _, _, _, _, _, rfl, l_is_integer, c_is_integer⟩, PySem.W.mg_of X G a_is_integer, k_is_integer⟩
  have b_is_integer : Binds K _ ["value"] [] := C8.Fun.binds D_is_integer.fn rfl fun _ _ _ _ _ _ us hl => match us, hl with | [_], _ => rfl
  have D_is_from : C8.Def K mg "is_from" st_is_from f_is_from _ := ⟨⟨_, _, _, _, _, _, _, _, _, _, rfl, l_is_from, c_is_from⟩, PySem.W.mg_of X G a_is_from, k_is_from⟩
  have b_is_from : Binds K _ ["value", "least"] [] := C8.Fun.binds D_is_from.fn rfl fun _ _ _ _ _ _ us hl => match us, hl with | [_, _], _ => rfl
  have D_wrong_count : C8.Def K mg "_wrong_count" st_wrong_count f_wrong_count _ := ⟨⟨_, _, _, _, _, _, _, _, _, _, rfl, l_wrong_count, c_wrong_count⟩, PySem.W.mg_of X G a_wrong_count, k_wrong_count⟩
  have b_wrong_count : Binds K _ ["need", "of", "base", "more", "most", "calm"] [] := C8.Fun.binds D_wrong_count.fn rfl fun _ _ _ _ _ _ us hl => match us, hl with | [_, _, _, _, _, _], _ => rfl
  have D_wrong_manner : C8.Def K mg "_wrong_manner" st_wrong_manner f_wrong_manner _ := ⟨⟨_, _, _, _, _, _, _, _, _, _, rfl, l_wrong_manner, c_wrong_manner⟩, PySem.W.mg_of X G a_wrong_manner, k_wrong_manner⟩
  have b_wrong_manner : Binds K _ ["back", "top", "under", "up", "hears"] [] := C8.Fun.binds D_wrong_manner.fn rfl fun _ _ _ _ _ _ us hl => match us, hl with | [_, _, _, _, _], _ => rfl
  have D_least_last : C8.Def K mg "_least_last" st_least_last f_least_last _ := ⟨⟨_, _, _, _, _, _, _, _, _, _, rfl, l_least_last, c_least_last⟩, PySem.W.mg_of X G a_least_last, k_least_last⟩
  have b_least_last : Binds K _ ["base", "more", "most"] [] := C8.Fun.binds D_least_last.fn rfl fun _ _ _ _ _ _ us hl => match us, hl with | [_, _, _], _ => rfl
  have D_part_of : C8.Def K mg "part_of" st_part_of f_part_of _ := ⟨⟨_, _, _, _, _, _, _, _, _, _, rfl, l_part_of, c_part_of⟩, PySem.W.mg_of X G a_part_of, k_part_of⟩
  have b_part_of : Binds K _ ["many", "top", "under", "up"] [] := C8.Fun.binds D_part_of.fn rfl fun _ _ _ _ _ _ us hl => match us, hl with | [_, _, _, _], _ => rfl
  have D_side : C8.Def K mg "_side" st_side f_side _ := ⟨⟨_, _, _, _, _, _, _, _, _, _, rfl, l_side, c_side⟩, PySem.W.mg_of X G a_side, k_side⟩
  have b_side : Binds K _ ["up"] [] := C8.Fun.binds D_side.fn rfl fun _ _ _ _ _ _ us hl => match us, hl with | [_], _ => rfl
  have D_law_take : C8.Def K mg "_law_take" st_law_take f_law_take _ := ⟨⟨_, _, _, _, _, _, _, _, _, _, rfl, l_law_take, c_law_take⟩, PySem.W.mg_of X G a_law_take, k_law_take⟩
  have b_law_take : Binds K _ ["_law_box", "_law_wide"] [] := C8.Fun.binds D_law_take.fn rfl fun _ _ _ _ _ _ us hl => match us, hl with | [_, _], _ => rfl
  have D_law_pick : C8.Def K mg "_law_pick" st_law_pick f_law_pick _ := ⟨⟨_, _, _, _, _, _, _, _, _, _, rfl, l_law_pick, c_law_pick⟩, PySem.W.mg_of X G a_law_pick, k_law_pick⟩
  have b_law_pick : Binds K _ ["_law_box", "_law_some"] [] := C8.Fun.binds D_law_pick.fn rfl fun _ _ _ _ _ _ us hl => match us, hl with | [_, _], _ => rfl
  have D_law_feed : C8.Def K mg "_law_feed" st_law_feed f_law_feed _ := ⟨⟨_, _, _, _, _, _, _, _, _, _, rfl, l_law_feed, c_law_feed⟩, PySem.W.mg_of X G a_law_feed, k_law_feed⟩
  have b_law_feed : Binds K _ ["_law_script", "_law_first"] [] := C8.Fun.binds D_law_feed.fn rfl fun _ _ _ _ _ _ us hl => match us, hl with | [_, _], _ => rfl
  have D_safe_top : C8.Def K mg "safe_top" st_safe_top f_safe_top _ := ⟨⟨_, _, _, _, _, _, _, _, _, _, rfl, l_safe_top, c_safe_top⟩, PySem.W.mg_of X G a_safe_top, k_safe_top⟩
  have b_safe_top : Binds K _ ["under", "up", "spare", "start"] [] := C8.Fun.binds D_safe_top.fn rfl fun _ _ _ _ _ _ us hl => match us, hl with | [_, _, _, _], _ => rfl
  have D_law_left : C8.Def K mg "_law_left" st_law_left f_law_left _ := ⟨⟨_, _, _, _, _, _, _, _, _, _, rfl, l_law_left, c_law_left⟩, PySem.W.mg_of X G a_law_left, k_law_left⟩
  have b_law_left : Binds K _ ["_law_number", "_law_top", "_law_under", "_law_up"] [] := C8.Fun.binds D_law_left.fn rfl fun _ _ _ _ _ _ us hl => match us, hl with | [_, _, _, _], _ => rfl
  have D_law : C8.Def K mg "law" st_law fa _ := ⟨⟨_, _, _, _, _, _, _, _, _, _, rfl, l_law, c_law⟩, PySem.W.mg_of X G a_law, k_law⟩
  have D_Rule___init__ : C8.Fun K "__init__" "Rule.__init__" st_Rule___init__ f_Rule___init__ _ := ⟨_, _, _, _, _, _, _, _, _, _, rfl, l_Rule___init__, c_Rule___init__⟩
  have b_Rule___init__ : Binds K _ ["self", "need", "of", "base", "more", "most", "calm", "back", "top", "under", "up", "hears"] [] := C8.Fun.binds D_Rule___init__ rfl fun _ _ _ _ _ _ us hl => match us, hl with | [_, _, _, _, _, _, _, _, _, _, _, _], _ => rfl
  have M_Rule___init__ : Meth K CR "__init__" f_Rule___init__ := ⟨a_Rule___init__, i_Rule___init__, k_Rule___init__⟩
  have D_Rule_limit : C8.Fun K "limit" "Rule.limit" st_Rule_limit f_Rule_limit _ := ⟨_, _, _, _, _, _, _, _, _, _, rfl, l_Rule_limit, c_Rule_limit⟩
  have b_Rule_limit : Binds K _ ["self", "n"] [] := C8.Fun.binds D_Rule_limit rfl fun _ _ _ _ _ _ us hl => match us, hl with | [_, _], _ => rfl
  have M_Rule_limit : Meth K CR "limit" f_Rule_limit := ⟨a_Rule_limit, i_Rule_limit, k_Rule_limit⟩
  have D_Rule___str__ : C8.Fun K "__str__" "Rule.__str__" st_Rule___str__ f_Rule___str__ _ := ⟨_, _, _, _, _, _, _, _, _, _, rfl, l_Rule___str__, c_Rule___str__⟩
  have b_Rule___str__ : Binds K _ ["self"] [] := C8.Fun.binds D_Rule___str__ rfl fun _ _ _ _ _ _ us hl => match us, hl with | [_], _ => rfl
  have M_Rule___str__ : Meth K CR "__str__" f_Rule___str__ := ⟨a_Rule___str__, i_Rule___str__, k_Rule___str__⟩
  have D_Rule___eq__ : C8.Fun K "__eq__" "Rule.__eq__" st_Rule___eq__ f_Rule___eq__ _ := ⟨_, _, _, _, _, _, _, _, _, _, rfl, l_Rule___eq__, c_Rule___eq__⟩
  have b_Rule___eq__ : Binds K _ ["self", "other"] [] := C8.Fun.binds D_Rule___eq__ rfl fun _ _ _ _ _ _ us hl => match us, hl with | [_, _], _ => rfl
  have M_Rule___eq__ : Meth K CR "__eq__" f_Rule___eq__ := ⟨a_Rule___eq__, i_Rule___eq__, k_Rule___eq__⟩
  have MK : Mk K CR f_Rule___init__ := ⟨mk, a_Rule___init__, i_Rule___init__, kc⟩
  have mC := PySem.W.mg_of X G aC
  refine ⟨"law", "law", C8.fnArgs st_law, C8.fnBody st_law, C8.fnScope st_law, .none, kV_law, dc_law, pm_law, cd_law, ct_law, oc_law, an_law, od_law, sl_law, _, l_law, c_law, sc_law, fun s v => .of_eq rfl, fun base _ _ a ns hn => ?_⟩
  have c_is_integer := ok_is_integer (P := l.prog) (w := w) (base := base) D_is_integer b_is_integer T
  have c_is_from := ok_is_from D_is_from b_is_from c_is_integer
  have c_wrong_count := ok_wc D_wrong_count b_wrong_count c_is_from
  have c_wrong_manner := ok_wm D_wrong_manner b_wrong_manner T c_is_from
  have c_least_last := ok_ll (P := l.prog) (w := w) (base := base) (mg := mg) D_least_last b_least_last
  have mk_Rule := ok_init D_Rule___init__ b_Rule___init__ MK mC T c_wrong_count c_wrong_manner c_least_last
  have c_part := ok_part (P := l.prog) (w := w) (base := base) D_part_of b_part_of
  have m_limit := ok_limit D_Rule_limit b_Rule_limit M_Rule_limit T c_part
  have c_feed := ok_feed (P := l.prog) (w := w) (base := base) D_law_feed b_law_feed T
  have c_take := ok_takeG (P := l.prog) (w := w) (base := base) D_law_take b_law_take T
  have c_pick := ok_pickG D_law_pick b_law_pick T c_take
  have c_left := ok_left (P := l.prog) (w := w) (base := base) D_law_left b_law_left
  have c_safe := ok_safe D_safe_top b_safe_top T c_part
  exact body_law T hn c_feed c_take c_pick c_left c_safe mk_Rule m_limit
end Sit
open PySem PySem.W PyProof.Rows
set_option maxRecDepth 100000 in
set_option maxHeartbeats 0 in
theorem PySem.Challenge.cw_sitout_k60_shares_that_leave_enough_holds : PySem.Challenge.rw_sitout_k60_shares_that_leave_enough.Holds := by
  w_on; o_law; k_head; (case hw => w_witness2)
  k_fill
  refine Sit.top_walk (l := PySem.Challenge.rw_sitout_k60_shares_that_leave_enough) (n := 63) (k := 6) (x := "_law_script") rfl (by decide) rfl ⟨rfl, by decide, by decide⟩ (fun w h Y => PySem.W.kIn_of Y) ?F
  case F =>
    intro w mg fa h KX G hmg
    refine' Sit.all_mk KX G hmg ?a_is_integer ?l_is_integer ?c_is_integer ?k_is_integer ?a_is_from ?l_is_from ?c_is_from ?k_is_from ?a_wrong_count ?l_wrong_count ?c_wrong_count ?k_wrong_count ?a_wrong_manner ?l_wrong_manner ?c_wrong_manner ?k_wrong_manner ?a_least_last ?l_least_last ?c_least_last ?k_least_last ?a_part_of ?l_part_of ?c_part_of ?k_part_of ?a_side ?l_side ?c_side ?k_side ?a_law_take ?l_law_take ?c_law_take ?k_law_take ?a_law_pick ?l_law_pick ?c_law_pick ?k_law_pick ?a_law_feed ?l_law_feed ?c_law_feed ?k_law_feed ?a_safe_top ?l_safe_top ?c_safe_top ?k_safe_top ?a_law_left ?l_law_left ?c_law_left ?k_law_left ?a_law ?l_law ?c_law ?k_law ?aC ?pg ?hd ?po ?sa ?mk ?kc ?cA ?cG ?cT ?cO ?n_need ?n_of ?n_base ?n_more ?n_most ?n_calm ?n_back ?n_top ?n_under ?n_up ?n_hears ?n_cap ?gB ?lB ?gH ?lH ?a_Rule___init__ ?i_Rule___init__ ?l_Rule___init__ ?c_Rule___init__ ?k_Rule___init__ ?a_Rule_limit ?i_Rule_limit ?l_Rule_limit ?c_Rule_limit ?k_Rule_limit ?a_Rule___str__ ?i_Rule___str__ ?l_Rule___str__ ?c_Rule___str__ ?k_Rule___str__ ?a_Rule___eq__ ?i_Rule___eq__ ?l_Rule___eq__ ?c_Rule___eq__ ?k_Rule___eq__ ?z_isinstance ?z_int ?z_bool ?z_max ?z_min ?z_len ?z_abs ?z_range ?z_list ?z_str ?z_repr ?z_sorted ?z_dict ?z_tuple ?z_zip ?z_enumerate
    (case a_is_integer => k_is)
    (case l_is_integer => k_is)
    (case c_is_integer => k_is)
    (case k_is_integer => k_is)
    (case a_is_from => k_is)
    (case l_is_from => k_is)
    (case c_is_from => k_is)
    (case k_is_from => k_is)
    (case a_wrong_count => k_is)
    (case l_wrong_count => k_is)
    (case c_wrong_count => k_is)
    (case k_wrong_count => k_is)
    (case a_wrong_manner => k_is)
    (case l_wrong_manner => k_is)
    (case c_wrong_manner => k_is)
    (case k_wrong_manner => k_is)
    (case a_least_last => k_is)
    (case l_least_last => k_is)
    (case c_least_last => k_is)
    (case k_least_last => k_is)
    (case a_part_of => k_is)
    (case l_part_of => k_is)
    (case c_part_of => k_is)
    (case k_part_of => k_is)
    (case a_side => k_is)
    (case l_side => k_is)
    (case c_side => k_is)
    (case k_side => k_is)
    (case a_law_take => k_is)
    (case l_law_take => k_is)
    (case c_law_take => k_is)
    (case k_law_take => k_is)
    (case a_law_pick => k_is)
    (case l_law_pick => k_is)
    (case c_law_pick => k_is)
    (case k_law_pick => k_is)
    (case a_law_feed => k_is)
    (case l_law_feed => k_is)
    (case c_law_feed => k_is)
    (case k_law_feed => k_is)
    (case a_safe_top => k_is)
    (case l_safe_top => k_is)
    (case c_safe_top => k_is)
    (case k_safe_top => k_is)
    (case a_law_left => k_is)
    (case l_law_left => k_is)
    (case c_law_left => k_is)
    (case k_law_left => k_is)
    (case a_law => k_is)
    (case l_law => k_is)
    (case c_law => k_is)
    (case k_law => k_is)
    (case aC => k_is)
    (case pg => k_is)
    (case hd => k_is)
    (case po => k_is)
    (case sa => k_is)
    (case mk => k_is)
    (case kc => k_is)
    (case cA => k_is)
    (case cG => k_is)
    (case cT => k_is)
    (case cO => k_is)
    (case n_need => k_is)
    (case n_of => k_is)
    (case n_base => k_is)
    (case n_more => k_is)
    (case n_most => k_is)
    (case n_calm => k_is)
    (case n_back => k_is)
    (case n_top => k_is)
    (case n_under => k_is)
    (case n_up => k_is)
    (case n_hears => k_is)
    (case n_cap => k_is)
    (case gB => k_is)
    (case lB => k_is)
    (case gH => k_is)
    (case lH => k_is)
    (case a_Rule___init__ => k_is)
    (case i_Rule___init__ => k_is)
    (case l_Rule___init__ => k_is)
    (case c_Rule___init__ => k_is)
    (case k_Rule___init__ => k_is)
    (case a_Rule_limit => k_is)
    (case i_Rule_limit => k_is)
    (case l_Rule_limit => k_is)
    (case c_Rule_limit => k_is)
    (case k_Rule_limit => k_is)
    (case a_Rule___str__ => k_is)
    (case i_Rule___str__ => k_is)
    (case l_Rule___str__ => k_is)
    (case c_Rule___str__ => k_is)
    (case k_Rule___str__ => k_is)
    (case a_Rule___eq__ => k_is)
    (case i_Rule___eq__ => k_is)
    (case l_Rule___eq__ => k_is)
    (case c_Rule___eq__ => k_is)
    (case k_Rule___eq__ => k_is)
    (case z_isinstance => k_is)
    (case z_int => k_is)
    (case z_bool => k_is)
    (case z_max => k_is)
    (case z_min => k_is)
    (case z_len => k_is)
    (case z_abs => k_is)
    (case z_range => k_is)
    (case z_list => k_is)
    (case z_str => k_is)
    (case z_repr => k_is)
    (case z_sorted => k_is)
    (case z_dict => k_is)
    (case z_tuple => k_is)
    (case z_zip => k_is)
    (case z_enumerate => k_is)
#print axioms PySem.Challenge.cw_sitout_k60_shares_that_leave_enough_holds
