/- Valid stops and roads by the code's own functions; no statement is proved here. -/
import Derived.Test.YtclallodmbianaaRoM
namespace Go.Proofs.Ytclallodmbianaa
open Go.ChangeShapes Go.WideShapes Go.ChangeAt Go.RowKit

theorem After.callP8 {P : Program} {f : FuncId} {args : Array Value} {v : Value} {W : World} (x : After W) {H : World → Prop} (hH : H W) (hk : ∀ w w', H w → Below w.heap.size w w' → H w')
    (h : ∀ w, H w → Calls P f args w fun e w' => e = .returned v ∧ Below w.heap.size w w') : Calls P f args x.val fun e w'' => e = .returned v ∧ ∃ y : After W, w'' = y.val :=
  After.call x (h _ (hk _ _ hH x.property))
theorem isBetween_any8 (n lo hi : Int) (w : World) :
    Calls Try.prog 81 #[.int .i64 n, .int .i64 lo, .int .i64 hi] w fun e w' => e = .returned (.bool (btw n lo hi)) ∧ Below w.heap.size w w' := by
  unfold btw
  by_cases h1 : lo ≤ n
  · by_cases h2 : n ≤ hi
    · rw [decide_eq_true h1, decide_eq_true h2]
      go_enter Try.func81, Try.ntmps81
      go_wp2
      go_ret
      exact ⟨rfl, Below.refl _ _⟩
    · rw [decide_eq_true h1, decide_eq_false h2]
      go_enter Try.func81, Try.ntmps81
      go_wp2
      go_ret
      exact ⟨rfl, Below.refl _ _⟩
  · rw [decide_eq_false h1]
    go_enter Try.func81, Try.ntmps81
    go_wp2
    go_ret
    exact ⟨rfl, Below.refl _ _⟩
theorem isMinute_any (n : Int) (w : World) :
    Calls Try.prog 90 #[.int .i64 n] w fun e w' => e = .returned (.bool (btw n 0 1440)) ∧ Below w.heap.size w w' := by
  have H := Lib.hid (fun w => isBetween_any8 n 0 1440 w)
  generalize btw n 0 1440 = r at *
  go_enter Try.func90, Try.ntmps90
  go_wp2_with (go_at_call 81; (refine (H.out _).mono ?_); rintro e w1 ⟨rfl, hb1⟩)
  go_ret
  exact ⟨rfl, hb1⟩
theorem isRow1_is (n : Int) (w : World) (r : Bool) (hr : btw n 0 600 = !r) :
    Calls Try.prog 100 #[.int .i64 n] w fun e w' => e = .returned (.bool r) ∧ Below w.heap.size w w' := by
  have HH := Lib.hid (fun w => isBetween_any8 n 0 600 w)
  rw [hr] at HH
  clear hr
  go_enter Try.func100, Try.ntmps100
  go_wp2_with (go_at_call 81; refine (HH.out _).mono ?_; rintro e w1 ⟨rfl, hb1⟩)
  go_ret
  refine ⟨?_, hb1⟩
  apply bool_of
  simp

set_option maxHeartbeats 1000000 in
theorem indexRow8 (A : Option Addr) (n c : Nat) (l : Nat → Int) (w : World) (hn : n ≤ 9223372036854775807) (hp : IHas w A n l) :
    Calls Try.prog 103 #[.slice A n c, .func (.func 100) #[] #[]] w fun e w' =>
      e = .returned (.int .i64 (firstAt (fun k => !btw (l k) 0 600) n 0)) ∧ Below w.heap.size w w' := by
  have HP := Lib.hid hp
  clear hp
  go_enter Try.func103, Try.ntmps103
  go_wp2
  go_loopw [5, 8] (fun _ i wr => ∃ k : Nat, k ≤ n ∧ i = .int .i64 (k : Int) ∧ allTo (fun k => btw (l k) 0 600) k = true ∧ Below w.heap.size w wr) (fun _ i _ => n - (intOf i).toNat)
  case atStart => exact ⟨0, Nat.zero_le _, rfl, rfl, Below.refl _ _⟩
  case round =>
    obtain ⟨k, hk, rfl, ha, hb⟩ := hrel
    have HA := Lib.hid ha
    have HB := Lib.hid hb
    clear ha hb
    by_cases hlt : k < n
    · obtain ⟨b, off, rfl, hP⟩ := HP.out (by omega)
      have hx := (hP.later HB.out).v k hlt
      clear hP
      cases hr : btw (l k) 0 600
      · have HR := Lib.hid hr
        clear hr
        go_wp2_with (go_at_call 100; refine (isRow1_is _ _ true HR.out).mono ?_; rintro e w1 ⟨rfl, hb1⟩)
        go_ret
        exact ⟨int_of (firstAt_hit hlt (by simpa using HA.out) (by simpa using HR.out)).symm, bthen HB.out hb1⟩
      · have HR := Lib.hid hr
        clear hr
        go_wp2_with (go_at_call 100; refine (isRow1_is _ _ false HR.out).mono ?_; rintro e w1 ⟨rfl, hb1⟩)
        go_roundw
        case rel => exact ⟨k + 1, by omega, by go_num, by simp only [allTo, HA.out, HR.out, Bool.and_self], bthen HB.out hb1⟩
        case measure => simp [intOf]; omega
    · obtain rfl : k = n := by omega
      go_wp2
      go_ret
      exact ⟨int_of (firstAt_none (by simpa using HA.out)).symm, HB.out⟩
theorem containsRow8 (A : Option Addr) (n c : Nat) (l : Nat → Int) (w : World) (hn : n ≤ 9223372036854775807) (hp : IHas w A n l) :
    Calls Try.prog 99 #[.slice A n c, .func (.func 100) #[] #[]] w fun e w' =>
      e = .returned (.bool (!allTo (fun k => btw (l k) 0 600) n)) ∧ Below w.heap.size w w' := by
  have hf := firstAt_neg (fun k => !btw (l k) 0 600) n 0
  simp only [Bool.not_not, Nat.zero_add] at hf
  have HK := Lib.hid (indexRow8 A n c l w hn hp)
  generalize firstAt (fun k => !btw (l k) 0 600) n 0 = F at *
  have HG := Lib.hid hf
  clear hf hp
  go_enter Try.func99, Try.ntmps99
  go_wp2_with (go_at_call 103; refine HK.out.mono ?_; rintro e w1 ⟨rfl, hb1⟩)
  go_ret
  exact ⟨bool_of HG.out, hb1⟩

set_option maxHeartbeats 4000000 in
theorem isRow_any (A : Option Addr) (l : List Int) (c k N : Nat) (w : World) (hc : l.length ≤ c) (hcc : c ≤ 9223372036854775807) (hk : k < N) (hp : IHas w A l.length (atL l)) :
    Calls Try.prog 88 #[.slice A l.length c, .int .i64 (k : Int), .int .i64 (N : Int)] w fun e w' => e = .returned (.bool (rowB N k l)) ∧ Below w.heap.size w w' := by
  have HC := Lib.hid (containsRow8 A l.length c (atL l) w (by omega) hp)
  have HV := Lib.hid (show rowB N k l = (decide (l.length = N) && (decide (atL l k = 0) && allTo (fun j => btw (atL l j) 0 600) l.length)) from rfl)
  generalize rowB N k l = R at *
  by_cases hN : l.length = N
  · obtain ⟨b, off, rfl, hI⟩ := hp (by omega)
    have x0 := hI.v k (by omega)
    rw [decide_eq_true hN, Bool.true_and] at HV
    subst hN
    generalize allTo (fun j => btw (atL l j) 0 600) l.length = T at *
    generalize atL l k = x at *
    clear hI
    by_cases hx : x = 0
    · subst hx
      rw [decide_eq_true rfl, Bool.true_and] at HV
      have h1 : ((l.length : Int) == (l.length : Int)) = true := by simp
      go_enter Try.func88, Try.ntmps88
      go_wp2_with (go_at_call 99; (refine HC.out.mono ?_); rintro e w1 ⟨rfl, hb1⟩)
      go_ret
      exact ⟨bool_of (by rw [HV.out]; try simp), hb1⟩
    · rw [decide_eq_false hx, Bool.false_and] at HV
      have h1 : ((l.length : Int) == (l.length : Int)) = true := by simp
      have h2 : (x == 0) = false := beq_eq_false_iff_ne.2 hx
      clear HC
      go_enter Try.func88, Try.ntmps88
      go_wp2
      go_ret
      exact ⟨bool_of HV.out.symm, Below.refl _ _⟩
  · rw [decide_eq_false hN, Bool.false_and] at HV
    have h1 : ((l.length : Int) == (N : Int)) = false := beq_eq_false_iff_ne.2 (by omega)
    clear HC
    go_enter Try.func88, Try.ntmps88
    go_wp2
    go_ret
    exact ⟨bool_of HV.out.symm, Below.refl _ _⟩

set_option maxHeartbeats 4000000 in
theorem validRoads_any (A : Option Addr) (n c : Nat) (q : Nat → List Int) (w : World) (hn : n ≤ c) (hc : c ≤ 9223372036854775807) (hp : LHas w A n q) :
    Calls Try.prog 57 #[.slice A n c] w fun e w' => e = .returned (.bool (roadsB n q)) ∧ Below w.heap.size w w' := by
  have HP := Lib.hid hp
  have HB := Lib.hid (fun w => isBetween_any8 (n : Int) 1 9 w)
  have HV := Lib.hid (show roadsB n q = (btw (n : Int) 1 9 && allTo (fun k => rowB n k (q k)) n) from rfl)
  generalize roadsB n q = R at *
  clear hp
  cases hb : btw (n : Int) 1 9
  · rw [hb] at HB HV
    go_enter Try.func57, Try.ntmps57
    go_wp2_with (go_at_call 81; (refine (HB.out _).mono ?_); rintro e w1 ⟨rfl, hb1⟩)
    go_ret
    exact ⟨bool_of HV.out.symm, hb1⟩
  rw [hb, Bool.true_and] at HV
  rw [hb] at HB
  have HR := Lib.hid (fun (B : Option Addr) (d k : Nat) (w : World) (h1 : (q k).length ≤ d) (h2 : d ≤ 9223372036854775807) (h3 : k < n) (h4 : IHas w B (q k).length (atL (q k))) => isRow_any B (q k) d k n w h1 h2 h3 h4)
  have HS := Lib.hid (fun k => show allTo (fun k => rowB n k (q k)) (k + 1) = (allTo (fun k => rowB n k (q k)) k && rowB n k (q k)) from rfl)
  have HF := Lib.hid (fun k (hk : k < n) (h : rowB n k (q k) = false) => allTo_false (f := fun k => rowB n k (q k)) hk h)
  have HX := Lib.hid (show allTo (fun k => rowB n k (q k)) 0 = true from rfl)
  generalize allTo (fun k => rowB n k (q k)) = T at *
  clear hb
  go_enter Try.func57, Try.ntmps57
  go_wp2_with (go_at_call 81; (refine (HB.out _).mono ?_); rintro e w1 ⟨rfl, hb1⟩; have HB1 := Lib.hid hb1; clear hb1)
  go_loopw [2, 3, 4, 11] (fun _ _ _ i wr => ∃ k : Nat, k ≤ n ∧ i = .int .i64 (k : Int) ∧ T k = true ∧ Below w.heap.size w wr) (fun _ _ _ i _ => n - (intOf i).toNat)
  case atStart => exact ⟨0, Nat.zero_le _, rfl, HX.out, HB1.out⟩
  case round =>
    obtain ⟨k, hk, rfl, ht, hbr⟩ := hrel
    have HT := Lib.hid ht
    have HBR := Lib.hid hbr
    clear ht hbr
    by_cases hlt : k < n
    · obtain ⟨b, off, rfl, hl, hI⟩ := (HP.out.later HBR.out) (by omega)
      obtain ⟨B, d, x0, d1, d2, d3⟩ := hI k hlt
      have HRk := Lib.hid (HR.out B d k _ d1 d2 hlt d3)
      have HSk := Lib.hid (HS.out k)
      have HFk := Lib.hid (HF.out k hlt)
      generalize rowB n k (q k) = r at *
      clear hI d3
      cases r
      · go_wp2_with (go_at_call 88; (refine HRk.out.mono ?_); rintro e w2 ⟨rfl, hb2⟩)
        go_ret
        exact ⟨bool_of (by rw [HV.out, HFk.out (by trivial)]), bthen HBR.out hb2⟩
      · go_wp2_with (go_at_call 88; (refine HRk.out.mono ?_); rintro e w2 ⟨rfl, hb2⟩)
        go_roundw
        case rel => exact ⟨k + 1, by omega, by go_num, by rw [HSk.out, HT.out]; rfl, bthen HBR.out hb2⟩
        case measure => simp [intOf]; omega
    · obtain rfl : k = n := by omega
      go_wp2
      go_ret
      exact ⟨bool_of (by rw [HV.out, HT.out]), HBR.out⟩

/-- Stops in memory. -/
structure Stos (w : World) (b off n : Nat) (p : Nat → Sto) : Prop where
  lt : b < w.heap.size
  x : ∀ k, k < n → w.cell? ⟨b, off + k * 3, none⟩ = some (.int .i64 (p k).op)
  y : ∀ k, k < n → w.cell? ⟨b, off + k * 3 + 1, none⟩ = some (.int .i64 (p k).cl)
  z : ∀ k, k < n → w.cell? ⟨b, off + k * 3 + 2, none⟩ = some (.int .i64 (p k).jb)
theorem Stos.later {w W : World} {b off n : Nat} {p : Nat → Sto} (h : Stos w b off n p) (hb : Below w.heap.size w W) : Stos W b off n p :=
  ⟨Nat.lt_of_lt_of_le h.lt hb.size, fun k hk => (hb.cell (p := ⟨b, off + k * 3, none⟩) h.lt).trans (h.x k hk), fun k hk => (hb.cell (p := ⟨b, off + k * 3 + 1, none⟩) h.lt).trans (h.y k hk), fun k hk => (hb.cell (p := ⟨b, off + k * 3 + 2, none⟩) h.lt).trans (h.z k hk)⟩
def StHas (w : World) (A : Option Addr) (n : Nat) (p : Nat → Sto) : Prop := 0 < n → ∃ b off, A = some ⟨b, off, none⟩ ∧ Stos w b off n p
theorem StHas.later {w W : World} {A : Option Addr} {n : Nat} {p : Nat → Sto} (h : StHas w A n p) (hb : Below w.heap.size w W) : StHas W A n p := fun hn => by
  obtain ⟨b, off, e, hP⟩ := h hn
  exact ⟨b, off, e, hP.later hb⟩

end Go.Proofs.Ytclallodmbianaa
