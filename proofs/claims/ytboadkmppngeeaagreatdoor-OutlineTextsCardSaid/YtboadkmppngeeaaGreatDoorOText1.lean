/- The document's Format of an outline, given a contract of Itoa; no statement is proved here. -/
import Derived.Test.YtboadkmppngeeaaGreatDoorOTextRead
import Derived.Test.YtboadkmppngeeaaGreatDoorOLawValid
import Derived.Laws.Concat
namespace Go.Proofs.YtboadkmppngeeaaGreatDoor
open Go.ChangeShapes Go.WideShapes Go.ChangeAt Go.RowKit

/-- What is asked of the world, and Itoa's contract in such a world. -/
structure Itoas (E : World → Prop) : Prop where
  later : ∀ w w', E w → Below w.heap.size w w' → E w'
  itoa : ∀ (n : Int) (w : World), -10000 ≤ n → n ≤ 10000 → E w → Calls Tryz.prog 21 #[.int .i64 n] w fun e w' => e = .returned (.string (numB n)) ∧ Below w.heap.size w w'

theorem After.callI {E : World → Prop} (hI : Itoas E) {W : World} (x : After W) (hE : E W) (n : Int) (h0 : -10000 ≤ n) (h1 : n ≤ 10000) :
    Calls Tryz.prog 21 #[.int .i64 n] x.val fun e w'' => e = .returned (.string (numB n)) ∧ ∃ y : After W, w'' = y.val :=
  After.call x (hI.itoa n x.val h0 h1 (hI.later _ _ hE x.property))

theorem numB_size {n : Int} (h0 : -10000 ≤ n) (h1 : n ≤ 10000) : (numB n).size ≤ 6 := by
  have := itoa_len (n := n) (by omega)
  simpa [numB, ByteArray.size] using this
theorem ofB_size {p : Nat → Pt} {n k : Nat} (h64 : n ≤ 64) (hin : inAll p n = true) (hk : k ≤ n) : (ofB p k).size ≤ 896 := by
  have := ofL_len (p := p) (n := k) fun j hj => inAll_at' hin (by omega)
  have e : (ofB p k).size = (ofL p k).length := by simp [ofB, ByteArray.size]
  omega
theorem ofB_one (p : Nat → Pt) : ofB p 0 ++ (numB (p 0).1 ++ ⟨#[44]⟩ ++ numB (p 0).2) = ofB p 1 := by
  apply ByteArray.ext
  have e : ofL p 0 = [] := rfl
  simp [numB, ofB, e, ofL_one, ptL, ByteArray.data_append]
theorem ofB_succ (p : Nat → Pt) {k : Nat} (h : 0 < k) : ofB p k ++ ⟨#[32]⟩ ++ (numB (p k).1 ++ ⟨#[44]⟩ ++ numB (p k).2) = ofB p (k + 1) := by
  apply ByteArray.ext
  simp [numB, ofB, ofL_succ p h, ptL, ByteArray.data_append]

set_option maxHeartbeats 4000000 in
set_option maxRecDepth 100000 in
theorem refFormatO_bad (A : Option Addr) (n c : Nat) (p : Nat → Pt) (w : World) (hn : n ≤ c) (hc : c ≤ 9223372036854775807) (hp : Has w A n p) (hv : vC p n = false) :
    Calls Tryz.prog 9 #[.slice A n c] w fun e w' => e = .returned (.string ⟨#[]⟩) ∧ Below w.heap.size w w' := by
  have HV := Lib.hid hv
  have HP := Lib.hid hp
  clear hv hp
  go_enter Tryz.func9, Tryz.ntmps9
  go_wp2_with (go_at_call 11; refine (validR_is _ n c p _ hn hc HP.out _ HV.out).mono ?_; rintro e w1 ⟨rfl, hb1⟩)
  go_ret
  exact ⟨rfl, hb1⟩

set_option maxHeartbeats 8000000 in
set_option maxRecDepth 100000 in
theorem refFormatO_ok {E : World → Prop} (hI : Itoas E) (b off n c : Nat) (p : Nat → Pt) (w : World) (hn : n ≤ c) (hc : c ≤ 9223372036854775807) (hp : Pts w b off n p) (hv : vC p n = true) (hE : E w) :
    Calls Tryz.prog 9 #[.slice (some ⟨b, off, none⟩) n c] w fun e w' => e = .returned (.string (ofB p n)) ∧ Below w.heap.size w w' := by
  obtain ⟨_, h64, hin, _⟩ := vC_parts hv
  have HV := Lib.hid hv
  have HP := Lib.hid hp
  have HN := Lib.hid hin
  have HE := Lib.hid hE
  have HI := Lib.hid hI
  clear hv hp hin hE hI
  go_enter Tryz.func9, Tryz.ntmps9
  go_wp2_with (go_at_call 11; refine (validR_is _ n c p _ hn hc (fun _ => ⟨b, off, rfl, HP.out⟩) _ HV.out).mono ?_; rintro e w1 ⟨rfl, hb1⟩)
  have HB1 := Lib.hid hb1
  clear hb1
  go_loopw [3, 4, 5, 11] (fun v _ _ i wr => ∃ k : Nat, k ≤ n ∧ i = .int .i64 (k : Int) ∧ v = .string (ofB p k) ∧ Below w.heap.size w wr) (fun _ _ _ i _ => n - (intOf i).toNat)
  case atStart => exact ⟨0, Nat.zero_le _, rfl, rfl, HB1.out⟩
  case round =>
    obtain ⟨k, hk, rfl, rfl, hbr⟩ := hrel
    by_cases hlt : k < n
    · have hx := (HP.out.later hbr).x k hlt
      have hy := (HP.out.later hbr).y k hlt
      have lb := (HP.out.later hbr).lt
      obtain ⟨q1, q2, q3, q4⟩ := inAll_at' HN.out hlt
      have hz := ofB_size h64 HN.out hk
      have hS0 := fun (h : k = 0) => (by subst h; exact ofB_one p : ofB p k ++ (numB (p k).1 ++ ⟨#[44]⟩ ++ numB (p k).2) = ofB p (k + 1))
      have hS1 := fun (h : 0 < k) => ofB_succ p h
      have HS0 := Lib.hid hS0
      have HS1 := Lib.hid hS1
      clear hS0 hS1
      generalize ofB p k = T at *
      generalize p k = P at *
      obtain ⟨x, y⟩ := P
      dsimp only at hx hy q1 q2 q3 q4 HS0 HS1
      have z1 := numB_size q1 q2
      have z2 := numB_size q3 q4
      have s1 : ¬ 9223372036854775807 < (numB x).size + 1 := by omega
      have s2 : ¬ 9223372036854775807 ≤ (numB x).size := by omega
      have s3 : ¬ 9223372036854775807 < (numB x).size + 1 + (numB y).size := by omega
      have s4 : ¬ 9223372036854775807 < T.size + ((numB x).size + 1 + (numB y).size) := by omega
      have s5 : ¬ 9223372036854775807 < T.size + 1 := by omega
      have s6 : ¬ 9223372036854775807 ≤ T.size := by omega
      have s7 : ¬ 9223372036854775807 < T.size + 1 + ((numB x).size + 1 + (numB y).size) := by omega
      have HB := Lib.hid hbr
      have Q := Lib.hid (And.intro (And.intro q1 q2) (And.intro q3 q4))
      have HZ := Lib.hid (new_at wr (.cells #[.int .i64 x, .int .i64 y] 41) _ rfl)
      have HB9 := Lib.hid (hbr.alloc hbr.size (.cells #[.int .i64 x, .int .i64 y] 41))
      have HE9 := Lib.hid (HI.out.later _ _ HE.out HB9.out)
      clear hbr q1 q2 q3 q4 z1 z2 hz
      by_cases h0 : k = 0
      · subst h0
        simp only [Nat.zero_mul, Nat.add_zero] at hx hy
        go_wp2
        generalize wr.alloc (.cells #[.int .i64 x, .int .i64 y] 41) = W9 at *
        obtain ⟨p0, p1, f0, f1⟩ := cell2_of HZ.out
        have lp := lt_of_heap HZ.out
        refine wp_region_after (by kernel_rfl) (by kernel_rfl) (fun hcell => ?_)
        repeat (go_big_quiet_step ((first
          | with_reducible exact After.callI HI.out _ HE9.out _ Q.out.1.1 Q.out.1.2
          | with_reducible exact After.callI HI.out _ HE9.out _ Q.out.2.1 Q.out.2.2)))
        refine wpQuiet_nil ?_
        rintro w3 hb3
        go_wp2
        go_roundw
        case rel => exact ⟨0 + 1, by omega, by go_num, congrArg Value.string (HS0.out (by first | rfl | trivial)), bthen HB9.out hb3⟩
        case measure => simp [intOf]; omega
      · have hk0 : 0 < k := by omega
        go_wp2
        generalize wr.alloc (.cells #[.int .i64 x, .int .i64 y] 41) = W9 at *
        obtain ⟨p0, p1, f0, f1⟩ := cell2_of HZ.out
        have lp := lt_of_heap HZ.out
        refine wp_region_after (by kernel_rfl) (by kernel_rfl) (fun hcell => ?_)
        repeat (go_big_quiet_step ((first
          | with_reducible exact After.callI HI.out _ HE9.out _ Q.out.1.1 Q.out.1.2
          | with_reducible exact After.callI HI.out _ HE9.out _ Q.out.2.1 Q.out.2.2)))
        refine wpQuiet_nil ?_
        rintro w3 hb3
        go_wp2
        go_roundw
        case rel => exact ⟨k + 1, by omega, by go_num, congrArg Value.string (HS1.out hk0), bthen HB9.out hb3⟩
        case measure => simp [intOf]; omega
    · obtain rfl : k = n := by omega
      go_wp2
      go_ret
      exact ⟨rfl, hbr⟩
end Go.Proofs.YtboadkmppngeeaaGreatDoor
