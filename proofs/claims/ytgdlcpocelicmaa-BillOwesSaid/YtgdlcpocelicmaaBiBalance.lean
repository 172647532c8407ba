/- Balances by contract (the code's side); no statement is proved here. -/
import Derived.Test.YtgdlcpocelicmaaBiBal
namespace Go.Proofs.Ytgdlcpocelicmaa
open Go.ChangeShapes Go.WideShapes Go.ChangeAt Go.RowKit Go.Shelf

def balV (p : Nat → En) (n : Nat) (s : ByteArray) (day : Int) : Int := if qE p n s (btw day 0 100000) = 0 then balF p s 0 (day + 1) n else 0
theorem qE_zero {p : Nat → En} {n : Nat} {s : ByteArray} {r : Bool} (h : qE p n s r = 0) : vE p n = true ∧ nameB s = true ∧ r = true := by
  unfold qE at h
  cases h1 : vE p n
  · rw [h1] at h; simp at h
  · cases h2 : nameB s
    · rw [h1, h2] at h; simp at h
    · cases r
      · rw [h1, h2] at h; simp at h
      · exact ⟨rfl, rfl, rfl⟩

set_option maxHeartbeats 2000000 in
theorem Balance_any (A : Option Addr) (n c : Nat) (p : Nat → En) (s : ByteArray) (day : Int) (w : World) (hn : n ≤ c) (hc : c ≤ 9223372036854775807) (hp : EHas9 w A n p) (hs : ∀ k, k < n → (p k).s.size ≤ 100000000) (hs2 : s.size ≤ 100000000) :
    Calls Try.prog 21 #[.slice A n c, .string s, .int .i64 day] w fun e w' => e = .returned (.tuple #[.int .i64 (balV p n s day), .int .i64 (qE p n s (btw day 0 100000))]) ∧ Below w.heap.size w w' := by
  have HP := Lib.hid hp
  have HD := Lib.hid (fun w => isDay_any9 day w)
  have HR := Lib.hid (fun r w hp => refusal_any A n c p s r w hn hc hp hs hs2)
  have HB := Lib.hid (fun to w hp hb hn2 => balance_any A n c p s to w hn hc hp hb hn2)
  have HZ := Lib.hid (fun (h : qE p n s (btw day 0 100000) = 0) => qE_zero h)
  have HDD := Lib.hid (fun (h : btw day 0 100000 = true) => btw_iff.1 h)
  have HV := Lib.hid (show balV p n s day = if qE p n s (btw day 0 100000) = 0 then balF p s 0 (day + 1) n else 0 from rfl)
  clear hp hs
  have HR2 := Lib.hid (HR.out (btw day 0 100000))
  generalize qE p n s (btw day 0 100000) = E at *
  generalize btw day 0 100000 = r at *
  by_cases h0 : E = 0
  · subst h0
    obtain ⟨h1, _, h3⟩ := HZ.out rfl
    obtain ⟨d1, d2⟩ := HDD.out h3
    have hb : ∀ k, k < n → -1000000000 ≤ (p k).a ∧ (p k).a ≤ 1000000000 := fun k hk => (enB_is (vE_at h1 hk).2.1).2.2.1
    have HBB := Lib.hid (fun w hp => HB.out (day + 1) w hp hb (vE_len h1))
    rw [if_pos rfl] at HV
    rw [HV.out]
    clear h1 hb HZ HDD h3
    generalize balF p s 0 (day + 1) n = V at *
    go_enter Try.func21, Try.ntmps21
    go_wp2_with (first
      | (go_at_call 52; (refine (HD.out _).mono ?_); rintro e w1 ⟨rfl, hb1⟩; have HB1 := Lib.hid hb1; clear hb1)
      | (go_at_call 51; (refine (HR2.out _ (HP.out.later HB1.out)).mono ?_); rintro e w2 ⟨rfl, hb2⟩; have HB2 := Lib.hid (bthen HB1.out hb2); clear hb2)
      | (go_at_call 53; (refine (HBB.out _ (HP.out.later HB2.out)).mono ?_); rintro e w3 ⟨rfl, hb3⟩; have HB3 := Lib.hid (bthen HB2.out hb3); clear hb3))
    go_ret2
    exact ⟨rfl, HB3.out⟩
  · have h0b : (E == 0) = false := by simpa using h0
    have h0c : (E != 0) = true := by simpa using h0
    rw [if_neg h0] at HV
    rw [HV.out]
    clear HZ HDD HB
    go_enter Try.func21, Try.ntmps21
    go_wp2_with (first
      | (go_at_call 52; (refine (HD.out _).mono ?_); rintro e w1 ⟨rfl, hb1⟩; have HB1 := Lib.hid hb1; clear hb1)
      | (go_at_call 51; (refine (HR2.out _ (HP.out.later HB1.out)).mono ?_); rintro e w2 ⟨rfl, hb2⟩; have HB2 := Lib.hid (bthen HB1.out hb2); clear hb2))
    go_ret2
    exact ⟨rfl, HB2.out⟩
end Go.Proofs.Ytgdlcpocelicmaa
