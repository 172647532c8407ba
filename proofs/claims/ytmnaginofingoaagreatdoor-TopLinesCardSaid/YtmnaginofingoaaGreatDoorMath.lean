/- Plain arithmetic of days, months and shares; nothing of a program is spoken of. -/
import Derived.KernelRfl
namespace Go.Proofs.YtmnaginofingoaaGreatDoor

/-- The days of the months, and of all months before one. -/
def dom : Nat → Int
  | 0 => 31 | 1 => 28 | 2 => 31 | 3 => 30 | 4 => 31 | 5 => 30 | 6 => 31 | 7 => 31 | 8 => 30 | 9 => 31 | 10 => 30 | 11 => 31 | _ => 0
def cum : Nat → Int
  | 0 => 0 | 1 => 31 | 2 => 59 | 3 => 90 | 4 => 120 | 5 => 151 | 6 => 181 | 7 => 212 | 8 => 243 | 9 => 273 | 10 => 304 | 11 => 334 | _ => 365

theorem lt12 {k : Nat} (h : k < 12) : k = 0 ∨ k = 1 ∨ k = 2 ∨ k = 3 ∨ k = 4 ∨ k = 5 ∨ k = 6 ∨ k = 7 ∨ k = 8 ∨ k = 9 ∨ k = 10 ∨ k = 11 := by omega

theorem cum_succ {k : Nat} (h : k < 12) : cum (k + 1) = cum k + dom k := by
  rcases lt12 h with rfl | rfl | rfl | rfl | rfl | rfl | rfl | rfl | rfl | rfl | rfl | rfl <;> decide
theorem dom_bd {k : Nat} (h : k < 12) : 28 ≤ dom k ∧ dom k ≤ 31 := by
  rcases lt12 h with rfl | rfl | rfl | rfl | rfl | rfl | rfl | rfl | rfl | rfl | rfl | rfl <;> decide
theorem cum_bd {k : Nat} (h : k ≤ 12) : 0 ≤ cum k ∧ cum k ≤ 365 := by
  rcases (show k = 12 ∨ k < 12 by omega) with rfl | h
  · decide
  · rcases lt12 h with rfl | rfl | rfl | rfl | rfl | rfl | rfl | rfl | rfl | rfl | rfl | rfl <;> decide

/-- The month of a day of the year. -/
def mon (r : Int) : Nat :=
  if r < 31 then 0 else if r < 59 then 1 else if r < 90 then 2 else if r < 120 then 3 else if r < 151 then 4 else if r < 181 then 5 else if r < 212 then 6 else if r < 243 then 7 else if r < 273 then 8 else if r < 304 then 9 else if r < 334 then 10 else 11

theorem mon_of {r : Int} {k : Nat} (hk : k < 12) (h1 : cum k ≤ r) (h2 : r < cum (k + 1)) : mon r = k := by
  rcases lt12 hk with rfl | rfl | rfl | rfl | rfl | rfl | rfl | rfl | rfl | rfl | rfl | rfl <;> simp only [cum] at h1 h2 <;> unfold mon <;> (repeat (first | rfl | rw [if_pos (by omega)] | rw [if_neg (by omega)]))
theorem mon_lt (r : Int) : mon r < 12 := by unfold mon; repeat (split; decide)
                                            decide
theorem mon_spec {r : Int} (h0 : 0 ≤ r) (h1 : r < 365) : cum (mon r) ≤ r ∧ r < cum (mon r + 1) := by
  have key : ∃ k, k < 12 ∧ cum k ≤ r ∧ r < cum (k + 1) := by
    by_cases a0 : r < 31
    · exact ⟨0, by decide, by simp only [cum]; omega, by simp only [cum]; omega⟩
    by_cases a1 : r < 59
    · exact ⟨1, by decide, by simp only [cum]; omega, by simp only [cum]; omega⟩
    by_cases a2 : r < 90
    · exact ⟨2, by decide, by simp only [cum]; omega, by simp only [cum]; omega⟩
    by_cases a3 : r < 120
    · exact ⟨3, by decide, by simp only [cum]; omega, by simp only [cum]; omega⟩
    by_cases a4 : r < 151
    · exact ⟨4, by decide, by simp only [cum]; omega, by simp only [cum]; omega⟩
    by_cases a5 : r < 181
    · exact ⟨5, by decide, by simp only [cum]; omega, by simp only [cum]; omega⟩
    by_cases a6 : r < 212
    · exact ⟨6, by decide, by simp only [cum]; omega, by simp only [cum]; omega⟩
    by_cases a7 : r < 243
    · exact ⟨7, by decide, by simp only [cum]; omega, by simp only [cum]; omega⟩
    by_cases a8 : r < 273
    · exact ⟨8, by decide, by simp only [cum]; omega, by simp only [cum]; omega⟩
    by_cases a9 : r < 304
    · exact ⟨9, by decide, by simp only [cum]; omega, by simp only [cum]; omega⟩
    by_cases a10 : r < 334
    · exact ⟨10, by decide, by simp only [cum]; omega, by simp only [cum]; omega⟩
    · exact ⟨11, by decide, by simp only [cum]; omega, by simp only [cum]; omega⟩
  obtain ⟨k, hk, h2, h3⟩ := key
  rw [mon_of hk h2 h3]
  exact ⟨h2, h3⟩

/-- How many of the first d days lie in month m. -/
def co (m : Nat) (d : Int) : Int := d / 365 * dom m + min (max (d % 365 - cum m) 0) (dom m)

theorem mon_eq {r : Int} {m : Nat} (h0 : 0 ≤ r) (h1 : r < 365) (hm : m < 12) : mon r = m ↔ (cum m ≤ r ∧ r < cum (m + 1)) :=
  ⟨fun h => h ▸ mon_spec h0 h1, fun h => mon_of hm h.1 h.2⟩

theorem co_succ {m : Nat} {d : Int} (hm : m < 12) (_h0 : 0 ≤ d) : co m (d + 1) = co m d + if mon (d % 365) = m then 1 else 0 := by
  have e := mon_eq (r := d % 365) (m := m) (by omega) (by omega) hm
  simp only [e]
  rcases lt12 hm with rfl | rfl | rfl | rfl | rfl | rfl | rfl | rfl | rfl | rfl | rfl | rfl <;> simp only [co, cum, dom] <;> split <;> omega

/-- The numbers of the first k months over the first d days. -/
def sb (s : Nat → Int) (d : Int) : Nat → Int
  | 0 => 0
  | k + 1 => sb s d k + co k d * s k

def shareB (s : Nat → Int) (d : Int) : Int := sb s d 12

theorem sb_succ (s : Nat → Int) {d : Int} (h0 : 0 ≤ d) : ∀ k, k ≤ 12 → sb s (d + 1) k = sb s d k + if mon (d % 365) < k then s (mon (d % 365)) else 0
  | 0, _ => by simp [sb]
  | k + 1, hk => by
    have ih := sb_succ s h0 k (by omega)
    have c := co_succ (m := k) (by omega) h0
    simp only [sb]
    rw [ih, c, Int.add_mul]
    by_cases e : mon (d % 365) = k
    · rw [if_neg (by omega), if_pos e, if_pos (by omega), e]; omega
    · by_cases l : mon (d % 365) < k
      · rw [if_pos l, if_neg e, if_pos (by omega)]; omega
      · rw [if_neg l, if_neg e, if_neg (by omega)]; omega

theorem shareB_succ (s : Nat → Int) {d : Int} (h0 : 0 ≤ d) : shareB s (d + 1) = shareB s d + s (mon (d % 365)) := by
  have := sb_succ s h0 12 (by omega)
  rw [if_pos (mon_lt _)] at this
  exact this

theorem co_zero {m : Nat} (hm : m < 12) : co m 0 = 0 := by
  rcases lt12 hm with rfl | rfl | rfl | rfl | rfl | rfl | rfl | rfl | rfl | rfl | rfl | rfl <;> decide
theorem shareB_zero (s : Nat → Int) : shareB s 0 = 0 := by
  simp [shareB, sb, co_zero]

/-- A season is valid. -/
def okS (s : Nat → Int) : Prop := ∀ k, k < 12 → 0 ≤ s k ∧ s k ≤ 2000

theorem shareB_bd (s : Nat → Int) (hs : okS s) : ∀ n : Nat, 0 ≤ shareB s n ∧ shareB s n ≤ 2000 * n
  | 0 => by rw [show ((0 : Nat) : Int) = 0 from rfl, shareB_zero]; omega
  | n + 1 => by
    have ih := shareB_bd s hs n
    have h := shareB_succ s (d := n) (by omega)
    have b := hs _ (mon_lt ((n : Int) % 365))
    rw [show ((n + 1 : Nat) : Int) = (n : Int) + 1 by omega, h]
    omega
theorem shareB_mono (s : Nat → Int) (hs : okS s) (a : Int) (h0 : 0 ≤ a) : ∀ n : Nat, shareB s a ≤ shareB s (a + n) ∧ shareB s (a + n) ≤ shareB s a + 2000 * n
  | 0 => by simp
  | n + 1 => by
    have ih := shareB_mono s hs a h0 n
    have h := shareB_succ s (d := a + n) (by omega)
    have b := hs _ (mon_lt ((a + (n : Int)) % 365))
    rw [show a + ((n + 1 : Nat) : Int) = (a + (n : Int)) + 1 by omega, h]
    omega
theorem shareB_le (s : Nat → Int) (hs : okS s) {a b : Int} (h0 : 0 ≤ a) (h : a ≤ b) : shareB s a ≤ shareB s b ∧ shareB s b ≤ shareB s a + 2000 * (b - a) := by
  have := shareB_mono s hs a h0 (b - a).toNat
  rw [show a + ((b - a).toNat : Int) = b by omega] at this
  omega

theorem co_bd {m : Nat} {d : Int} (hm : m < 12) (h0 : 0 ≤ d) (h1 : d ≤ 100000) : 0 ≤ co m d ∧ co m d ≤ 8500 := by
  rcases lt12 hm with rfl | rfl | rfl | rfl | rfl | rfl | rfl | rfl | rfl | rfl | rfl | rfl <;> simp only [co, cum, dom] <;> omega

theorem mul_bd {a b A B : Int} (a0 : 0 ≤ a) (aA : a ≤ A) (b0 : 0 ≤ b) (bB : b ≤ B) : 0 ≤ a * b ∧ a * b ≤ A * B :=
  ⟨Int.mul_nonneg a0 b0, Int.mul_le_mul aA bB b0 (Int.le_trans a0 aA)⟩

theorem sb_bd (s : Nat → Int) (hs : okS s) {d : Int} (h0 : 0 ≤ d) (h1 : d ≤ 100000) : ∀ k, k ≤ 12 → 0 ≤ sb s d k ∧ sb s d k ≤ 17000000 * k
  | 0, _ => by simp [sb]
  | k + 1, hk => by
    have ih := sb_bd s hs h0 h1 k (by omega)
    have c := co_bd (m := k) (d := d) (by omega) h0 h1
    have b := hs k (by omega)
    have m := mul_bd c.1 c.2 b.1 b.2
    simp only [sb]
    omega
end Go.Proofs.YtmnaginofingoaaGreatDoor
