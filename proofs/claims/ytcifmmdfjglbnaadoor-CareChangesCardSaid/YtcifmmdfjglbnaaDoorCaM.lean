/- Orders in memory, and their validity; no statement is proved here. -/
import Derived.Test.YtcifmmdfjglbnaaDoorCaName
namespace Go.Proofs.YtcifmmdfjglbnaaDoor
open Go.ChangeShapes Go.WideShapes Go.ChangeAt Go.RowKit

/-- An order. -/
structure Ru where
  nm : ByteArray
  ad : Int
  fr : Int
  to : Int
  ft : Int
  jb : Int
  rp : ByteArray
instance : Inhabited Ru := ⟨⟨⟨#[]⟩, 0, 0, 0, 0, 0, ⟨#[]⟩⟩⟩

/-- The cells from ⟨b, off⟩ on hold n orders. -/
structure Rus (w : World) (b off n : Nat) (p : Nat → Ru) : Prop where
  lt : b < w.heap.size
  c0 : ∀ k, k < n → w.cell? ⟨b, off + k * 7, none⟩ = some (.string (p k).nm)
  c1 : ∀ k, k < n → w.cell? ⟨b, off + k * 7 + 1, none⟩ = some (.int .i64 (p k).ad)
  c2 : ∀ k, k < n → w.cell? ⟨b, off + k * 7 + 2, none⟩ = some (.int .i64 (p k).fr)
  c3 : ∀ k, k < n → w.cell? ⟨b, off + k * 7 + 3, none⟩ = some (.int .i64 (p k).to)
  c4 : ∀ k, k < n → w.cell? ⟨b, off + k * 7 + 4, none⟩ = some (.int .i64 (p k).ft)
  c5 : ∀ k, k < n → w.cell? ⟨b, off + k * 7 + 5, none⟩ = some (.int .i64 (p k).jb)
  c6 : ∀ k, k < n → w.cell? ⟨b, off + k * 7 + 6, none⟩ = some (.string (p k).rp)
theorem Rus.later {w W : World} {b off n : Nat} {p : Nat → Ru} (h : Rus w b off n p) (hb : Below w.heap.size w W) : Rus W b off n p :=
  ⟨Nat.lt_of_lt_of_le h.lt hb.size, fun k hk => (hb.cell (p := ⟨b, off + k * 7, none⟩) h.lt).trans (h.c0 k hk), fun k hk => (hb.cell (p := ⟨b, off + k * 7 + 1, none⟩) h.lt).trans (h.c1 k hk), fun k hk => (hb.cell (p := ⟨b, off + k * 7 + 2, none⟩) h.lt).trans (h.c2 k hk), fun k hk => (hb.cell (p := ⟨b, off + k * 7 + 3, none⟩) h.lt).trans (h.c3 k hk),
    fun k hk => (hb.cell (p := ⟨b, off + k * 7 + 4, none⟩) h.lt).trans (h.c4 k hk), fun k hk => (hb.cell (p := ⟨b, off + k * 7 + 5, none⟩) h.lt).trans (h.c5 k hk), fun k hk => (hb.cell (p := ⟨b, off + k * 7 + 6, none⟩) h.lt).trans (h.c6 k hk)⟩
theorem Rus.less {w : World} {b off n m : Nat} {p : Nat → Ru} (h : Rus w b off n p) (hm : m ≤ n) : Rus w b off m p :=
  ⟨h.lt, fun k hk => h.c0 k (by omega), fun k hk => h.c1 k (by omega), fun k hk => h.c2 k (by omega), fun k hk => h.c3 k (by omega), fun k hk => h.c4 k (by omega), fun k hk => h.c5 k (by omega), fun k hk => h.c6 k (by omega)⟩
/-- A slice of n orders: in memory, where its length is above 0. -/
def RHas (w : World) (A : Option Addr) (n : Nat) (p : Nat → Ru) : Prop := 0 < n → ∃ b off, A = some ⟨b, off, none⟩ ∧ Rus w b off n p
theorem RHas.later {w W : World} {A : Option Addr} {n : Nat} {p : Nat → Ru} (h : RHas w A n p) (hb : Below w.heap.size w W) : RHas W A n p := fun hn => by
  obtain ⟨b, off, e, hP⟩ := h hn
  exact ⟨b, off, e, hP.later hb⟩
theorem RHas.less {w : World} {A : Option Addr} {n m : Nat} {p : Nat → Ru} (h : RHas w A n p) (hm : m ≤ n) : RHas w A m p := fun h0 => by
  obtain ⟨b, off, e, hP⟩ := h (by omega)
  exact ⟨b, off, e, hP.less hm⟩
theorem RHas.at_ {w : World} {A : Option Addr} {n : Nat} {p : Nat → Ru} (h : RHas w A n p) {k : Nat} (hk : k < n) : ∃ b off, A = some ⟨b, off, none⟩ ∧ b < w.heap.size ∧ w.cell? ⟨b, off + k * 7, none⟩ = some (.string (p k).nm) ∧ w.cell? ⟨b, off + k * 7 + 1, none⟩ = some (.int .i64 (p k).ad) ∧ w.cell? ⟨b, off + k * 7 + 2, none⟩ = some (.int .i64 (p k).fr) ∧ w.cell? ⟨b, off + k * 7 + 3, none⟩ = some (.int .i64 (p k).to) ∧
    w.cell? ⟨b, off + k * 7 + 4, none⟩ = some (.int .i64 (p k).ft) ∧ w.cell? ⟨b, off + k * 7 + 5, none⟩ = some (.int .i64 (p k).jb) ∧ w.cell? ⟨b, off + k * 7 + 6, none⟩ = some (.string (p k).rp) := by
  obtain ⟨b, off, e, hP⟩ := h (by omega)
  exact ⟨b, off, e, hP.lt, hP.c0 k hk, hP.c1 k hk, hP.c2 k hk, hP.c3 k hk, hP.c4 k hk, hP.c5 k hk, hP.c6 k hk⟩
theorem cell7_of {w : World} {k : Nat} {t : TypeId} {v0 v1 v2 v3 v4 v5 v6 : Value} (h : w.heap[k]? = some (.cells #[v0, v1, v2, v3, v4, v5, v6] t)) :
    w.cell? ⟨k, 0, none⟩ = some v0 ∧ w.cell? ⟨k, 1, none⟩ = some v1 ∧ w.cell? ⟨k, 2, none⟩ = some v2 ∧ w.cell? ⟨k, 3, none⟩ = some v3 ∧ w.cell? ⟨k, 4, none⟩ = some v4 ∧ w.cell? ⟨k, 5, none⟩ = some v5 ∧ w.cell? ⟨k, 6, none⟩ = some v6 ∧ k < w.heap.size :=
  ⟨by simp [World.cell?, h], by simp [World.cell?, h], by simp [World.cell?, h], by simp [World.cell?, h], by simp [World.cell?, h], by simp [World.cell?, h], by simp [World.cell?, h], lt_of_heap h⟩

/-- Some number below n of which f holds. -/
def anyTo (f : Nat → Bool) : Nat → Bool
  | 0 => false
  | k + 1 => anyTo f k || f k
theorem anyTo_iff {f : Nat → Bool} : ∀ {n : Nat}, anyTo f n = true ↔ ∃ k, k < n ∧ f k = true
  | 0 => ⟨fun h => (by cases h), fun ⟨k, h, _⟩ => absurd h (Nat.not_lt_zero k)⟩
  | n + 1 => by
    unfold anyTo
    rw [Bool.or_eq_true, anyTo_iff]
    constructor
    · rintro (⟨k, h1, h2⟩ | h)
      · exact ⟨k, by omega, h2⟩
      · exact ⟨n, by omega, h⟩
    · rintro ⟨k, h1, h2⟩
      rcases Nat.lt_or_ge k n with h3 | h3
      · exact .inl ⟨k, h3, h2⟩
      · obtain rfl : k = n := by omega
        exact .inr h2
theorem anyTo_no {f : Nat → Bool} {n : Nat} (h : anyTo f n = false) {k : Nat} (hk : k < n) : f k = false := by
  cases hf : f k
  · rfl
  · rw [anyTo_iff.2 ⟨k, hk, hf⟩] at h; cases h
def nmIn (p : Nat → Ru) (n : Nat) (s : ByteArray) : Bool := anyTo (fun j => decide ((p j).nm = s)) n
def rpIn (p : Nat → Ru) (n : Nat) (s : ByteArray) : Bool := anyTo (fun j => decide ((p j).rp = s)) n
/-- An order alone is valid. -/
def oneR (r : Ru) : Bool := nameB r.nm && (btw r.ad 0 100000 && (btw r.fr 0 100000 && (btw r.to 0 100000 && (decide (r.fr < r.to) && (btw r.ft 1 15 && btw r.jb 1 15)))))
/-- Why n orders would not stay valid with one more. -/
def refE (p : Nat → Ru) (n : Nat) (r : Ru) : Int :=
  if oneR r then (if n < 100 then (if nmIn p n r.nm then 6 else if 0 < n ∧ r.ad < (p (n - 1)).ad then 7 else if r.rp.size = 0 then 0 else if nmIn p n r.rp then (if rpIn p n r.rp then 9 else 0) else 5) else 4) else 1
def vR (p : Nat → Ru) (n : Nat) : Bool := allTo (fun k => decide (refE p k (p k) = 0)) n
theorem vR_succ (p : Nat → Ru) (n : Nat) : vR p (n + 1) = (vR p n && decide (refE p n (p n) = 0)) := rfl
theorem vR_at {p : Nat → Ru} {n k : Nat} (h : vR p n = true) (hk : k < n) : refE p k (p k) = 0 := by
  have := allTo_iff.1 h k hk
  simpa using this
structure RefOk (p : Nat → Ru) (n : Nat) (r : Ru) : Prop where
  one : oneR r = true
  lt : n < 100
  new : nmIn p n r.nm = false
  ord : n = 0 ∨ (p (n - 1)).ad ≤ r.ad
  rep : r.rp.size = 0 ∨ (nmIn p n r.rp = true ∧ rpIn p n r.rp = false)
theorem refE_zero {p : Nat → Ru} {n : Nat} {r : Ru} : refE p n r = 0 ↔ RefOk p n r := by
  unfold refE
  constructor
  · intro h
    by_cases h1 : oneR r = true
    · rw [if_pos h1] at h
      by_cases h2 : n < 100
      · rw [if_pos h2] at h
        cases h3 : nmIn p n r.nm
        · rw [h3] at h
          simp only [Bool.false_eq_true, if_false] at h
          by_cases h4 : 0 < n ∧ r.ad < (p (n - 1)).ad
          · rw [if_pos h4] at h; omega
          · rw [if_neg h4] at h
            by_cases h5 : r.rp.size = 0
            · exact ⟨h1, h2, h3, by omega, .inl h5⟩
            · rw [if_neg h5] at h
              cases h6 : nmIn p n r.rp
              · rw [h6] at h; simp at h
              · cases h7 : rpIn p n r.rp
                · exact ⟨h1, h2, h3, by omega, .inr ⟨h6, h7⟩⟩
                · rw [h6, h7] at h; simp at h
        · rw [h3] at h; simp at h
      · rw [if_neg h2] at h; omega
    · rw [if_neg h1] at h; omega
  · rintro ⟨h1, h2, h3, h4, h5⟩
    rw [if_pos h1, if_pos h2, h3]
    simp only [Bool.false_eq_true, if_false]
    rw [if_neg (by omega)]
    rcases h5 with h5 | ⟨h5, h6⟩
    · rw [if_pos h5]
    · by_cases h7 : r.rp.size = 0
      · rw [if_pos h7]
      · rw [if_neg h7, h5, h6]; rfl
theorem vR_len {p : Nat → Ru} {n : Nat} (h : vR p n = true) : n ≤ 100 := by
  rcases Nat.eq_zero_or_pos n with h0 | h0
  · omega
  · have := (refE_zero.1 (vR_at h (show n - 1 < n by omega))).lt; omega
theorem oneR_is {r : Ru} (h : oneR r = true) : nameB r.nm = true ∧ (0 ≤ r.ad ∧ r.ad ≤ 100000) ∧ (0 ≤ r.fr ∧ r.fr ≤ 100000) ∧ (0 ≤ r.to ∧ r.to ≤ 100000) ∧ r.fr < r.to ∧ (1 ≤ r.ft ∧ r.ft ≤ 15) ∧ (1 ≤ r.jb ∧ r.jb ≤ 15) := by
  unfold oneR at h
  simp only [Bool.and_eq_true, decide_eq_true_iff, btw_iff] at h
  exact h
end Go.Proofs.YtcifmmdfjglbnaaDoor
