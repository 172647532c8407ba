/- The text of an outline: how it is written bit by bit, how long it is, into which words it is cut; plain facts, nothing of a program is spoken of. -/
import Derived.Test.YtmnaginofingoaaGreatDoorTextMath
import Derived.Test.YtmnaginofingoaaGreatDoorOEdges
namespace Go.Proofs.YtmnaginofingoaaGreatDoor.Outl

/-- A corner's text; the corners' texts; an outline's text. -/
def ptL (p : Pt) : List UInt8 := Lib.itoa p.1 ++ 44 :: Lib.itoa p.2
def ptsL (p : Nat → Pt) : Nat → List (List UInt8)
  | 0 => []
  | n + 1 => ptsL p n ++ [ptL (p n)]
def ofL (p : Nat → Pt) (n : Nat) : List UInt8 := Lib.join (ptsL p n) [32]
def numB (n : Int) : ByteArray := ⟨(Lib.itoa n).toArray⟩
def ptB (p : Pt) : ByteArray := ⟨(ptL p).toArray⟩
def ptsB (p : Nat → Pt) : Nat → List ByteArray
  | 0 => []
  | n + 1 => ptsB p n ++ [ptB (p n)]
def ofB (p : Nat → Pt) (n : Nat) : ByteArray := ⟨(ofL p n).toArray⟩

theorem ptsL_len (p : Nat → Pt) : ∀ n, (ptsL p n).length = n
  | 0 => rfl
  | n + 1 => by rw [ptsL, List.length_append, ptsL_len p n]; rfl
theorem ptsB_len (p : Nat → Pt) : ∀ n, (ptsB p n).length = n
  | 0 => rfl
  | n + 1 => by rw [ptsB, List.length_append, ptsB_len p n]; rfl
theorem ptsB_data (p : Nat → Pt) : ∀ n, (ptsB p n).map (·.data.toList) = ptsL p n
  | 0 => rfl
  | n + 1 => by rw [ptsB, ptsL, List.map_append, ptsB_data p n]; rfl
theorem ptsB_at (p : Nat → Pt) : ∀ n k, k < n → (ptsB p n)[k]? = some (ptB (p k))
  | 0, k, h => absurd h (Nat.not_lt_zero k)
  | n + 1, k, h => by
    have hl := ptsB_len p n
    rcases Nat.lt_or_ge k n with h1 | h1
    · rw [ptsB, List.getElem?_append_left (by omega)]; exact ptsB_at p n k h1
    · obtain rfl : k = n := by omega
      rw [ptsB, List.getElem?_append_right (by omega), hl]; simp

theorem tail_snoc (sep y : List UInt8) : ∀ r : List (List UInt8), Lib.joinTail sep (r ++ [y]) = Lib.joinTail sep r ++ (sep ++ y) := by
  intro r; simp [Lib.joinTail]
theorem join_snoc (sep y : List UInt8) : ∀ xs : List (List UInt8), xs ≠ [] → Lib.join (xs ++ [y]) sep = Lib.join xs sep ++ (sep ++ y)
  | [], h => absurd rfl h
  | x :: r, _ => by rw [List.cons_append, Lib.join_cons, Lib.join_cons, tail_snoc, List.append_assoc]
theorem ptsL_ne (p : Nat → Pt) {n : Nat} (h : 0 < n) : ptsL p n ≠ [] := fun e => by
  have := ptsL_len p n
  rw [e] at this
  simp at this; omega

/-- Bit by bit. -/
theorem ofL_one (p : Nat → Pt) : ofL p 1 = ptL (p 0) := Lib.join_one _ _
theorem ofL_succ (p : Nat → Pt) {n : Nat} (h : 0 < n) : ofL p (n + 1) = ofL p n ++ (32 :: ptL (p n)) := join_snoc _ _ _ (ptsL_ne p h)

/-! Lengths. -/
theorem dd_len : ∀ (k u : Nat), u < 10 ^ (k + 1) → (Lib.decDigits u).length ≤ k + 1
  | 0, u, h => by rw [Lib.decDigits_one (by omega)]; simp
  | k + 1, u, h => by
    by_cases hu : u < 10
    · rw [Lib.decDigits_one hu]; simp
    · rw [dd_ge hu, List.length_append]
      have := dd_len k (u / 10) (by rw [Nat.pow_succ] at h; omega)
      simp; omega
theorem itoa_len {n : Int} (h : n.natAbs < 10 ^ 5) : (Lib.itoa n).length ≤ 6 := by
  unfold Lib.itoa
  split
  · have := dd_len 4 n.natAbs h
    simp; omega
  · have := dd_len 4 n.toNat (by omega)
    omega
theorem itoa_pos (n : Int) : 1 ≤ (Lib.itoa n).length := by
  unfold Lib.itoa
  split
  · simp
  · exact List.length_pos_iff.2 (dd_ne_nil _)
theorem ptL_len {p : Pt} (h : Pin 10000 p) : (ptL p).length ≤ 13 := by
  obtain ⟨a, b, c, d⟩ := h
  have h1 := itoa_len (n := p.1) (by omega)
  have h2 := itoa_len (n := p.2) (by omega)
  simp [ptL]; omega
theorem ptL_pos (p : Pt) : 1 ≤ (ptL p).length := by simp [ptL]; omega
theorem ofL_len {p : Nat → Pt} : ∀ {n}, (∀ k, k < n → Pin 10000 (p k)) → (ofL p n).length ≤ 14 * n
  | 0, _ => by simp [ofL, ptsL, Lib.join_nil]
  | 1, h => by rw [ofL_one]; have := ptL_len (h 0 (by omega)); omega
  | n + 2, h => by
    rw [ofL_succ p (Nat.succ_pos n), List.length_append]
    have := ofL_len (p := p) (n := n + 1) fun k hk => h k (by omega)
    have := ptL_len (h (n + 1) (by omega))
    simp; omega
theorem ofL_pos (p : Nat → Pt) : ∀ {n}, 0 < n → 1 ≤ (ofL p n).length
  | 1, _ => by rw [ofL_one]; exact ptL_pos _
  | n + 2, _ => by rw [ofL_succ p (Nat.succ_pos n), List.length_append]; simp; omega

/-! Words. -/
theorem pt_no32 (p : Pt) : (32 : UInt8) ∉ ptL p := by
  unfold ptL
  rw [List.mem_append, List.mem_cons]
  rintro (h | h | h)
  · exact itoa_no p.1 32 (by decide) (by decide) h
  · exact absurd h (by decide)
  · exact itoa_no p.2 32 (by decide) (by decide) h
theorem it_no44 (n : Int) : (44 : UInt8) ∉ Lib.itoa n := itoa_no n 44 (by decide) (by decide)
theorem mem_ptsL (p : Nat → Pt) : ∀ {n x}, x ∈ ptsL p n → (32 : UInt8) ∉ x
  | 0, x, h => by cases h
  | n + 1, x, h => by
    rw [ptsL, List.mem_append, List.mem_singleton] at h
    rcases h with h | rfl
    · exact mem_ptsL p h
    · exact pt_no32 _
theorem map_inj : ∀ (a b : List ByteArray), a.map (·.data.toList) = b.map (·.data.toList) → a = b
  | [], [], _ => rfl
  | [], y :: b, h => by simp at h
  | x :: a, [], h => by simp at h
  | x :: a, y :: b, h => by
    simp only [List.map_cons, List.cons.injEq] at h
    rw [map_inj a b h.2]
    congr 1
    apply ByteArray.ext
    exact Array.toList_inj.1 h.1
/-- An outline's text is cut at the blanks into its corners' texts. -/
theorem of_words (p : Nat → Pt) {n : Nat} (h : 0 < n) : Lib.countB (ofB p n) ⟨#[32]⟩ = n - 1 ∧ Lib.splitB ⟨#[32]⟩ 0 (n - 1) (ofB p n) = ptsB p n := by
  obtain ⟨w, r, e⟩ := List.exists_cons_of_ne_nil (ptsL_ne p h)
  have hl := ptsL_len p n
  rw [e, List.length_cons] at hl
  have hm : ∀ x, x ∈ w :: r → (32 : UInt8) ∉ x := fun x hx => mem_ptsL p (n := n) (by rw [e]; exact hx)
  have h1 := split_join 32 r w (hm w (by simp)) fun x hx => hm x (by simp [hx])
  have h2 := count_words 32 r w (hm w (by simp)) fun x hx => hm x (by simp [hx])
  have er : r.length = n - 1 := by omega
  have ed : (ofB p n).data.toList = Lib.join (w :: r) [32] := by rw [← e]; rfl
  constructor
  · show Lib.count (ofB p n).data.toList [32] = n - 1
    rw [ed, h2, er]
  · apply map_inj
    rw [Lib.splitB_data, ptsB_data, ed, e, ← er]
    exact h1.1
/-- A corner's text is cut at the comma into its numbers' texts. -/
theorem pt_index (p : Pt) : Lib.index (ptL p) [44] = ((Lib.itoa p.1).length : Int) := index_at 44 _ _ (it_no44 _)

/-! Numbers. -/
theorem atoi_num {n : Int} (h0 : -10000 ≤ n) (h1 : n ≤ 10000) : Lib.atoiAll (Lib.itoa n) = .ok n := atoiAll_itoa n (by omega) (by omega)
end Go.Proofs.YtmnaginofingoaaGreatDoor.Outl
