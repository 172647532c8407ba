/- Sums and sizes of layer bar, lists of ints compared, by their contracts; no statement is proved here. -/
import Derived.Test.YtlfkbinjlgbckaaDoorBLists
namespace Go.Proofs.YtlfkbinjlgbckaaDoor
open Go.ChangeShapes Go.WideShapes Go.ChangeAt Go.RowKit

theorem infoInt : (Tryd.prog.info? 3).map (fun i => (i.zero, i.size, i.bytes)) = some (some (.int .i64 0), 1, 8) := by kernel_rfl
def ints (l : Nat → Int) : Nat → List Value
  | 0 => []
  | k + 1 => ints l k ++ [.int .i64 (l k)]
theorem ints_length (l : Nat → Int) : ∀ n, (ints l n).length = n
  | 0 => rfl
  | n + 1 => by simp [ints, ints_length l n]
theorem ints_get (l : Nat → Int) : ∀ n k, k < n → (ints l n)[k]? = some (.int .i64 (l k))
  | 0, k, h => absurd h (Nat.not_lt_zero k)
  | n + 1, k, h => by
    have hl := ints_length l n
    rcases Nat.lt_or_ge k n with h1 | h1
    · rw [ints, List.getElem?_append_left (by omega)]; exact ints_get l n k h1
    · obtain rfl : k = n := by omega
      rw [ints, List.getElem?_append_right (by omega), hl]; simp

theorem owns_later {w w' : World} {base : Nat} {e : TypeId} {size : Nat} {v : Value} {n : Nat} {xs : List Value} (h : w.ownsRow base e size v n xs) (hb : Below w.heap.size w w') : w'.ownsRow base e size v n xs := by
  refine ⟨h.1, ?_⟩
  rcases h.2 with h2 | ⟨g, cap, cur, h3, h4, h5, h6⟩
  · exact .inl h2
  · exact .inr ⟨g, cap, cur, h3, h4, (hb.block g (lt_of_heap h5)).trans h5, h6⟩
/-- **A list that was made is a list of ints in memory.** -/
theorem owns_ints {w : World} {base : Nat} {v : Value} {n : Nat} {q : Nat → Int} (h : w.ownsRow base 3 1 v n (ints q n)) :
    ∃ A c, v = .slice A n c ∧ n ≤ c ∧ c ≤ 9223372036854775807 ∧ (∀ g o s, A = some ⟨g, o, s⟩ → base ≤ g) ∧ IHas w A n q := by
  rcases h.2 with ⟨rfl, rfl⟩ | ⟨g, cap, cur, rfl, hg, h5, h6, h7, h8, h9⟩
  · exact ⟨none, 0, rfl, Nat.le_refl _, by omega, (fun _ _ _ h => by cases h), fun h => absurd h (by omega)⟩
  · refine ⟨_, cap, rfl, h6, by unfold maxLen at h7; omega, (fun _ _ _ h => by cases h; exact hg), fun hn => ⟨g, 0, rfl, lt_of_heap h5, fun k hk => ?_⟩⟩
    have := ints_get q n k hk
    rw [← h9, List.getElem?_take] at this
    rw [if_pos (by omega)] at this
    simp only [World.cell?, h5]
    simpa using this

/-- What a function gives that makes a list of ints of its own. -/
def RetInts (W : World) (n : Nat) (q : Nat → Int) (e : Ending) (w' : World) : Prop :=
  ∃ A c, e = .returned (.slice A n c) ∧ n ≤ c ∧ c ≤ 9223372036854775807 ∧ (∀ g o s, A = some ⟨g, o, s⟩ → W.heap.size ≤ g) ∧ IHas w' A n q ∧ Below W.heap.size W w'

theorem room_any (a b : Int) (w : World) (ha : 0 ≤ a ∧ a ≤ 1000000) (hb : 0 ≤ b ∧ b ≤ 1000000) :
    Calls Tryd.prog 21 #[.int .i64 a, .int .i64 b] w fun e w' => e = .returned (.int .i64 (a + b)) ∧ Below w.heap.size w w' := by
  obtain ⟨a1, a2⟩ := ha
  obtain ⟨b1, b2⟩ := hb
  go_enter Tryd.func21, Tryd.ntmps21
  go_wp2
  go_ret
  exact ⟨by go_num, Below.refl _ _⟩

set_option maxHeartbeats 1000000 in
theorem sum_any (A : Option Addr) (n c : Nat) (l : Nat → Int) (w : World) (hn : n ≤ 100) (hp : IHas w A n l) (hl : ∀ k, k < n → 0 ≤ l k ∧ l k ≤ 1000000) :
    Calls Tryd.prog 45 #[.slice A n c] w fun e w' => e = .returned (.int .i64 (sumTo l n)) ∧ Below w.heap.size w w' := by
  have HP := Lib.hid hp
  have HL := Lib.hid hl
  have hle := fun k (hk : k ≤ n) => sumTo_bd (f := l) (n := k) (lo := 0) (hi := 1000000) fun j hj => hl j (by omega)
  have HLE := Lib.hid hle
  clear hp hl hle
  go_enter Tryd.func45, Tryd.ntmps45
  go_wp2
  go_loopw [3, 5, 8] (fun s _ i wr => ∃ k : Nat, k ≤ n ∧ i = .int .i64 (k : Int) ∧ s = .int .i64 (sumTo l k) ∧ wr = w) (fun _ _ i _ => n - (intOf i).toNat)
  case atStart => exact ⟨0, Nat.zero_le _, rfl, rfl, rfl⟩
  case round =>
    obtain ⟨k, hk, rfl, rfl, rfl⟩ := hrel
    by_cases hlt : k < n
    · obtain ⟨b, off, rfl, hP⟩ := HP.out (by omega)
      have hx := hP.v k hlt
      obtain ⟨x1, x2⟩ := HL.out k hlt
      have hs := HLE.out k hk
      have hst : sumTo l (k + 1) = sumTo l k + l k := rfl
      have HS := Lib.hid hst
      clear hst hP
      generalize sumTo l k = S at *
      generalize l k = x at *
      have s1 : 0 ≤ S := by omega
      have s2 : S ≤ 100000000 := by omega
      clear hs
      go_wp2
      go_roundw
      case rel => exact ⟨k + 1, by omega, by go_num, by rw [HS.out]; first | done | go_num, by first | rfl | trivial⟩
      case measure => simp [intOf]; omega
    · obtain rfl : k = n := by omega
      go_wp2
      go_ret
      exact ⟨rfl, Below.refl _ _⟩

set_option maxHeartbeats 2000000 in
theorem sizes_own (A : Option Addr) (n c : Nat) (l : Nat → Int) (K : Int) (w : World) (hn : n ≤ 100) (hp : IHas w A n l) (hl : ∀ k, k < n → 0 ≤ l k ∧ l k ≤ 100000) (hK : 0 ≤ K ∧ K ≤ 100000) :
    Calls Tryd.prog 19 #[.slice A n c, .int .i64 K] w fun e w' => ∃ v, e = .returned v ∧ w'.ownsRow w.heap.size 3 1 v n (ints (fun k => l k + K) n) ∧ Below w.heap.size w w' := by
  obtain ⟨K0, K1⟩ := hK
  have HP := Lib.hid hp
  have HL := Lib.hid hl
  have HF := Lib.hid (fun k => show ints (fun k => l k + K) (k + 1) = ints (fun k => l k + K) k ++ [.int .i64 (l k + K)] from rfl)
  clear hp hl
  obtain ⟨q, hq⟩ : ∃ q : Nat → Int, q = fun k => l k + K := ⟨_, rfl⟩
  rw [← hq] at HF ⊢
  clear hq
  obtain ⟨i0, hi0, hz0, hz1, hz2⟩ := info_parts infoInt
  go_enter Tryd.func19, Tryd.ntmps19
  go_wp2_with (at_make; refine wpList_make_own _ rfl _ _ 24 rfl w.heap.size 3 i0 (.int .i64 0) 1 Tryd.underlying24 hi0 hz0 hz1 .i64 .i64 _ n rfl rfl rfl ?b2 ?b3 ?b4 ?_)
  case b2 => rw [hz2]; omega
  case b3 => unfold maxLen; omega
  case b4 => omega
  intro w1 hown1 hgrow1
  have HB1 := Lib.hid ((Below.refl w.heap.size w).grown hgrow1 (Nat.le_refl _) (fun k h => by cases h))
  have HO1 := Lib.hid hown1
  clear hown1 hgrow1
  go_wp2
  go_loopw [5, 7, 13] (fun v _ i wr => ∃ k : Nat, k ≤ n ∧ i = .int .i64 (k : Int) ∧ wr.ownsRow w.heap.size 3 1 v k (ints q k) ∧ Below w.heap.size w wr) (fun _ _ i _ => n - (intOf i).toNat)
  case atStart => exact ⟨0, Nat.zero_le _, rfl, HO1.out, HB1.out⟩
  case round =>
    obtain ⟨k, hk, rfl, hown, hbr⟩ := hrel
    by_cases hlt : k < n
    · obtain ⟨b, off, rfl, hP⟩ := HP.out (by omega)
      have hx := (hP.later hbr).v k hlt
      obtain ⟨x1, x2⟩ := HL.out k hlt
      have HF' := Lib.hid (HF.out k)
      clear hP
      generalize l k = x at *
      go_wp2_with (at_builtin; go_loud (refine wpList_append_own _ rfl _ _ 24 rfl w.heap.size 3 i0 (.int .i64 0) 1 8 Tryd.underlying24 hi0 hz0 hz1 hz2 rfl (by decide) _ _ _ rfl (hown.alloc _) ⟨wr.heap.size, 0, none⟩ 1 1 [.int .i64 (x + K)] rfl rfl ?c1 ?c2 ?c3 ?c4 ?c5 ?_))
      case c1 =>
        intro j u hj
        match j, hj with
        | 0, hj => simp at hj; subst hj; simp [Addr.add]
      case c2 => intro u hu; simp at hu; subst hu; rfl
      case c3 => unfold maxLen; omega
      case c4 => omega
      case c5 => have := hbr.size; simp; omega
      intro v' w3 hown' hgrow _
      have hs := hbr.size
      have hb3 := (hbr.alloc hbr.size _).grown hgrow (by simp; omega) (fun j hj => (hown.lt j hj).1)
      have R := Lib.hid (And.intro hown' hb3)
      clear hown' hgrow hb3
      go_wp2
      go_roundw
      case rel => exact ⟨k + 1, by omega, by go_num, by rw [HF'.out]; exact R.out.1, R.out.2⟩
      case measure => simp [intOf]; omega
    · obtain rfl : k = n := by omega
      go_wp2
      go_ret
      exact ⟨_, rfl, hown, hbr⟩
theorem sizes_any (A : Option Addr) (n c : Nat) (l : Nat → Int) (K : Int) (w : World) (hn : n ≤ 100) (hp : IHas w A n l) (hl : ∀ k, k < n → 0 ≤ l k ∧ l k ≤ 100000) (hK : 0 ≤ K ∧ K ≤ 100000) :
    Calls Tryd.prog 19 #[.slice A n c, .int .i64 K] w (RetInts w n (fun k => l k + K)) :=
  (sizes_own A n c l K w hn hp hl hK).mono fun e w' ⟨v, he, hown, hb⟩ => by
    subst he
    obtain ⟨A', c', rfl, h1, h2, h3, h4⟩ := owns_ints hown
    exact ⟨A', c', rfl, h1, h2, h3, h4, hb⟩

set_option maxHeartbeats 2000000 in
/-- Lists that are alike are the same. -/
theorem SameInts_yes (A B : Option Addr) (n c d : Nat) (p : Nat → Int) (w : World) (hn : n ≤ c) (hc : c ≤ 9223372036854775807) (hp : IHas w A n p) (hq : IHas w B n p) :
    Calls Tryd.prog 9 #[.slice A n c, .slice B n d] w fun e w' => e = .returned (.bool true) ∧ Below w.heap.size w w' := by
  have HP := Lib.hid hp
  have HQ := Lib.hid hq
  clear hp hq
  go_enter Tryd.func9, Tryd.ntmps9
  go_wp2
  go_loopw [5, 13] (fun _ i wr => ∃ k : Nat, k ≤ n ∧ i = .int .i64 (k : Int) ∧ Below w.heap.size w wr) (fun _ i _ => n - (intOf i).toNat)
  case atStart => exact ⟨0, Nat.zero_le _, rfl, Below.refl _ _⟩
  case round =>
    obtain ⟨k, hk, rfl, hbr⟩ := hrel
    by_cases hlt : k < n
    · obtain ⟨b, off, rfl, hP⟩ := HP.out (by omega)
      obtain ⟨b', off', rfl, hQ⟩ := HQ.out (by omega)
      have hx := (hP.later hbr).v k hlt
      have hy := (hQ.later hbr).v k hlt
      have HB := Lib.hid hbr
      clear hP hQ hbr
      generalize p k = x at *
      go_wp2
      go_region
      go_wp2
      go_roundw
      case rel => exact ⟨k + 1, by omega, by go_num, HB.out.drew⟩
      case measure => simp [intOf]; omega
    · obtain rfl : k = n := by omega
      go_wp2
      go_ret
      exact ⟨rfl, hbr⟩
end Go.Proofs.YtlfkbinjlgbckaaDoor
