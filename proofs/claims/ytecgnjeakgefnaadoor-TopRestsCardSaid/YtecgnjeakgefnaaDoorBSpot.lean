/- Sums and sizes of layer bar, lists of ints compared, by their contracts; no statement is proved here. -/
import Derived.Test.YtecgnjeakgefnaaDoorBLists
namespace Go.Proofs.YtecgnjeakgefnaaDoor
open Go.ChangeShapes Go.WideShapes Go.ChangeAt Go.RowKit

theorem infoInt : (Tryd.prog.info? 3).map (fun i => (i.zero, i.size, i.bytes)) = some (some (.int .i64 0), 1, 8) := by kernel_rfl
def ints (l : Nat → Int) : Nat → List Value
  | 0 => []
  | k + 1 => ints l k ++ [.int .i64 (l k)]
theorem ints_length (l : Nat → Int) : ∀ n, (ints l n).length = n
  | 0 => rfl
  | n + 1 => by simp [ints, ints_length l n]
theorem ints_get (l : Nat → Int) : ∀ n k, k < n → (ints l n)[k]? = some (.int .i64 (l k))
  | 0, k, h => absurd h (Nat.not_lt_zero k)
  | n + 1, k, h => by
    have hl := ints_length l n
    rcases Nat.lt_or_ge k n with h1 | h1
    · rw [ints, List.getElem?_append_left (by omega)]; exact ints_get l n k h1
    · obtain rfl : k = n := by omega
      rw [ints, List.getElem?_append_right (by omega), hl]; simp

theorem owns_later {w w' : World} {base : Nat} {e : TypeId} {size : Nat} {v : Value} {n : Nat} {xs : List Value} (h : w.ownsRow base e size v n xs) (hb : Below w.heap.size w w') : w'.ownsRow base e size v n xs := by
  refine ⟨h.1, ?_⟩
  rcases h.2 with h2 | ⟨g, cap, cur, h3, h4, h5, h6⟩
  · exact .inl h2
  · exact .inr ⟨g, cap, cur, h3, h4, (hb.block g (lt_of_heap h5)).trans h5, h6⟩
/-- **A list that was made is a list of ints in memory.** -/
theorem owns_ints {w : World} {base : Nat} {v : Value} {n : Nat} {q : Nat → Int} (h : w.ownsRow base 3 1 v n (ints q n)) :
    ∃ A c, v = .slice A n c ∧ n ≤ c ∧ c ≤ 9223372036854775807 ∧ (∀ g o s, A = some ⟨g, o, s⟩ → base ≤ g) ∧ IHas w A n q := by
  rcases h.2 with ⟨rfl, rfl⟩ | ⟨g, cap, cur, rfl, hg, h5, h6, h7, h8, h9⟩
  · exact ⟨none, 0, rfl, Nat.le_refl _, by omega, (fun _ _ _ h => by cases h), fun h => absurd h (by omega)⟩
  · refine ⟨_, cap, rfl, h6, by unfold maxLen at h7; omega, (fun _ _ _ h => by cases h; exact hg), fun hn => ⟨g, 0, rfl, lt_of_heap h5, fun k hk => ?_⟩⟩
    have := ints_get q n k hk
    rw [← h9, List.getElem?_take] at this
    rw [if_pos (by omega)] at this
    simp only [World.cell?, h5]
    simpa using this

/-- What a function gives that makes a list of ints of its own. -/
def RetInts (W : World) (n : Nat) (q : Nat → Int) (e : Ending) (w' : World) : Prop :=
  ∃ A c, e = .returned (.slice A n c) ∧ n ≤ c ∧ c ≤ 9223372036854775807 ∧ (∀ g o s, A = some ⟨g, o, s⟩ → W.heap.size ≤ g) ∧ IHas w' A n q ∧ Below W.heap.size W w'

theorem room_any (a b : Int) (w : World) (ha : 0 ≤ a ∧ a ≤ 1000000) (hb : 0 ≤ b ∧ b ≤ 1000000) :
    Calls Tryd.prog 19 #[.int .i64 a, .int .i64 b] w fun e w' => e = .returned (.int .i64 (a + b)) ∧ Below w.heap.size w w' := by
  obtain ⟨a1, a2⟩ := ha
  obtain ⟨b1, b2⟩ := hb
  go_enter Tryd.func19, Tryd.ntmps19
  go_wp2
  go_ret
  exact ⟨by go_num, Below.refl _ _⟩

set_option maxHeartbeats 1000000 in
theorem sum_any (A : Option Addr) (n c : Nat) (l : Nat → Int) (w : World) (hn : n ≤ 100) (hp : IHas w A n l) (hl : ∀ k, k < n → 0 ≤ l k ∧ l k ≤ 1000000) :
    Calls Tryd.prog 32 #[.slice A n c] w fun e w' => e = .returned (.int .i64 (sumTo l n)) ∧ Below w.heap.size w w' := by
  have HP := Lib.hid hp
  have HL := Lib.hid hl
  have hle := fun k (hk : k ≤ n) => sumTo_bd (f := l) (n := k) (lo := 0) (hi := 1000000) fun j hj => hl j (by omega)
  have HLE := Lib.hid hle
  clear hp hl hle
  go_enter Tryd.func32, Tryd.ntmps32
  go_wp2
  go_loopw [3, 5, 8] (fun s _ i wr => ∃ k : Nat, k ≤ n ∧ i = .int .i64 (k : Int) ∧ s = .int .i64 (sumTo l k) ∧ wr = w) (fun _ _ i _ => n - (intOf i).toNat)
  case atStart => exact ⟨0, Nat.zero_le _, rfl, rfl, rfl⟩
  case round =>
    obtain ⟨k, hk, rfl, rfl, rfl⟩ := hrel
    by_cases hlt : k < n
    · obtain ⟨b, off, rfl, hP⟩ := HP.out (by omega)
      have hx := hP.v k hlt
      obtain ⟨x1, x2⟩ := HL.out k hlt
      have hs := HLE.out k hk
      have hst : sumTo l (k + 1) = sumTo l k + l k := rfl
      have HS := Lib.hid hst
      clear hst hP
      generalize sumTo l k = S at *
      generalize l k = x at *
      have s1 : 0 ≤ S := by omega
      have s2 : S ≤ 100000000 := by omega
      clear hs
      go_wp2
      go_roundw
      case rel => exact ⟨k + 1, by omega, by go_num, by rw [HS.out]; first | done | go_num, by first | rfl | trivial⟩
      case measure => simp [intOf]; omega
    · obtain rfl : k = n := by omega
      go_wp2
      go_ret
      exact ⟨rfl, Below.refl _ _⟩

set_option maxHeartbeats 2000000 in
theorem sizes_own (A : Option Addr) (n c : Nat) (l : Nat → Int) (K : Int) (w : World) (hn : n ≤ 100) (hp : IHas w A n l) (hl : ∀ k, k < n → 0 ≤ l k ∧ l k ≤ 100000) (hK : 0 ≤ K ∧ K ≤ 100000) :
    Calls Tryd.prog 17 #[.slice A n c, .int .i64 K] w fun e w' => ∃ v, e = .returned v ∧ w'.ownsRow w.heap.size 3 1 v n (ints (fun k => l k + K) n) ∧ Below w.heap.size w w' := by
  obtain ⟨K0, K1⟩ := hK
  have HP := Lib.hid hp
  have HL := Lib.hid hl
  have HF := Lib.hid (fun k => show ints (fun k => l k + K) (k + 1) = ints (fun k => l k + K) k ++ [.int .i64 (l k + K)] from rfl)
  clear hp hl
  obtain ⟨q, hq⟩ : ∃ q : Nat → Int, q = fun k => l k + K := ⟨_, rfl⟩
  rw [← hq] at HF ⊢
  clear hq
  obtain ⟨i0, hi0, hz0, hz1, hz2⟩ := info_parts infoInt
  go_enter Tryd.func17, Tryd.ntmps17
  go_wp2_with (at_make; refine wpList_make_own _ rfl _ _ 24 rfl w.heap.size 3 i0 (.int .i64 0) 1 Tryd.underlying24 hi0 hz0 hz1 .i64 .i64 _ n rfl rfl rfl ?b2 ?b3 ?b4 ?_)
  case b2 => rw [hz2]; omega
  case b3 => unfold maxLen; omega
  case b4 => omega
  intro w1 hown1 hgrow1
  have HB1 := Lib.hid ((Below.refl w.heap.size w).grown hgrow1 (Nat.le_refl _) (fun k h => by cases h))
  have HO1 := Lib.hid hown1
  clear hown1 hgrow1
  go_wp2
  go_loopw [5, 7, 13] (fun v _ i wr => ∃ k : Nat, k ≤ n ∧ i = .int .i64 (k : Int) ∧ wr.ownsRow w.heap.size 3 1 v k (ints q k) ∧ Below w.heap.size w wr) (fun _ _ i _ => n - (intOf i).toNat)
  case atStart => exact ⟨0, Nat.zero_le _, rfl, HO1.out, HB1.out⟩
  case round =>
    obtain ⟨k, hk, rfl, hown, hbr⟩ := hrel
    by_cases hlt : k < n
    · obtain ⟨b, off, rfl, hP⟩ := HP.out (by omega)
      have hx := (hP.later hbr).v k hlt
      obtain ⟨x1, x2⟩ := HL.out k hlt
      have HF' := Lib.hid (HF.out k)
      clear hP
      generalize l k = x at *
      go_wp2_with (at_builtin; go_loud (refine wpList_append_own _ rfl _ _ 24 rfl w.heap.size 3 i0 (.int .i64 0) 1 8 Tryd.underlying24 hi0 hz0 hz1 hz2 rfl (by decide) _ _ _ rfl (hown.alloc _) ⟨wr.heap.size, 0, none⟩ 1 1 [.int .i64 (x + K)] rfl rfl ?c1 ?c2 ?c3 ?c4 ?c5 ?_))
      case c1 =>
        intro j u hj
        match j, hj with
        | 0, hj => simp at hj; subst hj; simp [Addr.add]
      case c2 => intro u hu; simp at hu; subst hu; rfl
      case c3 => unfold maxLen; omega
      case c4 => omega
      case c5 => have := hbr.size; simp; omega
      intro v' w3 hown' hgrow _
      have hs := hbr.size
      have hb3 := (hbr.alloc hbr.size _).grown hgrow (by simp; omega) (fun j hj => (hown.lt j hj).1)
      have R := Lib.hid (And.intro hown' hb3)
      clear hown' hgrow hb3
      go_wp2
      go_roundw
      case rel => exact ⟨k + 1, by omega, by go_num, by rw [HF'.out]; exact R.out.1, R.out.2⟩
      case measure => simp [intOf]; omega
    · obtain rfl : k = n := by omega
      go_wp2
      go_ret
      exact ⟨_, rfl, hown, hbr⟩
theorem sizes_any (A : Option Addr) (n c : Nat) (l : Nat → Int) (K : Int) (w : World) (hn : n ≤ 100) (hp : IHas w A n l) (hl : ∀ k, k < n → 0 ≤ l k ∧ l k ≤ 100000) (hK : 0 ≤ K ∧ K ≤ 100000) :
    Calls Tryd.prog 17 #[.slice A n c, .int .i64 K] w (RetInts w n (fun k => l k + K)) :=
  (sizes_own A n c l K w hn hp hl hK).mono fun e w' ⟨v, he, hown, hb⟩ => by
    subst he
    obtain ⟨A', c', rfl, h1, h2, h3, h4⟩ := owns_ints hown
    exact ⟨A', c', rfl, h1, h2, h3, h4, hb⟩

end Go.Proofs.YtecgnjeakgefnaaDoor

/- How far bars are filled, one after the other: what is behind a piece, and which spot is the better; no statement is proved here. -/
namespace Go.Proofs.YtecgnjeakgefnaaDoor
open Go.ChangeShapes Go.WideShapes Go.ChangeAt Go.RowKit

theorem heap_setCell_at {w : World} {k : Nat} {t : TypeId} {zs : Array Value} (h : w.heap[k]? = some (.cells zs t)) (o : Nat) (v : Value) : (w.setCell ⟨k, o, none⟩ v).heap[k]? = some (.cells (zs.setIfInBounds o v) t) := by
  have hlt : k < w.heap.size := lt_of_heap h
  have h' : w.heap[k] = .cells zs t := by simpa [Array.getElem?_eq_getElem hlt] using h
  show (w.heap.modify k _)[k]? = _
  rw [Array.getElem?_eq_getElem (by simpa using hlt), Array.getElem_modify_self, h']
  rfl
theorem heap_setCell_ne {w : World} {k j o : Nat} (v : Value) (h : k ≠ j) : (w.setCell ⟨k, o, none⟩ v).heap[j]? = w.heap[j]? := by
  show (w.heap.modify k _)[j]? = _
  simp [Array.getElem?_modify, h]

/-- The better spot. -/
def bef (a b : Int × Int) : Bool := decide (a.1 < b.1) || (decide (a.1 = b.1) && decide (b.2 < a.2))
/-- Behind one more piece. -/
def bhF (ρ : Nat → Int) (R : Nat) (s : Int) : Nat → Int → Int → Int × Int
  | 0, _, _ => ((R : Int), 0)
  | f + 1, bar, left => if left < s then (if (R : Int) ≤ bar + 1 then ((R : Int), 0) else bhF ρ R s f (bar + 1) (ρ (bar + 1).toNat)) else (bar, left - s)
def bh (ρ : Nat → Int) (R : Nat) (s : Int) (a : Int × Int) : Int × Int := bhF ρ R s (R + 1) a.1 a.2

set_option maxHeartbeats 2000000 in
theorem before_any (a b c d : Int) (w : World) :
    Calls Tryd.prog 45 #[.agg #[.int .i64 a, .int .i64 b], .agg #[.int .i64 c, .int .i64 d]] w fun e w' => e = .returned (.bool (bef (a, b) (c, d))) ∧ Below w.heap.size w w' := by
  unfold bef
  dsimp only
  by_cases h1 : a < c
  · rw [decide_eq_true h1]
    go_enter Tryd.func45, Tryd.ntmps45
    go_wp2
    go_ret
    exact ⟨rfl, by go_grown⟩
  · rw [decide_eq_false h1]
    by_cases h2 : a = c
    · subst h2
      by_cases h3 : d < b
      · rw [decide_eq_true h3, decide_eq_true rfl]
        go_enter Tryd.func45, Tryd.ntmps45
        go_wp2
        go_ret
        exact ⟨rfl, by go_grown⟩
      · rw [decide_eq_false h3, decide_eq_true rfl]
        go_enter Tryd.func45, Tryd.ntmps45
        go_wp2
        go_ret
        exact ⟨rfl, by go_grown⟩
    · rw [decide_eq_false h2]
      go_enter Tryd.func45, Tryd.ntmps45
      go_wp2
      go_ret
      exact ⟨rfl, by go_grown⟩

/-- The int in a cell. -/
def cellInt (w : World) (b : Nat) : Int := match w.cell? ⟨b, 0, none⟩ with
  | some (.int _ i) => i
  | _ => 0
theorem cellInt_of {w : World} {b : Nat} {i : Int} (h : w.cell? ⟨b, 0, none⟩ = some (.int .i64 i)) : cellInt w b = i := by unfold cellInt; rw [h]

set_option maxHeartbeats 4000000 in
set_option maxRecDepth 100000 in
theorem behind_any (ρ : Nat → Int) (A : Option Addr) (R c : Nat) (s b0 l0 : Int) (w : World) (hR : R ≤ 100) (hp : IHas w A R ρ) (hρ : ∀ k, k < R → 0 ≤ ρ k ∧ ρ k ≤ 1000000) (hs : 0 ≤ s ∧ s ≤ 1000000) (hb : -1 ≤ b0 ∧ b0 ≤ R) (hl : 0 ≤ l0 ∧ l0 ≤ 1000000) :
    Calls Tryd.prog 44 #[.agg #[.int .i64 b0, .int .i64 l0], .int .i64 s, .slice A R c] w fun e w' => e = .returned (.agg #[.int .i64 (bh ρ R s (b0, l0)).1, .int .i64 (bh ρ R s (b0, l0)).2]) ∧ Below w.heap.size w w' := by
  obtain ⟨s0, s1⟩ := hs
  obtain ⟨F, hF⟩ : ∃ F, bh ρ R s (b0, l0) = F := ⟨_, rfl⟩
  rw [hF]
  have HP := Lib.hid hp
  have HR := Lib.hid hρ
  have HF := Lib.hid (show bhF ρ R s (R + 1) b0 l0 = F from hF)
  have HH := Lib.hid (And.intro hb hl)
  clear hp hρ hF hb hl
  obtain ⟨F1, F2⟩ := F
  go_enter Tryd.func44, Tryd.ntmps44
  go_wp2
  go_loopw [7] (fun _ wr => ∃ (f : Nat) (bar left : Int), wr.heap[w.heap.size]? = some (.cells #[.int .i64 bar, .int .i64 left] 54) ∧ wr.heap[w.heap.size + 1]? = some (.cells #[.int .i64 0, .int .i64 0] 54) ∧ Below w.heap.size w wr ∧
    bhF ρ R s (f + 1) bar left = (F1, F2) ∧ (R : Int) ≤ f + 1 + bar ∧ -1 ≤ bar ∧ bar ≤ R ∧ 0 ≤ left ∧ left ≤ 1000000) (fun _ wr => ((R : Int) - cellInt wr w.heap.size).toNat)
  case atStart =>
    obtain ⟨z0, z1⟩ := cells2 w (.cells #[.int .i64 b0, .int .i64 l0] 54) (.cells #[.int .i64 0, .int .i64 0] 54)
    exact ⟨R, b0, l0, z0, z1, ((Below.refl _ _).alloc (Nat.le_refl _) _).alloc (by simp) _, HF.out, by have := HH.out; omega, HH.out.1.1, HH.out.1.2, HH.out.2.1, HH.out.2.2⟩
  case round =>
    obtain ⟨f, bar, left, z0, z1, hbr, hf, hfb, hb1, hb2, hl1, hl2⟩ := hrel
    have Z0 := Lib.hid z0
    have Z1 := Lib.hid z1
    have HB := Lib.hid hbr
    have hfl := hf
    unfold bhF at hfl
    have HFL := Lib.hid hfl
    obtain ⟨c0, c1, g0, g1⟩ := cell2_of z0
    obtain ⟨c2, c3, g2, g3⟩ := cell2_of z1
    have lt0 := lt_of_heap z0
    have lt1 := lt_of_heap z1
    have hci := cellInt_of c0
    clear z0 z1 hbr hf hfl
    by_cases h : left < s
    · have HFL := Lib.hid (by have := HFL.out; rw [if_pos h] at this; exact this : (if (R : Int) ≤ bar + 1 then ((R : Int), (0 : Int)) else bhF ρ R s f (bar + 1) (ρ (bar + 1).toNat)) = (F1, F2))
      obtain ⟨m, hm⟩ := Int.eq_ofNat_of_zero_le (show 0 ≤ bar + 1 by omega)
      obtain rfl : bar = (m : Int) - 1 := by omega
      by_cases h2 : R ≤ m
      · have hF := HFL.out
        rw [if_pos (by omega)] at hF
        obtain ⟨rfl, rfl⟩ : (R : Int) = F1 ∧ (0 : Int) = F2 := by simpa using hF
        have h2' : (R : Int) ≤ (m : Int) := by omega
        go_wp2
        refine bodyPost_ret (v := .agg #[.int .i64 R, .int .i64 0]) (by
          have h8 := heap_setCell_at (heap_setCell_at ((heap_setCell_ne (k := w.heap.size) (o := 0) (.int .i64 m) (by omega)).trans Z1.out) 0 (.int .i64 R)) 1 (.int .i64 0)
          obtain ⟨e0, e1, _, _⟩ := cell2_of (v0 := .int .i64 R) (v1 := .int .i64 0) h8
          simp [results, Tryd.results44, go_sem, e0, e1]) rfl ⟨rfl, ?_⟩
        exact ((HB.out.setCell (p := ⟨w.heap.size, 0, none⟩) (Nat.le_refl _) _).setCell (p := ⟨w.heap.size + 1, 0, none⟩) (by show w.heap.size ≤ w.heap.size + 1; omega) _).setCell (p := ⟨w.heap.size + 1, 1, none⟩) (by show w.heap.size ≤ w.heap.size + 1; omega) _
      · have hF := HFL.out
        rw [if_neg (by omega), show ((m : Int) - 1 + 1) = (m : Int) by omega, Int.toNat_natCast] at hF
        have h2' : ¬ (R : Int) ≤ (m : Int) := by omega
        have hmR : m < R := by omega
        obtain ⟨b, off, rfl, hP⟩ := HP.out (by omega)
        have hlt := hP.lt
        have hne : b ≠ w.heap.size := by omega
        have hx := (hP.later HB.out).v m hmR
        obtain ⟨x1, x2⟩ := HR.out m hmR
        have HX := Lib.hid hF
        clear hP hF
        generalize ρ m = x at *
        go_wp2
        go_roundw
        case rel =>
          obtain ⟨f', rfl⟩ : ∃ f', f = f' + 1 := ⟨f - 1, by omega⟩
          have h8 := heap_setCell_at (heap_setCell_at Z0.out 0 (.int .i64 (m : Int))) 1 (.int .i64 x)
          exact ⟨f', m, x, h8, ((heap_setCell_ne _ (by omega)).trans (heap_setCell_ne _ (by omega))).trans Z1.out, (HB.out.setCell (p := ⟨w.heap.size, 0, none⟩) (Nat.le_refl _) _).setCell (p := ⟨w.heap.size, 1, none⟩) (Nat.le_refl _) _, HX.out, by omega, by omega, by omega, x1, x2⟩
        case measure =>
          have h8 := heap_setCell_at (heap_setCell_at Z0.out 0 (.int .i64 (m : Int))) 1 (.int .i64 x)
          have h9 := cellInt_of (cell2_of (v0 := .int .i64 (m : Int)) (v1 := .int .i64 x) h8).1
          rw [hci, h9]
          omega
    · have hF := HFL.out
      rw [if_neg h] at hF
      obtain ⟨rfl, rfl⟩ : bar = F1 ∧ left - s = F2 := by simpa using hF
      have hmin : left - s ≤ 1000000 := by omega
      go_wp2
      refine bodyPost_ret (v := .agg #[.int .i64 bar, .int .i64 (left - s)]) (by
        have h8 := heap_setCell_at (heap_setCell_at ((heap_setCell_ne (k := w.heap.size) (o := 1) (.int .i64 (left - s)) (by omega)).trans Z1.out) 0 (.int .i64 bar)) 1 (.int .i64 (left - s))
        obtain ⟨e0, e1, _, _⟩ := cell2_of (v0 := .int .i64 bar) (v1 := .int .i64 (left - s)) h8
        simp [results, Tryd.results44, go_sem, e0, e1]) rfl ⟨rfl, ?_⟩
      exact ((HB.out.setCell (p := ⟨w.heap.size, 1, none⟩) (Nat.le_refl _) _).setCell (p := ⟨w.heap.size + 1, 0, none⟩) (by show w.heap.size ≤ w.heap.size + 1; omega) _).setCell (p := ⟨w.heap.size + 1, 1, none⟩) (by show w.heap.size ≤ w.heap.size + 1; omega) _
end Go.Proofs.YtecgnjeakgefnaaDoor
