/- The gait of footfalls, by contract (the code's side); no statement is proved here. -/
import Derived.Test.YtoflgehonabllaaDoorGaSets
namespace Go.Proofs.YtoflgehonabllaaDoor
open Go.ChangeShapes Go.WideShapes Go.ChangeAt Go.RowKit

theorem vF_is {p : Nat → Int × Int} {n : Nat} (h : vF p n = true) : n ≤ 2000 ∧ ∀ k, k < n → (0 ≤ (p k).1 ∧ (p k).1 ≤ 1000000000) ∧ 0 ≤ (p k).2 ∧ (p k).2 ≤ 3 := by
  have h1 := allTo_iff.1 h
  have h2 : ∀ k, k < n → k < 2000 ∧ (0 ≤ (p k).1 ∧ (p k).1 ≤ 1000000000) ∧ 0 ≤ (p k).2 ∧ (p k).2 ≤ 3 := fun k hk => by
    have := h1 k hk
    unfold folB at this
    rw [Bool.and_eq_true, Bool.and_eq_true, Bool.and_eq_true, decide_eq_true_iff] at this
    exact ⟨this.1, btw_iff.1 this.2.1, btw_iff.1 this.2.2.1⟩
  refine ⟨?_, fun k hk => (h2 k hk).2⟩
  rcases Nat.lt_or_ge 2000 n with h3 | h3
  · exact absurd (h2 2000 h3).1 (Nat.lt_irrefl _)
  · exact h3

/-- The error of falls and of a number beside them. -/
def ckF (p : Nat → Int × Int) (n : Nat) (r : Bool) : Int := if vF p n then (if r then 0 else 7) else 1
set_option maxHeartbeats 1000000 in
theorem checked_any5 (A : Option Addr) (n c : Nat) (p : Nat → Int × Int) (r : Bool) (w : World) (hn : n ≤ c) (hc : c ≤ 9223372036854775807) (hp : FHas w A n p) :
    Calls Tryd.prog 40 #[.slice A n c, .bool r] w fun e w' => e = .returned (.int .i64 (ckF p n r)) ∧ Below w.heap.size w w' := by
  have H1 := Lib.hid (Valid_any A n c p w hn hc hp)
  clear hp
  unfold ckF
  generalize vF p n = v at *
  cases v
  · go_enter Tryd.func40, Tryd.ntmps40
    go_wp2_with (go_at_call 15; (refine H1.out.mono ?_); rintro e w1 ⟨rfl, hb1⟩)
    go_ret
    exact ⟨rfl, hb1⟩
  · cases r
    · go_enter Tryd.func40, Tryd.ntmps40
      go_wp2_with (go_at_call 15; (refine H1.out.mono ?_); rintro e w1 ⟨rfl, hb1⟩)
      go_ret
      exact ⟨rfl, hb1⟩
    · go_enter Tryd.func40, Tryd.ntmps40
      go_wp2_with (go_at_call 15; (refine H1.out.mono ?_); rintro e w1 ⟨rfl, hb1⟩)
      go_ret
      exact ⟨rfl, hb1⟩

set_option maxHeartbeats 2000000 in
/-- Where a number first stands in a list. -/
theorem Index_any5 (A : Option Addr) (n c : Nat) (l : Nat → Int) (x : Int) (w : World) (hn : n ≤ 9223372036854775807) (hp : IHas w A n l) :
    Calls Tryd.prog 83 #[.slice A n c, .int .i64 x] w fun e w' => e = .returned (.int .i64 (firstAt (fun k => decide (x = l k)) n 0)) ∧ Below w.heap.size w w' := by
  have HP := Lib.hid hp
  clear hp
  go_enter Tryd.func83, Tryd.ntmps83
  go_wp2
  go_loopw [5, 8] (fun _ i wr => ∃ k : Nat, k ≤ n ∧ i = .int .i64 (k : Int) ∧ allTo (fun k => !decide (x = l k)) k = true ∧ wr = w) (fun _ i _ => n - (intOf i).toNat)
  case atStart => exact ⟨0, Nat.zero_le _, rfl, rfl, rfl⟩
  case round =>
    obtain ⟨k, hk, rfl, ha, rfl⟩ := hrel
    have HA := Lib.hid ha
    clear ha
    by_cases hlt : k < n
    · obtain ⟨b, off, rfl, hP⟩ := HP.out (by omega)
      have hx := hP.v k hlt
      have HY := Lib.hid (show allTo (fun k => !decide (x = l k)) (k + 1) = (allTo (fun k => !decide (x = l k)) k && !decide (x = l k)) from rfl)
      have HF := Lib.hid (fun h => firstAt_hit (f := fun k => decide (x = l k)) hlt HA.out h)
      clear hP
      by_cases he : x = l k
      · have HR := Lib.hid (HF.out (decide_eq_true he))
        have he2 : (x == l k) = true := by simpa using he
        generalize l k = y at *
        go_wp2
        go_ret
        exact ⟨int_of HR.out.symm, Below.refl _ _⟩
      · have he2 : (x == l k) = false := by simpa using he
        have HR := Lib.hid (show allTo (fun k => !decide (x = l k)) (k + 1) = true from by rw [HY.out, HA.out, decide_eq_false he]; rfl)
        generalize l k = y at *
        go_wp2
        go_roundw
        case rel => exact ⟨k + 1, by omega, by go_num, HR.out, by first | rfl | trivial⟩
        case measure => simp [intOf]; omega
    · obtain rfl : k = n := by omega
      have HR := Lib.hid (firstAt_none (f := fun k => decide (x = l k)) HA.out)
      go_wp2
      go_ret
      exact ⟨int_of HR.out.symm, Below.refl _ _⟩
theorem firstAt_bd {f : Nat → Bool} {n : Nat} : firstAt f n 0 = -1 ∨ ∃ q : Nat, q < n ∧ firstAt f n 0 = (q : Int) := by
  have h : ∀ j m, firstAt f j m = -1 ∨ ∃ q : Nat, q < m + j ∧ firstAt f j m = (q : Int) := by
    intro j
    induction j with
    | zero => intro m; exact .inl rfl
    | succ j ih =>
      intro m
      unfold firstAt
      split
      · exact .inr ⟨m, by omega, rfl⟩
      · rcases ih (m + 1) with h | ⟨q, h1, h2⟩
        · exact .inl h
        · exact .inr ⟨q, by omega, h2⟩
  simpa using h n 0

/-- Whether beats go round. -/
def goF (S : Nat → Int) (N : Nat) (g : Nat → Int) (G : Nat) : Bool :=
  decide (G ≤ N) && (decide (0 ≤ firstAt (fun k => decide (S 0 = g k)) G 0) && allTo (fun i => decide (S i = g (((firstAt (fun k => decide (S 0 = g k)) G 0).toNat + i) % G))) N)
set_option maxHeartbeats 4000000 in
set_option maxRecDepth 100000 in
theorem goesRound_any (A P : Option Addr) (N c G d : Nat) (S g : Nat → Int) (w : World) (hN : N ≤ 2000) (hG : 1 ≤ G ∧ G ≤ 4) (hp : IHas w A N S) (hq : IHas w P G g) :
    Calls Tryd.prog 47 #[.slice A N c, .slice P G d] w fun e w' => e = .returned (.bool (goF S N g G)) ∧ Below w.heap.size w w' := by
  obtain ⟨G1, G2⟩ := hG
  have HP := Lib.hid hp
  have HQ := Lib.hid hq
  have HI := Lib.hid (Index_any5 P G d g (S 0) w (by omega) hq)
  have HD := Lib.hid (show goF S N g G = (decide (G ≤ N) && (decide (0 ≤ firstAt (fun k => decide (S 0 = g k)) G 0) && allTo (fun i => decide (S i = g (((firstAt (fun k => decide (S 0 = g k)) G 0).toNat + i) % G))) N)) from rfl)
  have HB := firstAt_bd (f := fun k => decide (S 0 = g k)) (n := G)
  clear hp hq
  generalize firstAt (fun k => decide (S 0 = g k)) G 0 = st at *
  generalize goF S N g G = R at *
  by_cases h1 : G ≤ N
  · rw [decide_eq_true h1] at HD
    have h2 : ¬ (N : Int) < (G : Int) := by omega
    obtain ⟨ba, oa, rfl, hPa⟩ := HP.out (by omega)
    have hx0 := hPa.v 0 (by omega)
    rw [Nat.add_zero] at hx0
    clear hPa
    rcases HB with rfl | ⟨q, hq, rfl⟩
    · have HR := Lib.hid (show R = false from HD.out)
      clear HD
      generalize S 0 = s0 at *
      go_enter Tryd.func47, Tryd.ntmps47
      go_wp2_with (go_at_call 83; (refine HI.out.mono ?_); rintro e w1 ⟨rfl, hb1⟩)
      go_ret
      exact ⟨bool_of HR.out.symm, hb1⟩
    · have HR := Lib.hid (show R = allTo (fun i => decide (S i = g ((q + i) % G))) N from by
        have := HD.out
        rw [show decide (0 ≤ (q : Int)) = true from decide_eq_true (by omega)] at this
        exact this)
      clear HD
      have hG0 : ¬ (G : Int) = 0 := by omega
      have hS0 : ∃ s0, S 0 = s0 := ⟨_, rfl⟩
      obtain ⟨s0, hs0⟩ := hS0
      rw [hs0] at HI hx0
      clear hs0
      go_enter Tryd.func47, Tryd.ntmps47
      go_wp2_with (go_at_call 83; (refine HI.out.mono ?_); rintro e w1 ⟨rfl, hb1⟩)
      have HB1 := Lib.hid hb1
      clear hb1 hx0
      go_loopw [6, 7, 22] (fun _ _ i wr => ∃ k : Nat, k ≤ N ∧ i = .int .i64 (k : Int) ∧ allTo (fun i => decide (S i = g ((q + i) % G))) k = true ∧ Below w.heap.size w wr) (fun _ _ i _ => N - (intOf i).toNat)
      case atStart => exact ⟨0, Nat.zero_le _, rfl, rfl, HB1.out⟩
      case round =>
        obtain ⟨k, hk, rfl, ha, hb⟩ := hrel
        have HA := Lib.hid ha
        have HB := Lib.hid hb
        clear ha hb
        by_cases hlt : k < N
        · obtain ⟨b1, o1, e1, hP1⟩ := (HP.out.later HB.out) (by omega)
          cases e1
          obtain ⟨b2, o2, rfl, hP2⟩ := (HQ.out.later HB.out) (by omega)
          have hr := Nat.mod_lt (q + k) (show G > 0 by omega)
          have hx := hP1.v k hlt
          have hy := hP2.v ((q + k) % G) hr
          have l1 := hP1.lt
          have l2 := hP2.lt
          have em : ((q : Int) + (k : Int)) % (G : Int) = (((q + k) % G : Nat) : Int) := by push_cast; rfl
          have HY := Lib.hid (show allTo (fun i => decide (S i = g ((q + i) % G))) (k + 1) = (allTo (fun i => decide (S i = g ((q + i) % G))) k && decide (S k = g ((q + k) % G))) from rfl)
          have HNO := Lib.hid (fun h => allTo_false (f := fun i => decide (S i = g ((q + i) % G))) hlt h)
          clear hP1 hP2
          generalize (q + k) % G = r at *
          by_cases he : S k = g r
          · have HR2 := Lib.hid (show allTo (fun i => decide (S i = g ((q + i) % G))) (k + 1) = true from by rw [HY.out, HA.out, decide_eq_true he]; rfl)
            have he2 : (S k != g r) = false := by simpa using he
            have he3 : (S k == g r) = true := by simpa using he
            clear HNO HY
            generalize S k = x at *
            generalize g r = y at *
            go_wp2
            go_roundw
            case rel => exact ⟨k + 1, by omega, by go_num, HR2.out, HB.out⟩
            case measure => simp [intOf]; omega
          · have HR2 := Lib.hid (HR.out.trans (HNO.out (decide_eq_false he)))
            have he2 : (S k != g r) = true := by simpa using he
            have he3 : (S k == g r) = false := by simpa using he
            clear HNO HY
            generalize S k = x at *
            generalize g r = y at *
            go_wp2
            go_ret
            exact ⟨bool_of HR2.out.symm, HB.out⟩
        · obtain rfl : k = N := by omega
          go_wp2
          go_ret
          exact ⟨bool_of (HR.out.trans HA.out).symm, HB.out⟩
  · have HR := Lib.hid (show R = false from by have := HD.out; rw [decide_eq_false h1] at this; exact this)
    have h2 : (N : Int) < (G : Int) := by omega
    clear HD
    go_enter Tryd.func47, Tryd.ntmps47
    go_wp2
    go_ret
    exact ⟨bool_of HR.out.symm, Below.refl _ _⟩

/-- The beats of each gait. -/
def gLen : Nat → Nat
  | 1 => 4
  | 2 => 2
  | 3 => 3
  | 4 => 3
  | _ => 0
def gVal : Nat → Nat → Int
  | 1, 0 => 1
  | 1, 1 => 2
  | 1, 2 => 4
  | 1, _ => 8
  | 2, 0 => 9
  | 2, _ => 6
  | 3, 0 => 4
  | 3, 1 => 9
  | 3, _ => 2
  | 4, 0 => 1
  | 4, 1 => 6
  | 4, _ => 8
  | _, _ => 0
/-- The gaits lie in their variable. -/
structure EnvG (w : World) : Prop where
  rows : ∀ g, 1 ≤ g → g ≤ 4 → ∃ A c, w.cell? ⟨0, g, none⟩ = some (.slice A (gLen g) c) ∧ IHas w A (gLen g) (gVal g)
  low : 0 < w.heap.size
theorem EnvG.later {w w' : World} (h : EnvG w) (hb : Below w.heap.size w w') : EnvG w' :=
  ⟨fun g h1 h2 => by
    obtain ⟨A, c, h3, h4⟩ := h.rows g h1 h2
    exact ⟨A, c, (hb.cell (p := ⟨0, g, none⟩) h.low).trans h3, h4.later hb⟩, Nat.lt_of_lt_of_le h.low hb.size⟩
def gtF (S : Nat → Int) (N : Nat) : Nat → Nat → Int
  | 0, _ => 0
  | f + 1, g => if goF S N (gVal g) (gLen g) then (g : Int) else gtF S N f (g + 1)
theorem gLen_ok {g : Nat} (h1 : 1 ≤ g) (h2 : g ≤ 4) : 1 ≤ gLen g ∧ gLen g ≤ 4 := by
  rcases (show g = 1 ∨ g = 2 ∨ g = 3 ∨ g = 4 by omega) with rfl | rfl | rfl | rfl <;> decide
/-- The gait, and its error. -/
def gaV (p : Nat → Int × Int) (n : Nat) (tie : Int) : Int := if ckF p n (btw tie 0 1000) = 0 then gtF (lsF p tie n) (lsN p tie n) 4 1 else 0
theorem lsN_le (p : Nat → Int × Int) (tie : Int) (n : Nat) : lsN p tie n ≤ n := by
  unfold lsN
  split
  · exact bN_le
  · exact Nat.zero_le _

set_option maxHeartbeats 4000000 in
set_option maxRecDepth 100000 in
theorem Gait_any (A : Option Addr) (n c : Nat) (p : Nat → Int × Int) (tie : Int) (w : World) (hn : n ≤ c) (hc : c ≤ 9223372036854775807) (hp : FHas w A n p) (hE : EnvG w) :
    Calls Tryd.prog 13 #[.slice A n c, .int .i64 tie] w fun e w' => e = .returned (.tuple #[.int .i64 (gaV p n tie), .int .i64 (ckF p n (btw tie 0 1000))]) ∧ Below w.heap.size w w' := by
  have HP := Lib.hid hp
  have HE := Lib.hid hE
  have H1 := Lib.hid (fun w => isBetween_any5 tie 0 1000 w)
  have H2 := Lib.hid (fun w hp => checked_any5 A n c p (btw tie 0 1000) w hn hc hp)
  clear hp hE
  by_cases hck : ckF p n (btw tie 0 1000) = 0
  · have hv : vF p n = true ∧ btw tie 0 1000 = true := by
      unfold ckF at hck
      by_cases h1 : vF p n = true
      · rw [if_pos h1] at hck
        by_cases h2 : btw tie 0 1000 = true
        · exact ⟨h1, h2⟩
        · rw [if_neg h2] at hck; cases hck
      · rw [if_neg h1] at hck; cases hck
    obtain ⟨h2000, hpt⟩ := vF_is hv.1
    have H3 := Lib.hid (fun w hp => limbSets_any A n c tie p w hn hc h2000 (btw_iff.1 hv.2) hpt hp)
    have hN := lsN_le p tie n
    have hgv : gaV p n tie = gtF (lsF p tie n) (lsN p tie n) 4 1 := by unfold gaV; rw [if_pos hck]
    rw [hck] at H2 ⊢
    rw [hgv]
    clear hv hpt hck hgv
    generalize btw tie 0 1000 = r at *
    generalize lsF p tie n = S at *
    generalize lsN p tie n = N at *
    have HG := Lib.hid (show gtF S N 4 1 = gtF S N 4 1 from rfl)
    obtain ⟨V, hV⟩ : ∃ V, V = gtF S N 4 1 := ⟨_, rfl⟩
    rw [← hV]
    have HV := Lib.hid hV
    clear hV HG
    go_enter Tryd.func13, Tryd.ntmps13
    go_wp2_with fail
    refine (H1.out _).mono ?_
    rintro e w1 ⟨rfl, hb1⟩
    have HB := Lib.hid hb1
    clear hb1
    go_wp2_with fail
    refine (H2.out _ (HP.out.later HB.out)).mono ?_
    rintro e w2 ⟨rfl, hb2⟩
    have HB := Lib.hid (bthen HB.out hb2)
    clear hb2
    go_wp2_with fail
    refine (H3.out _ (HP.out.later HB.out)).mono ?_
    rintro e w3 ⟨A3, c3, rfl, n3, m3, _, hi3, hb3⟩
    have HB3 := Lib.hid (bthen HB.out hb3)
    have HI := Lib.hid hi3
    clear hb3 hi3
    go_wp2
    go_loopw [4, 5, 8] (fun _ _ g wr => ∃ k : Nat, 1 ≤ k ∧ k ≤ 5 ∧ g = .int .i64 (k : Int) ∧ gtF S N (5 - k) k = V ∧ Below w3.heap.size w3 wr) (fun _ _ g _ => 5 - (intOf g).toNat)
    case atStart => exact ⟨1, by omega, by omega, rfl, HV.out.symm, Below.refl _ _⟩
    case round =>
      obtain ⟨k, hk1, hk2, rfl, hv, hb⟩ := hrel
      have HVk := Lib.hid hv
      have HBk := Lib.hid hb
      clear hv hb
      by_cases hlt : k < 5
      · have HEk := HE.out.later (bthen HB3.out HBk.out)
        obtain ⟨Ag, cg, hcell, hgi⟩ := HEk.rows k hk1 (by omega)
        have hlow := HEk.low
        have hgl := gLen_ok hk1 (show k ≤ 4 by omega)
        have HC := Lib.hid (goesRound_any A3 Ag N c3 (gLen k) cg S (gVal k) wr (by omega) hgl (HI.out.later HBk.out) hgi)
        have HST := Lib.hid (show gtF S N (5 - k) k = if goF S N (gVal k) (gLen k) then (k : Int) else gtF S N (5 - (k + 1)) (k + 1) from by
          obtain ⟨f, hf⟩ : ∃ f, 5 - k = f + 1 := ⟨4 - k, by omega⟩
          rw [hf, show 5 - (k + 1) = f by omega]
          rfl)
        clear HEk hgi hgl
        generalize gLen k = L at *
        cases hr : goF S N (gVal k) L
        · rw [hr] at HC HST
          clear hr
          go_wp2_with (go_at_call 47; (refine HC.out.mono ?_); rintro e w4 ⟨rfl, hb4⟩; have HB4 := Lib.hid (bthen HBk.out hb4); clear hb4)
          go_roundw
          case rel => exact ⟨k + 1, by omega, by omega, by go_num, by have := HST.out; rw [if_neg (by simp)] at this; rw [← this]; exact HVk.out, HB4.out⟩
          case measure => simp [intOf]; omega
        · rw [hr] at HC HST
          clear hr
          have HR := Lib.hid (show V = (k : Int) from by rw [← HVk.out, HST.out, if_pos rfl])
          go_wp2_with (go_at_call 47; (refine HC.out.mono ?_); rintro e w4 ⟨rfl, hb4⟩; have HB4 := Lib.hid (bthen HBk.out hb4); clear hb4)
          go_ret2
          exact ⟨by rw [HR.out]; rfl, bthen HB3.out HB4.out⟩
      · obtain rfl : k = 5 := by omega
        have HR := Lib.hid (show V = 0 from HVk.out.symm)
        go_wp2
        go_ret2
        exact ⟨by rw [HR.out]; rfl, bthen HB3.out HBk.out⟩
  · have hgv : gaV p n tie = 0 := by unfold gaV; rw [if_neg hck]
    rw [hgv]
    have hne : (ckF p n (btw tie 0 1000) == 0) = false := by simpa using hck
    clear hck hgv
    generalize ckF p n (btw tie 0 1000) = E at *
    generalize btw tie 0 1000 = r at *
    go_enter Tryd.func13, Tryd.ntmps13
    go_wp2_with fail
    refine (H1.out _).mono ?_
    rintro e w1 ⟨rfl, hb1⟩
    have HB := Lib.hid hb1
    clear hb1
    go_wp2_with fail
    refine (H2.out _ (HP.out.later HB.out)).mono ?_
    rintro e w2 ⟨rfl, hb2⟩
    go_wp2
    go_ret2
    exact ⟨rfl, bthen HB.out hb2⟩
end Go.Proofs.YtoflgehonabllaaDoor
