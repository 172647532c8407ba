/- slices.Concat of a text and a list of texts, by contract; no statement is proved here. -/
import Derived.Test.YtcifmmdfjglbnaaDoorCaApp
import Derived.Lib.AppendZeros
import Derived.Deep.RegionWith
namespace Go.Proofs.YtcifmmdfjglbnaaDoor
open Go.ChangeShapes Go.WideShapes Go.ChangeAt Go.RowKit Go.Lib
attribute [local go_sem] Oper.semAt_some

set_option maxHeartbeats 4000000 in
set_option maxRecDepth 100000 in
theorem growS_any (n : Nat) (w : World) (h0 : 0 < n) (h64 : n ≤ 1000) :
    Calls Tryd.prog 108 #[.slice none 0 0, .int .i64 (n : Int)] w fun e w' => ∃ c, e = .returned (.slice (some ⟨w.heap.size, 0, none⟩) 0 c) ∧ c ≤ 9223372036854775807 ∧ w'.ownsRow w.heap.size 9 1 (.slice (some ⟨w.heap.size, 0, none⟩) 0 c) 0 [] ∧ Below w.heap.size w w' := by
  obtain ⟨i0, hi0, hz0, hz1, hz2⟩ := info_parts infoStr6
  obtain ⟨G, hG⟩ : ∃ G, G = grownCap w n 0 9 := ⟨_, rfl⟩
  have hrz := fun ty => run_append_nil_zeros w 30 3 ty 9 i0 (.string ⟨#[]⟩) .i64 .i64 Tryd.underlying30 Tryd.underlying3 hi0 hz0 n h0 (by omega) (by omega) (by rw [hz2]; omega)
  have hGn : n ≤ G := by rw [hG]; exact grownCap_ge w _ _ _
  have hGm : G ≤ maxLen := by rw [hG]; exact grownCap_le_maxLen w _ _ _ (by unfold maxLen; omega)
  have hG63 : G ≤ 9223372036854775807 := by unfold maxLen at hGm; omega
  rw [← hG] at hrz
  have hW : (w.drew.alloc (.cells (Builtin.zeroCells (Value.string ⟨#[]⟩).cells n ++ Builtin.zeroCells (Value.string ⟨#[]⟩).cells (G - n)) 9)).ownsRow w.heap.size 9 1 (.slice (some ⟨w.heap.size, 0, none⟩) 0 G) 0 [] :=
    ⟨rfl, .inr ⟨w.heap.size, G, _, rfl, Nat.le_refl _, heap_alloc_new w.drew _, Nat.zero_le _, hGm, by rw [Array.size_append, size_zeroCells, size_zeroCells]; show n * 1 + (G - n) * 1 = G * 1; omega, rfl⟩⟩
  have HW := Lib.hid hW
  have hb : Below w.heap.size w (w.drew.alloc (.cells (Builtin.zeroCells (Value.string ⟨#[]⟩).cells n ++ Builtin.zeroCells (Value.string ⟨#[]⟩).cells (G - n)) 9)) := (Below.refl _ _).drew.alloc (Nat.le_refl _) _
  have HB := Lib.hid hb
  clear hW hb hG hGm
  generalize hX : w.drew.alloc (.cells (Builtin.zeroCells (Value.string ⟨#[]⟩).cells n ++ Builtin.zeroCells (Value.string ⟨#[]⟩).cells (G - n)) 9) = X at *
  clear hX
  go_enter Tryd.func108, Tryd.ntmps108
  go_wp2_with (at_builtin; refine wpList_append_run _ rfl _ _ _ _ rfl _ _ rfl rfl _ _ (hrz _) ?_)
  go_ret
  exact ⟨G, rfl, hG63, HW.out, HB.out⟩

set_option maxHeartbeats 4000000 in
set_option maxRecDepth 100000 in
theorem concatS_any (B b : Nat) (x : ByteArray) (A : Option Addr) (m c : Nat) (q : Nat → ByteArray) (w : World) (hx : SHas w (some ⟨b, 0, none⟩) 1 (fun _ => x)) (hq : SHas w A m q) (hm : m ≤ 500) (hnil : A = none → c = 0)
    (hB : w.heap[B]? = some (.cells #[.slice (some ⟨b, 0, none⟩) 1 1, .slice A m c] 30)) :
    Calls Tryd.prog 104 #[.slice (some ⟨B, 0, none⟩) 2 2] w (RetSt w (1 + m) (catS (fun _ => x) 1 q)) := by
  have HX := Lib.hid hx
  have HQ := Lib.hid hq
  have HNIL := Lib.hid hnil
  have HB0 := Lib.hid hB
  have two : ∀ W : World, W.heap[B]? = some (.cells #[.slice (some ⟨b, 0, none⟩) 1 1, .slice A m c] 30) → W.cell? ⟨B, 0, none⟩ = some (.slice (some ⟨b, 0, none⟩) 1 1) ∧ W.cell? ⟨B, 1, none⟩ = some (.slice A m c) ∧ B < W.heap.size := fun W h => ⟨by simp [World.cell?, h], by simp [World.cell?, h], lt_of_heap h⟩
  have TWO := Lib.hid two
  obtain ⟨g0, g1, lB⟩ := two w hB
  clear hx hq hB hnil two
  go_enter Tryd.func104, Tryd.ntmps104
  go_wp2
  go_loopw [3, 5, 11] (fun z _ i wr => w = wr ∧ ((i = .int .i64 0 ∧ z = .int .i64 0) ∨ (i = .int .i64 1 ∧ z = .int .i64 1) ∨ (i = .int .i64 2 ∧ z = .int .i64 ((1 + m : Nat) : Int)))) (fun _ _ i _ => 2 - (intOf i).toNat)
  case atStart => exact ⟨rfl, .inl ⟨rfl, rfl⟩⟩
  case round =>
    obtain ⟨rfl, ⟨rfl, rfl⟩ | ⟨rfl, rfl⟩ | ⟨rfl, rfl⟩⟩ := hrel
    · go_wp2
      go_roundw
      case rel => exact ⟨trivial, .inr (.inl ⟨rfl, by go_num⟩)⟩
      case measure => simp [intOf]
    · go_wp2
      go_roundw
      case rel => exact ⟨trivial, .inr (.inr ⟨rfl, congrArg (Value.int .i64) (by omega)⟩)⟩
      case measure => simp [intOf]
    · go_wp2_with (go_at_call 108; refine (growS_any (1 + m) w (by omega) (by omega)).mono ?_; rintro e w1 ⟨c1, rfl, hc1, hown, hb1⟩)
      have hown0 := Lib.hid hown
      have HB1 := Lib.hid hb1
      clear hown hb1 g0 g1 lB
      go_loopw [6, 8, 27] (fun v _ i wr => Below w.heap.size w wr ∧ ((i = .int .i64 0 ∧ wr.ownsRow w.heap.size 9 1 v 0 []) ∨ (i = .int .i64 1 ∧ wr.ownsRow w.heap.size 9 1 v 1 (stL (fun _ => x) 1)) ∨ (i = .int .i64 2 ∧ wr.ownsRow w.heap.size 9 1 v (1 + m) (stL (catS (fun _ => x) 1 q) (1 + m))))) (fun _ _ i _ => 2 - (intOf i).toNat)
      case atStart => exact ⟨HB1.out, .inl ⟨rfl, hown0.out⟩⟩
      case round =>
        obtain ⟨hb, ⟨rfl, hown⟩ | ⟨rfl, hown⟩ | ⟨rfl, hown⟩⟩ := hrel
        · obtain ⟨g0, g1, lB⟩ := TWO.out wr ((hb.block B (lt_of_heap HB0.out)).trans HB0.out)
          obtain ⟨v', w3, run, hown', hgrow, _⟩ := copyS6 30 hown _ 1 1 (fun _ => x) (HX.out.later hb) (fun e => by cases e) (by omega) hb.size
          have RUN := Lib.hid run
          have hb3 := hb.grown hgrow hb.size (fun j hj => (hown.lt j hj).1)
          have R := Lib.hid (And.intro hown' hb3)
          clear hown' hgrow hb3 hown hb run
          go_wp2_with (at_builtin; go_loud (refine Lib.wpList_append_run _ rfl _ _ _ _ rfl _ _ rfl rfl _ _ RUN.out ?_))
          go_roundw
          case rel => exact ⟨R.out.2, .inr (.inl ⟨rfl, R.out.1⟩)⟩
          case measure => simp [intOf]
        · obtain ⟨g0, g1, lB⟩ := TWO.out wr ((hb.block B (lt_of_heap HB0.out)).trans HB0.out)
          obtain ⟨v', w3, run, hown', hgrow, _⟩ := moreS6 30 hown (by omega) A m c q (HQ.out.later hb) HNIL.out (by omega) hb.size
          have RUN := Lib.hid run
          have hb3 := hb.grown hgrow hb.size (fun j hj => (hown.lt j hj).1)
          have R := Lib.hid (And.intro hown' hb3)
          clear hown' hgrow hb3 hown hb run
          go_wp2_with (at_builtin; go_loud (refine Lib.wpList_append_run _ rfl _ _ _ _ rfl _ _ rfl rfl _ _ RUN.out ?_))
          go_roundw
          case rel => exact ⟨R.out.2, .inr (.inr ⟨rfl, R.out.1⟩)⟩
          case measure => simp [intOf]
        · obtain ⟨A', c', rfl, q1, q2, _, q4⟩ := owns_strs hown
          have HQ' := Lib.hid q4
          have R := Lib.hid hb
          clear hown hb q4
          go_wp2
          go_ret
          exact ⟨A', c', rfl, q1, q2, HQ'.out, R.out⟩
end Go.Proofs.YtcifmmdfjglbnaaDoor
