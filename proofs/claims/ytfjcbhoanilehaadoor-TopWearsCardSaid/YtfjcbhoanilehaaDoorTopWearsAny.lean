/- TopWears, whole; no statement is proved here. -/
import Derived.Test.YtfjcbhoanilehaaDoorLawTopWears
namespace Go.Proofs.YtfjcbhoanilehaaDoor
open Go.ChangeShapes Go.WideShapes Go.ChangeAt Go.RowKit Go.Shelf

theorem worn_less {A B C D per m : Int} (hv : vH A B C D = true) (hE : wE A B C D per m = 0) :
    le4 (wL 0 per m A) (wL 0 per m B) (wL 0 per m C) (wL 0 per m D) A B C D = true ∧ vH (wL 0 per m A) (wL 0 per m B) (wL 0 per m C) (wL 0 per m D) = true := by
  obtain ⟨_, h1, h2, h3, h4⟩ := wE_zero.1 hE
  obtain ⟨⟨a1, a2⟩, ⟨b1, b2⟩, ⟨c1, c2⟩, ⟨d1, d2⟩⟩ := in4_iff.1 hv
  have h5 := Int.mul_nonneg h1 h3
  refine ⟨le4_iff.2 ?_, vH_worn hv h1 h3⟩
  simp only [wL, if_true]
  omega
theorem lawTopWears_any (a b c d p q r u lo hi si le x y per m : Int) (s : Nat → Int) (w : World) (hT : Tab w) :
    Calls Tryd.prog 4 #[.agg #[.int .i64 a, .int .i64 b, .int .i64 c, .int .i64 d], .agg #[.int .i64 p, .int .i64 q, .int .i64 r, .int .i64 u, .int .i64 (s 0), .int .i64 (s 1), .int .i64 (s 2), .int .i64 (s 3), .int .i64 (s 4), .int .i64 (s 5), .int .i64 (s 6), .int .i64 (s 7), .int .i64 (s 8), .int .i64 (s 9), .int .i64 (s 10), .int .i64 (s 11), .int .i64 lo, .int .i64 hi, .int .i64 si, .int .i64 le], .agg #[.int .i64 x, .int .i64 y], .agg #[.int .i64 per, .int .i64 m]] w fun e w' => e = .returned (.bool true) ∧ Below w.heap.size w w' := by
  obtain ⟨A, hA⟩ : ∃ A, gL 0 (shareB s y - shareB s x) a p = A := ⟨_, rfl⟩
  obtain ⟨B, hB⟩ : ∃ A, gL 0 (shareB s y - shareB s x) b q = A := ⟨_, rfl⟩
  obtain ⟨C, hC⟩ : ∃ A, gL 0 (shareB s y - shareB s x) c r = A := ⟨_, rfl⟩
  obtain ⟨D, hD⟩ : ∃ A, gL 0 (shareB s y - shareB s x) d u = A := ⟨_, rfl⟩
  have key : gE a b c d p q r u s x y = 0 → wE A B C D per m = 0 → vH A B C D = true ∧ le4 (wL 0 per m A) (wL 0 per m B) (wL 0 per m C) (wL 0 per m D) A B C D = true ∧ vH (wL 0 per m A) (wL 0 per m B) (wL 0 per m C) (wL 0 per m D) = true := by
    intro e1 e2
    have hv : vH A B C D = true := by
      rw [← hA, ← hB, ← hC, ← hD]
      simp only [gL, if_true]
      exact gE_zero e1
    exact ⟨hv, worn_less hv e2⟩
  by_cases h1 : 0 ≤ x
  · by_cases h2 : y ≤ 100000
    · by_cases h3 : 5000 < wrap64 (y - x)
      · exact wears_long a b c d p q r u lo hi si le x y per m s w hT h1 h2 h3
      · by_cases e1 : gE a b c d p q r u s x y = 0
        · by_cases e2 : wE A B C D per m = 0
          · obtain ⟨hv, hW, hv'⟩ := key e1 e2
            obtain ⟨A', hA'⟩ : ∃ Z, wL 0 per m A = Z := ⟨_, rfl⟩
            obtain ⟨B', hB'⟩ : ∃ Z, wL 0 per m B = Z := ⟨_, rfl⟩
            obtain ⟨C', hC'⟩ : ∃ Z, wL 0 per m C = Z := ⟨_, rfl⟩
            obtain ⟨D', hD'⟩ : ∃ Z, wL 0 per m D = Z := ⟨_, rfl⟩
            rw [hA', hB', hC', hD'] at hW hv'
            obtain ⟨⟨a1, a2⟩, ⟨b1, b2⟩, ⟨c1, c2⟩, ⟨d1, d2⟩⟩ := in4_iff.1 hv
            obtain ⟨⟨a3, a4⟩, ⟨b3, b4⟩, ⟨c3, c4⟩, ⟨d3, d4⟩⟩ := in4_iff.1 hv'
            obtain ⟨l1, l2, l3, l4⟩ := le4_iff.1 hW
            have hK : tkE A B C D A' B' C' D' = 0 := by unfold tkE; rw [if_pos ⟨hv, hv'⟩, if_pos hW]
            have hO2 : hoE A B C D = 0 := by unfold hoE; rw [if_pos hv]
            have hO3 : hoE A' B' C' D' = 0 := by unfold hoE; rw [if_pos hv']
            have hO1 : hoE (A - A') (B - B') (C - C') (D - D') = 0 := by unfold hoE; rw [if_pos (show vH (A - A') (B - B') (C - C') (D - D') = true from in4_iff.2 ⟨by omega, by omega, by omega, by omega⟩)]
            have t0 : ∀ z : Int, trL 0 z = z := fun z => by simp [trL]
            have v0 : ∀ a b c d : Int, hoV 0 a b c d = a + b + c + d := fun a b c d => by simp [hoV]
            by_cases e3 : trE A' B' C' D' lo hi si le = 0
            · obtain ⟨e4, hU⟩ := trim_mono hv hW e3
              exact wears_okz a b c d p q r u lo hi si le x y per m s w hT h1 h2 (by omega) _ A B C D e1 rfl hA hB hC hD A' B' C' D' e2 hA' hB' hC' hD' _ _ _ _ _ _ _ hK (t0 _) (t0 _) (t0 _) (t0 _) hO1 (v0 _ _ _ _) hO2 (v0 _ _ _ _) hO3 (v0 _ _ _ _) hW hv' (by omega) (by omega) (by omega) _ _ _ _ _ _ _ _ e4 e3 (t0 _) (t0 _) (t0 _) (t0 _) (t0 _) (t0 _) (t0 _) (t0 _) hU
            · exact wears_noz a b c d p q r u lo hi si le x y per m s w hT h1 h2 (by omega) _ A B C D e1 rfl hA hB hC hD A' B' C' D' e2 hA' hB' hC' hD' _ _ _ _ _ _ _ hK (t0 _) (t0 _) (t0 _) (t0 _) hO1 (v0 _ _ _ _) hO2 (v0 _ _ _ _) hO3 (v0 _ _ _ _) hW hv' (by omega) (by omega) (by omega) _ _ _ _ _ _ _ _ _ _ rfl rfl rfl rfl rfl rfl rfl rfl rfl rfl e3
          · exact wears_e2z a b c d p q r u lo hi si le x y per m s w hT h1 h2 (by omega) _ A B C D e1 rfl hA hB hC hD _ _ _ _ _ rfl rfl rfl rfl rfl e2
        · exact wears_e1z a b c d p q r u lo hi si le x y per m s w hT h1 h2 (by omega) _ _ _ _ _ _ rfl rfl rfl rfl rfl rfl e1
    · by_cases e1 : gE a b c d p q r u s x y = 0
      · by_cases e2 : wE A B C D per m = 0
        · obtain ⟨hv, hW, hv'⟩ := key e1 e2
          obtain ⟨A', hA'⟩ : ∃ Z, wL 0 per m A = Z := ⟨_, rfl⟩
          obtain ⟨B', hB'⟩ : ∃ Z, wL 0 per m B = Z := ⟨_, rfl⟩
          obtain ⟨C', hC'⟩ : ∃ Z, wL 0 per m C = Z := ⟨_, rfl⟩
          obtain ⟨D', hD'⟩ : ∃ Z, wL 0 per m D = Z := ⟨_, rfl⟩
          rw [hA', hB', hC', hD'] at hW hv'
          obtain ⟨⟨a1, a2⟩, ⟨b1, b2⟩, ⟨c1, c2⟩, ⟨d1, d2⟩⟩ := in4_iff.1 hv
          obtain ⟨⟨a3, a4⟩, ⟨b3, b4⟩, ⟨c3, c4⟩, ⟨d3, d4⟩⟩ := in4_iff.1 hv'
          obtain ⟨l1, l2, l3, l4⟩ := le4_iff.1 hW
          have hK : tkE A B C D A' B' C' D' = 0 := by unfold tkE; rw [if_pos ⟨hv, hv'⟩, if_pos hW]
          have hO2 : hoE A B C D = 0 := by unfold hoE; rw [if_pos hv]
          have hO3 : hoE A' B' C' D' = 0 := by unfold hoE; rw [if_pos hv']
          have hO1 : hoE (A - A') (B - B') (C - C') (D - D') = 0 := by unfold hoE; rw [if_pos (show vH (A - A') (B - B') (C - C') (D - D') = true from in4_iff.2 ⟨by omega, by omega, by omega, by omega⟩)]
          have t0 : ∀ z : Int, trL 0 z = z := fun z => by simp [trL]
          have v0 : ∀ a b c d : Int, hoV 0 a b c d = a + b + c + d := fun a b c d => by simp [hoV]
          by_cases e3 : trE A' B' C' D' lo hi si le = 0
          · obtain ⟨e4, hU⟩ := trim_mono hv hW e3
            exact wears_oky a b c d p q r u lo hi si le x y per m s w hT h1 (by omega) _ A B C D e1 rfl hA hB hC hD A' B' C' D' e2 hA' hB' hC' hD' _ _ _ _ _ _ _ hK (t0 _) (t0 _) (t0 _) (t0 _) hO1 (v0 _ _ _ _) hO2 (v0 _ _ _ _) hO3 (v0 _ _ _ _) hW hv' (by omega) (by omega) (by omega) _ _ _ _ _ _ _ _ e4 e3 (t0 _) (t0 _) (t0 _) (t0 _) (t0 _) (t0 _) (t0 _) (t0 _) hU
          · exact wears_noy a b c d p q r u lo hi si le x y per m s w hT h1 (by omega) _ A B C D e1 rfl hA hB hC hD A' B' C' D' e2 hA' hB' hC' hD' _ _ _ _ _ _ _ hK (t0 _) (t0 _) (t0 _) (t0 _) hO1 (v0 _ _ _ _) hO2 (v0 _ _ _ _) hO3 (v0 _ _ _ _) hW hv' (by omega) (by omega) (by omega) _ _ _ _ _ _ _ _ _ _ rfl rfl rfl rfl rfl rfl rfl rfl rfl rfl e3
        · exact wears_e2y a b c d p q r u lo hi si le x y per m s w hT h1 (by omega) _ A B C D e1 rfl hA hB hC hD _ _ _ _ _ rfl rfl rfl rfl rfl e2
      · exact wears_e1y a b c d p q r u lo hi si le x y per m s w hT h1 (by omega) _ _ _ _ _ _ rfl rfl rfl rfl rfl rfl e1
  · by_cases e1 : gE a b c d p q r u s x y = 0
    · by_cases e2 : wE A B C D per m = 0
      · obtain ⟨hv, hW, hv'⟩ := key e1 e2
        obtain ⟨A', hA'⟩ : ∃ Z, wL 0 per m A = Z := ⟨_, rfl⟩
        obtain ⟨B', hB'⟩ : ∃ Z, wL 0 per m B = Z := ⟨_, rfl⟩
        obtain ⟨C', hC'⟩ : ∃ Z, wL 0 per m C = Z := ⟨_, rfl⟩
        obtain ⟨D', hD'⟩ : ∃ Z, wL 0 per m D = Z := ⟨_, rfl⟩
        rw [hA', hB', hC', hD'] at hW hv'
        obtain ⟨⟨a1, a2⟩, ⟨b1, b2⟩, ⟨c1, c2⟩, ⟨d1, d2⟩⟩ := in4_iff.1 hv
        obtain ⟨⟨a3, a4⟩, ⟨b3, b4⟩, ⟨c3, c4⟩, ⟨d3, d4⟩⟩ := in4_iff.1 hv'
        obtain ⟨l1, l2, l3, l4⟩ := le4_iff.1 hW
        have hK : tkE A B C D A' B' C' D' = 0 := by unfold tkE; rw [if_pos ⟨hv, hv'⟩, if_pos hW]
        have hO2 : hoE A B C D = 0 := by unfold hoE; rw [if_pos hv]
        have hO3 : hoE A' B' C' D' = 0 := by unfold hoE; rw [if_pos hv']
        have hO1 : hoE (A - A') (B - B') (C - C') (D - D') = 0 := by unfold hoE; rw [if_pos (show vH (A - A') (B - B') (C - C') (D - D') = true from in4_iff.2 ⟨by omega, by omega, by omega, by omega⟩)]
        have t0 : ∀ z : Int, trL 0 z = z := fun z => by simp [trL]
        have v0 : ∀ a b c d : Int, hoV 0 a b c d = a + b + c + d := fun a b c d => by simp [hoV]
        by_cases e3 : trE A' B' C' D' lo hi si le = 0
        · obtain ⟨e4, hU⟩ := trim_mono hv hW e3
          exact wears_okx a b c d p q r u lo hi si le x y per m s w hT (by omega) _ A B C D e1 rfl hA hB hC hD A' B' C' D' e2 hA' hB' hC' hD' _ _ _ _ _ _ _ hK (t0 _) (t0 _) (t0 _) (t0 _) hO1 (v0 _ _ _ _) hO2 (v0 _ _ _ _) hO3 (v0 _ _ _ _) hW hv' (by omega) (by omega) (by omega) _ _ _ _ _ _ _ _ e4 e3 (t0 _) (t0 _) (t0 _) (t0 _) (t0 _) (t0 _) (t0 _) (t0 _) hU
        · exact wears_nox a b c d p q r u lo hi si le x y per m s w hT (by omega) _ A B C D e1 rfl hA hB hC hD A' B' C' D' e2 hA' hB' hC' hD' _ _ _ _ _ _ _ hK (t0 _) (t0 _) (t0 _) (t0 _) hO1 (v0 _ _ _ _) hO2 (v0 _ _ _ _) hO3 (v0 _ _ _ _) hW hv' (by omega) (by omega) (by omega) _ _ _ _ _ _ _ _ _ _ rfl rfl rfl rfl rfl rfl rfl rfl rfl rfl e3
      · exact wears_e2x a b c d p q r u lo hi si le x y per m s w hT (by omega) _ A B C D e1 rfl hA hB hC hD _ _ _ _ _ rfl rfl rfl rfl rfl e2
    · exact wears_e1x a b c d p q r u lo hi si le x y per m s w hT (by omega) _ _ _ _ _ _ rfl rfl rfl rfl rfl rfl e1
end Go.Proofs.YtfjcbhoanilehaaDoor
