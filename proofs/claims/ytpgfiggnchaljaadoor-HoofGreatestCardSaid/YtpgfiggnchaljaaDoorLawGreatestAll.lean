/- The walk of HoofGreatest, whole; no statement is proved here. -/
import Derived.Test.YtpgfiggnchaljaaDoorLawGreatestX
import Derived.Test.YtpgfiggnchaljaaDoorLawGreatestY
import Derived.Test.YtpgfiggnchaljaaDoorLawGreatestZ
import Derived.Test.YtpgfiggnchaljaaDoorLawGreatestV
namespace Go.Proofs.YtpgfiggnchaljaaDoor
open Go.ChangeShapes Go.WideShapes Go.ChangeAt Go.RowKit

theorem lawGreatest_any (a b c d a' b' c' d' lo hi si le : Int) (w : World) (hT : Tab w) :
    Calls Tryd.prog 11 #[.agg #[.int .i64 a, .int .i64 b, .int .i64 c, .int .i64 d], .agg #[.int .i64 a', .int .i64 b', .int .i64 c', .int .i64 d'], .agg #[.int .i64 lo, .int .i64 hi, .int .i64 si, .int .i64 le]] w fun e w' => e = .returned (.bool true) ∧ Below w.heap.size w w' := by
  by_cases hv : vH a b c d = true ∧ vB lo hi si le = true
  rotate_left
  · have hE : trE a b c d lo hi si le = 1 := by unfold trE; rw [if_neg hv]
    exact greatest_bad a b c d a' b' c' d' lo hi si le w hT _ _ _ _ hE rfl rfl rfl rfl
  have hF : kB a' b' c' d' lo hi si le = true → fsE a' b' c' d' lo hi si le = 0 := fun h => fsE_of (kB_iff.1 h).1 hv.2
  have hF1 : fsE a' b' c' d' lo hi si le = 0 ∨ (fsE a' b' c' d' lo hi si le = 1 ∧ kB a' b' c' d' lo hi si le = false) := by
    cases h' : vH a' b' c' d'
    · exact .inr ⟨by simp [fsE, h'], by simp [kB, h']⟩
    · exact .inl (fsE_of h' hv.2)
  by_cases hE : trE a b c d lo hi si le = 0
  · have hK := trim_keeps hE
    obtain ⟨o1, o2, o3, o4, o5⟩ := own_trim hK
    have hKE := fsE_of (kB_iff.1 hK).1 hv.2
    have hOE := fsE_of hv.1 hv.2
    have hWi : le4 (min a (1000 * b / lo)) (min b (hi * a / 1000)) (min c (d + si)) (min d (c + si)) a b c d = true := le4_iff.2 (by omega)
    have hown : kB a b c d lo hi si le = decide (min a (1000 * b / lo) = a ∧ min b (hi * a / 1000) = b ∧ min c (d + si) = c ∧ min d (c + si) = d) := by
      by_cases hk : kB a b c d lo hi si le = true
      · rw [hk]; exact (decide_eq_true (own_trim hk).2).symm
      · have hn : ¬ (min a (1000 * b / lo) = a ∧ min b (hi * a / 1000) = b ∧ min c (d + si) = c ∧ min d (c + si) = d) := fun ⟨e1, e2, e3, e4⟩ => by
          rw [e1, e2, e3, e4] at hK
          exact hk hK
        rw [decide_eq_false hn]
        simpa using hk
    have t0 : ∀ x : Int, trL 0 x = x := fun x => by simp [trL]
    rcases hF1 with hF0 | ⟨hF1, hk⟩
    · cases hk : kB a' b' c' d' lo hi si le
      · exact greatest_ok_y a b c d a' b' c' d' lo hi si le w hT _ _ _ _ hE (t0 _) (t0 _) (t0 _) (t0 _) hk hF0 _ hK hKE o1 ((t0 _).trans o2) ((t0 _).trans o3) ((t0 _).trans o4) ((t0 _).trans o5) rfl hOE hWi hown
      · cases hw : le4 a' b' c' d' a b c d
        · exact greatest_ok_z a b c d a' b' c' d' lo hi si le w hT _ _ _ _ hE (t0 _) (t0 _) (t0 _) (t0 _) hk hF0 hw _ hK hKE o1 ((t0 _).trans o2) ((t0 _).trans o3) ((t0 _).trans o4) ((t0 _).trans o5) rfl hOE hWi hown
        · exact greatest_ok_v a b c d a' b' c' d' lo hi si le w hT _ _ _ _ hE (t0 _) (t0 _) (t0 _) (t0 _) hk hF0 hw (le4_iff.2 (within_trim hk hw)) _ hK hKE o1 ((t0 _).trans o2) ((t0 _).trans o3) ((t0 _).trans o4) ((t0 _).trans o5) rfl hOE hWi hown
    · exact greatest_ok_x a b c d a' b' c' d' lo hi si le w hT _ _ _ _ hE (t0 _) (t0 _) (t0 _) (t0 _) hk hF1 _ hK hKE o1 ((t0 _).trans o2) ((t0 _).trans o3) ((t0 _).trans o4) ((t0 _).trans o5) rfl hOE hWi hown
  · have hE8 : trE a b c d lo hi si le = 8 := by
      unfold trE at hE ⊢
      rw [if_pos hv] at hE ⊢
      split at hE
      · exact absurd rfl hE
      · rename_i h; rw [if_neg h]
    rcases hF1 with hF0 | ⟨hF1, hk⟩
    · cases hk : kB a' b' c' d' lo hi si le
      · exact greatest_none_y a b c d a' b' c' d' lo hi si le w hT _ _ _ _ hE8 rfl rfl rfl rfl hk hF0
      · have hw : le4 a' b' c' d' a b c d = false := by
          cases hw : le4 a' b' c' d' a b c d
          · rfl
          · obtain ⟨q1, q2, q3, q4⟩ := within_trim hk hw
            obtain ⟨_, _, _, _, _, _, q5, q6, q7, q8⟩ := kB_iff.1 hk
            exact absurd (trE_zero.2 ⟨hv.1, hv.2, by omega⟩) hE
        exact greatest_none_z a b c d a' b' c' d' lo hi si le w hT _ _ _ _ hE8 rfl rfl rfl rfl hk hF0 hw
    · exact greatest_none_x a b c d a' b' c' d' lo hi si le w hT _ _ _ _ hE8 rfl rfl rfl rfl hk hF1
end Go.Proofs.YtpgfiggnchaljaaDoor
