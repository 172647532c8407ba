/- One more look at all ways (pure), and a table's sum in memory; no statement is proved here. -/
import Derived.Test.YtclallodmbianaaRoShG
import Derived.Test.YtclallodmbianaaRoRefV
namespace Go.Proofs.Ytclallodmbianaa
open Go.ChangeShapes Go.WideShapes Go.ChangeAt Go.RowKit

def updT (T : Nat → Nat → Int) (i k : Nat) (v : Int) : Nat → Nat → Int := fun x y => if x = i ∧ y = k then v else T x y
/-- A table amid a look at all ways: what it came from, what it began with, which ways were looked at. -/
structure PassAt (n : Nat) (T0 U U' : Nat → Nat → Int) (V : Nat → Nat → Nat → Prop) : Prop where
  ok : TabOk n U'
  le0 : TabLe n U' T0
  most : ∀ S, TriTo n n S → TabLe n S T0 → TabLe n S U'
  leU : TabLe n U' U
  vis : (∀ x y, x < n → y < n → U' x y = U x y) → ∀ x y z, V x y z → x < n → y < n → z < n → U x y ≤ U x z + U z y
theorem PassAt.step {n : Nat} {T0 U U' : Nat → Nat → Int} {V : Nat → Nat → Nat → Prop} (h : PassAt n T0 U U' V) {i j k : Nat} (hi : i < n) (hj : j < n) (hk : k < n) :
    PassAt n T0 U (updT U' i j (min (U' i j) (U' i k + U' k j))) (fun x y z => V x y z ∨ (x = i ∧ y = j ∧ z = k)) := by
  have le1 : TabLe n (updT U' i j (min (U' i j) (U' i k + U' k j))) U' := fun x y hx hy => by
    unfold updT
    split
    · next e => obtain ⟨rfl, rfl⟩ := e; omega
    · exact Int.le_refl _
  refine ⟨⟨fun x hx => ?_, fun x y hx hy => ?_⟩, fun x y hx hy => Int.le_trans (le1 x y hx hy) (h.le0 x y hx hy), fun S hs hle x y hx hy => ?_, fun x y hx hy => Int.le_trans (le1 x y hx hy) (h.leU x y hx hy), fun he => ?_⟩
  · unfold updT
    split
    · next e =>
      obtain ⟨rfl, rfl⟩ := e
      have h1 := h.ok.1 x hx
      have h2 := h.ok.2 x k hx hk
      have h3 := h.ok.2 k x hk hx
      omega
    · exact h.ok.1 x hx
  · unfold updT
    split
    · next e =>
      obtain ⟨rfl, rfl⟩ := e
      have h1 := h.ok.2 x y hx hy
      have h2 := h.ok.2 x k hx hk
      have h3 := h.ok.2 k y hk hy
      omega
    · exact h.ok.2 x y hx hy
  · unfold updT
    split
    · next e => obtain ⟨rfl, rfl⟩ := e; exact tri_min hs (h.most S hs hle) hx hy hk
    · exact h.most S hs hle x y hx hy
  · have heq : ∀ x y, x < n → y < n → U' x y = U x y := fun x y hx hy => by
      have h1 := h.leU x y hx hy
      have h2 := le1 x y hx hy
      have h3 := he x y hx hy
      omega
    rintro x y z (hv | ⟨rfl, rfl, rfl⟩) hx hy hz
    · exact h.vis heq x y z hv hx hy hz
    · have h1 := he x y hx hy
      unfold updT at h1
      rw [if_pos ⟨rfl, rfl⟩, heq x y hx hy, heq x z hx hz, heq z y hz hy] at h1
      omega
theorem PassAt.mono {n : Nat} {T0 U U' : Nat → Nat → Int} {V V' : Nat → Nat → Nat → Prop} (h : PassAt n T0 U U' V) (hv : ∀ x y z, x < n → y < n → z < n → V' x y z → V x y z) : PassAt n T0 U U' V' :=
  ⟨h.ok, h.le0, h.most, h.leU, fun he x y z h1 hx hy hz => h.vis he x y z (hv x y z hx hy hz h1) hx hy hz⟩
theorem sumTo_eq {f g : Nat → Int} : ∀ {n : Nat}, (∀ k, k < n → f k = g k) → sumTo f n = sumTo g n
  | 0, _ => rfl
  | n + 1, h => by show sumTo f n + f n = sumTo g n + g n; rw [sumTo_eq fun k hk => h k (by omega), h n (by omega)]
theorem sumTo_nn {f : Nat → Int} : ∀ {n : Nat}, (∀ k, k < n → 0 ≤ f k) → 0 ≤ sumTo f n
  | 0, _ => Int.le_refl _
  | n + 1, h => by
    have h1 := sumTo_nn (f := f) (n := n) fun k hk => h k (by omega)
    have h2 := h n (by omega)
    show 0 ≤ sumTo f n + f n
    omega
theorem tabSum_eq {S T : Nat → Nat → Int} {n : Nat} (h : ∀ i k, i < n → k < n → S i k = T i k) : tabSum S n = tabSum T n := sumTo_eq fun i hi => sumTo_eq fun k hk => h i k hi hk
theorem tabSum_nn {n : Nat} {T : Nat → Nat → Int} (h : TabOk n T) : 0 ≤ tabSum T n := sumTo_nn fun i hi => sumTo_nn fun k hk => h.2 i k hi hk
/-- After a whole look at a table that a way shortens, the sum is less. -/
theorem PassAt.less {n : Nat} {T0 U U' : Nat → Nat → Int} (h : PassAt n T0 U U' (fun _ _ _ => True)) (hno : ¬ TriTo n n U) : (tabSum U' n).toNat < (tabSum U n).toNat := by
  have h1 : tabSum U' n < tabSum U n := by
    refine tabSum_lt h.leU ?_
    refine Classical.byContradiction fun hn => hno fun i k j hi hk hj => h.vis (fun x y hx hy => ?_) i k j trivial hi hk hj
    have h2 := h.leU x y hx hy
    rcases Int.lt_or_le (U' x y) (U x y) with h3 | h3
    · exact absurd ⟨x, y, hx, hy, h3⟩ hn
    · omega
  have h2 := tabSum_nn h.ok
  omega
theorem tri_dir {n : Nat} {T : Nat → Nat → Int} (h : triN n (tabL T n) = true) : TriTo n n T := fun i k j hi hk hj => by
  have h1 := triN_at h hi hj hk
  rwa [tabL_at hk, tabL_at hj, tabL_at hk] at h1
theorem dir_tri {n : Nat} {T : Nat → Nat → Int} (h : TriTo n n T) : triN n (tabL T n) = true :=
  allTo_iff.2 fun i hi => allTo_iff.2 fun b hb => allTo_iff.2 fun k hk => decide_eq_true (by rw [tabL_at hk, tabL_at hb, tabL_at hk]; exact h i k b hi hk hb)
/-- A table of valid times is one of valid roads. -/
theorem roads_tab {n : Nat} {T : Nat → Nat → Int} (hn : 1 ≤ n ∧ n ≤ 9) (h : TabOk n T) (hle : ∀ i k, i < n → k < n → T i k ≤ 600) : roadsB n (tabL T n) = true := by
  unfold roadsB
  rw [Bool.and_eq_true, btw_iff, allTo_iff]
  refine ⟨by omega, fun i hi => ?_⟩
  unfold rowB
  rw [tabL_len, decide_eq_true rfl, Bool.true_and, Bool.and_eq_true, decide_eq_true_iff, allTo_iff]
  refine ⟨by rw [tabL_at hi]; exact h.1 i hi, fun k hk => ?_⟩
  rw [tabL_at hk, btw_iff]
  exact ⟨h.2 i k hi hk, hle i k hi hk⟩
/-- A table's sum, read off the memory. -/
def memS (G : Nat → Nat) (n : Nat) (W : World) : Nat := (tabSum (fun i k => intOf ((W.cell? ⟨G i, k, none⟩).getD undef)) n).toNat
theorem TabAt.mem {w W : World} {go n : Nat} {c G : Nat → Nat} {T : Nat → Nat → Int} (h : TabAt w W go n c G T) : memS G n W = (tabSum T n).toNat := by
  unfold memS
  exact congrArg Int.toNat (tabSum_eq (S := fun i k => intOf ((W.cell? ⟨G i, k, none⟩).getD undef)) (T := T) fun i k hi hk => by show intOf ((W.cell? ⟨G i, k, none⟩).getD undef) = T i k; rw [(h.cell hi hk).1]; rfl)
end Go.Proofs.Ytclallodmbianaa
