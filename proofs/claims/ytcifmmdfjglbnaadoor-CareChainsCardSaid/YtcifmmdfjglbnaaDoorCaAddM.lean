/- An order more, as lists: valid orders stay valid, and one that replaces none never allows more; no statement is proved here. -/
import Derived.Test.YtcifmmdfjglbnaaDoorCaAdded
import Derived.Test.YtcifmmdfjglbnaaDoorCaAlw
namespace Go.Proofs.YtcifmmdfjglbnaaDoor
open Go.ChangeShapes Go.WideShapes Go.ChangeAt Go.RowKit

theorem refE_congr {p q : Nat → Ru} {n : Nat} {r : Ru} (h : ∀ k, k < n → p k = q k) : refE p n r = refE q n r := by
  unfold refE
  rw [nmIn_congr h, nmIn_congr (s := r.rp) h, rpIn_congr h]
  rcases Nat.eq_zero_or_pos n with h0 | h0
  · subst h0; simp
  · rw [h (n - 1) (by omega)]
theorem vR_congr {p q : Nat → Ru} : ∀ {n : Nat}, (∀ k, k < n → p k = q k) → vR p n = vR q n
  | 0, _ => rfl
  | n + 1, h => by
    rw [vR_succ, vR_succ, vR_congr fun k hk => h k (by omega), refE_congr fun k hk => h k (by omega), h n (by omega)]
theorem adE_zero {p : Nat → Ru} {n : Nat} {r : Ru} (h : adE p n r = 0) : vR p n = true ∧ RefOk p n r := by
  unfold adE at h
  cases hv : vR p n
  · rw [hv] at h; cases h
  · rw [hv, if_pos rfl] at h; exact ⟨rfl, refE_zero.1 h⟩
/-- Valid orders stay valid. -/
theorem added_valid {p : Nat → Ru} {n : Nat} {r : Ru} (h : adE p n r = 0) : vR (catR p n (fun _ => r)) (n + 1) = true := by
  obtain ⟨h1, h2⟩ := adE_zero h
  have e : ∀ k, k < n → catR p n (fun _ => r) k = p k := fun k hk => catR_lo hk
  rw [vR_succ, vR_congr e, h1, refE_congr e, show catR p n (fun _ => r) n = r from catR_hi p (fun _ => r) n 0, refE_zero.2 h2]
  rfl
theorem endB_congr {p q : Nat → Ru} {n : Nat} {d : Int} {s : ByteArray} (h : ∀ k, k < n → p k = q k) : endB p n d s = endB q n d s := anyTo_congr fun k hk => by rw [h k hk]
theorem added_forB {p : Nat → Ru} {n : Nat} {r : Ru} {d : Int} {x : Ru} (hr : r.rp.size = 0) (hx : x.nm.size ≠ 0) : forB (catR p n (fun _ => r)) (n + 1) d x = forB p n d x := by
  have e : endB (catR p n (fun _ => r)) (n + 1) d x.nm = endB p n d x.nm := by
    show (endB (catR p n (fun _ => r)) n d x.nm || (decide ((catR p n (fun _ => r) n).rp = x.nm) && decide ((catR p n (fun _ => r) n).ad ≤ d))) = _
    rw [endB_congr fun k hk => catR_lo hk, show catR p n (fun _ => r) n = r from catR_hi p (fun _ => r) n 0, decide_eq_false (show ¬ r.rp = x.nm from fun h => hx (by rw [← h]; exact hr))]
    simp
  unfold forB
  rw [e]
theorem aeV_is {p : Nat → Ru} {n : Nat} {j u d f b : Int} (h : aeE p n j u d f b = 0) : aeV p n j u d f b = (jobB j b && (decide (d < u) && decide ((sl6 (fun k => fbB p n d f b (p k)) n).length = 0))) := by
  have h' := h
  unfold aeE at h'
  obtain ⟨hv, _, h3⟩ := ckE6_zero h'
  rw [Bool.and_eq_true, Bool.and_eq_true] at h3
  have hok : ∀ k, k < n → 1 ≤ (p k).jb ∧ (p k).jb ≤ 15 := fun k hk => (rule_ok hv hk).2.2.2
  have key : ∀ i, i < 4 → b = ((2 ^ i : Nat) : Int) → aeV p n j u d f b = (jobB j b && (decide (d < u) && decide ((sl6 (fun k => fbB p n d f b (p k)) n).length = 0))) := fun i hi e => by
    subst e
    unfold aeV
    rw [h, jobB_al, alN_bit hi (fbN_le hv) hok]
    rfl
  rcases jobV_is h3.2.2 with e | e | e | e
  · exact key 0 (by omega) e
  · exact key 1 (by omega) e
  · exact key 2 (by omega) e
  · exact key 3 (by omega) e
theorem sl6_none {f : Nat → Bool} {n : Nat} : (sl6 f n).length = 0 ↔ ∀ k, k < n → f k = false := by
  have h := sl6_some (f := f) (n := n)
  constructor
  · intro h0 k hk
    cases hf : f k
    · rfl
    · have := h.2 ⟨k, hk, hf⟩; omega
  · intro h0
    rcases Nat.eq_zero_or_pos (sl6 f n).length with h1 | h1
    · exact h1
    · obtain ⟨k, hk, hf⟩ := h.1 h1
      rw [h0 k hk] at hf; cases hf
theorem added_ae {p : Nat → Ru} {n : Nat} {r : Ru} {j u d f b : Int} (h : adE p n r = 0) : aeE (catR p n (fun _ => r)) (n + 1) j u d f b = aeE p n j u d f b := by
  unfold aeE ckE6
  rw [added_valid h, (adE_zero h).1]
/-- **An order that replaces none never allows more.** -/
theorem added_less {p : Nat → Ru} {n : Nat} {r : Ru} {j u d f b : Int} (h : adE p n r = 0) (hr : r.rp.size = 0) (ha : aeV (catR p n (fun _ => r)) (n + 1) j u d f b = true) : aeV p n j u d f b = true := by
  by_cases h0 : aeE p n j u d f b = 0
  · have h1 := (added_ae h).trans h0
    rw [aeV_is h1] at ha
    rw [aeV_is h0]
    simp only [Bool.and_eq_true, decide_eq_true_iff] at ha ⊢
    refine ⟨ha.1, ha.2.1, sl6_none.2 fun k hk => ?_⟩
    have h2 := sl6_none.1 ha.2.2 k (by omega)
    rw [show catR p n (fun _ => r) k = p k from catR_lo hk] at h2
    unfold fbB at h2 ⊢
    rw [added_forB hr (rule_ok (adE_zero h).1 hk).1] at h2
    exact h2
  · unfold aeV at ha
    rw [added_ae h, decide_eq_false h0] at ha
    cases ha

set_option maxHeartbeats 8000000 in
set_option maxRecDepth 100000 in
theorem SameRules_yes (A B : Option Addr) (n c d : Nat) (p : Nat → Ru) (w : World) (hn : n ≤ c) (hc : c ≤ 9223372036854775807) (hp : RHas w A n p) (hq : RHas w B n p) :
    Calls Tryd.prog 43 #[.slice A n c, .slice B n d] w fun e w' => e = .returned (.bool true) ∧ Below w.heap.size w w' := by
  have HP := Lib.hid hp
  have HQ := Lib.hid hq
  clear hp hq
  have h1 : ((n : Int) != (n : Int)) = false := by simp
  go_enter Tryd.func43, Tryd.ntmps43
  go_wp2
  go_loopw [5, 13] (fun _ i wr => ∃ k : Nat, k ≤ n ∧ i = .int .i64 (k : Int) ∧ Below w.heap.size w wr) (fun _ i _ => n - (intOf i).toNat)
  case atStart => exact ⟨0, Nat.zero_le _, rfl, Below.refl _ _⟩
  case round =>
    obtain ⟨k, hk, rfl, hbr⟩ := hrel
    by_cases hlt : k < n
    · obtain ⟨b, off, rfl, lb, x0, x1, x2, x3, x4, x5, x6⟩ := (HP.out.later hbr).at_ hlt
      obtain ⟨b', off', rfl, lb', y0, y1, y2, y3, y4, y5, y6⟩ := (HQ.out.later hbr).at_ hlt
      have HB := Lib.hid hbr
      clear hbr
      generalize (p k).nm = nm at *
      generalize (p k).ad = ad at *
      generalize (p k).fr = fr at *
      generalize (p k).to = to at *
      generalize (p k).ft = ft at *
      generalize (p k).jb = jb at *
      generalize (p k).rp = rp at *
      have e1 : (nm.toList == nm.toList) = true := by simp
      have e2 : (rp.toList == rp.toList) = true := by simp
      go_wp2_with fail
      refine wp_region_after (by kernel_rfl) (by kernel_rfl) (fun hcell => ?_)
      repeat (go_big_quiet_step (fail))
      refine wpQuiet_nil ?_
      intro w3 hb3
      have HB3 := Lib.hid (bthen HB.out hb3)
      clear hcell hb3 x0 x1 x2 x3 x4 x5 x6 y0 y1 y2 y3 y4 y5 y6
      go_wp2
      go_roundw
      case rel => exact ⟨k + 1, by omega, by go_num, HB3.out⟩
      case measure => simp [intOf]; omega
    · obtain rfl : k = n := by omega
      go_wp2
      go_ret
      exact ⟨rfl, hbr⟩
end Go.Proofs.YtcifmmdfjglbnaaDoor
