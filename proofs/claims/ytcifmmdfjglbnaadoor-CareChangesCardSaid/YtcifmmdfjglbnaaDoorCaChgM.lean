/- The days on which other orders come to be in force (pure), and lists of texts compared; no statement is proved here. -/
import Derived.Test.YtcifmmdfjglbnaaDoorCaNextR
namespace Go.Proofs.YtcifmmdfjglbnaaDoor
open Go.ChangeShapes Go.WideShapes Go.ChangeAt Go.RowKit

def fnN (p : Nat → Ru) (n : Nat) (d : Int) : Nat := (sl6 (fun k => forB p n d (p k)) n).length
def fnQ (p : Nat → Ru) (n : Nat) (d : Int) : Nat → ByteArray := fun k => (selR p (fun k => forB p n d (p k)) n k).nm
/-- Two lists of texts are the same. -/
def smQ (m : Nat) (q : Nat → ByteArray) (m' : Nat) (q' : Nat → ByteArray) : Bool := decide (m = m') && !anyTo (fun k => !decide (q k = q' k)) m
def chB (p : Nat → Ru) (n : Nat) (d : Int) : Bool := !smQ (fnN p n (d - 1)) (fnQ p n (d - 1)) (fnN p n d) (fnQ p n d)
theorem smQ_self (m : Nat) (q : Nat → ByteArray) : smQ m q m q = true := by
  unfold smQ
  rw [decide_eq_true rfl, Bool.true_and, Bool.not_eq_true']
  cases h : anyTo (fun k => !decide (q k = q k)) m
  · rfl
  · obtain ⟨k, _, h2⟩ := anyTo_iff.1 h
    simp at h2
theorem chB_no {p : Nat → Ru} {n : Nat} {d : Int} (h : anyTo (fun k => dyR (p k) d) n = false) : chB p n d = false := by
  have ht : ∀ x, d - 1 < x → x ≤ d → tnB p n (d - 1) x = false := fun x h1 h2 => by
    obtain rfl : x = d := by omega
    unfold tnB
    rw [h, decide_eq_false (by omega)]
    rfl
  have e : sl6 (fun k => forB p n (d - 1) (p k)) n = sl6 (fun k => forB p n d (p k)) n := sl6_eq fun k hk => forB_same (a := d - 1) (by omega) ht hk
  have e1 : fnN p n (d - 1) = fnN p n d := by unfold fnN; rw [e]
  have e2 : fnQ p n (d - 1) = fnQ p n d := by
    funext k
    unfold fnQ selR sn6
    rw [e]
  unfold chB
  rw [e1, e2, smQ_self]
  rfl
/-- The days behind a and up to t on which something changes. -/
def IsChL (p : Nat → Ru) (n : Nat) (a t : Int) (L : List Int) : Prop := L.Pairwise (fun x y => x < y) ∧ ∀ x, x ∈ L ↔ (a < x ∧ x ≤ t ∧ chB p n x = true)
theorem IsChL.nil (p : Nat → Ru) (n : Nat) (a : Int) : IsChL p n a a [] := ⟨List.Pairwise.nil, fun x => ⟨fun h => (by cases h), fun ⟨h1, h2, _⟩ => by omega⟩⟩
theorem IsChL.skip {p : Nat → Ru} {n : Nat} {a t t' : Int} {L : List Int} (h : IsChL p n a t L) (hle : t ≤ t') (hn : ∀ d, t < d → d ≤ t' → chB p n d = false) : IsChL p n a t' L := by
  refine ⟨h.1, fun x => (h.2 x).trans ⟨fun ⟨h1, h2, h3⟩ => ⟨h1, by omega, h3⟩, fun ⟨h1, h2, h3⟩ => ⟨h1, ?_, h3⟩⟩⟩
  rcases Int.lt_or_le t x with g | g
  · rw [hn x g h2] at h3; cases h3
  · exact g
theorem IsChL.push {p : Nat → Ru} {n : Nat} {a t x : Int} {L : List Int} (h : IsChL p n a t L) (hx : t < x) (hat : a ≤ t) (hc : chB p n x = true) (hn : ∀ d, t < d → d < x → chB p n d = false) : IsChL p n a x (L ++ [x]) := by
  refine ⟨List.pairwise_append.2 ⟨h.1, List.pairwise_singleton _ _, fun y hy z hz => ?_⟩, fun y => ?_⟩
  · rw [List.mem_singleton] at hz
    subst hz
    have := ((h.2 y).1 hy).2.1
    omega
  · rw [List.mem_append, List.mem_singleton, h.2 y]
    constructor
    · rintro (⟨h1, h2, h3⟩ | rfl)
      · exact ⟨h1, by omega, h3⟩
      · exact ⟨by omega, Int.le_refl _, hc⟩
    · rintro ⟨h1, h2, h3⟩
      rcases Int.lt_or_le t y with g | g
      · rcases Int.lt_or_le y x with g2 | g2
        · rw [hn y g g2] at h3; cases h3
        · exact .inr (by omega)
      · exact .inl ⟨h1, g, h3⟩
theorem IsChL.uniq {p : Nat → Ru} {n : Nat} {a t : Int} {L L' : List Int} (h : IsChL p n a t L) (h' : IsChL p n a t L') : L = L' := by
  have nd : ∀ {l : List Int}, l.Pairwise (fun x y => x < y) → l.Nodup := fun h => h.imp (fun h e => by omega)
  have hp : L.Perm L' := (List.perm_ext_iff_of_nodup (nd h.1) (nd h'.1)).2 fun x => (h.2 x).trans (h'.2 x).symm
  exact List.Perm.eq_of_pairwise (le := fun x y => x < y) (fun x y _ _ h1 h2 => by omega) h.1 h'.1 hp
/-- The next day of an order behind one. -/
def MinSt (last hi : Int) (D : List Int) (x : Int) : Prop := last < x ∧ x ≤ hi ∧ (∀ y ∈ D, last < y → x ≤ y) ∧ (x = hi ∨ x ∈ D)
theorem MinSt.step {last hi : Int} {D : List Int} {x y : Int} (h : MinSt last hi D x) : MinSt last hi (D ++ [y]) (if last < y ∧ y < x then y else x) := by
  obtain ⟨h1, h2, h3, h4⟩ := h
  by_cases hc : last < y ∧ y < x
  · rw [if_pos hc]
    refine ⟨hc.1, by omega, fun z hz hl => ?_, .inr (by simp)⟩
    rw [List.mem_append, List.mem_singleton] at hz
    rcases hz with hz | rfl
    · have := h3 z hz hl; omega
    · exact Int.le_refl _
  · rw [if_neg hc]
    refine ⟨h1, h2, fun z hz hl => ?_, h4.imp id (fun h => List.mem_append_left _ h)⟩
    rw [List.mem_append, List.mem_singleton] at hz
    rcases hz with hz | rfl
    · exact h3 z hz hl
    · omega
/-- Before the next day nothing changes. -/
theorem MinSt.calm {p : Nat → Ru} {n : Nat} {last hi x : Int} (h : MinSt last hi (dl6 p last n) x) {d : Int} (h1 : last < d) (h2 : d < x) : chB p n d = false := by
  refine chB_no ?_
  cases ha : anyTo (fun k => dyR (p k) d) n
  · rfl
  · have hm : d ∈ dl6 p last n := dl6_mem.2 (by unfold tnB; rw [ha, Bool.or_true])
    have := h.2.2.1 d hm h1
    omega

set_option maxHeartbeats 4000000 in
set_option maxRecDepth 100000 in
theorem SameTexts_any6 (A B : Option Addr) (n c m d : Nat) (q r : Nat → ByteArray) (w : World) (hn : n ≤ c) (hc : c ≤ 9223372036854775807) (hm : m ≤ d) (_hd : d ≤ 9223372036854775807) (hp : SHas w A n q) (hq : SHas w B m r) :
    Calls Tryd.prog 29 #[.slice A n c, .slice B m d] w fun e w' => e = .returned (.bool (smQ n q m r)) ∧ Below w.heap.size w w' := by
  have HP := Lib.hid hp
  have HQ := Lib.hid hq
  clear hp hq
  by_cases hnm : n = m
  case neg =>
    have h1 : ((n : Int) != (m : Int)) = true := by simp; omega
    go_enter Tryd.func29, Tryd.ntmps29
    go_wp2
    go_ret
    exact ⟨bool_of (by unfold smQ; rw [decide_eq_false hnm]; rfl), Below.refl _ _⟩
  subst hnm
  have h1 : ((n : Int) != (n : Int)) = false := by simp
  have HV := Lib.hid (show smQ n q n r = !anyTo (fun k => !decide (q k = r k)) n from by unfold smQ; rw [decide_eq_true rfl, Bool.true_and])
  have HS := Lib.hid (fun k => show anyTo (fun k => !decide (q k = r k)) (k + 1) = (anyTo (fun k => !decide (q k = r k)) k || !decide (q k = r k)) from rfl)
  have HT := Lib.hid (fun k (hk : k < n) (h : (!decide (q k = r k)) = true) => show anyTo (fun k => !decide (q k = r k)) n = true from anyTo_iff.2 ⟨k, hk, h⟩)
  rw [HV.out]
  generalize hF : anyTo (fun k => !decide (q k = r k)) = F at *
  have hF0 : F 0 = false := by rw [← hF]; rfl
  clear hF
  go_enter Tryd.func29, Tryd.ntmps29
  go_wp2
  go_loopw [5, 13] (fun _ i wr => ∃ k : Nat, k ≤ n ∧ i = .int .i64 (k : Int) ∧ F k = false ∧ Below w.heap.size w wr) (fun _ i _ => n - (Go.RowKit.intOf i).toNat)
  case atStart => exact ⟨0, Nat.zero_le _, rfl, hF0, Below.refl _ _⟩
  case round =>
    obtain ⟨k, hk, rfl, hFk, hbr⟩ := hrel
    by_cases hlt : k < n
    · obtain ⟨b, off, rfl, lb, hx⟩ := (HP.out.later hbr) (by omega)
      obtain ⟨b', off', rfl, lb', hy⟩ := (HQ.out.later hbr) (by omega)
      have x0 := hx k hlt
      have y0 := hy k hlt
      have HB := Lib.hid hbr
      have HSk := Lib.hid (HS.out k)
      have HTk := Lib.hid (HT.out k hlt)
      have HFk := Lib.hid hFk
      clear hx hy hbr hFk hF0
      generalize q k = x at *
      generalize r k = y at *
      by_cases hxy : x = y
      · subst hxy
        have e1 : (x.toList == x.toList) = true := by simp
        go_wp2_with fail
        refine wp_region_after (by kernel_rfl) (by kernel_rfl) (fun hcell => ?_)
        repeat (go_big_quiet_step (fail))
        refine wpQuiet_nil ?_
        intro w3 hb3
        have HB3 := Lib.hid (bthen HB.out hb3)
        clear hcell hb3 x0 y0
        go_wp2
        go_roundw
        case rel => exact ⟨k + 1, by omega, by go_num, by rw [HSk.out, HFk.out]; simp, HB3.out⟩
        case measure => simp [Go.RowKit.intOf]; omega
      · have e1 : (x.toList == y.toList) = false := by
          rw [ByteArray.toList_eq, ByteArray.toList_eq]
          exact beq_eq_false_iff_ne.2 (fun e => hxy (ByteArray.ext (Array.toList_inj.1 e)))
        have e2 : (x.toList != y.toList) = true := by show (!(_ == _)) = true; rw [e1]; rfl
        go_wp2_with fail
        refine wp_region_after (by kernel_rfl) (by kernel_rfl) (fun hcell => ?_)
        repeat (go_big_quiet_step (fail))
        refine wpQuiet_nil ?_
        intro w3 hb3
        have HB3 := Lib.hid (bthen HB.out hb3)
        clear hcell hb3 x0 y0
        go_wp2
        go_ret
        exact ⟨bool_of (by rw [HTk.out (by simp [hxy])]; rfl), HB3.out⟩
    · obtain rfl : n = k := by omega
      go_wp2
      go_ret
      exact ⟨bool_of (by rw [hFk]; rfl), hbr⟩
end Go.Proofs.YtcifmmdfjglbnaaDoor
