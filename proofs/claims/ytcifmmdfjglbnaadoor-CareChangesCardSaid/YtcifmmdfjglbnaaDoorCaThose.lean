/- The orders of which something holds, and their names (the code's side), by contract; no statement is proved here. -/
import Derived.Test.YtcifmmdfjglbnaaDoorCaForb
namespace Go.Proofs.YtcifmmdfjglbnaaDoor
open Go.ChangeShapes Go.WideShapes Go.ChangeAt Go.RowKit

/-- The numbers below n of which p holds, in order. -/
def sl6 (p : Nat → Bool) (n : Nat) : List Nat := (List.range n).filter p
theorem sl6_succ (p : Nat → Bool) (n : Nat) : sl6 p (n + 1) = sl6 p n ++ (if p n then [n] else []) := by
  unfold sl6
  rw [List.range_succ, List.filter_append]
  cases h : p n <;> simp [h]
theorem sl6_at {p : Nat → Bool} {n : Nat} : ∀ {k}, k < n → p k = true → (sl6 p n)[(sl6 p k).length]? = some k := by
  induction n with
  | zero => intro k hk; omega
  | succ n ih =>
    intro k hk hp
    rw [sl6_succ]
    by_cases e : k = n
    · subst e
      rw [hp, if_pos rfl, List.getElem?_append_right (Nat.le_refl _)]
      simp
    · have h1 := ih (show k < n by omega) hp
      rw [List.getElem?_append_left (List.getElem?_eq_some_iff.1 h1).1]
      exact h1
theorem sl6_lt {p : Nat → Bool} {n k : Nat} (hk : k < n) (hp : p k = true) : (sl6 p k).length < (sl6 p n).length := (List.getElem?_eq_some_iff.1 (sl6_at hk hp)).1
theorem sl6_step (p : Nat → Bool) (n : Nat) : (sl6 p (n + 1)).length = (sl6 p n).length + (if p n then 1 else 0) := by
  rw [sl6_succ]
  cases p n <;> simp
theorem sl6_mem {p : Nat → Bool} {n k : Nat} (h : k ∈ sl6 p n) : k < n ∧ p k = true := by
  unfold sl6 at h
  rw [List.mem_filter, List.mem_range] at h
  exact h
theorem sl6_le (p : Nat → Bool) (n : Nat) : (sl6 p n).length ≤ n := by
  have := List.length_filter_le p (List.range n)
  unfold sl6
  simpa using this
/-- The j-th of them. -/
def sn6 (p : Nat → Bool) (n j : Nat) : Nat := (sl6 p n)[j]?.getD 0
theorem sn6_at {p : Nat → Bool} {n k : Nat} (hk : k < n) (hp : p k = true) : sn6 p n (sl6 p k).length = k := by
  unfold sn6
  rw [sl6_at hk hp]
  rfl
theorem sn6_lt {p : Nat → Bool} {n j : Nat} (hj : j < (sl6 p n).length) : sn6 p n j < n ∧ p (sn6 p n j) = true := by
  unfold sn6
  rw [List.getElem?_eq_getElem hj]
  exact sl6_mem (List.getElem_mem hj)

def selR (p : Nat → Ru) (f : Nat → Bool) (n : Nat) (j : Nat) : Ru := p (sn6 f n j)
theorem rule_ok {p : Nat → Ru} {n k : Nat} (h : vR p n = true) (hk : k < n) : (p k).nm.size ≠ 0 ∧ (p k).nm.size ≤ 16 ∧ (1 ≤ (p k).ft ∧ (p k).ft ≤ 15) ∧ (1 ≤ (p k).jb ∧ (p k).jb ≤ 15) := by
  obtain ⟨h1, _, _, _, _, h6, h7⟩ := oneR_is (refE_zero.1 (vR_at h hk)).one
  unfold nameB at h1
  simp only [Bool.and_eq_true, decide_eq_true_iff] at h1
  exact ⟨by omega, by omega, h6, h7⟩
def RetRu (W : World) (m : Nat) (q : Nat → Ru) (e : Ending) (w' : World) : Prop :=
  ∃ A c, e = .returned (.slice A m c) ∧ m ≤ c ∧ c ≤ 9223372036854775807 ∧ RHas w' A m q ∧ Below W.heap.size W w'

set_option maxHeartbeats 16000000 in
set_option maxRecDepth 100000 in
theorem thoseFor_any (g n : Nat) (p : Nat → Ru) (d : Int) (B B' : Nat) (w : World) (hv : vR p n = true)  (ho : OrdR w g n p) (hi : ForIn w B B' g d) :
    Calls Tryd.prog 66 #[.pointer (some ⟨g, 0, none⟩), .func (.func 93) #[] #[.pointer (some ⟨B, 0, none⟩), .pointer (some ⟨B', 0, none⟩)]] w (RetRu w (sl6 (fun k => forB p n d (p k)) n).length (selR p (fun k => forB p n d (p k)) n)) := by
  have HO := Lib.hid ho
  have HI := Lib.hid hi
  have HOK := Lib.hid (fun k hk => rule_ok (p := p) (n := n) (k := k) hv hk)
  have HU := Lib.hid (vR_once hv)
  have HN := Lib.hid (vR_len hv)
  obtain ⟨A, c, M1, M2, hg, hn, hc, hp, _, _⟩ := ho
  have HP := Lib.hid hp
  have HBC := Lib.hid (fun k => show (fun k => forB p n d (p k)) k = forB p n d (p k) from rfl)
  generalize hF : (fun k => forB p n d (p k)) = F at *
  obtain ⟨o0, o1, o2, ol⟩ := cell3_6 hg
  clear hg hp hv hF hi
  go_enter Tryd.func66, Tryd.ntmps66
  go_wp2
  go_loopw [5, 7, 13] (fun v _ i wr => ∃ k : Nat, k ≤ n ∧ i = .int .i64 (k : Int) ∧ wr.ownsRow w.heap.size 54 7 v (sl6 F k).length (rulesL (selR p F n) (sl6 F k).length) ∧ Below w.heap.size w wr) (fun _ _ i _ => n - (intOf i).toNat)
  case atStart => exact ⟨0, Nat.zero_le _, rfl, World.ownsRow_nil _ _ _ _, Below.refl _ _⟩
  case round =>
    clear o0 o1 o2 ol
    obtain ⟨k, hk, rfl, ho, hb⟩ := hrel
    have HW := Lib.hid ho
    have HB := Lib.hid hb
    clear ho hb
    have hn100 := HN.out
    by_cases hlt : k < n
    · obtain ⟨b, off, rfl, lb, x0, x1, x2, x3, x4, x5, x6⟩ := (HP.out.later HB.out).at_ hlt
      obtain ⟨s1, s2, s3, s4⟩ := HOK.out k hlt
      have HSTEP := Lib.hid (sl6_step F k)
      have HNX := Lib.hid (show F k = true → selR p F n (sl6 F k).length = p k from fun h => by unfold selR; rw [sn6_at hlt h])
      have HL := Lib.hid (sl6_le F k)
      have HX := Lib.hid (show p k = ⟨(p k).nm, (p k).ad, (p k).fr, (p k).to, (p k).ft, (p k).jb, (p k).rp⟩ from rfl)
      have HCALL := Lib.hid (fun w h1 h2 => inForce1_any g n p d B B' (p k).nm (p k).ad (p k).fr (p k).to (p k).ft (p k).jb (p k).rp w s1 HU.out h1 h2)
      have HFK := Lib.hid (HBC.out k)
      rw [HX.out] at HFK
      rw [← HFK.out] at HCALL
      generalize F k = r at *
      generalize (p k).nm = nm at *
      generalize (p k).ad = ad at *
      generalize (p k).fr = fr at *
      generalize (p k).to = to at *
      generalize (p k).ft = ft at *
      generalize (p k).jb = jb at *
      generalize (p k).rp = rp at *
      obtain ⟨Wx, hWx⟩ : ∃ Wx, wr.alloc (.cells #[.string nm, .int .i64 ad, .int .i64 fr, .int .i64 to, .int .i64 ft, .int .i64 jb, .string rp] 54) = Wx := ⟨_, rfl⟩
      have HZ := Lib.hid (show Wx.heap[wr.heap.size]? = some (.cells #[.string nm, .int .i64 ad, .int .i64 fr, .int .i64 to, .int .i64 ft, .int .i64 jb, .string rp] 54) from by rw [← hWx]; exact new_at wr _ _ rfl)
      have HBx := Lib.hid (show Below wr.heap.size wr Wx from by rw [← hWx]; exact (Below.refl _ _).alloc (Nat.le_refl _) _)
      have HBw := Lib.hid (bthen HB.out HBx.out)
      obtain ⟨c0, c1, c2, c3, c4, c5, c6, l0⟩ := cell7_of HZ.out
      clear lb s1 s2 s3 s4
      go_wp2_with fail
      refine (HCALL.out Wx (HO.out.later HBw.out) (HI.out.later HBw.out)).mono ?_
      rintro e w3 ⟨rfl, hb3⟩
      have HB3 := Lib.hid (bthen HBx.out hb3)
      have HZ3 := Lib.hid ((hb3.block _ (lt_of_heap HZ.out)).trans HZ.out)
      clear hb3 hWx c0 c1 c2 c3 c4 c5 c6 l0 HCALL x0 x1 x2 x3 x4 x5 x6
      cases r
      · have ST := Lib.hid (show (sl6 F (k + 1)).length = (sl6 F k).length from by rw [HSTEP.out]; rfl)
        clear HSTEP HNX HFK
        go_wp2
        go_roundw
        case rel => exact ⟨k + 1, by omega, by go_num, by rw [ST.out]; exact owns_later HW.out HB3.out, bthen HB.out HB3.out⟩
        case measure => simp [intOf]; omega
      · have ST := Lib.hid (show (sl6 F (k + 1)).length = (sl6 F k).length + 1 from by rw [HSTEP.out]; rfl)
        have hX := (HNX.out rfl).trans HX.out
        obtain ⟨c0, c1, c2, c3, c4, c5, c6, l0⟩ := cell7_of HZ3.out
        have HAL := Lib.hid (show Below w3.heap.size w3 (w3.alloc (.cells #[.string nm, .int .i64 ad, .int .i64 fr, .int .i64 to, .int .i64 ft, .int .i64 jb, .string rp] 54)) from (Below.refl _ _).alloc (Nat.le_refl _) _)
        obtain ⟨v', w', run, O', G', L', _⟩ := pushR6 22 (owns_later (owns_later HW.out HB3.out) HAL.out) (by have := HL.out; omega) ⟨nm, ad, fr, to, ft, jb, rp⟩ hX (by have h1 := HB.out.size; have h2 := HB3.out.size; have h3 := HAL.out.size; omega) w3.heap.size (new_at w3 _ _ rfl)
        have RUN := Lib.hid run
        have HO' := Lib.hid O'
        have HB' := Lib.hid (show Below w.heap.size w w' from by
          have h3 := bthen HB.out (bthen HB3.out HAL.out)
          exact h3.grown G' h3.size (fun j hj => (HW.out.lt j hj).1))
        clear hX run O' G' L' HSTEP HNX HX HFK
        go_wp2_with (at_builtin; go_loud (refine Lib.wpList_append_run _ rfl _ _ _ _ rfl _ _ rfl rfl _ _ RUN.out ?_))
        go_roundw
        case rel => exact ⟨k + 1, by omega, by go_num, by rw [ST.out]; exact HO'.out, HB'.out⟩
        case measure => simp [intOf]; omega
    · obtain rfl : k = n := by omega
      obtain ⟨A', c', rfl, q1, q2, _, _, q4⟩ := owns_rules HW.out
      have HQ := Lib.hid q4
      clear q4
      go_wp2
      go_ret
      exact ⟨A', c', rfl, q1, q2, HQ.out, HB.out⟩

set_option maxHeartbeats 16000000 in
set_option maxRecDepth 100000 in
theorem thoseFb_any (g n : Nat) (p : Nat → Ru) (d f j : Int) (C0 C1 C2 B B' : Nat) (w : World) (hv : vR p n = true) (hf : 0 ≤ f ∧ f ≤ 3) (hj : 0 ≤ j ∧ j ≤ 15) (ho : OrdR w g n p) (hi : FbIn w C0 C1 C2 B B' g d f j) :
    Calls Tryd.prog 66 #[.pointer (some ⟨g, 0, none⟩), .func (.func 94) #[] #[.pointer (some ⟨C0, 0, none⟩), .pointer (some ⟨C1, 0, none⟩), .pointer (some ⟨C2, 0, none⟩)]] w (RetRu w (sl6 (fun k => fbB p n d f j (p k)) n).length (selR p (fun k => fbB p n d f j (p k)) n)) := by
  have HO := Lib.hid ho
  have HI := Lib.hid hi
  have HOK := Lib.hid (fun k hk => rule_ok (p := p) (n := n) (k := k) hv hk)
  have HU := Lib.hid (vR_once hv)
  have HN := Lib.hid (vR_len hv)
  obtain ⟨A, c, M1, M2, hg, hn, hc, hp, _, _⟩ := ho
  have HP := Lib.hid hp
  have HBC := Lib.hid (fun k => show (fun k => fbB p n d f j (p k)) k = fbB p n d f j (p k) from rfl)
  generalize hF : (fun k => fbB p n d f j (p k)) = F at *
  obtain ⟨o0, o1, o2, ol⟩ := cell3_6 hg
  clear hg hp hv hF hi
  go_enter Tryd.func66, Tryd.ntmps66
  go_wp2
  go_loopw [5, 7, 13] (fun v _ i wr => ∃ k : Nat, k ≤ n ∧ i = .int .i64 (k : Int) ∧ wr.ownsRow w.heap.size 54 7 v (sl6 F k).length (rulesL (selR p F n) (sl6 F k).length) ∧ Below w.heap.size w wr) (fun _ _ i _ => n - (intOf i).toNat)
  case atStart => exact ⟨0, Nat.zero_le _, rfl, World.ownsRow_nil _ _ _ _, Below.refl _ _⟩
  case round =>
    clear o0 o1 o2 ol
    obtain ⟨k, hk, rfl, ho, hb⟩ := hrel
    have HW := Lib.hid ho
    have HB := Lib.hid hb
    clear ho hb
    have hn100 := HN.out
    by_cases hlt : k < n
    · obtain ⟨b, off, rfl, lb, x0, x1, x2, x3, x4, x5, x6⟩ := (HP.out.later HB.out).at_ hlt
      obtain ⟨s1, s2, s3, s4⟩ := HOK.out k hlt
      have HSTEP := Lib.hid (sl6_step F k)
      have HNX := Lib.hid (show F k = true → selR p F n (sl6 F k).length = p k from fun h => by unfold selR; rw [sn6_at hlt h])
      have HL := Lib.hid (sl6_le F k)
      have HX := Lib.hid (show p k = ⟨(p k).nm, (p k).ad, (p k).fr, (p k).to, (p k).ft, (p k).jb, (p k).rp⟩ from rfl)
      have HCALL := Lib.hid (fun w h1 h2 => forbids1_any g n p d f j C0 C1 C2 B B' (p k).nm (p k).ad (p k).fr (p k).to (p k).ft (p k).jb (p k).rp w s1 s3 s4 hf hj HU.out h1 h2)
      have HFK := Lib.hid (HBC.out k)
      rw [HX.out] at HFK
      rw [← HFK.out] at HCALL
      generalize F k = r at *
      generalize (p k).nm = nm at *
      generalize (p k).ad = ad at *
      generalize (p k).fr = fr at *
      generalize (p k).to = to at *
      generalize (p k).ft = ft at *
      generalize (p k).jb = jb at *
      generalize (p k).rp = rp at *
      obtain ⟨Wx, hWx⟩ : ∃ Wx, wr.alloc (.cells #[.string nm, .int .i64 ad, .int .i64 fr, .int .i64 to, .int .i64 ft, .int .i64 jb, .string rp] 54) = Wx := ⟨_, rfl⟩
      have HZ := Lib.hid (show Wx.heap[wr.heap.size]? = some (.cells #[.string nm, .int .i64 ad, .int .i64 fr, .int .i64 to, .int .i64 ft, .int .i64 jb, .string rp] 54) from by rw [← hWx]; exact new_at wr _ _ rfl)
      have HBx := Lib.hid (show Below wr.heap.size wr Wx from by rw [← hWx]; exact (Below.refl _ _).alloc (Nat.le_refl _) _)
      have HBw := Lib.hid (bthen HB.out HBx.out)
      obtain ⟨c0, c1, c2, c3, c4, c5, c6, l0⟩ := cell7_of HZ.out
      clear lb s1 s2 s3 s4
      go_wp2_with fail
      refine (HCALL.out Wx (HO.out.later HBw.out) (HI.out.later HBw.out)).mono ?_
      rintro e w3 ⟨rfl, hb3⟩
      have HB3 := Lib.hid (bthen HBx.out hb3)
      have HZ3 := Lib.hid ((hb3.block _ (lt_of_heap HZ.out)).trans HZ.out)
      clear hb3 hWx c0 c1 c2 c3 c4 c5 c6 l0 HCALL x0 x1 x2 x3 x4 x5 x6
      cases r
      · have ST := Lib.hid (show (sl6 F (k + 1)).length = (sl6 F k).length from by rw [HSTEP.out]; rfl)
        clear HSTEP HNX HFK
        go_wp2
        go_roundw
        case rel => exact ⟨k + 1, by omega, by go_num, by rw [ST.out]; exact owns_later HW.out HB3.out, bthen HB.out HB3.out⟩
        case measure => simp [intOf]; omega
      · have ST := Lib.hid (show (sl6 F (k + 1)).length = (sl6 F k).length + 1 from by rw [HSTEP.out]; rfl)
        have hX := (HNX.out rfl).trans HX.out
        obtain ⟨c0, c1, c2, c3, c4, c5, c6, l0⟩ := cell7_of HZ3.out
        have HAL := Lib.hid (show Below w3.heap.size w3 (w3.alloc (.cells #[.string nm, .int .i64 ad, .int .i64 fr, .int .i64 to, .int .i64 ft, .int .i64 jb, .string rp] 54)) from (Below.refl _ _).alloc (Nat.le_refl _) _)
        obtain ⟨v', w', run, O', G', L', _⟩ := pushR6 22 (owns_later (owns_later HW.out HB3.out) HAL.out) (by have := HL.out; omega) ⟨nm, ad, fr, to, ft, jb, rp⟩ hX (by have h1 := HB.out.size; have h2 := HB3.out.size; have h3 := HAL.out.size; omega) w3.heap.size (new_at w3 _ _ rfl)
        have RUN := Lib.hid run
        have HO' := Lib.hid O'
        have HB' := Lib.hid (show Below w.heap.size w w' from by
          have h3 := bthen HB.out (bthen HB3.out HAL.out)
          exact h3.grown G' h3.size (fun j hj => (HW.out.lt j hj).1))
        clear hX run O' G' L' HSTEP HNX HX HFK
        go_wp2_with (at_builtin; go_loud (refine Lib.wpList_append_run _ rfl _ _ _ _ rfl _ _ rfl rfl _ _ RUN.out ?_))
        go_roundw
        case rel => exact ⟨k + 1, by omega, by go_num, by rw [ST.out]; exact HO'.out, HB'.out⟩
        case measure => simp [intOf]; omega
    · obtain rfl : k = n := by omega
      obtain ⟨A', c', rfl, q1, q2, _, _, q4⟩ := owns_rules HW.out
      have HQ := Lib.hid q4
      clear q4
      go_wp2
      go_ret
      exact ⟨A', c', rfl, q1, q2, HQ.out, HB.out⟩
end Go.Proofs.YtcifmmdfjglbnaaDoor
