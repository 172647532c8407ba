/- The names of orders in force and of those that forbid a job, and the forbidden jobs, the document's side, by contract; no statement is proved here. -/
import Derived.Test.YtcifmmdfjglbnaaDoorCaForce
namespace Go.Proofs.YtcifmmdfjglbnaaDoor
open Go.ChangeShapes Go.WideShapes Go.ChangeAt Go.RowKit

set_option maxHeartbeats 16000000 in
set_option maxRecDepth 100000 in
theorem inForceR_any (A : Option Addr) (n c : Nat) (p : Nat → Ru) (d : Int) (w : World) (hv : vR p n = true) (hp : RHas w A n p) :
    Calls Tryd.prog 68 #[.slice A n c, .int .i64 d] w (RetSt w (sl6 (fun k => forB p n d (p k)) n).length (fun k => (selR p (fun k => forB p n d (p k)) n k).nm)) := by
  have HP := Lib.hid hp
  have HOK := Lib.hid (fun k hk => rule_ok (p := p) (n := n) (k := k) hv hk)
  have HU := Lib.hid (vR_once hv)
  have HN := Lib.hid (vR_len hv)
  have HFC := Lib.hid (fun k (hk : k < n) w hp => forceR_any A n c k p d w (by have := HN.out; omega) hk (HOK.out k hk).1 HU.out hp)
  have HBC := Lib.hid (fun k => show (fun k => forB p n d (p k)) k = forB p n d (p k) from rfl)
  generalize hF : (fun k => forB p n d (p k)) = F at *
  clear hp hv hF
  go_enter Tryd.func68, Tryd.ntmps68
  go_wp2
  go_loopw [5, 6, 7, 10] (fun v _ _ i wr => ∃ k : Nat, k ≤ n ∧ i = .int .i64 (k : Int) ∧ wr.ownsRow w.heap.size 9 1 v (sl6 F k).length (stL (fun k => (selR p F n k).nm) (sl6 F k).length) ∧ Below w.heap.size w wr) (fun _ _ _ i _ => n - (intOf i).toNat)
  case atStart => exact ⟨0, Nat.zero_le _, rfl, World.ownsRow_nil _ _ _ _, Below.refl _ _⟩
  case round =>
    obtain ⟨k, hk, rfl, ho, hb⟩ := hrel
    have HW := Lib.hid ho
    have HB := Lib.hid hb
    clear ho hb
    have hn100 := HN.out
    by_cases hlt : k < n
    · have HC := Lib.hid (fun w hp => HFC.out k hlt w hp)
      obtain ⟨b, off, hA, lb, x0, x1, x2, x3, x4, x5, x6⟩ := (HP.out.later HB.out).at_ hlt
      have HSTEP := Lib.hid (sl6_step F k)
      have HNX := Lib.hid (show F k = true → (fun k => (selR p F n k).nm) (sl6 F k).length = (p k).nm from fun h => by show (selR p F n (sl6 F k).length).nm = _; unfold selR; rw [sn6_at hlt h])
      have HL := Lib.hid (sl6_le F k)
      have HFK := Lib.hid (HBC.out k)
      rw [← HFK.out] at HC
      clear HFC HFK
      subst hA
      generalize F k = r at *
      generalize (p k).nm = nm at *
      generalize (p k).ad = ad at *
      generalize (p k).fr = fr at *
      generalize (p k).to = to at *
      generalize (p k).ft = ft at *
      generalize (p k).jb = jb at *
      generalize (p k).rp = rp at *
      obtain ⟨Wx, hWx⟩ : ∃ Wx, wr.alloc (.cells #[.string nm, .int .i64 ad, .int .i64 fr, .int .i64 to, .int .i64 ft, .int .i64 jb, .string rp] 54) = Wx := ⟨_, rfl⟩
      have HZ := Lib.hid (show Wx.heap[wr.heap.size]? = some (.cells #[.string nm, .int .i64 ad, .int .i64 fr, .int .i64 to, .int .i64 ft, .int .i64 jb, .string rp] 54) from by rw [← hWx]; exact new_at wr _ _ rfl)
      have HBx := Lib.hid (show Below wr.heap.size wr Wx from by rw [← hWx]; exact (Below.refl _ _).alloc (Nat.le_refl _) _)
      have HBw := Lib.hid (bthen HB.out HBx.out)
      obtain ⟨c0, c1, c2, c3, c4, c5, c6, l0⟩ := cell7_of HZ.out
      clear lb
      go_wp2_with fail
      refine (HC.out Wx (HP.out.later HBw.out)).mono ?_
      rintro e w3 ⟨rfl, hb3⟩
      have HB3 := Lib.hid (bthen HBx.out hb3)
      have HZ3 := Lib.hid ((hb3.block _ (lt_of_heap HZ.out)).trans HZ.out)
      clear hb3 hWx c0 c1 c2 c3 c4 c5 c6 l0 HC x0 x1 x2 x3 x4 x5 x6
      cases r
      · have ST := Lib.hid (show (sl6 F (k + 1)).length = (sl6 F k).length from by rw [HSTEP.out]; rfl)
        clear HSTEP HNX
        go_wp2
        go_roundw
        case rel => exact ⟨k + 1, by omega, by go_num, by rw [ST.out]; exact owns_later HW.out HB3.out, bthen HB.out HB3.out⟩
        case measure => simp [intOf]; omega
      · have ST := Lib.hid (show (sl6 F (k + 1)).length = (sl6 F k).length + 1 from by rw [HSTEP.out]; rfl)
        have hX := HNX.out rfl
        obtain ⟨c0, c1, c2, c3, c4, c5, c6, l0⟩ := cell7_of HZ3.out
        have HAL := Lib.hid (show Below w3.heap.size w3 (w3.alloc (.cells #[.string nm] 9)) from (Below.refl _ _).alloc (Nat.le_refl _) _)
        obtain ⟨v', w', run, O', G'⟩ := pushS6 30 (owns_later (owns_later HW.out HB3.out) HAL.out) (by have := HL.out; omega) nm hX (by have h1 := HB.out.size; have h2 := HB3.out.size; have h3 := HAL.out.size; omega) w3.heap.size (new_at w3 _ _ rfl)
        have RUN := Lib.hid run
        have HO' := Lib.hid O'
        have HB' := Lib.hid (show Below w.heap.size w w' from by
          have h3 := bthen HB.out (bthen HB3.out HAL.out)
          exact h3.grown G' h3.size (fun j hj => (HW.out.lt j hj).1))
        clear hX run O' G' HSTEP HNX
        go_wp2_with (at_builtin; go_loud (refine Lib.wpList_append_run _ rfl _ _ _ _ rfl _ _ rfl rfl _ _ RUN.out ?_))
        go_roundw
        case rel => exact ⟨k + 1, by omega, by go_num, by rw [ST.out]; exact HO'.out, HB'.out⟩
        case measure => simp [intOf]; omega
    · obtain rfl : k = n := by omega
      obtain ⟨A', c', rfl, q1, q2, _, q4⟩ := owns_strs HW.out
      have HQ := Lib.hid q4
      clear q4
      go_wp2
      go_ret
      exact ⟨A', c', rfl, q1, q2, HQ.out, HB.out⟩

end Go.Proofs.YtcifmmdfjglbnaaDoor
