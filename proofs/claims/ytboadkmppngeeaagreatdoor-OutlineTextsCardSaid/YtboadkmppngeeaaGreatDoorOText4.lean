/- The contract of the code's Parse of an outline; no statement is proved here. -/
import Derived.Test.YtboadkmppngeeaaGreatDoorOText3
namespace Go.Proofs.YtboadkmppngeeaaGreatDoor
open Go.ChangeShapes Go.WideShapes Go.ChangeAt Go.RowKit

/-- What is written, in bytes. -/
def fmtOB (p : Nat → Pt) (n : Nat) : ByteArray := ⟨(fmtO p n).toArray⟩

theorem formatO_any (A : Option Addr) (n c : Nat) (p : Nat → Pt) (w : World) (hn : n ≤ c) (hc : c ≤ 9223372036854775807) (hp : Has w A n p) (hE : EnvO w) :
    Calls Tryz.prog 8 #[.slice A n c] w fun e w' => e = .returned (.string (fmtOB p n)) ∧ Below w.heap.size w w' := by
  cases hv : vC p n
  · have e : fmtOB p n = ⟨#[]⟩ := by unfold fmtOB fmtO; rw [hv]; rfl
    rw [e]
    exact formatO_bad A n c p w hn hc hp hv
  · have e : fmtOB p n = ofB p n := by unfold fmtOB fmtO; rw [hv]; rfl
    obtain ⟨h3, _⟩ := vC_parts hv
    obtain ⟨b, off, rfl, hP⟩ := hp (by omega)
    rw [e]
    exact formatO_ok itoas joined b off n c p w hn hc hP hv (by omega) hE
theorem refFormatO_any (A : Option Addr) (n c : Nat) (p : Nat → Pt) (w : World) (hn : n ≤ c) (hc : c ≤ 9223372036854775807) (hp : Has w A n p) (hE : EnvO w) :
    Calls Tryz.prog 9 #[.slice A n c] w fun e w' => e = .returned (.string (fmtOB p n)) ∧ Below w.heap.size w w' := by
  cases hv : vC p n
  · have e : fmtOB p n = ⟨#[]⟩ := by unfold fmtOB fmtO; rw [hv]; rfl
    rw [e]
    exact refFormatO_bad A n c p w hn hc hp hv
  · have e : fmtOB p n = ofB p n := by unfold fmtOB fmtO; rw [hv]; rfl
    obtain ⟨h3, _⟩ := vC_parts hv
    obtain ⟨b, off, rfl, hP⟩ := hp (by omega)
    rw [e]
    exact refFormatO_ok itoas b off n c p w hn hc hP hv hE

/-- What a reader gives: the list, or nothing. -/
def ParseRet (W : World) (r : Bool) (n : Nat) (q : Nat → Pt) (e : Ending) (w' : World) : Prop :=
  (r = true ∧ ∃ A c, e = .returned (.tuple #[.slice A n c, .int .i64 0]) ∧ n ≤ c ∧ c ≤ 9223372036854775807 ∧ Has w' A n q ∧ Below W.heap.size W w') ∨
  (r = false ∧ e = .returned (.tuple #[.slice none 0 0, .int .i64 2]) ∧ Below W.heap.size W w')

set_option maxHeartbeats 8000000 in
set_option maxRecDepth 100000 in
/-- **Parse.** -/
theorem parse_any (s : ByteArray) (w : World) (hs : s.size ≤ 1000) (hE : EnvO w) :
    Calls Tryz.prog 6 #[.string s] w (ParseRet w (cdB (wLt s) (cntW s) s.data.toList) (cntW s) (fun k => wPt (wLt s k))) := by
  have HE := Lib.hid hE
  have HS := Lib.hid hs
  have HSP := Lib.hid (fun w h => split_any s w hs h)
  have HPP := Lib.hid (fun k w h => parsePoint_any (wAt s k) w (Nat.le_trans (wAt_le s k) hs) h)
  have hnn := Nat.le_trans (cntW_le s) (Nat.succ_le_succ hs)
  have hn0 : 0 < cntW s := Nat.succ_pos _
  obtain ⟨q, hq⟩ : ∃ q : Nat → Pt, q = fun k => wPt (wLt s k) := ⟨_, rfl⟩
  have HFL := Lib.hid (fun k => show flatP q (k + 1) = flatP q k ++ [.int .i64 (wPt (wLt s k)).1, .int .i64 (wPt (wLt s k)).2] from by subst hq; rfl)
  have HBAD := Lib.hid (fun k (hk : k < cntW s) (h : wOk (wLt s k) = false) => show cdB (wLt s) (cntW s) s.data.toList = false from by unfold cdB; rw [allTo_false hk h]; rfl)
  have HEND := Lib.hid (fun (h : ∀ j, j < cntW s → wOk (wLt s j) = true) => show cdB (wLt s) (cntW s) s.data.toList = decide (fmtOB q (cntW s) = s) from by
    unfold cdB
    rw [allTo_iff.2 h, Bool.true_and, hq]
    rw [decide_eq_decide]
    constructor
    · intro e; apply ByteArray.ext; apply Array.toList_inj.1; exact e
    · intro e; exact congrArg (fun b => b.data.toList) e)
  rw [← hq]
  have hl1 : ¬ (65536 : Int) < (s.size : Int) := by omega
  clear hq hE hs
  generalize cdB (wLt s) (cntW s) s.data.toList = r at *
  obtain ⟨n, hn⟩ : ∃ n, cntW s = n := ⟨_, rfl⟩
  rw [hn] at HSP hnn hn0 HBAD HEND ⊢
  obtain ⟨i0, hi0, hz0, hz1, hz2⟩ := info_parts infoPt
  clear hn
  go_enter Tryz.func6, Tryz.ntmps6
  go_wp2_with (go_at_call 16; refine (HSP.out _ HE.out).mono ?_; rintro e w1 ⟨rfl, hb1, hlt1, hcw⟩)
  have HB1 := Lib.hid hb1
  have HC1 := Lib.hid hcw
  have HE1 := Lib.hid (HE.out.later hb1)
  clear hb1 hcw
  go_loopw [4, 6, 7, 8, 15] (fun v _ _ _ i wr => ∃ k : Nat, k ≤ n ∧ i = .int .i64 (k : Int) ∧ wr.ownsRow w1.heap.size 41 2 v k (flatP q k) ∧ Below w1.heap.size w1 wr ∧ ∀ j, j < k → wOk (wLt s j) = true) (fun _ _ _ _ i _ => n - (intOf i).toNat)
  case atStart => exact ⟨0, Nat.zero_le _, rfl, World.ownsRow_nil _ _ _ _, Below.refl _ _, fun j hj => absurd hj (by omega)⟩
  case round =>
    obtain ⟨k, hk, rfl, hown, hbr, hall⟩ := hrel
    have HB := Lib.hid hbr
    have HA := Lib.hid hall
    clear hall
    by_cases hlt : k < n
    · have hw0 := (hbr.cell (p := ⟨w.heap.size, 0 + k, none⟩) hlt1).trans (HC1.out k hlt)
      rw [Nat.zero_add] at hw0
      have lw : w.heap.size < wr.heap.size := Nat.lt_of_lt_of_le hlt1 hbr.size
      have hpp := HPP.out k
      have hfl := HFL.out k
      have hbad := HBAD.out k hlt
      have hstep := fun (h : wOk (wLt s k) = true) j (hj : j < k + 1) => (if e : j = k then (by subst e; exact h) else HA.out j (by omega) : wOk (wLt s j) = true)
      rw [show (wAt s k).data.toList = wLt s k from rfl] at hpp
      have HST := Lib.hid hstep
      have HBD := Lib.hid hbad
      have HF := Lib.hid hfl
      clear hstep hbad hfl
      generalize wAt s k = x at *
      generalize wPt (wLt s k) = P at *
      obtain ⟨X, Y⟩ := P
      dsimp only at hpp HF
      cases hok : wOk (wLt s k)
      · rw [hok] at hpp HBD
        simp only [Bool.false_eq_true, if_false] at hpp
        have HPK := Lib.hid hpp
        clear hpp hok
        go_wp2_with (go_at_call 17; refine (HPK.out _ (HE1.out.later HB.out)).mono ?_; rintro e w5 ⟨rfl, hb5⟩)
        go_ret2
        refine .inr ⟨HBD.out (by first | rfl | trivial), rfl, ?_⟩
        exact (bthen (bthen HB1.out HB.out) hb5).alloc (by have := HB1.out.size; have := HB.out.size; have := hb5.size; omega) _
      · rw [hok] at hpp HST
        simp only [if_true] at hpp
        have HPK := Lib.hid hpp
        clear hpp hok
        go_wp2_with (first
          | (go_at_call 17; refine (HPK.out _ (HE1.out.later HB.out)).mono ?_; rintro e w5 ⟨rfl, hb5⟩)
          | (at_builtin; go_loud (refine wpList_append_own _ rfl _ _ 22 rfl w1.heap.size 41 i0 (.agg #[.int .i64 0, .int .i64 0]) 2 16 Tryz.underlying22 hi0 hz0 hz1 hz2 rfl (by decide) _ _ _ rfl (((owns_later hown hb5).alloc _).alloc _) ⟨w5.heap.size + 1, 0, none⟩ 1 1 [.int .i64 X, .int .i64 Y] rfl rfl ?c1 ?c2 ?c3 ?c4 ?c5 ?_)))
        case c1 =>
          intro j u hj
          match j, hj with
          | 0, hj => simp at hj; subst hj; simp [Addr.add]
          | 1, hj => simp at hj; subst hj; simp [Addr.add]
        case c2 => intro u hu; simp at hu; rcases hu with rfl | rfl <;> rfl
        case c3 => unfold maxLen; omega
        case c4 => omega
        case c5 => have := HB.out.size; have := hb5.size; simp; omega
        intro v' w6 hown' hgrow _
        have hs := HB.out.size
        have hs5 := hb5.size
        have hb6 := (((bthen HB.out hb5).alloc (by omega) _).alloc (by simp; omega) _).grown hgrow (by simp; omega) (fun j hj => (hown.lt j hj).1)
        have R := Lib.hid (And.intro hown' hb6)
        clear hown' hgrow hb6
        go_wp2
        go_roundw
        case rel => exact ⟨k + 1, by omega, by go_num, by rw [HF.out]; exact R.out.1, R.out.2, HST.out (by first | rfl | trivial)⟩
        case measure => simp [intOf]; omega
    · obtain rfl : k = n := by omega
      obtain ⟨A, c, rfl, hkc, hcm, hhas⟩ := owns_has hown
      have hend := HEND.out HA.out
      have HFO := Lib.hid (formatO_any A k c q wr hkc hcm hhas (HE1.out.later hbr))
      have HZ := Lib.hid (bthen HB1.out hbr)
      have HH := Lib.hid hhas
      clear hhas hown hbr
      generalize fmtOB q k = F at *
      by_cases hF : F = s
      · have hst := str_eq hF
        rw [decide_eq_true hF] at hend
        clear hF
        go_wp2_with (go_at_call 8; refine HFO.out.mono ?_; rintro e w7 ⟨rfl, hb7⟩)
        go_ret2
        exact .inl ⟨hend, A, c, rfl, hkc, hcm, HH.out.later hb7, bthen HZ.out hb7⟩
      · have hst := str_ne hF
        rw [decide_eq_false hF] at hend
        clear hF
        go_wp2_with (go_at_call 8; refine HFO.out.mono ?_; rintro e w7 ⟨rfl, hb7⟩)
        go_ret2
        exact .inr ⟨hend, rfl, bthen HZ.out hb7⟩
end Go.Proofs.YtboadkmppngeeaaGreatDoor
