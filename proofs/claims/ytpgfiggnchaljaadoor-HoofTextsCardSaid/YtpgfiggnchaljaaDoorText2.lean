/- The contract of the code's Format; no statement is proved here. -/
import Derived.Test.YtpgfiggnchaljaaDoorText1
namespace Go.Proofs.YtpgfiggnchaljaaDoor
open Go.ChangeShapes Go.WideShapes Go.ChangeAt Go.RowKit

def wall (a b c d : Int) : Nat → Int
  | 0 => a | 1 => b | 2 => c | _ => d
/-- The texts of the first k walls. -/
def wl (a b c d : Int) : Nat → List ByteArray
  | 0 => []
  | k + 1 => wl a b c d k ++ [numB (wall a b c d k)]
theorem wl_len (a b c d : Int) : ∀ k, (wl a b c d k).length = k
  | 0 => rfl
  | k + 1 => by simp [wl, wl_len a b c d k]

theorem idxW (a b c d : Int) (k : Nat) (hk : k < 4) : ∀ w, (Instr.index 70 (.agg #[.int .i64 a, .int .i64 b, .int .i64 c, .int .i64 d]) (.int .i64 (k : Int))).run Tryd.prog w = .ok (.int .i64 (wall a b c d k)) w := by
  intro w
  rcases (show k = 0 ∨ k = 1 ∨ k = 2 ∨ k = 3 by omega) with rfl | rfl | rfl | rfl <;> kernel_rfl

theorem owns_cap {w : World} {base : Nat} {e : TypeId} {size : Nat} {p : Option Addr} {n m cp : Nat} {xs : List Value} (h : w.ownsRow base e size (.slice p m cp) n xs) (h0 : 0 < n) : n ≤ cp := by
  rcases h.2 with ⟨h1, h2⟩ | ⟨g, cap, cur, h3, h4, h5, h6⟩
  · omega
  · injection h3 with _ _ h3
    subst h3
    exact h6.1

theorem wl_join (a b c d : Int) : Lib.join ((wl a b c d 4).map (·.data.toList)) [32] = fmtL a b c d := by
  simp [wl, wall, numB, fmtL]

theorem fmtL_len (a b c d : Int) (h1 : vH a b c d = true) : (fmtL a b c d).length ≤ 100 := by
  obtain ⟨⟨a1, a2⟩, ⟨b1, b2⟩, ⟨c1, c2⟩, ⟨d1, d2⟩⟩ := in4_iff.1 h1
  have za := Lib.itoa_length_le a (by omega) (by omega)
  have zb := Lib.itoa_length_le b (by omega) (by omega)
  have zc := Lib.itoa_length_le c (by omega) (by omega)
  have zd := Lib.itoa_length_le d (by omega) (by omega)
  simp [fmtL, Lib.join]
  omega

theorem wall_bd (a b c d : Int) (h1 : vH a b c d = true) (k : Nat) : 0 ≤ wall a b c d k ∧ wall a b c d k ≤ 500000000 := by
  obtain ⟨⟨a1, a2⟩, ⟨b1, b2⟩, ⟨c1, c2⟩, ⟨d1, d2⟩⟩ := in4_iff.1 h1
  rcases k with _ | _ | _ | k <;> simp only [wall] <;> omega

set_option maxHeartbeats 1000000 in
set_option maxRecDepth 100000 in
theorem format_bad (a b c d : Int) (w : World) (h1 : vH a b c d = false) :
    Calls Tryd.prog 52 #[.agg #[.int .i64 a, .int .i64 b, .int .i64 c, .int .i64 d]] w fun e w' => e = .returned (.string ⟨#[]⟩) ∧ Below w.heap.size w w' := by
  have H1 := Lib.hid h1
  clear h1
  go_enter Tryd.func52, Tryd.ntmps52
  go_wp2_with (go_at_call 13; refine (validHoof_is _ _ _ _ _ false H1.out).mono ?_; rintro e w1 ⟨rfl, hb1⟩; obtain ⟨hc1, hf1⟩ := bcell hb1)
  go_ret
  exact ⟨rfl, bthen (by go_grown) hb1⟩

set_option maxHeartbeats 2000000 in
set_option maxRecDepth 100000 in
theorem format_ok (a b c d : Int) (w : World) (h1 : vH a b c d = true) (hE : Env w) :
    Calls Tryd.prog 52 #[.agg #[.int .i64 a, .int .i64 b, .int .i64 c, .int .i64 d]] w fun e w' => e = .returned (.string (fmtB a b c d)) ∧ Below w.heap.size w w' := by
  have H1 := Lib.hid h1
  have HB := Lib.hid (wall_bd a b c d h1)
  have HL := Lib.hid (fmtL_len a b c d h1)
  have IX := Lib.hid (idxW a b c d)
  have HE := Lib.hid hE
  clear h1 hE
  obtain ⟨i0, hi0, hz0, hz1, hz2⟩ := info_parts infoStr
  go_enter Tryd.func52, Tryd.ntmps52
  go_wp2_with (first
    | (go_at_call 13; refine (validHoof_is _ _ _ _ _ true H1.out).mono ?_; rintro e w1 ⟨rfl, hb1⟩; obtain ⟨hc1, hf1⟩ := bcell hb1)
    | (go_at_call 54; refine (wallsOf_any _ _ _ _ _).mono ?_; rintro e w2 ⟨rfl, hb2⟩))
  have hb3 := bthen (bthen (by go_grown : Below w.heap.size w _) hb1) hb2
  clear hb1 hb2 hc1 hf1
  go_loopw [3, 11] (fun v i wr => ∃ k : Nat, k ≤ 4 ∧ i = .int .i64 k ∧ wr.ownsRow w.heap.size 9 1 v k (strs (wl a b c d k)) ∧ Below w.heap.size w wr) (fun _ i _ => 4 - (intOf i).toNat)
  case atStart => exact ⟨0, by omega, rfl, World.ownsRow_nil _ _ _ _, hb3⟩
  case round =>
    clear hb3
    obtain ⟨k, hk, rfl, hown, hbr⟩ := hrel
    by_cases hlt : k < 4
    · have hi := IX.out k hlt
      have HW := Lib.hid (HB.out k)
      have hlen := wl_len a b c d k
      go_wp2_with (first
        | (go_at_call 85; refine (formatInt_any _ _ HW.out.1 HW.out.2 (HE.out.later hbr)).mono ?_; rintro e w5 ⟨rfl, hb5⟩)
        | (at_builtin; refine wpList_append_own _ rfl _ _ 53 rfl w.heap.size 9 i0 (.string { data := #[] }) 1 16 Tryd.underlying53 hi0 hz0 hz1 hz2 rfl (by decide) _ _ _ rfl ((owns_later hown hb5).alloc _) ⟨w5.heap.size, 0, none⟩ 1 1 [.string (numB (wall a b c d k))] rfl rfl ?c1 ?c2 ?c3 ?c4 ?c5 ?_))
      case c1 =>
        intro j u hj
        match j, hj with
        | 0, hj => simp at hj; subst hj; simp [Addr.add]
      case c2 => intro u hu; simp at hu; subst hu; rfl
      case c3 => unfold maxLen; omega
      case c4 => omega
      case c5 => have := hbr.size; have := hb5.size; simp; omega
      intro v' w6 hown' hgrow _
      have hs := hbr.size
      have hs5 := hb5.size
      have hb6 := ((bthen hbr hb5).alloc (by omega) _).grown hgrow (by simp; omega) (fun j hj => (hown.lt j hj).1)
      have R := Lib.hid (And.intro hown' hb6)
      clear hown' hgrow hb6
      go_wp2
      go_roundw
      case rel => exact ⟨k + 1, by omega, by go_num, by have := R.out.1; simpa [strs, wl] using this, R.out.2⟩
      case measure => simp [intOf]; omega
    · obtain rfl : k = 4 := by omega
      obtain ⟨p, cp, rfl⟩ := owns_slice hown
      obtain ⟨g, rfl, hg, hcl⟩ := owns_cells hown (wl_len a b c d 4).symm (by omega)
      have hcp := owns_cap hown (by omega)
      have HJ := Lib.hid (Tryd.strings_Join g 0 cp (wl a b c d 4) ⟨#[32]⟩ wr (fun j x hx => by
        have hj : j < 4 := by
          have := (List.getElem?_eq_some_iff.1 hx).1
          rwa [wl_len] at this
        have := hcl j hj
        rw [hx] at this
        simpa using this) hg (by rw [wl_len]; omega) (by rw [wl_len]; exact hcp) (by rw [wl_join]; have := HL.out; omega))
      clear hcl hcp
      go_wp2_with (go_at_call 86; refine HJ.out.mono ?_; rintro e w7 ⟨rfl, hb7⟩)
      go_ret
      exact ⟨by rw [wl_join]; rfl, bthen hbr hb7⟩
end Go.Proofs.YtpgfiggnchaljaaDoor
