/- Valid outlines and twice their area, layer outline, by their contracts; no statement is proved here. -/
import Derived.Test.YtecgnjeakgefnaaDoorOSimple
import Derived.Test.YtecgnjeakgefnaaDoorProg
import Derived.Shelf.Bits.Mul64
namespace Go.Proofs.YtecgnjeakgefnaaDoor.Outl
open Go.ChangeShapes Go.WideShapes Go.ChangeAt Go.RowKit Go.Shelf

/-- A slice of points: an address only where there are points. -/
def Has (w : World) (A : Option Addr) (n : Nat) (p : Nat → Pt) : Prop := 0 < n → ∃ b off, A = some ⟨b, off, none⟩ ∧ Pts w b off n p
theorem Has.later {w W : World} {A : Option Addr} {n : Nat} {p : Nat → Pt} (h : Has w A n p) (hb : Below w.heap.size w W) : Has W A n p := fun hn => by
  obtain ⟨b, off, e, hp⟩ := h hn
  exact ⟨b, off, e, hp.later hb⟩

theorem len_small {n : Nat} (h : ¬ (3 ≤ n ∧ n ≤ 64)) (p : Nat → Pt) : vC p n = false := by
  have : lenOK n = false := by unfold lenOK; simp; omega
  unfold vC; rw [this]; rfl
theorem vC_of {n : Nat} (h3 : 3 ≤ n) (h64 : n ≤ 64) (p : Nat → Pt) : vC p n = (inAll p n && (diffC p n && (simpleC p n && decide (0 < area p n)))) := by
  have : lenOK n = true := by unfold lenOK; simp; omega
  unfold vC; rw [this]; rfl

set_option maxHeartbeats 1000000 in
theorem valid_no (A : Option Addr) (n c : Nat) (p : Nat → Pt) (w : World) (hn : n ≤ 9223372036854775807) (h : ¬ (3 ≤ n ∧ n ≤ 64)) :
    Calls Tryd.prog 54 #[.slice A n c] w fun e w' => e = .returned (.bool (vC p n)) ∧ Below w.heap.size w w' := by
  have hv := Lib.hid (len_small h p)
  by_cases h3 : 3 ≤ n
  · have h64 : ¬ n ≤ 64 := fun h' => h ⟨h3, h'⟩
    clear h
    go_enter Tryd.func54, Tryd.ntmps54
    go_wp2
    go_ret
    exact ⟨bool_of hv.out.symm, by go_grown⟩
  · clear h
    go_enter Tryd.func54, Tryd.ntmps54
    go_wp2
    go_ret
    exact ⟨bool_of hv.out.symm, by go_grown⟩

theorem allWithinB (b off n c : Nat) (p : Nat → Pt) (w : World) (h64 : n ≤ 64) (hp : Pts w b off n p) (r : Bool) (hr : inAll p n = r) :
    Calls Tryd.prog 69 #[.slice (some ⟨b, off, none⟩) n c, .int .i64 10000] w fun e w' => e = .returned (.bool r) ∧ Below w.heap.size w w' := by
  subst hr
  exact allWithin_is b off n c p 10000 w (by omega) (by omega) (by omega) hp
theorem allDifferentB (b off n c : Nat) (p : Nat → Pt) (w : World) (h64 : n ≤ 64) (hc : n ≤ c) (hc' : c ≤ 9223372036854775807) (hp : Pts w b off n p) (r : Bool) (hr : diffC p n = r) :
    Calls Tryd.prog 70 #[.slice (some ⟨b, off, none⟩) n c] w fun e w' => e = .returned (.bool r) ∧ Below w.heap.size w w' := by
  subst hr
  exact allDifferent_is b off n c p w h64 hc hc' hp
theorem simpleB (b off n c M : Nat) (p : Nat → Pt) (w : World) (hp : Pts w b off n p) (hin : inAll p n = true) (hn : n = M + 1) (h64 : n ≤ 64) (r : Bool) (hr : simpleC p n = r) :
    Calls Tryd.prog 71 #[.slice (some ⟨b, off, none⟩) n c] w fun e w' => e = .returned (.bool r) ∧ Below w.heap.size w w' := by
  subst hr
  exact simple_any b off n c M p w hp hin hn h64
theorem area2B (b off n c M : Nat) (p : Nat → Pt) (w : World) (hp : Pts w b off n p) (hin : inAll p n = true) (hn : n = M + 1) (h64 : n ≤ 64) (r : Int) (hr : area p n = r) :
    Calls Tryd.prog 72 #[.slice (some ⟨b, off, none⟩) n c] w fun e w' => e = .returned (.int .i64 r) ∧ Below w.heap.size w w' := by
  subst hr
  exact area2_any b off n c M p w hp hin hn h64

set_option maxHeartbeats 2000000 in
theorem valid_pts (b off n c : Nat) (p : Nat → Pt) (w : World) (hn : n ≤ c) (hc : c ≤ 9223372036854775807) (h3 : 3 ≤ n) (h64 : n ≤ 64) (hp : Pts w b off n p) :
    Calls Tryd.prog 54 #[.slice (some ⟨b, off, none⟩) n c] w fun e w' => e = .returned (.bool (vC p n)) ∧ Below w.heap.size w w' := by
  have HP := Lib.hid hp
  have HV := Lib.hid (vC_of h3 h64 p)
  have HM := Lib.hid (show n = (n - 1) + 1 by omega)
  clear hp
  cases h1 : inAll p n
  · have H1 := Lib.hid h1
    clear h1
    go_enter Tryd.func54, Tryd.ntmps54
    go_wp2_with (go_at_call 69; refine (allWithinB b off n c p _ h64 HP.out _ H1.out).mono ?_; rintro e w1 ⟨rfl, hb1⟩)
    go_ret
    exact ⟨bool_of (by rw [HV.out, H1.out]; rfl), hb1⟩
  · have H1 := Lib.hid h1
    clear h1
    cases h2 : diffC p n
    · have H2 := Lib.hid h2
      clear h2
      go_enter Tryd.func54, Tryd.ntmps54
      go_wp2_with (first
        | (go_at_call 69; refine (allWithinB b off n c p _ h64 HP.out _ H1.out).mono ?_; rintro e w1 ⟨rfl, hb1⟩)
        | (go_at_call 70; refine (allDifferentB b off n c p _ h64 hn hc (HP.out.later hb1) _ H2.out).mono ?_; rintro e w2 ⟨rfl, hb2⟩))
      go_ret
      exact ⟨bool_of (by rw [HV.out, H1.out, H2.out]; rfl), bthen hb1 hb2⟩
    · have H2 := Lib.hid h2
      clear h2
      cases h3' : simpleC p n
      · have H3 := Lib.hid h3'
        clear h3'
        go_enter Tryd.func54, Tryd.ntmps54
        go_wp2_with (first
          | (go_at_call 69; refine (allWithinB b off n c p _ h64 HP.out _ H1.out).mono ?_; rintro e w1 ⟨rfl, hb1⟩)
          | (go_at_call 70; refine (allDifferentB b off n c p _ h64 hn hc (HP.out.later hb1) _ H2.out).mono ?_; rintro e w2 ⟨rfl, hb2⟩; replace hb2 := bthen hb1 hb2; clear hb1)
          | (go_at_call 71; refine (simpleB b off n c _ p _ (HP.out.later hb2) H1.out HM.out h64 _ H3.out).mono ?_; rintro e w3 ⟨rfl, hb3⟩))
        go_ret
        exact ⟨bool_of (by rw [HV.out, H1.out, H2.out, H3.out]; rfl), bthen hb2 hb3⟩
      · have H3 := Lib.hid h3'
        clear h3'
        generalize hr : area p n = r at HV
        have HR := Lib.hid hr
        clear hr
        go_enter Tryd.func54, Tryd.ntmps54
        go_wp2_with (first
          | (go_at_call 69; refine (allWithinB b off n c p _ h64 HP.out _ H1.out).mono ?_; rintro e w1 ⟨rfl, hb1⟩)
          | (go_at_call 70; refine (allDifferentB b off n c p _ h64 hn hc (HP.out.later hb1) _ H2.out).mono ?_; rintro e w2 ⟨rfl, hb2⟩; replace hb2 := bthen hb1 hb2; clear hb1)
          | (go_at_call 71; refine (simpleB b off n c _ p _ (HP.out.later hb2) H1.out HM.out h64 _ H3.out).mono ?_; rintro e w3 ⟨rfl, hb3⟩; replace hb3 := bthen hb2 hb3; clear hb2)
          | (go_at_call 72; refine (area2B b off n c _ p _ (HP.out.later hb3) H1.out HM.out h64 _ HR.out).mono ?_; rintro e w4 ⟨rfl, hb4⟩))
        go_ret
        exact ⟨bool_of (by rw [HV.out, H1.out, H2.out, H3.out]; simp), bthen hb3 hb4⟩

theorem valid_any (A : Option Addr) (n c : Nat) (p : Nat → Pt) (w : World) (hn : n ≤ c) (hc : c ≤ 9223372036854775807) (hp : Has w A n p) :
    Calls Tryd.prog 54 #[.slice A n c] w fun e w' => e = .returned (.bool (vC p n)) ∧ Below w.heap.size w w' := by
  by_cases h : 3 ≤ n ∧ n ≤ 64
  · obtain ⟨b, off, rfl, hP⟩ := hp (by omega)
    exact valid_pts b off n c p w hn hc h.1 h.2 hP
  · exact valid_no A n c p w (by omega) h

theorem valid_is (A : Option Addr) (n c : Nat) (p : Nat → Pt) (w : World) (hn : n ≤ c) (hc : c ≤ 9223372036854775807) (hp : Has w A n p) (r : Bool) (hr : vC p n = r) :
    Calls Tryd.prog 54 #[.slice A n c] w fun e w' => e = .returned (.bool r) ∧ Below w.heap.size w w' := by
  subst hr
  exact valid_any A n c p w hn hc hp

/-- What a valid outline has. -/
theorem vC_parts {p : Nat → Pt} {n : Nat} (h : vC p n = true) : 3 ≤ n ∧ n ≤ 64 ∧ inAll p n = true ∧ diffC p n = true ∧ simpleC p n = true ∧ 0 < area p n := by
  unfold vC lenOK at h
  simp only [Bool.and_eq_true, decide_eq_true_eq] at h
  exact ⟨h.1.1, h.1.2, h.2.1, h.2.2.1, h.2.2.2.1, h.2.2.2.2⟩

end Go.Proofs.YtecgnjeakgefnaaDoor.Outl

/- The full product of two words, off the kit's shelf at this program's numbers; no statement is proved here. -/
namespace Go.Proofs
open Go.Shelf
def Tryd.lays264_ren : Go.Shelf.Ren := ⟨fun | 264 => 65 | n => n, fun | 53 => 115 | 46 => 85 | n => n, fun | n => n⟩
theorem Tryd.lays264 : Go.Proofs.Lays.n264 Tryd.prog Tryd.lays264_ren := {
  mixed := by kernel_rfl
  f264 := Tryd.func65.trans (congrArg some (by kernel_rfl))
  t46 := Tryd.underlying85
  a46 := Tryd.isAgg85
  z46 := Tryd.sizeOf85
  v46 := Tryd.zeroValue85
  t53 := Tryd.underlying115
  a53 := Tryd.isAgg115
  z53 := Tryd.sizeOf115
  v53 := Tryd.zeroValue115 }
open Go.RowKit Go.Lib in
theorem Tryd.bits_Mul64 (x y : Nat) (hx : x < 18446744073709551616) (hy : y < 18446744073709551616) (w : World) :
    Calls Tryd.prog 65 #[.int .u64 x, .int .u64 y] w fun e w' => e = .returned (.tuple #[.int .u64 ((x * y / 18446744073709551616 : Nat) : Int), .int .u64 ((x * y % 18446744073709551616 : Nat) : Int)]) ∧ w' = w := Any.bits_Mul64 Tryd.lays264 x y hx hy w
end Go.Proofs
