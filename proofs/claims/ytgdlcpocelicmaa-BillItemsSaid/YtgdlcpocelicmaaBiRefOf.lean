/- An account's entries, and its balance, the document's side, by contract; no statement is proved here. -/
import Derived.Test.YtgdlcpocelicmaaBiEnts
import Derived.Test.YtgdlcpocelicmaaBiRefV
import Derived.Test.YtgdlcpocelicmaaBiIter
namespace Go.Proofs.Ytgdlcpocelicmaa
open Go.ChangeShapes Go.WideShapes Go.ChangeAt Go.RowKit

/-- Of an account, up to a day. -/
def ofE (p : Nat → En) (s : ByteArray) (d : Int) (k : Nat) : Bool := decide ((p k).s = s) && decide ((p k).d ≤ d)
def selE (p : Nat → En) (f : Nat → Bool) (n : Nat) (j : Nat) : En := p (selN f n j)
def RetE9 (W : World) (n : Nat) (q : Nat → En) (e : Ending) (w' : World) : Prop :=
  ∃ A c, e = .returned (.slice A n c) ∧ n ≤ c ∧ c ≤ 9223372036854775807 ∧ (∀ g o s, A = some ⟨g, o, s⟩ → W.heap.size ≤ g) ∧ EHas9 w' A n q ∧ Below W.heap.size W w'

set_option maxHeartbeats 8000000 in
set_option maxRecDepth 100000 in
theorem ofR_any9 (A : Option Addr) (n c : Nat) (p : Nat → En) (s : ByteArray) (d : Int) (w : World) (hn : n ≤ 2000) (hp : EHas9 w A n p) :
    Calls Try.prog 58 #[.slice A n c, .string s, .int .i64 d] w (RetE9 w (selL (ofE p s d) n).length (selE p (ofE p s d) n)) := by
  have HP := Lib.hid hp
  clear hp
  go_enter Try.func58, Try.ntmps58
  go_wp2
  go_loopw [7, 9, 12] (fun v _ i wr => ∃ k : Nat, k ≤ n ∧ i = .int .i64 (k : Int) ∧ wr.ownsRow w.heap.size 51 3 v (selL (ofE p s d) k).length (entsL (selE p (ofE p s d) n) (selL (ofE p s d) k).length) ∧ Below w.heap.size w wr) (fun _ _ i _ => n - (intOf i).toNat)
  case atStart => exact ⟨0, Nat.zero_le _, rfl, World.ownsRow_nil _ _ _ _, Below.refl _ _⟩
  case round =>
    obtain ⟨k, hk, rfl, ho, hb⟩ := hrel
    have HO := Lib.hid ho
    have HB := Lib.hid hb
    clear ho hb
    by_cases hlt : k < n
    · obtain ⟨b, off, rfl, lb, x0, x1, x2⟩ := (HP.out.later HB.out).at_ hlt
      have HM := Lib.hid (show ofE p s d k = (decide ((p k).s = s) && decide ((p k).d ≤ d)) from rfl)
      have HSTEP := Lib.hid (selL_step (ofE p s d) k)
      have HN := Lib.hid (show ofE p s d k = true → selE p (ofE p s d) n (selL (ofE p s d) k).length = p k from fun h => by unfold selE; rw [selN_at hlt h])
      have HL := Lib.hid (selL_le (ofE p s d) k)
      have HBZ := Lib.hid (show ∀ o, Below wr.heap.size wr (wr.alloc o) from fun o => (Below.refl _ _).alloc (Nat.le_refl _) o)
      have HX := Lib.hid (show p k = ⟨(p k).d, (p k).s, (p k).a⟩ from rfl)
      have HZ := Lib.hid (new_at wr (.cells #[.int .i64 (p k).d, .string (p k).s, .int .i64 (p k).a] 51) _ rfl)
      generalize (p k).d = z at *
      generalize (p k).s = t at *
      generalize (p k).a = a at *
      by_cases hs : t = s
      · have e1 := str_eq9 hs
        rw [decide_eq_true hs] at HM
        by_cases h1 : z ≤ d
        · rw [decide_eq_true h1] at HM
          have hM : ofE p s d k = true := HM.out
          have ST := Lib.hid (show (selL (ofE p s d) (k + 1)).length = (selL (ofE p s d) k).length + 1 from by rw [HSTEP.out, hM]; rfl)
          have hX := (HN.out hM).trans HX.out
          obtain ⟨c0, c1, c2, l0⟩ := cell3_of HZ.out
          have hAL := HO.out
          obtain ⟨z0, z1, z2, zl⟩ := cell3_of (alloc_at9 (k := wr.heap.size + 1) (wr.alloc (.cells #[.int .i64 z, .string t, .int .i64 a] 51)) (.cells #[.int .i64 z, .string t, .int .i64 a] 51) (World.size_alloc _ _))
          obtain ⟨v', w', run, O', G', L', ne'⟩ := pushE9 30 (owns_later HO.out ((HBZ.out (.cells #[.int .i64 z, .string t, .int .i64 a] 51)).alloc (HBZ.out _).size (.cells #[.int .i64 z, .string t, .int .i64 a] 51))) (by have := HL.out; omega) ⟨z, t, a⟩ hX (by have h1 := HB.out.size; have h2 := (HBZ.out (.cells #[.int .i64 z, .string t, .int .i64 a] 51)).size; simp; omega) (wr.heap.size + 1) z0 z1 z2
          have RUN := Lib.hid run
          have HO' := Lib.hid O'
          have HB' := Lib.hid (show Below w.heap.size w w' from by
            have h3 := bthen HB.out ((HBZ.out (.cells #[.int .i64 z, .string t, .int .i64 a] 51)).alloc (HBZ.out _).size (.cells #[.int .i64 z, .string t, .int .i64 a] 51))
            exact h3.grown G' h3.size (fun j hj => (HO.out.lt j hj).1))
          clear hM hs hX run O' G' L' z0 z1 z2 zl HSTEP HN HM HX hAL
          go_wp2_with (at_builtin; go_loud (refine Lib.wpList_append_run _ rfl _ _ _ _ rfl _ _ rfl rfl _ _ RUN.out ?_))
          go_roundw
          case rel => exact ⟨k + 1, by omega, by go_num, by rw [ST.out]; exact HO'.out, HB'.out⟩
          case measure => simp [intOf]; omega
        · rw [decide_eq_false h1] at HM
          have ST := Lib.hid (show (selL (ofE p s d) (k + 1)).length = (selL (ofE p s d) k).length from by rw [HSTEP.out, HM.out]; rfl)
          clear hs HSTEP HN HM HX
          go_wp2
          go_roundw
          case rel => exact ⟨k + 1, by omega, by go_num, by rw [ST.out]; exact owns_later HO.out (HBZ.out _), bthen HB.out (HBZ.out _)⟩
          case measure => simp [intOf]; omega
      · have e1 := str_ne9 hs
        rw [decide_eq_false hs] at HM
        have ST := Lib.hid (show (selL (ofE p s d) (k + 1)).length = (selL (ofE p s d) k).length from by rw [HSTEP.out, HM.out]; rfl)
        clear hs HSTEP HN HM HX
        go_wp2
        go_roundw
        case rel => exact ⟨k + 1, by omega, by go_num, by rw [ST.out]; exact owns_later HO.out (HBZ.out _), bthen HB.out (HBZ.out _)⟩
        case measure => simp [intOf]; omega
    · obtain rfl : k = n := by omega
      obtain ⟨A', c', rfl, q1, q2, q3, q4⟩ := owns_ents HO.out
      have HQ := Lib.hid (And.intro q3 q4)
      clear q3 q4
      go_wp2
      go_ret
      exact ⟨A', c', rfl, q1, q2, HQ.out.1, HQ.out.2, HB.out⟩

theorem ofE_mine {p : Nat → En} {s : ByteArray} {d : Int} {k : Nat} (h : 0 ≤ (p k).d) : ofE p s d k = mineE p s 0 (d + 1) k := by
  unfold ofE mineE
  rw [decide_eq_true h, Bool.true_and, Bool.eq_iff_iff]
  simp only [Bool.and_eq_true, decide_eq_true_iff]
  exact and_congr_right fun _ => ⟨fun h => by omega, fun h => by omega⟩
end Go.Proofs.Ytgdlcpocelicmaa
