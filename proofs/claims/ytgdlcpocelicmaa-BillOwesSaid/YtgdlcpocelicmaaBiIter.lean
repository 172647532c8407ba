/- The entries of an account, by their iterator's contract; no statement is proved here. -/
import Derived.Test.YtgdlcpocelicmaaBiValid
import Derived.Test.YtgdlcpocelicmaaIter
namespace Go.Proofs.Ytgdlcpocelicmaa
open Go.ChangeShapes Go.WideShapes Go.ChangeAt Go.RowKit Go.Shelf
attribute [local go_sem] Oper.semAt_some

theorem str_eq9 {a b : ByteArray} (h : a = b) : (a.toList == b.toList) = true := by subst h; simp
theorem str_ne9 {a b : ByteArray} (h : a ≠ b) : (a.toList == b.toList) = false := by
  rw [ByteArray.toList_eq, ByteArray.toList_eq]
  exact beq_eq_false_iff_ne.2 (fun e => h (ByteArray.ext (Array.toList_inj.1 e)))
theorem cell1_of9 {w : World} {k : Nat} {t : TypeId} {v0 : Value} (h : w.heap[k]? = some (.cells #[v0] t)) : w.cell? ⟨k, 0, none⟩ = some v0 ∧ w.frozen? ⟨k, 0, none⟩ = false ∧ k < w.heap.size := ⟨by simp [World.cell?, h], by simp [World.frozen?, h], lt_of_heap h⟩
/-- What the iterator's variables hold. -/
def EntIn (B : Nat) (A : Option Addr) (n c : Nat) (p : Nat → En) (s : ByteArray) (fr to : Int) (W : World) : Prop :=
  W.heap[B]? = some (.cells #[.slice A n c] 30) ∧ W.heap[B + 1]? = some (.cells #[.string s] 9) ∧ W.heap[B + 2]? = some (.cells #[.int .i64 fr] 3) ∧ W.heap[B + 3]? = some (.cells #[.int .i64 to] 3) ∧ EHas9 W A n p
theorem EntIn.later {B : Nat} {A : Option Addr} {n c : Nat} {p : Nat → En} {s : ByteArray} {fr to : Int} {W W' : World} (h : EntIn B A n c p s fr to W) (hb : Below W.heap.size W W') : EntIn B A n c p s fr to W' :=
  ⟨(hb.block _ (lt_of_heap h.1)).trans h.1, (hb.block _ (lt_of_heap h.2.1)).trans h.2.1, (hb.block _ (lt_of_heap h.2.2.1)).trans h.2.2.1, (hb.block _ (lt_of_heap h.2.2.2.1)).trans h.2.2.2.1, h.2.2.2.2.later hb⟩
def entEnc (p : Nat → En) (f : Nat → Bool) (n k : Nat) : Array Value := #[.agg #[.int .i64 (p (selN f n k)).d, .string (p (selN f n k)).s, .int .i64 (p (selN f n k)).a]]

set_option maxHeartbeats 8000000 in
set_option maxRecDepth 100000 in
theorem entries_iter (m B : Nat) (A : Option Addr) (n c : Nat) (p : Nat → En) (s : ByteArray) (fr to : Int) (hn : n ≤ c) (hc : c ≤ 9223372036854775807) :
    IterS Fence.wide m Try.prog 81 #[.pointer (some ⟨B, 0, none⟩), .pointer (some ⟨B + 1, 0, none⟩), .pointer (some ⟨B + 2, 0, none⟩), .pointer (some ⟨B + 3, 0, none⟩)] (entEnc p (mineE p s fr to) n) (selL (mineE p s fr to) n).length (EntIn B A n c p s fr to) := by
  intro l J Y W1 hst hw hY hJ0
  have HST := Lib.hid hst
  have HW := Lib.hid hw
  have HY := Lib.hid hY
  have HJ0 := Lib.hid hJ0
  obtain ⟨c0, _, l0⟩ := cell1_of9 (HW.out 0 _ W1 hJ0).1.1
  clear hst hw hY hJ0
  refine callsIn_of_wp Try.func81 rfl trivial ?_ rfl
  simp only [Try.ntmps81, List.size_toArray, List.length_cons, List.length_nil, Nat.reduceAdd, Nat.reduceSub, Array.replicate_succ, Array.replicate_zero, List.push_toArray, List.append_toArray, List.nil_append, List.cons_append]
  gi_wp2
  gi_loopw [7, 10] (fun _ v wr => ∃ (i : Nat) (S : Nat → Prop), i ≤ n ∧ v = .int .i64 (i : Int) ∧ J (selL (mineE p s fr to) i).length S wr) (fun _ v _ => n - (intOf v).toNat)
  case atStart => exact ⟨0, _, Nat.zero_le _, rfl, HJ0.out⟩
  case round =>
    clear c0 l0
    obtain ⟨i, S, hi, rfl, hJk⟩ := hrel
    have HJ := Lib.hid hJk
    by_cases hlt : i < n
    · obtain ⟨B0, B1, B2, B3, BE⟩ := (HW.out _ S _ hJk).1
      obtain ⟨b, off, rfl, lb, x0, x1, x2⟩ := BE.at_ hlt
      obtain ⟨d1, _, l1⟩ := cell1_of9 B1
      obtain ⟨d2, _, l2⟩ := cell1_of9 B2
      obtain ⟨d3, _, l3⟩ := cell1_of9 B3
      clear B0 B1 B2 B3 BE hJk
      have HM := Lib.hid (show mineE p s fr to i = (decide ((p i).s = s) && (decide (fr ≤ (p i).d) && decide ((p i).d < to))) from rfl)
      have HSTEP := Lib.hid (selL_step (mineE p s fr to) i)
      have HENC := Lib.hid (show mineE p s fr to i = true → (selL (mineE p s fr to) i).length < (selL (mineE p s fr to) n).length ∧ entEnc p (mineE p s fr to) n (selL (mineE p s fr to) i).length = #[.agg #[.int .i64 (p i).d, .string (p i).s, .int .i64 (p i).a]] from fun h => ⟨selL_lt hlt h, by unfold entEnc; rw [selN_at hlt h]⟩)
      have HAL := Lib.hid (show ∀ o, J (selL (mineE p s fr to) i).length (growS S wr (wr.alloc o)) (wr.alloc o) from fun o => HST.out _ _ _ _ HJ.out (CalmS.of_below ((Below.refl _ _).alloc (Nat.le_refl _) _)))
      generalize (p i).d = d at *
      generalize (p i).s = t at *
      generalize (p i).a = a at *
      have HZ := Lib.hid (new_at wr (.cells #[.int .i64 d, .string t, .int .i64 a] 51) _ rfl)
      by_cases hs : t = s
      · have e1 := str_eq9 hs
        rw [decide_eq_true hs] at HM
        by_cases h1 : fr ≤ d
        · rw [decide_eq_true h1] at HM
          by_cases h2 : d < to
          · rw [decide_eq_true h2] at HM
            have hM : mineE p s fr to i = true := HM.out
            rw [hM] at HSTEP
            obtain ⟨hk, hE⟩ := HENC.out hM
            obtain ⟨fn, tmps, assign, body, hy, hRd⟩ := HY.out _ _ _ hk (HAL.out (.cells #[.int .i64 d, .string t, .int .i64 a] 51))
            rw [hE] at hy
            obtain ⟨c0, c1, c2, l0⟩ := cell3_of HZ.out
            have ST := Lib.hid (show (selL (mineE p s fr to) (i + 1)).length = (selL (mineE p s fr to) i).length + 1 from by rw [HSTEP.out]; rfl)
            clear hM hk hE hs HSTEP HENC HM
            gi_wp2
            refine ⟨fun h => by simp [Fence.wide] at h, hRd.mono ?_⟩
            rintro e W3 (⟨rfl, _, hJ3⟩ | ⟨rfl, hY3⟩)
            · clear hy hRd
              have HJ3 := Lib.hid hJ3
              clear hJ3
              gi_wp2
              go_roundw
              case rel => exact ⟨i + 1, _, by omega, by go_num, by rw [ST.out]; exact HJ3.out⟩
              case measure => simp [intOf]; omega
            · clear hy hRd
              gi_wp2
              refine bodyPost_ret (results_none rfl _ _ _) rfl ?_
              exact ⟨⟨_, rfl⟩, .inr hY3⟩
          · rw [decide_eq_false h2] at HM
            have ST := Lib.hid (show (selL (mineE p s fr to) (i + 1)).length = (selL (mineE p s fr to) i).length from by rw [HSTEP.out, HM.out]; rfl)
            clear hs HSTEP HENC HM
            gi_wp2
            refine ⟨(fun f h => by cases h), ?_⟩
            gi_wp2
            go_roundw
            case rel => exact ⟨i + 1, _, by omega, by go_num, by rw [ST.out]; exact HAL.out _⟩
            case measure => simp [intOf]; omega
        · rw [decide_eq_false h1] at HM
          have ST := Lib.hid (show (selL (mineE p s fr to) (i + 1)).length = (selL (mineE p s fr to) i).length from by rw [HSTEP.out, HM.out]; rfl)
          clear hs HSTEP HENC HM
          gi_wp2
          refine ⟨(fun f h => by cases h), ?_⟩
          gi_wp2
          go_roundw
          case rel => exact ⟨i + 1, _, by omega, by go_num, by rw [ST.out]; exact HAL.out _⟩
          case measure => simp [intOf]; omega
      · have e1 := str_ne9 hs
        rw [decide_eq_false hs] at HM
        have ST := Lib.hid (show (selL (mineE p s fr to) (i + 1)).length = (selL (mineE p s fr to) i).length from by rw [HSTEP.out, HM.out]; rfl)
        clear hs HSTEP HENC HM
        gi_wp2
        refine ⟨(fun f h => by cases h), ?_⟩
        gi_wp2
        go_roundw
        case rel => exact ⟨i + 1, _, by omega, by go_num, by rw [ST.out]; exact HAL.out _⟩
        case measure => simp [intOf]; omega
    · obtain rfl : i = n := by omega
      gi_wp2
      go_end0
      exact ⟨⟨_, rfl⟩, .inl ⟨S, HJ.out⟩⟩
end Go.Proofs.Ytgdlcpocelicmaa
