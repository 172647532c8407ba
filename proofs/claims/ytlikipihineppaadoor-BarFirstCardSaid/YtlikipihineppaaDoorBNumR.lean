/- Numbered, both the code's and the document's; no statement is proved here. -/
import Derived.Test.YtlikipihineppaaDoorBNumM
import Derived.Maps.AppendAt
namespace Go.Proofs.YtlikipihineppaaDoor
open Go.ChangeShapes Go.WideShapes Go.ChangeAt Go.RowKit

/-- Two lists lie in blocks of their own. -/
def Apart (a b : Value) : Prop := ∀ j, a.ownBlock = some j → b.ownBlock ≠ some j
theorem Apart.symm {a b : Value} (h : Apart a b) : Apart b a := fun j hj e => h j e hj
theorem Apart.row {a b : Value} (h : Apart a b) : a.ownBlock = none ∨ a.ownBlock ≠ b.ownBlock := by
  cases ha : a.ownBlock with
  | none => exact .inl rfl
  | some j => exact .inr fun e => h j ha e.symm
theorem Apart.grow {w : World} {base : Nat} {e : TypeId} {s : Nat} {a b b' : Value} {n W : Nat} {xs : List Value} (h : Apart a b) (ho : w.ownsRow base e s a n xs) (hb : b'.ownBlock = b.ownBlock ∨ b'.ownBlock = some W) (hW : w.heap.size ≤ W) : Apart a b' := fun j hj e => by
  rcases hb with hb | hb
  · exact h j hj (hb.symm.trans e)
  · have := (ho.lt j hj).2
    rw [hb] at e
    injection e with e
    omega

theorem nmB_no {q : Nat → Int} {m k : Nat} (hk : k < m) (hq : q k < 0) : nmB q m = false := by
  unfold nmB
  rw [allTo_false hk (decide_eq_false (by omega)), Bool.and_false]
theorem nmB_of {q : Nat → Int} {m : Nat} (hr : ∀ k, k < m → -9223372036854775808 ≤ q k ∧ q k ≤ 9223372036854775807) : allTo (fun k => btw (q k) 0 9223372036854775807) m = allTo (fun k => decide (0 ≤ q k)) m :=
  allTo_congr fun k hk => by
    have := hr k hk
    unfold btw
    rw [decide_eq_true (p := q k ≤ 9223372036854775807) (by omega), Bool.and_true]

set_option maxHeartbeats 8000000 in
set_option maxRecDepth 100000 in
theorem numberedR_any (P : Option Addr) (n d : Nat) (q : Nat → Int) (w : World) (hn : n ≤ 100) (hq : IHas w P n q) :
    Calls Tryd.prog 52 #[.slice P n d] w (RetInts w n (numF q)) := by
  have HQ := Lib.hid hq
  have HF := Lib.hid (fun k => show ints (numF q) (k + 1) = ints (numF q) k ++ [.int .i64 (numF q k)] from rfl)
  have HSL := Lib.hid (seenL_le q)
  have HSD := Lib.hid (seen_nodup q)
  clear hq
  obtain ⟨i0, hi0, hz0, hz1, hz2⟩ := info_parts infoInt
  go_enter Tryd.func52, Tryd.ntmps52
  go_wp2
  go_loopw [3, 4, 6, 7, 8, 9, 12] (fun s v _ _ _ _ i wr => ∃ k : Nat, k ≤ n ∧ i = .int .i64 (k : Int) ∧ wr.ownsRow w.heap.size 3 1 s (seenL q k).length (valsI (seenL q k)) ∧ wr.ownsRow w.heap.size 3 1 v k (ints (numF q) k) ∧ Apart s v ∧ Below w.heap.size w wr) (fun _ _ _ _ _ _ i _ => n - (intOf i).toNat)
  case atStart => exact ⟨0, Nat.zero_le _, rfl, World.ownsRow_nil _ _ _ _, World.ownsRow_nil _ _ _ _, (fun j hj => by cases hj), Below.refl _ _⟩
  case round =>
    obtain ⟨k, hk, rfl, hs, hv, hap, hbr⟩ := hrel
    have HS := Lib.hid hs
    have HV := Lib.hid hv
    have HA := Lib.hid hap
    have HB := Lib.hid hbr
    clear hs hv hap hbr
    by_cases hlt : k < n
    · obtain ⟨b, off, rfl, hQ⟩ := (HQ.out.later HB.out) (by omega)
      have hx := hQ.v k hlt
      have hsl := HSL.out k
      have HSDk := Lib.hid (HSD.out k)
      have HFk := Lib.hid (HF.out k)
      have HNX := Lib.hid (show seenL q (k + 1) = if q k ∈ seenL q k then seenL q k else seenL q k ++ [q k] from rfl)
      have HNF := Lib.hid (show numF q k = (((seenL q k).idxOf (q k) : Nat) : Int) from by
        unfold numF
        rw [seenL]
        split
        · rfl
        · rename_i h
          rw [List.idxOf_append, if_neg h, List.idxOf_eq_length h]
          simp)
      have HLI := Lib.hid (valsI_ints (seenL q k))
      have hse := HS.out
      rw [HLI.out] at hse
      obtain ⟨A3, c3, rfl, u1, u2, _, hi3⟩ := owns_ints hse
      have HI := Lib.hid hi3
      generalize seenL q k = L at *
      obtain ⟨D, hD⟩ : ∃ D, L.idxOf (q k) = D := ⟨_, rfl⟩
      have hDL : D ≤ L.length := by rw [← hD]; exact List.idxOf_le_length
      have HIX := Lib.hid (fun j (hj : j < L.length) => hD ▸ idx_at HSDk.out hj (q k))
      have HIN := Lib.hid (show q k ∈ L ↔ D < L.length from by rw [← hD]; exact List.idxOf_lt_length_iff.symm)
      rw [hD] at HNF
      have HLL := Lib.hid (show (seenL q (k + 1)).length = if D < L.length then L.length else L.length + 1 from by
        rw [HNX.out]
        by_cases h : D < L.length
        · rw [if_pos h, if_pos (HIN.out.2 h)]
        · rw [if_neg h, if_neg (fun h2 => h (HIN.out.1 h2))]; simp)
      have HVV := Lib.hid (show valsI (seenL q (k + 1)) = if D < L.length then valsI L else valsI L ++ [.int .i64 (q k)] from by
        rw [HNX.out]
        by_cases h : D < L.length
        · rw [if_pos h, if_pos (HIN.out.2 h)]
        · rw [if_neg h, if_neg (fun h2 => h (HIN.out.1 h2))]; unfold valsI; rw [List.map_append]; rfl)
      clear hQ hse hi3 hD HNX HIN
      generalize L.length = M at *
      generalize q k = x at *
      go_wp2
      go_loopw [7, 8, 9, 20] (fun at' _ _ i wr2 => ∃ j : Nat, j ≤ M ∧ i = .int .i64 (j : Int) ∧ at' = .int .i64 ((if D < j then D else M : Nat) : Int) ∧ wr2 = wr) (fun _ _ _ i _ => M - (intOf i).toNat)
      case atStart => exact ⟨0, Nat.zero_le _, rfl, rfl, rfl⟩
      case round =>
        obtain ⟨j, hj, rfl, rfl, rfl⟩ := hrel
        by_cases hjl : j < M
        · obtain ⟨b3, o3, rfl, hI3⟩ := HI.out (by omega)
          have hy := hI3.v j hjl
          have hix := HIX.out j hjl
          have HIXj := Lib.hid hix
          clear hI3 hix
          generalize L.getD j 0 = y at *
          by_cases he : y = x
          · have hDj := HIXj.out.1 he
            subst he
            go_wp2
            go_roundw
            case rel => exact ⟨j + 1, by omega, by go_num, by rw [if_pos (by omega), hDj], by first | rfl | trivial⟩
            case measure => simp [intOf]; omega
          · have hDj : ¬ D = j := fun e => he (HIXj.out.2 e)
            have he2 : (y == x) = false := by simpa using he
            have HEQ := Lib.hid (show (if D < j then D else M : Nat) = (if D < j + 1 then D else M : Nat) from by
              by_cases h : D < j
              · rw [if_pos h, if_pos (by omega)]
              · rw [if_neg h, if_neg (by omega)])
            generalize (if D < j then D else M : Nat) = T at *
            go_wp2
            go_roundw
            case rel => exact ⟨j + 1, by omega, by go_num, by rw [HEQ.out], by first | rfl | trivial⟩
            case measure => simp [intOf]; omega
        · obtain rfl : j = M := by omega
          have hT : (if D < j then D else j : Nat) = D := by
            by_cases h : D < j
            · rw [if_pos h]
            · rw [if_neg h]; omega
          rw [hT]
          clear hT
          by_cases hin : D < j
          · have hne : ((D : Int) == (j : Int)) = false := by simp; omega
            rw [if_pos hin] at HLL HVV
            go_wp2_with (at_builtin; go_loud (refine wpList_append_own_at _ rfl _ _ 24 rfl w.heap.size 3 i0 (.int .i64 0) 1 8 Tryd.underlying24 hi0 hz0 hz1 hz2 rfl (by decide) _ _ _ rfl (HV.out.alloc _) ⟨wr.heap.size, 0, none⟩ 1 1 [.int .i64 (D : Int)] rfl rfl ?c1 ?c2 ?c3 ?c4 ?c5 ?_))
            case c1 =>
              intro j u hj
              match j, hj with
              | 0, hj => simp at hj; subst hj; simp [Addr.add]
            case c2 => intro u hu; simp at hu; subst hu; rfl
            case c3 => unfold maxLen; omega
            case c4 => omega
            case c5 => have := HB.out.size; simp; omega
            intro v' w6 hown' hgrow _ hblk
            have hs := HB.out.size
            have hb6 := (HB.out.alloc HB.out.size (.cells #[.int .i64 (D : Int)] 3)).grown hgrow (by simp; omega) (fun j hj => (HV.out.lt j hj).1)
            have ha6 := HA.out.grow HS.out hblk (by simp)
            have hs6 := (HS.out.alloc (.cells #[.int .i64 (D : Int)] 3)).kept hgrow HA.out.row
            have R := Lib.hid (And.intro hown' (And.intro hb6 (And.intro ha6 hs6)))
            clear hown' hgrow hb6 ha6 hs6 hblk
            go_wp2
            go_roundw
            case rel => exact ⟨k + 1, by omega, by go_num, by rw [HLL.out, HVV.out]; exact R.out.2.2.2, by rw [HFk.out, HNF.out]; exact R.out.1, R.out.2.2.1, R.out.2.1⟩
            case measure => simp [intOf]; omega
          · obtain rfl : D = j := by omega
            have hne : ((D : Int) == (D : Int)) = true := by simp
            rw [if_neg hin] at HLL HVV
            go_wp2_with (first
              | (at_builtin; go_loud (refine wpList_append_own_at _ rfl _ _ 24 rfl w.heap.size 3 i0 (.int .i64 0) 1 8 Tryd.underlying24 hi0 hz0 hz1 hz2 rfl (by decide) _ _ _ rfl (HS.out.alloc _) ⟨wr.heap.size, 0, none⟩ 1 1 [.int .i64 x] rfl rfl ?c1 ?c2 ?c3 ?c4 ?c5 ?_)))
            case c1 =>
              intro j u hj
              match j, hj with
              | 0, hj => simp at hj; subst hj; simp [Addr.add]
            case c2 => intro u hu; simp at hu; subst hu; rfl
            case c3 => unfold maxLen; omega
            case c4 => omega
            case c5 => have := HB.out.size; simp; omega
            intro v5 w5 hown5 hgrow5 _ hblk5
            have hs := HB.out.size
            have HB5 := Lib.hid ((HB.out.alloc HB.out.size (.cells #[.int .i64 x] 3)).grown hgrow5 (by simp; omega) (fun j hj => (HS.out.lt j hj).1))
            have HA5 := Lib.hid ((HA.out.symm.grow HV.out hblk5 (by simp)).symm)
            have HV5 := Lib.hid ((HV.out.alloc (.cells #[.int .i64 x] 3)).kept hgrow5 HA.out.symm.row)
            have HS5 := Lib.hid hown5
            clear hown5 hgrow5 hblk5
            go_wp2_with (first
              | (at_builtin; go_loud (refine wpList_append_own_at _ rfl _ _ 24 rfl w.heap.size 3 i0 (.int .i64 0) 1 8 Tryd.underlying24 hi0 hz0 hz1 hz2 rfl (by decide) _ _ _ rfl (HV5.out.alloc _) ⟨w5.heap.size, 0, none⟩ 1 1 [.int .i64 (D : Int)] rfl rfl ?d1 ?d2 ?d3 ?d4 ?d5 ?_)))
            case d1 =>
              intro j u hj
              match j, hj with
              | 0, hj => simp at hj; subst hj; simp [Addr.add]
            case d2 => intro u hu; simp at hu; subst hu; rfl
            case d3 => unfold maxLen; omega
            case d4 => omega
            case d5 => have := HB5.out.size; simp; omega
            intro v' w6 hown' hgrow _ hblk
            have hs5 := HB5.out.size
            have hb6 := (HB5.out.alloc HB5.out.size (.cells #[.int .i64 (D : Int)] 3)).grown hgrow (by simp; omega) (fun j hj => (HV5.out.lt j hj).1)
            have ha6 := HA5.out.grow HS5.out hblk (by simp)
            have hs6 := (HS5.out.alloc (.cells #[.int .i64 (D : Int)] 3)).kept hgrow HA5.out.row
            have R := Lib.hid (And.intro hown' (And.intro hb6 (And.intro ha6 hs6)))
            clear hown' hgrow hb6 ha6 hs6 hblk
            go_wp2
            go_roundw
            case rel => exact ⟨k + 1, by omega, by go_num, by rw [HLL.out, HVV.out]; exact R.out.2.2.2, by rw [HFk.out, HNF.out]; exact R.out.1, R.out.2.2.1, R.out.2.1⟩
            case measure => simp [intOf]; omega
    · obtain rfl : k = n := by omega
      obtain ⟨A', c', rfl, h1, h2, h3, h4⟩ := owns_ints HV.out
      have HI := Lib.hid h4
      clear h4
      go_wp2
      go_ret
      exact ⟨A', c', rfl, h1, h2, h3, HI.out, HB.out⟩
end Go.Proofs.YtlikipihineppaaDoor
