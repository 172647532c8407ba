/- An account's items and what is paid ahead, the document's side, by contract; no statement is proved here. -/
import Derived.Test.YtgdlcpocelicmaaBiItO
import Derived.Test.YtgdlcpocelicmaaBiDebtM
import Derived.Test.YtgdlcpocelicmaaBiRefOf
namespace Go.Proofs.Ytgdlcpocelicmaa
open Go.ChangeShapes Go.WideShapes Go.ChangeAt Go.RowKit

/-- Items, and what is ahead. -/
def RetItP (W : World) (d : List (Int × Int) × Int) (e : Ending) (w' : World) : Prop :=
  ∃ A c, e = .returned (.tuple #[.slice A d.1.length c, .int .i64 d.2]) ∧ d.1.length ≤ c ∧ c ≤ 9223372036854775807 ∧ ItHas w' A d.1.length (itq d.1) ∧ Below W.heap.size W w'

/-- The oldest item is paid: what is left is a new list. -/
theorem cut_step {w1 wi : World} {g cap off : Nat} {t : List (Int × Int)} (hb : Below w1.heap.size w1 wi) (hg : w1.heap.size ≤ g) (ht : t.length ≤ 100000) (hoff : t = [] ∨ off = 2)
    (htl : ∀ u j z, (itL t)[j]? = some z → (wi.setCell ⟨g, 1, none⟩ (.int .i64 u)).cell? ⟨g, 2 + j, none⟩ = some z) (hgl : g < wi.heap.size) :
    ∃ v' w', (Builtin.append_ #[42, 42] 42 #[.slice (some ⟨wi.heap.size, 0, none⟩) 0 0, .slice (some ⟨g, off, none⟩) t.length (cap - 1)]).run Try.prog ((wi.setCell ⟨g, 1, none⟩ (.int .i64 0)).alloc (.cells #[] 49)) = .ok v' w' ∧ w'.ownsRow w1.heap.size 49 2 v' t.length (itL t) ∧ Below w1.heap.size w1 w' := by
  have hz : (wi.setCell ⟨g, 1, none⟩ (.int .i64 0)).heap.size = wi.heap.size := by simp [World.setCell]
  have hb3 : Below w1.heap.size w1 (wi.setCell ⟨g, 1, none⟩ (.int .i64 0)) := hb.setCell (p := ⟨g, 1, none⟩) hg _
  have hmade := World.ownsRow_made (e := 49) (size := 2) (base := w1.heap.size) (wi.setCell ⟨g, 1, none⟩ (.int .i64 0)) #[] 0 (by rw [hz]; exact hb.size) (by unfold maxLen; omega) rfl
  rw [hz] at hmade
  obtain ⟨v', w', r1, r2, r3⟩ := cutI9 (g := g) (off := off) (d := cap - 1) (t := t) 42 hmade rfl ht (by rw [World.size_alloc, hz]; have := hb.size; omega) (fun j u hj => by
    rcases hoff with rfl | rfl
    · simp [itL] at hj
    · exact (((Below.refl _ _).alloc (Nat.le_refl _) _).cell (p := ⟨g, 2 + j, none⟩) (by rw [hz]; exact hgl)).trans (htl 0 j u hj))
  exact ⟨v', w', r1, r2, (hb3.alloc hb3.size _).grown r3 (by rw [World.size_alloc]; have := hb3.size; omega) (fun j hj => by injection hj with hj; rw [← hj]; exact hb.size)⟩

theorem cut_none {w1 wi : World} {g : Nat} (hb : Below w1.heap.size w1 wi) (hg : w1.heap.size ≤ g) :
    ((wi.setCell ⟨g, 1, none⟩ (.int .i64 0)).alloc (.cells #[] 49)).ownsRow w1.heap.size 49 2 (.slice (some ⟨wi.heap.size, 0, none⟩) 0 0) ([] : List (Int × Int)).length (itL []) ∧ Below w1.heap.size w1 ((wi.setCell ⟨g, 1, none⟩ (.int .i64 0)).alloc (.cells #[] 49)) := by
  have hz : (wi.setCell ⟨g, 1, none⟩ (.int .i64 0)).heap.size = wi.heap.size := by simp [World.setCell]
  have hb3 : Below w1.heap.size w1 (wi.setCell ⟨g, 1, none⟩ (.int .i64 0)) := hb.setCell (p := ⟨g, 1, none⟩) hg _
  have hmade := World.ownsRow_made (e := 49) (size := 2) (base := w1.heap.size) (wi.setCell ⟨g, 1, none⟩ (.int .i64 0)) #[] 0 (by rw [hz]; exact hb.size) (by unfold maxLen; omega) rfl
  rw [hz] at hmade
  exact ⟨hmade, hb3.alloc hb3.size _⟩

set_option maxHeartbeats 16000000 in
set_option maxRecDepth 100000 in
theorem itemsR_any (A : Option Addr) (n c : Nat) (p : Nat → En) (s : ByteArray) (d : Int) (w : World) (hn : n ≤ 2000) (hp : EHas9 w A n p) (hb : ∀ k, k < n → -1000000000 ≤ (p k).a ∧ (p k).a ≤ 1000000000) :
    Calls Try.prog 62 #[.slice A n c, .string s, .int .i64 d] w (RetItP w (debL p (ofE p s d) n)) := by
  have HF := Lib.hid (ofR_any9 A n c p s d w hn hp)
  have HSUM := Lib.hid (debL_sel p (ofE p s d) n)
  have HLE := Lib.hid (selL_le (ofE p s d) n)
  have HBD := Lib.hid (show ∀ j, j < (selL (ofE p s d) n).length → -1000000000 ≤ (selE p (ofE p s d) n j).a ∧ (selE p (ofE p s d) n j).a ≤ 1000000000 from fun j hj => hb _ (selN_lt hj).1)
  have HV := Lib.hid (show debL p (ofE p s d) n = dsQ (selE p (ofE p s d) n) (selL (ofE p s d) n).length from HSUM.out.symm)
  generalize debL p (ofE p s d) n = V at *
  generalize selE p (ofE p s d) n = q at *
  generalize (selL (ofE p s d) n).length = N at *
  clear hb hp HSUM
  go_enter Try.func62, Try.ntmps62
  go_wp2_with (go_at_call 58; (refine HF.out.mono ?_); rintro e w1 ⟨A1, c1, rfl, q1, q2, q0, q3, hb1⟩; have HQ := Lib.hid q3; have HB1 := Lib.hid hb1; clear q0 q3 hb1)
  go_loopw [6, 7, 9, 10, 11, 12, 18] (fun o h _ _ _ _ i wr => ∃ (k : Nat) (ls : List (Int × Int)) (hd : Int), k ≤ N ∧ i = .int .i64 (k : Int) ∧ dsQ q k = (ls, hd) ∧ h = .int .i64 hd ∧ wr.ownsRow w1.heap.size 49 2 o ls.length (itL ls) ∧ Below w1.heap.size w1 wr) (fun _ _ _ _ _ _ i _ => N - (intOf i).toNat)
  case atStart => exact ⟨0, [], 0, Nat.zero_le _, rfl, rfl, rfl, World.ownsRow_nil _ _ _ _, Below.refl _ _⟩
  case round =>
    obtain ⟨k, ls, h, hk, rfl, hds, rfl, ho, hbr⟩ := hrel
    have HO := Lib.hid ho
    have HB := Lib.hid hbr
    have HDS := Lib.hid hds
    have hle := HLE.out
    obtain ⟨b1, b2, b3, b4⟩ := dsQ_bd (q := q) (m := k) (fun j hj => HBD.out j (by omega))
    rw [hds] at b1 b2 b3 b4
    have hls : ls.length ≤ 2000 := by have : ls.length ≤ k := b3; omega
    have hh0 : 0 ≤ h := b1
    have hh1 : h ≤ 2000000000000 := by have : h ≤ k * 1000000000 := b2; omega
    have HIT := Lib.hid (show ∀ x ∈ ls, 0 < x.2 ∧ x.2 ≤ 1000000000 from b4)
    clear ho hbr hds b1 b2 b3 b4
    by_cases hlt : k < N
    · obtain ⟨b, off, rfl, lb, x0, x1, x2⟩ := (HQ.out.later HB.out).at_ hlt
      have HST := Lib.hid (show dsQ q (k + 1) = debS (ls, h) ⟨(q k).d, (q k).s, (q k).a⟩ from by
        show debS (dsQ q k) (q k) = _
        rw [HDS.out])
      obtain ⟨a1, a2⟩ := HBD.out k hlt
      have HBZ := Lib.hid (show ∀ o, Below wr.heap.size wr (wr.alloc o) from fun o => (Below.refl _ _).alloc (Nat.le_refl _) o)
      generalize (q k).d = z at *
      generalize (q k).s = t at *
      generalize (q k).a = a at *
      have HZ := Lib.hid (new_at wr (.cells #[.int .i64 z, .string t, .int .i64 a] 51) _ rfl)
      by_cases ha : 0 < a
      · obtain ⟨e1, e2⟩ := debS_pos ls h z t ha
        by_cases hlt2 : h < a
        · rw [if_pos hlt2] at e1 e2
          have HN := Lib.hid (show dsQ q (k + 1) = (ls ++ [(z, a - h)], 0) from HST.out.trans (Prod.ext e1 e2))
          have hle2 : ¬ a ≤ h := by omega
          have HAL2 := Lib.hid (bthen (HBZ.out (.cells #[.int .i64 z, .string t, .int .i64 a] 51)) ((Below.refl _ _).alloc (Nat.le_refl _) (.cells #[.int .i64 z, .int .i64 (a - h)] 49)))
          have hy := alloc_at9 (k := wr.heap.size + 1) (wr.alloc (.cells #[.int .i64 z, .string t, .int .i64 a] 51)) (.cells #[.int .i64 z, .int .i64 (a - h)] 49) (World.size_alloc _ _)
          obtain ⟨v', w', run, O', G'⟩ := pushI9 42 (owns_later HO.out HAL2.out) (by omega) (z, a - h) (by have h1 := HB.out.size; have h2 := HAL2.out.size; omega) (wr.heap.size + 1) (by rw [items_two hy]; rfl) (by rw [items_two hy]; rfl)
          have RUN := Lib.hid run
          have HO' := Lib.hid O'
          have HB' := Lib.hid (show Below w1.heap.size w1 w' from by
            have h3 := bthen HB.out HAL2.out
            exact h3.grown G' h3.size (fun j hj => (HO.out.lt j hj).1))
          obtain ⟨c0, c1, c2, l0⟩ := cell3_of HZ.out
          clear e1 e2 hy run O' G'
          go_wp2_with (at_builtin; go_loud (refine Lib.wpList_append_run _ rfl _ _ _ _ rfl _ _ rfl rfl _ _ RUN.out ?_))
          go_roundw
          case rel => exact ⟨k + 1, _, _, by omega, by go_num, HN.out, rfl, HO'.out, HB'.out⟩
          case measure => simp [intOf]; omega
        · rw [if_neg hlt2] at e1 e2
          have HN := Lib.hid (show dsQ q (k + 1) = (ls, h - a) from HST.out.trans (Prod.ext e1 e2))
          obtain ⟨c0, c1, c2, l0⟩ := cell3_of HZ.out
          clear e1 e2
          by_cases hlt3 : a < h
          · go_wp2
            go_roundw
            case rel => exact ⟨k + 1, _, _, by omega, by go_num, HN.out, rfl, owns_later HO.out (HBZ.out _), bthen HB.out (HBZ.out _)⟩
            case measure => simp [intOf]; omega
          · obtain rfl : a = h := by omega
            go_wp2
            go_roundw
            case rel => exact ⟨k + 1, _, _, by omega, by go_num, HN.out, by simp, owns_later HO.out (HBZ.out _), bthen HB.out (HBZ.out _)⟩
            case measure => simp [intOf]; omega
      · obtain ⟨e1, e2⟩ := debS_neg ls h z t ha
        have HN := Lib.hid (show dsQ q (k + 1) = ((payL ls (-a)).1, h + (payL ls (-a)).2) from HST.out.trans (Prod.ext e1 e2))
        have HO2 := Lib.hid (owns_later HO.out (HBZ.out (.cells #[.int .i64 z, .string t, .int .i64 a] 51)))
        have HB2 := Lib.hid (bthen HB.out (HBZ.out (.cells #[.int .i64 z, .string t, .int .i64 a] 51)))
        obtain ⟨c0, c1, c2, l0⟩ := cell3_of HZ.out
        clear e1 e2
        go_wp2
        go_loopw [6, 11, 12] (fun o pd _ wi => ∃ (l : List (Int × Int)) (x : Int), pd = .int .i64 x ∧ 0 ≤ x ∧ x ≤ -a ∧ payL l x = payL ls (-a) ∧ l.length ≤ ls.length ∧ (∀ x ∈ l, 0 < x.2 ∧ x.2 ≤ 1000000000) ∧ wi.ownsRow w1.heap.size 49 2 o l.length (itL l) ∧ Below w1.heap.size w1 wi) (fun _ pd _ _ => (intOf pd).toNat)
        case atStart => exact ⟨ls, -a, rfl, by omega, Int.le_refl _, rfl, Nat.le_refl _, HIT.out, HO2.out, HB2.out⟩
        case round =>
          obtain ⟨l, x, rfl, hx0, hx1, hpay, hlen, hxs, hown, hbi⟩ := hrel
          have HI := Lib.hid (And.intro hpay (And.intro hlen hxs))
          have HOI := Lib.hid hown
          have HBI := Lib.hid hbi
          have hll : l.length ≤ 2000 := by omega
          clear c0 c1 c2 l0 hpay hlen hbi
          by_cases hx : 0 < x
          · cases l with
            | nil =>
              have HN2 := Lib.hid (show dsQ q (k + 1) = ([], h + x) from by
                have h1 : payL ls (-a) = ([], x) := HI.out.1.symm
                rw [HN.out, h1])
              obtain ⟨A', c', rfl, _⟩ := owns_items hown
              clear hown hxs hll
              go_wp2
              go_roundw
              case rel => exact ⟨k + 1, _, _, by omega, by go_num, HN2.out, rfl, HOI.out, HBI.out⟩
              case measure => simp [intOf]; omega
            | cons y t' =>
              obtain ⟨g, cap, rfl, hg, hcap, hcapm, hgl, hc0, hc1, hfz, hset, htl⟩ := owns_first hown
              obtain ⟨y1, y2⟩ := hxs y (by simp)
              have HSET := Lib.hid hset
              have HCUT := Lib.hid (fun off (ho : t' = [] ∨ off = 2) => cut_step (cap := cap) (off := off) HBI.out hg (by simp only [List.length_cons] at hll; omega) ho htl hgl)
              obtain ⟨m, hm⟩ : ∃ m, (y :: t').length = m := ⟨_, rfl⟩
              have HM := Lib.hid (show t'.length = m - 1 from by rw [← hm]; rfl)
              have hlz : (0 : Int) < (m : Int) := by rw [← hm]; simp only [List.length_cons]; omega
              have hlz1 : (1 : Int) ≤ (m : Int) := by omega
              have hmc : m ≤ cap := by rw [← hm]; exact hcap
              rw [hm] at hll HSET ⊢
              have HG := Lib.hid hg
              have HXS := Lib.hid (show ∀ z ∈ t', 0 < z.2 ∧ z.2 ≤ 1000000000 from fun z hz => hxs z (by simp [hz]))
              rw [HM.out] at HCUT
              clear hown hxs hset htl hg hm hcap
              by_cases hle3 : y.2 ≤ x
              · have HP := Lib.hid (show payL t' (x - y.2) = payL ls (-a) from by rw [← HI.out.1, payL_step hx, if_pos hle3])
                by_cases hlt4 : y.2 < x
                · by_cases hcp : cap = 1
                  · subst hcp
                    obtain rfl : t' = [] := List.length_eq_zero_iff.1 (by rw [HM.out]; omega)
                    have HNO := Lib.hid (cut_none HBI.out HG.out)
                    clear HCUT
                    go_wp2
                    go_roundw
                    case rel => exact ⟨[], x - y.2, rfl, by omega, by omega, HP.out, Nat.zero_le _, HXS.out, HNO.out.1, HNO.out.2⟩
                    case measure => simp [intOf]; omega
                  · obtain ⟨v', w', run, O', B'⟩ := HCUT.out 2 (.inr rfl)
                    have RUN := Lib.hid run
                    have HO' := Lib.hid O'
                    have HB' := Lib.hid B'
                    clear run O' B' HCUT
                    go_wp2_with (at_builtin; go_loud (refine Lib.wpList_append_run _ rfl _ _ _ _ rfl _ _ rfl rfl _ _ RUN.out ?_))
                    go_roundw
                    case rel => exact ⟨t', x - y.2, rfl, by omega, by omega, HP.out, by have := HI.out.2.1; simp at this; omega, HXS.out, by rw [HM.out]; exact HO'.out, HB'.out⟩
                    case measure => simp [intOf]; omega
                · have hxy : x = y.2 := by omega
                  subst hxy
                  rw [Int.sub_self] at HP
                  by_cases hcp : cap = 1
                  · subst hcp
                    obtain rfl : t' = [] := List.length_eq_zero_iff.1 (by rw [HM.out]; omega)
                    have HNO := Lib.hid (cut_none HBI.out HG.out)
                    clear HCUT
                    go_wp2
                    go_roundw
                    case rel => exact ⟨[], 0, rfl, by omega, by omega, HP.out, Nat.zero_le _, HXS.out, HNO.out.1, HNO.out.2⟩
                    case measure => simp [intOf]; omega
                  · obtain ⟨v', w', run, O', B'⟩ := HCUT.out 2 (.inr rfl)
                    have RUN := Lib.hid run
                    have HO' := Lib.hid O'
                    have HB' := Lib.hid B'
                    clear run O' B' HCUT
                    go_wp2_with (at_builtin; go_loud (refine Lib.wpList_append_run _ rfl _ _ _ _ rfl _ _ rfl rfl _ _ RUN.out ?_))
                    go_roundw
                    case rel => exact ⟨t', 0, rfl, by omega, by omega, HP.out, by have := HI.out.2.1; simp at this; omega, HXS.out, by rw [HM.out]; exact HO'.out, HB'.out⟩
                    case measure => simp [intOf]; omega
              · have HP := Lib.hid (show payL ((y.1, y.2 - x) :: t') 0 = payL ls (-a) from by rw [← HI.out.1, payL_step hx, if_neg hle3]; exact payL_end (by omega))
                have hlt5 : ¬ y.2 < x := by omega
                have hqx : ¬ y.2 - x = 0 := by omega
                have hqy : (y.2 - x == 0) = false := by simpa using hqx
                have HC := Lib.hid (And.intro (HSET.out (y.2 - x)) (HBI.out.setCell (p := ⟨g, 1, none⟩) HG.out (.int .i64 (y.2 - x))))
                clear HCUT
                go_wp2
                go_roundw
                case rel => exact ⟨(y.1, y.2 - x) :: t', 0, rfl, Int.le_refl _, by omega, HP.out, by have := HI.out.2.1; simpa using this, fun z hz => by
                  rcases List.mem_cons.1 hz with rfl | hz
                  · exact ⟨by show 0 < y.2 - x; omega, by show y.2 - x ≤ 1000000000; omega⟩
                  · exact HXS.out z hz, by show World.ownsRow _ _ _ _ _ (t'.length + 1) _; rw [show t'.length + 1 = m by have := HM.out; omega]; exact HC.out.1, HC.out.2⟩
                case measure => simp [intOf]; omega
          · have HN2 := Lib.hid (show dsQ q (k + 1) = (l, h + x) from by
              have h1 : payL ls (-a) = (l, x) := by rw [← HI.out.1]; exact payL_end hx
              rw [HN.out, h1])
            clear hown hxs
            go_wp2
            go_roundw
            case rel => exact ⟨k + 1, _, _, by omega, by go_num, HN2.out, rfl, HOI.out, HBI.out⟩
            case measure => simp [intOf]; omega
    · obtain rfl : k = N := by omega
      obtain ⟨A', c', rfl, r1, r2, _, r4⟩ := owns_items HO.out
      have HR := Lib.hid (And.intro r1 (And.intro r2 r4))
      clear r1 r2 r4
      go_wp2
      go_ret2
      obtain rfl : V = (ls, h) := HV.out.trans HDS.out
      exact ⟨A', c', rfl, HR.out.1, HR.out.2.1, HR.out.2.2, bthen HB1.out HB.out⟩
end Go.Proofs.Ytgdlcpocelicmaa
