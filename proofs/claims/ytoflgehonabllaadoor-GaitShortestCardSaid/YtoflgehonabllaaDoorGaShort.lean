/- The search for a shortest sequence, by contract (the code's side); no statement is proved here. -/
import Derived.Test.YtoflgehonabllaaDoorGaMap
namespace Go.Proofs.YtoflgehonabllaaDoor
open Go.ChangeShapes Go.WideShapes Go.ChangeAt Go.RowKit

/-- A sequence, or none. -/
def RetS (W : World) (o : Option (List Nat)) (e : Ending) (w' : World) : Prop :=
  ∃ P N d, e = .returned (.tuple #[.slice P N d, .bool o.isSome]) ∧ N = (o.getD []).length ∧ N ≤ d ∧ d ≤ 9223372036854775807 ∧ IHas w' P N (wayF (o.getD [])) ∧ Below W.heap.size W w'
theorem foldB_succ (k : Int) (a : Nat) (way : List Nat) (l : Nat → Int) (L : List (Nat × List Nat)) (j : Nat) : foldB k a way l L (j + 1) = if skipB k a (foldB k a way l L j) (l j).toNat then foldB k a way l L j else foldB k a way l L j ++ [(a ||| (l j).toNat, way ++ [j])] := rfl
theorem qF_push {L : List (Nat × List Nat)} {h x : Nat} {ws : List Nat} (hh : h ≤ L.length) : ∀ j, j < L.length - h + 1 → moreQ (qF L h) (L.length - h) (x : Int) j = qF (L ++ [(x, ws)]) h j := fun j hj => by
  unfold moreQ qF
  by_cases h1 : j < L.length - h
  · rw [if_pos h1, List.getD_eq_getElem?_getD, List.getD_eq_getElem?_getD, List.getElem?_append_left (by omega)]
  · rw [if_neg h1, List.getD_eq_getElem?_getD, List.getElem?_append_right (by omega), show h + j - L.length = 0 by omega]
    rfl
theorem below_put6 {n : Nat} {w W W' : World} {M : Nat} (h : Below n w W) (hg : W.grownBy W' (some M)) (hM : n ≤ M) (hn : n ≤ W.heap.size) : Below n w W' :=
  h.grown hg hn (fun j hj => by injection hj with hj; omega)

theorem first_q {j : Nat} (hj : j < 1) : (#[Value.int .i64 0] : Array Value)[0 + j]? = some (.int .i64 (qF [(0, [])] 0 j)) := by
  have e : j = 0 := Nat.lt_one_iff.1 hj
  subst e
  rfl
theorem wayF_push (ws : List Nat) (b : Nat) : ∀ i, i < ws.length + 1 → moreQ (wayF ws) ws.length (b : Int) i = wayF (ws ++ [b]) i := fun i hi => by
  unfold moreQ wayF
  by_cases h1 : i < ws.length
  · rw [if_pos h1, List.getD_eq_getElem?_getD, List.getD_eq_getElem?_getD, List.getElem?_append_left h1]
  · rw [if_neg h1, List.getD_eq_getElem?_getD, List.getElem?_append_right (by omega), show i - ws.length = 0 by omega]
    rfl
theorem way_of_owns {W : World} {base M own b : Nat} {v : Value} {ws : List Nat} (h : W.ownsRow base 3 1 v (ws.length + 1) (ints (wayF ws) ws.length ++ [.int .i64 (b : Int)])) (hM : M < base) (ho : own < base) :
    ∃ A N C, v = .slice A N C ∧ WayAt W M own v (ws ++ [b]) := by
  rw [ints_more5] at h
  obtain ⟨g, ⟨cap, off, cur, rfl, h1, h2, h3, h4, h5⟩, _, hb⟩ := QAt.of_owns (Nat.succ_pos _) h
  have hl : (ws ++ [b]).length = ws.length + 1 := by simp
  refine ⟨_, _, _, rfl, some ⟨g, off, none⟩, cap, by rw [hl], by omega, h2, fun _ => ⟨g, off, rfl, lt_of_heap h3, fun k hk => ?_⟩, (fun e => by cases e), fun g' o s e => ?_⟩
  · rw [hl] at hk
    simp only [World.cell?, h3]
    rw [← wayF_push ws b k hk]
    exact h5 k hk
  · cases e
    have := lt_of_heap h3
    exact ⟨by omega, by omega, by omega⟩

set_option maxHeartbeats 16000000 in
set_option maxRecDepth 100000 in
theorem shortest_any (r : Nat) (hr : r ≤ 12) (A : Option Addr) (n c : Nat) (l : Nat → Int) (k : Int) (w : World) (hn : n ≤ c) (_ : c ≤ 9223372036854775807) (h16 : n ≤ 16) (hl : ∀ j, j < n → 1 ≤ l j ∧ l j < 4096) (hp : IHas w A n l) :
    Calls Tryd.prog 68 #[.int .i64 (r : Int), .slice A n c, .int .i64 k] w (RetS w (shS r l n k)) := by
  have HP := Lib.hid hp
  have HL := Lib.hid hl
  have hmm := @run_makeMap Tryd.prog
  obtain ⟨i0, hi0, hz0, hz1, hz2⟩ := info_parts infoInt
  have HEND := Lib.hid (fun a (ha : a < 4096) w => mayEnd_any r a hr ha k w)
  have HNUM := Lib.hid (fun x (hx : x < 4096) w => mayNumb_any x hx k w)
  -- the map and the queue
  have h0 : (w.alloc (.map #[] 0)).heap[w.heap.size]? = some (.map #[] 0) := new_at _ _ _ rfl
  have hsh0 : ShAt (w.alloc (.map #[] 0)) w.heap.size (w.heap.size + 1) [] := ShAt.empty (by omega) h0
  obtain ⟨W1, hrun1, hsh1, hg1, hz1'⟩ := update_more hsh0 (x := 0) rfl (v := .slice none 0 0) (ws := []) ⟨none, 0, rfl, Nat.le_refl _, by omega, (fun h => absurd h (Nat.lt_irrefl 0)), fun _ => rfl, fun g o s e => by cases e⟩
  have hs1 : W1.heap.size = w.heap.size + 1 := by rw [hz1']; simp
  have hb1 : Below w.heap.size w W1 := below_put6 ((Below.refl _ _).alloc (Nat.le_refl _) _) hg1 (Nat.le_refl _) (by simp)
  have hrun1' : (Instr.mapUpdate 120 (.map (some w.heap.size)) (.int .i64 0) (.slice none 0 0)).run Tryd.prog (w.alloc (.map #[] 0)) = .ok () W1 := hrun1
  have HB2 := Lib.hid (show Below w.heap.size w (W1.alloc (.cells #[.int .i64 0] 3)) from hb1.alloc (by omega) _)
  have HS2 := Lib.hid (show ShAt (W1.alloc (.cells #[.int .i64 0] 3)) w.heap.size (w.heap.size + 1) [(0, [])] from hsh1.keep (by simp) (fun b hb _ => ((Below.refl W1.heap.size W1).alloc (Nat.le_refl _) _).block b hb) (.inl rfl))
  have HQ2 := Lib.hid (show QAt (W1.alloc (.cells #[.int .i64 0] 3)) (w.heap.size + 1) (.slice (some ⟨w.heap.size + 1, 0, none⟩) 1 1) 1 (qF [(0, [])] 0) from ⟨1, 0, #[.int .i64 0], rfl, Nat.le_refl _, by omega, new_at _ _ _ hs1, by decide, fun j hj => first_q hj⟩)
  have HS1 := Lib.hid hs1
  obtain ⟨o, ho⟩ : ∃ o, o = shS r l n k := ⟨_, rfl⟩
  rw [← ho]
  have HO := Lib.hid (show shF r l n k (4097 - 0) [(0, [])] 0 = o from ho.symm)
  clear hp hl h0 hsh0 hsh1 hg1 hz1' hb1 hrun1 hs1 ho
  go_enter Tryd.func68, Tryd.ntmps68
  go_wp2
  have hs1 := HS1.out
  rw [hs1]
  clear hs1
  go_loopw [6, 7, 9, 10, 11, 12, 13, 14, 15] (fun _ _ v _ _ _ _ _ _ wr => ∃ (L : List (Nat × List Nat)) (h own : Nat), LInv L ∧ h ≤ L.length ∧ QAt wr own v (L.length - h) (qF L h) ∧ ShAt wr w.heap.size own L ∧ w.heap.size + 1 ≤ own ∧ Below w.heap.size w wr ∧ Hid (shF r l n k (4097 - h) L h = o)) (fun _ _ v _ _ _ _ _ _ wr => 4097 - (mapSz wr w.heap.size - lenV v))
  case atStart => exact ⟨[(0, [])], 0, w.heap.size + 1, LInv.first, Nat.zero_le _, HQ2.out, HS2.out, Nat.le_refl _, HB2.out, HO⟩
  case round =>
    clear HQ2 HS2 HB2 HO
    obtain ⟨L, h, own, hL, hh, hq, hs, hown, hb, HO⟩ := hrel
    have HLI := Lib.hid hL
    have HQ := Lib.hid hq
    have HS := Lib.hid hs
    have HB := Lib.hid hb
    have hroom := hL.room
    have hsz := hs.sz
    obtain ⟨cap, off, cur, rfl, q1, q2, q3, q4, q5⟩ := hq
    have hlo := lt_of_heap q3
    by_cases hlt : h < L.length
    · obtain ⟨⟨a, way⟩, he⟩ : ∃ e, L[h]? = some e := ⟨L[h], List.getElem?_eq_getElem hlt⟩
      obtain ⟨ha, hw⟩ := hL.at' h _ he
      dsimp only at ha hw
      have HEL := Lib.hid he
      have hq0 : cur[off + 0]? = some (.int .i64 (a : Int)) := by
        have := q5 0 (by omega)
        rw [this]
        unfold qF
        rw [Nat.add_zero, List.getD_eq_getElem?_getD, he]
        rfl
      rw [Nat.add_zero] at hq0
      have hcell : wr.cell? ⟨own, off, none⟩ = some (.int .i64 (a : Int)) := by simp only [World.cell?, q3]; exact hq0
      have HQ1 := Lib.hid (show QAt wr own (if cap = 1 then .slice (some ⟨own, off, none⟩) (L.length - (h + 1)) 0 else .slice (some ⟨own, off + 1, none⟩) (L.length - (h + 1)) (cap - 1)) (L.length - (h + 1)) (qF L (h + 1)) from by
        by_cases hc1 : cap = 1
        · rw [if_pos hc1]
          exact ⟨0, off, cur, rfl, by omega, by omega, q3, by omega, fun j hj => absurd hj (by omega)⟩
        · rw [if_neg hc1]
          refine ⟨cap - 1, off + 1, cur, rfl, by omega, by omega, q3, by omega, fun j hj => ?_⟩
          have := q5 (j + 1) (by omega)
          rw [show off + 1 + j = off + (j + 1) by omega, this]
          unfold qF
          rw [show h + 1 + j = h + (j + 1) by omega])
      have HE := Lib.hid (HEND.out a ha)
      have HST := Lib.hid (show o = if endB r a k then some way else shF r l n k (4097 - (h + 1)) (foldB k a way l L n) (h + 1) from by
        rw [← HO.out]
        obtain ⟨f, hf⟩ : ∃ f, 4097 - h = f + 1 := ⟨4096 - h, by omega⟩
        rw [hf, shF, he, show 4097 - (h + 1) = f by omega])
      have HSZ := Lib.hid hsz
      obtain ⟨R, hR⟩ : ∃ R, L.length - h = R + 1 := ⟨L.length - h - 1, by omega⟩
      rw [hR] at HQ q1 ⊢
      rw [show L.length - (h + 1) = R by omega] at HQ1
      have HRR := Lib.hid (show L.length - (h + 1) = R from by omega)
      have hR4 : R ≤ 4096 := by omega
      clear q4 q5 q3 hq0 he hR HQ HO hsz hL
      cases hend : endB r a k
      · rw [hend] at HE HST
        rw [if_neg (by simp)] at HST
        rcases (show cap = 1 ∨ 1 < cap by omega) with hc1 | hc1
        all_goals
          have HQ5 := HQ1.out
          first | rw [if_pos hc1] at HQ5 | rw [if_neg (by omega)] at HQ5
          have HQ4 := Lib.hid HQ5
          clear HQ5 HQ1
          go_wp2_with fail
          refine (HE.out _).mono ?_
          rintro e w4 ⟨rfl, hb4⟩
          have HSI := Lib.hid (HS.out.later hb4)
          have HQI := Lib.hid (HQ4.out.keep (hb4.block own HQ4.out.lt))
          have HBI := Lib.hid (bthen HB.out hb4)
          clear hcell hb4 HQ4
          go_wp2
          go_loopw [9, 11, 12, 13, 14, 15, 36] (fun v _ _ _ _ _ i ww => ∃ j own' : Nat, j ≤ n ∧ i = .int .i64 (j : Int) ∧ QAt ww own' v ((foldB k a way l L j).length - (h + 1)) (qF (foldB k a way l L j) (h + 1)) ∧ ShAt ww w.heap.size own' (foldB k a way l L j) ∧ w.heap.size + 1 ≤ own' ∧ Below w.heap.size w ww) (fun _ _ _ _ _ _ i _ => n - (intOf i).toNat)
          case atStart => exact ⟨0, own, Nat.zero_le _, rfl, by rw [show (foldB k a way l L 0).length - (h + 1) = R from HRR.out]; exact HQI.out, HSI.out, hown, HBI.out⟩
          case round =>
            clear HQI HSI HBI HE
            obtain ⟨j, own', hj, rfl, hq, hs, hown', hb⟩ := hrel
            obtain ⟨hLj, t, ht⟩ := foldB_inv HLI.out HEL.out HL.out j hj
            have HELj := Lib.hid (show (foldB k a way l L j)[h]? = some (a, way) from by rw [ht, List.getElem?_append_left hlt]; exact HEL.out)
            have hhj : h + 1 ≤ (foldB k a way l L j).length := by rw [ht, List.length_append]; omega
            have hroomj := hLj.room
            have HLj := Lib.hid hLj
            clear ht hLj
            by_cases hjn : j < n
            · have HF := Lib.hid (foldB_succ k a way l L j)
              obtain ⟨y1, y2⟩ := HL.out j hjn
              obtain ⟨q, hq4⟩ : ∃ q : Nat, l j = (q : Int) := ⟨(l j).toNat, by omega⟩
              obtain ⟨b, off', rfl, hP⟩ := (HP.out.later hb) (by omega)
              have hx := hP.v j hjn
              rw [hq4] at hx HF
              rw [show ((q : Int)).toNat = q from rfl] at HF
              have hq4' : q < 4096 := by omega
              clear hP y1 y2 hq4
              have eor := or5 a q (by omega) (by omega)
              have ecut := andNot5 q a (by omega) (by omega)
              have hcl := cut5_le q a
              have HN := Lib.hid (HNUM.out (cut5 q a) (by omega))
              have hx4 : a ||| q < 4096 := Nat.or_lt_two_pow (n := 12) ha hq4'
              have HSKD := Lib.hid (show skipB k a (foldB k a way l L j) q = (keyIn (foldB k a way l L j) (a ||| q) || !btw ((pop5 (cut5 q a) : Nat) : Int) 1 k) from rfl)
              generalize skipB k a (foldB k a way l L j) q = SK at *
              generalize foldB k a way l L j = LJ at *
              generalize a ||| q = x at *
              generalize cut5 q a = z at *
              generalize btw ((pop5 z : Nat) : Int) 1 k = N5 at *
              have HQJ := Lib.hid hq
              have HSJ := Lib.hid hs
              have HBJ := Lib.hid hb
              clear hq hs hb
              cases hk : keyIn LJ x
              · have hlk := lookup_miss HSJ.out hk
                rw [hk] at HSKD
                cases N5
                · have HEQ := Lib.hid (show foldB k a way l L (j + 1) = LJ from by rw [HF.out, HSKD.out]; rfl)
                  go_wp2_with fail
                  refine (HN.out _).mono ?_
                  rintro e w5 ⟨rfl, hb5⟩
                  have HS5 := Lib.hid (HSJ.out.later hb5)
                  have HQ5 := Lib.hid (HQJ.out.keep (hb5.block own' HQJ.out.lt))
                  have HB5 := Lib.hid (bthen HBJ.out hb5)
                  clear hb5 hx hlk
                  go_wp2
                  go_roundw
                  case rel => exact ⟨j + 1, own', by omega, by go_num, by rw [HEQ.out]; exact HQ5.out, by rw [HEQ.out]; exact HS5.out, hown', HB5.out⟩
                  case measure => simp [intOf]; omega
                · have HEQ := Lib.hid (show foldB k a way l L (j + 1) = LJ ++ [(x, way ++ [j])] from by rw [HF.out, HSKD.out]; rfl)
                  go_wp2_with fail
                  refine (HN.out _).mono ?_
                  rintro e w5 ⟨rfl, hb5⟩
                  have HS5 := Lib.hid (HSJ.out.later hb5)
                  have HQ5 := Lib.hid (HQJ.out.keep (hb5.block own' HQJ.out.lt))
                  have HB5 := Lib.hid (bthen HBJ.out hb5)
                  obtain ⟨vw, ⟨Aw, cw, rfl, w1, w2, w3, w4', w5'⟩, hlk2⟩ := lookup_one HLj.out HS5.out HELj.out
                  have HW := Lib.hid w3
                  have HCL := Lib.hid (Clone_any5 Aw way.length cw (wayF way) w5 (by omega) w3 w4')
                  clear hb5 hx hlk w3 w4' w5'
                  have hM5 : w.heap.size < w5.heap.size := by have := HB5.out.size; have := HQ5.out.lt; omega
                  have ho5 : own' < w5.heap.size := HQ5.out.lt
                  go_wp2_with (first
                    | (go_at_call 92; (refine HCL.out.mono ?_); rintro e w6 ⟨v6, rfl, hown6, hb6⟩; have HO6 := Lib.hid hown6; have HB6 := Lib.hid hb6; have hz6 := hb6.size; clear hown6 hb6)
                    | (at_builtin; go_loud (refine wpList_append_own _ rfl _ _ 38 rfl w5.heap.size 3 i0 (.int .i64 0) 1 8 Tryd.underlying38 hi0 hz0 hz1 hz2 rfl (by decide) _ _ _ rfl (HO6.out.alloc _) ⟨w6.heap.size, 0, none⟩ 1 1 [.int .i64 (j : Int)] rfl rfl ?c1 ?c2 ?c3 ?c4 ?c5 ?_)))
                  case c1 => exact cell_one_new _ _ _
                  case c2 => intro u hu; simp at hu; subst hu; rfl
                  case c3 => unfold maxLen; omega
                  case c4 => omega
                  case c5 => simp; omega
                  intro v7 w7 hown7 hgrow7 _
                  have hb7 : Below w5.heap.size w5 w7 := (HB6.out.alloc hz6 (.cells #[.int .i64 (j : Int)] 3)).grown hgrow7 (by simp; omega) (fun j hj => (HO6.out.lt j hj).1)
                  obtain ⟨A7, N7, C7, rfl, hway⟩ := way_of_owns hown7 hM5 ho5
                  have hq7 := HQ5.out.keep (hb7.block own' HQ5.out.lt)
                  have hs7 := HS5.out.later hb7
                  have hne7 := hs7.1
                  obtain ⟨w8, hrun8, hs8, hg8, hz8⟩ := update_more hs7 hk hway
                  have hrun8' : (Instr.mapUpdate 120 (.map (some w.heap.size)) (.int .i64 (x : Int)) (.slice A7 N7 C7)).run Tryd.prog w7 = .ok () w8 := hrun8
                  have hb8 : Below w.heap.size w w8 := below_put6 (bthen HB5.out hb7) hg8 (Nat.le_refl _) (by have := hb7.size; omega)
                  have hq8 := hq7.keep (hg8.block own' hq7.lt (fun e => by injection e with e; omega))
                  have HS9 := Lib.hid (show ShAt (w8.alloc (.cells #[.int .i64 (x : Int)] 3)) w.heap.size own' (LJ ++ [(x, way ++ [j])]) from hs8.keep (by simp) (fun b hb _ => ((Below.refl w8.heap.size w8).alloc (Nat.le_refl _) _).block b hb) (.inl rfl))
                  have HQ9 := Lib.hid (show QAt (w8.alloc (.cells #[.int .i64 (x : Int)] 3)) own' u9 (LJ.length - (h + 1)) (qF LJ (h + 1)) from hq8.keep (((Below.refl w8.heap.size w8).alloc (Nat.le_refl _) _).block own' hq8.lt))
                  have HB9 := Lib.hid (show Below w.heap.size w (w8.alloc (.cells #[.int .i64 (x : Int)] 3)) from hb8.alloc hb8.size _)
                  have hz9 := hb8.size
                  clear hz8 hrun8 hq7 hs7 hq8 hs8 hg8 hway hown7 hgrow7 hb7 hb8 hlk2
                  go_wp2_with (at_builtin; go_loud (refine append_queue rfl _ _ rfl own' (LJ.length - (h + 1)) _ (qF LJ (h + 1)) rfl HQ9.out (by omega) ⟨w8.heap.size, 0, none⟩ (x : Int) rfl ?c1 ?_))
                  case c1 => exact cell_one_new _ _ _
                  intro v9 w9 own9 hq9 ho9 hg9
                  rintro A9 N9 C9 rfl
                  have HQF := Lib.hid (show QAt w9 own9 (.slice A9 N9 C9) ((LJ ++ [(x, way ++ [j])]).length - (h + 1)) (qF (LJ ++ [(x, way ++ [j])]) (h + 1)) from by
                    have e : (LJ ++ [(x, way ++ [j])]).length - (h + 1) = LJ.length - (h + 1) + 1 := by simp; omega
                    rw [e]
                    exact hq9.congr (qF_push hhj))
                  have HSF := Lib.hid (HS9.out.grown hg9 (show own9 = own' ∨ (w8.alloc (.cells #[.int .i64 (x : Int)] 3)).heap.size ≤ own9 from by simpa using ho9))
                  have HBF := Lib.hid (below_put6 HB9.out hg9 (by omega) HB9.out.size)
                  have hown9 : w.heap.size + 1 ≤ own9 := by
                    rcases ho9 with h9 | h9
                    · omega
                    · omega
                  clear hq9 ho9 hg9 hrun8'
                  go_wp2
                  go_roundw
                  case rel => exact ⟨j + 1, own9, by omega, by go_num, by rw [HEQ.out]; exact HQF.out, by rw [HEQ.out]; exact HSF.out, hown9, HBF.out⟩
                  case measure => simp [intOf]; omega
              · obtain ⟨vk, _, _, _, ⟨Ak, ck, rfl, _⟩, hlk, _⟩ := lookup_hit HSJ.out hk
                rw [hk] at HSKD
                have HEQ := Lib.hid (show foldB k a way l L (j + 1) = LJ from by rw [HF.out, HSKD.out]; rfl)
                go_wp2
                go_roundw
                case rel => exact ⟨j + 1, own', by omega, by go_num, by rw [HEQ.out]; exact HQJ.out, by rw [HEQ.out]; exact HSJ.out, hown', HBJ.out⟩
                case measure => simp [intOf]; omega
            · obtain rfl : j = n := by omega
              have HSZ2 := Lib.hid hs.sz
              have HQJ := Lib.hid hq
              have HSJ := Lib.hid hs
              have HBJ := Lib.hid hb
              clear hq hs hb
              obtain ⟨capj, offj, curj, rfl, _⟩ := HQJ.out
              go_wp2
              go_roundw
              case rel => exact ⟨foldB k a way l L j, h + 1, own', HLj.out, hhj, HQJ.out, HSJ.out, hown', HBJ.out, Lib.hid HST.out.symm⟩
              case measure =>
                have := HSZ.out
                have := HSZ2.out
                have := HRR.out
                simp [lenV, *]
                omega
      · rw [hend] at HE HST
        rw [if_pos rfl] at HST
        rcases (show cap = 1 ∨ 1 < cap by omega) with hc1 | hc1
        all_goals
          go_wp2_with fail
          refine (HE.out _).mono ?_
          rintro e w4 ⟨rfl, hb4⟩
          obtain ⟨vw, ⟨Aw, cw, rfl, w1, w2, w3, _, _⟩, hlk⟩ := lookup_one HLI.out (HS.out.later hb4) HEL.out
          have HW := Lib.hid w3
          have HB4 := Lib.hid (bthen HB.out hb4)
          clear w3 hb4 hcell
          go_wp2
          go_ret2
          rw [HST.out]
          exact ⟨Aw, way.length, cw, rfl, rfl, w1, w2, HW.out, HB4.out⟩
    · have h0 : L.length - h = 0 := by omega
      have HR := Lib.hid (show o = none from by
        rw [← HO.out]
        obtain ⟨f, hf⟩ : ∃ f, 4097 - h = f + 1 := ⟨4096 - h, by omega⟩
        rw [hf, shF, List.getElem?_eq_none (by omega)])
      rw [h0] at HQ ⊢
      clear q1 q4 q5 hsz
      go_wp2
      go_ret2
      rw [HR.out]
      exact ⟨none, 0, 0, rfl, rfl, Nat.le_refl _, by omega, (fun h => absurd h (Nat.lt_irrefl 0)), HB.out⟩
end Go.Proofs.YtoflgehonabllaaDoor
