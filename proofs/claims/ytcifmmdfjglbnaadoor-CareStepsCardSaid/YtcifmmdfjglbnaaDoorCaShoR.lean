/- The shortest way to close a case, the document's side, by contract; no statement is proved here. -/
import Derived.Test.YtcifmmdfjglbnaaDoorCaRows
namespace Go.Proofs.YtcifmmdfjglbnaaDoor
open Go.ChangeShapes Go.WideShapes Go.ChangeAt Go.RowKit

def RetShR (W : World) (q : Nat → ByteArray) (n : Nat) (e : Ending) (w' : World) : Prop :=
  (csF q n = none → e = .returned (.tuple #[.slice none 0 0, .int .i64 1])) ∧
    (∀ st, csF q n = some st → ∃ (d : Nat) (l : List Nat), cfS d st = some l ∧ (∀ j, j < d → cfS j st = none) ∧ ((n + d ≤ 100 ∧ ∃ A c, e = .returned (.tuple #[.slice A d c, .int .i64 0]) ∧ d ≤ c ∧ c ≤ 9223372036854775807 ∧ SHas w' A d (wsS l)) ∨ (100 < n + d ∧ e = .returned (.tuple #[.slice none 0 0, .int .i64 4])))) ∧ Below W.heap.size W w'
/-- A measure of the lists that are tried: how long they may still become. -/
def meaL (v : Value) (w : World) : Nat := match v with
  | .slice (some a) _ _ => (match w.cell? a with
    | some (.slice _ m _) => 6 - m
    | _ => 0)
  | _ => 0
theorem meaL_is {w : World} {A : Option Addr} {ls : List (List Nat)} {c d : Nat} (h : LHasS w A ls) (h0 : 0 < ls.length) (hd : ∀ l, l ∈ ls → l.length = d) : meaL (.slice A ls.length c) w = 6 - d := by
  obtain ⟨b, off, rfl, _, hk⟩ := h h0
  obtain ⟨B, c', h1, _⟩ := hk 0 (ls[0]'h0) (List.getElem?_eq_getElem h0)
  have h2 := hd _ (List.getElem_mem h0)
  unfold meaL
  simp only
  rw [show (⟨b, off, none⟩ : Addr) = ⟨b, off + 0, none⟩ by rw [Nat.add_zero], h1, h2]
theorem lvS_ne {st : Int × Int × Int} : ∀ {d e : Nat}, lvS d st = [] → lvS (d + e) st = []
  | _, 0, h => h
  | d, e + 1, h => by
    rw [show d + (e + 1) = d + e + 1 by omega, lvS_next, lvS_ne h]
    rfl
theorem find_at {p : List Nat → Bool} : ∀ {L : List (List Nat)} {i : Nat} {w : List Nat}, L[i]? = some w → p w = true → (∀ j v, j < i → L[j]? = some v → p v = false) → L.find? p = some w
  | [], i, w, h, _, _ => by simp at h
  | a :: t, 0, w, h, hp, _ => by
    simp at h; subst h
    rw [List.find?_cons, hp]
  | a :: t, i + 1, w, h, hp, hl => by
    rw [List.find?_cons, hl 0 a (by omega) rfl]
    exact find_at (by simpa using h) hp (fun j v hj hv => hl (j + 1) v (by omega) (by simpa using hv))
set_option maxHeartbeats 4000000 in
set_option maxRecDepth 100000 in
theorem stepsR_at (w : World) : Calls Tryd.prog 88 #[] w fun e w' => e = .returned (.slice (some ⟨w.heap.size, 0, none⟩) 6 6) ∧ SHas w' (some ⟨w.heap.size, 0, none⟩) 6 wdS ∧ Below w.heap.size w w' := by
  have HAL := Lib.hid (show ∀ o, Below w.heap.size w (w.alloc o) from fun o => (Below.refl _ _).alloc (Nat.le_refl _) _)
  have HS := Lib.hid (strs_new w #[.string ⟨#[115, 101, 101, 110]⟩, .string ⟨#[118, 101, 116]⟩, .string ⟨#[116, 114, 101, 97, 116]⟩, .string ⟨#[115, 111, 117, 110, 100]⟩, .string ⟨#[108, 97, 109, 101]⟩, .string ⟨#[99, 108, 111, 115, 101]⟩] 6 wdS (by
    intro k hk
    rcases (show k = 0 ∨ k = 1 ∨ k = 2 ∨ k = 3 ∨ k = 4 ∨ k = 5 by omega) with rfl | rfl | rfl | rfl | rfl | rfl <;> rfl))
  go_enter Tryd.func88, Tryd.ntmps88
  go_wp2
  go_ret
  exact ⟨rfl, HS.out, HAL.out _⟩
theorem flat_small (f : List Nat → List Nat) (h : ∀ w, (f w).length ≤ 3) : ∀ L : List (List Nat), (L.flatMap (fun w => (f w).map (fun s => w ++ [s]))).length ≤ 3 * L.length
  | [] => by simp
  | a :: t => by
    rw [List.flatMap_cons, List.length_append, List.length_map, List.length_cons]
    have h1 := h a
    have h2 := flat_small f h t
    omega
/-- A list that was just made of another one and a step, as an inner one. -/
theorem new_in {w13 u21 : World} {base d c21 j : Nat} {v : Value} {ls : List (List Nat)} {A21 : Option Addr} {wy : List Nat} {r : Nat → ByteArray} (hls : LsS w13 base v ls) (hl : (wy ++ [j]).length = d + 1) (hr : ∀ k, k < d + 1 → r k = wsS (wy ++ [j]) k)
    (k1 : d + 1 ≤ c21) (k2 : c21 ≤ 9223372036854775807) (hba : ∀ g o s, A21 = some ⟨g, o, s⟩ → w13.heap.size ≤ g) (hi : SHas u21 A21 (d + 1) r) (hb : base ≤ w13.heap.size) :
    InS (u21.alloc (.cells #[.slice A21 (d + 1) c21] 30)) base v.ownBlock (.slice A21 (d + 1) c21) (wy ++ [j]) := by
  refine ⟨A21, c21, by rw [hl], by rw [hl]; exact k1, k2, fun _ g o s e => ?_, by rw [hl]; exact (hi.congr hr).later ((Below.refl _ _).alloc (Nat.le_refl _) _), fun e => ?_⟩
  · have q1 := hba g o s e
    obtain ⟨b2, o2, e2, hl2, _⟩ := hi (by omega)
    rw [e] at e2
    cases e2
    refine ⟨by omega, by rw [World.size_alloc]; omega, fun e3 => ?_⟩
    have := (hls.lt g e3).2
    omega
  · subst e
    obtain ⟨b2, o2, e2, _⟩ := hi (by omega)
    cases e2
theorem lvS_small : ∀ {d : Nat} {st : Int × Int × Int}, (lvS d st).length ≤ 3 ^ d
  | 0, _ => by simp [lvS]
  | d + 1, st => by
    have h : ∀ L : List Nat, ((L.flatMap (fun s => (lvS d (stS st s)).map (s :: ·))).length) ≤ L.length * 3 ^ d := fun L => by
      induction L with
      | nil => simp
      | cons a t ih =>
        rw [List.flatMap_cons, List.length_append, List.length_map, List.length_cons, Nat.succ_mul]
        have := lvS_small (d := d) (st := stS st a)
        omega
    have h1 := h (nyS st)
    have h2 : (nyS st).length * 3 ^ d ≤ 3 * 3 ^ d := Nat.mul_le_mul_right _ (nyF_len _ _ _)
    have e : 3 ^ (d + 1) = 3 * 3 ^ d := by rw [Nat.pow_succ]; omega
    show ((nyS st).flatMap (fun s => (lvS d (stS st s)).map (s :: ·))).length ≤ 3 ^ (d + 1)
    omega

set_option maxHeartbeats 16000000 in
set_option maxRecDepth 100000 in
theorem ShortestR_any6 (A : Option Addr) (n c : Nat) (q : Nat → ByteArray) (w : World) (hn : n ≤ 200) (hnc : n ≤ c) (hnil : A = none → c = 0) (hp : SHas w A n q) :
    Calls Tryd.prog 50 #[.slice A n c] w (RetShR w q n) := by
  have HP := Lib.hid hp
  have HNIL := Lib.hid hnil
  have HS := Lib.hid (SoundCaseR_any A n c q w (by omega) hnc hp)
  clear hp hnil
  cases hc : csF q n with
  | none =>
    rw [hc] at HS
    have HC := Lib.hid hc
    clear hc
    go_enter Tryd.func50, Tryd.ntmps50
    go_wp2_with (go_at_call 52; (refine HS.out.mono ?_); rintro e w1 ⟨rfl, hb1⟩; have HB1 := Lib.hid hb1; clear hb1)
    go_ret2
    exact ⟨(fun _ => rfl), (fun st h => by rw [HC.out] at h; cases h), HB1.out⟩
  | some st =>
    have htop : n ≤ 100 := by
      have h1 := csF_top (show csF q n = some (st.1, st.2.1, st.2.2) from hc)
      have h2 := (csF_bd (show csF q n = some (st.1, st.2.1, st.2.2) from hc)).1
      omega
    have hcy : cyF q n = some st := by rw [← csF_cy htop]; exact hc
    have HC := Lib.hid hc
    have HCY := Lib.hid hcy
    obtain ⟨d0, hd0, hend⟩ := cfS_ends hcy
    have HD0 := Lib.hid hend
    rw [hc] at HS
    have HSTP := Lib.hid (fun w => stepsR_at w)
    -- what is proved of a way: its case, its closing and its following
    have HWAY := Lib.hid (fun (d : Nat) (wy : List Nat) (h : wy ∈ lvS d st) => show cyF (catS q n (wsS wy)) (n + d) = some (ruS st wy) from cyF_way ((cyF_congr fun k hk => catS_lo hk).trans hcy) h (fun k _ => catS_hi q (wsS wy) n k))
    clear hc hcy hend
    go_enter Tryd.func50, Tryd.ntmps50
    go_wp2_with (go_at_call 52; (refine HS.out.mono ?_); rintro e w1 ⟨rfl, hb1⟩; have HB1 := Lib.hid hb1; clear hb1)
    have HBA := Lib.hid (show Below w.heap.size w (w1.alloc (.cells #[.slice none 0 0] 30)) from HB1.out.alloc HB1.out.size _)
    have HL0 := Lib.hid (show LHasS (w1.alloc (.cells #[.slice none 0 0] 30)) (some ⟨w1.heap.size, 0, none⟩) (lvS 0 st) from fun _ => by
      have h1 := new_at w1 (.cells #[.slice none 0 0] 30) _ rfl
      refine ⟨_, 0, rfl, lt_of_heap h1, fun k l hl => ?_⟩
      have hk : k = 0 := by
        have := (List.getElem?_eq_some_iff.1 hl).1
        simp [lvS] at this
        omega
      subst hk
      simp [lvS] at hl
      subst hl
      exact ⟨none, 0, (cell1_6 h1).1, Nat.le_refl _, by omega, fun h => absurd h (by simp), fun _ => rfl⟩)
    generalize w1.alloc (.cells #[.slice none 0 0] 30) = W1 at *
    go_loopw [2, 3, 4, 5, 7, 8, 10] (fun r2 r3 v _ _ _ _ wr => ∃ (d : Nat) (A' : Option Addr) (c' : Nat), d ≤ 4 ∧ r2 = .slice none 0 0 ∧ r3 = .int .i64 0 ∧ v = .slice A' (lvS d st).length c' ∧ (lvS d st).length ≤ c' ∧ c' ≤ 9223372036854775807 ∧ LHasS wr A' (lvS d st) ∧ (∀ j, j < d → cfS j st = none) ∧ Below w.heap.size w wr) (fun _ _ v _ _ _ _ wr => meaL v wr)
    case atStart => exact ⟨0, _, 1, by omega, rfl, rfl, rfl, Nat.le_refl _, by omega, HL0.out, fun j hj => absurd hj (Nat.not_lt_zero j), HBA.out⟩
    case round =>
      obtain ⟨wo, rfl⟩ : ∃ wo, wo = wr := ⟨_, rfl⟩
      obtain ⟨d, A', c', hd4, rfl, rfl, rfl, hc1, hc2, hl, hall, hb⟩ := hrel
      have HL := Lib.hid hl
      have HALL := Lib.hid hall
      have HB := Lib.hid hb
      have hdd : d ≤ d0 := by
        rcases Nat.lt_or_ge d0 d with h | h
        · exact absurd (hall d0 h) HD0.out
        · exact h
      have hne : 0 < (lvS d st).length := by
        rcases Nat.eq_zero_or_pos (lvS d st).length with h | h
        · have h1 : lvS d st = [] := List.eq_nil_of_length_eq_zero h
          have h2 := lvS_ne (e := d0 - d) h1
          rw [show d + (d0 - d) = d0 by omega] at h2
          exact absurd (by unfold cfS; rw [h2]; rfl) HD0.out
        · exact h
      have hsm : (lvS d st).length ≤ 81 := Nat.le_trans lvS_small (Nat.le_trans (Nat.pow_le_pow_right (by omega) hd4) (by decide))
      have HLN := Lib.hid (fun l (h : l ∈ lvS d st) => lvS_len h)
      have HMEA := Lib.hid (meaL_is (c := c') hl hne (fun l h => lvS_len h))
      have HNEXT := Lib.hid (lvS_next d st)
      have HCF := Lib.hid (fun i wy h1 h2 h3 => show cfS d st = some wy from find_at (L := lvS d st) (i := i) (w := wy) h1 h2 h3)
      have HCN := Lib.hid (show (∀ j v, (lvS d st)[j]? = some v → clS (ruS st v) = false) → cfS d st = none from fun h => by
        unfold cfS
        rw [List.find?_eq_none]
        intro v hv
        obtain ⟨j, hj⟩ := List.mem_iff_getElem?.1 hv
        rw [h j v hj]; decide)
      have HWAYd := Lib.hid (fun wy h => HWAY.out d wy h)
      have hgz : (0 : Int) < ((lvS d st).length : Int) := by omega
      clear hl hall hb
      generalize hT : lvS d st = T at *
      have HT := Lib.hid hT
      clear hT
      go_wp2_with fail
      go_loopw [2, 3, 5, 7, 8, 10, 20] (fun r2 r3 v _ _ _ i ww => ∃ k : Nat, k ≤ T.length ∧ i = .int .i64 (k : Int) ∧ r2 = .slice none 0 0 ∧ r3 = .int .i64 0 ∧ LsS ww wo.heap.size v ((T.take k).flatMap (fun wy => (nyS (ruS st wy)).map (fun s => wy ++ [s]))) ∧ (∀ j v, j < k → T[j]? = some v → clS (ruS st v) = false) ∧ Below wo.heap.size wo ww) (fun _ _ _ _ _ _ i _ => T.length - (intOf i).toNat)
      case atStart => exact ⟨0, Nat.zero_le _, rfl, rfl, rfl, LsS.nil _ _, fun j v hj => absurd hj (Nat.not_lt_zero j), Below.refl _ _⟩
      case round =>
        obtain ⟨ww, rfl⟩ : ∃ ww, ww = wr := ⟨_, rfl⟩
        obtain ⟨k, hk, rfl, rfl, rfl, hls, hncl, hbi⟩ := hrel
        have HLS := Lib.hid hls
        have HNC := Lib.hid hncl
        have HBi := Lib.hid hbi
        clear hls hncl hbi
        by_cases hlt : k < T.length
        · obtain ⟨wy, hwy⟩ : ∃ wy, T[k]? = some wy := ⟨_, List.getElem?_eq_getElem hlt⟩
          have hmem : wy ∈ T := List.mem_iff_getElem?.2 ⟨k, hwy⟩
          have hlen := HLN.out wy hmem
          obtain ⟨b, off, rfl, lb, hx⟩ := HL.out (by omega)
          obtain ⟨Bm, cm, x00, m1, m2, m3, m4⟩ := hx k wy hwy
          have x0 := (HBi.out.cell (p := ⟨b, off + k, none⟩) lb).trans x00
          rw [hlen] at x0 m1 m3
          have HMR := Lib.hid m3
          have HM := Lib.hid (m3.later HBi.out)
          have lb2 : b < ww.heap.size := Nat.lt_of_lt_of_le lb HBi.out.size
          have HMN := Lib.hid m4
          have hkz : (k : Int) < (T.length : Int) := by omega
          have hst := HWAYd.out wy hmem
          have HSTW := Lib.hid hst
          have HWY := Lib.hid hwy
          have HMEM := Lib.hid hmem
          have HLEN := Lib.hid hlen
          clear hx m3 m4 hst hwy hmem hlen x00
          have hd4b : d ≤ 100 := by omega
          have HAE8 := Lib.hid (show Below ww.heap.size ww (ww.alloc (.cells #[] 9)) from (Below.refl _ _).alloc (Nat.le_refl _) _)
          obtain ⟨v8, u8, run8, o8, g8, _⟩ := copyS6 (W := ww.alloc (.cells #[] 9)) 30 (owns_noS ww ww.heap.size (Nat.le_refl _)) A n c q (HP.out.later (bthen HB.out (bthen HBi.out HAE8.out))) HNIL.out (by omega) HAE8.out.size
          have RUN8 := Lib.hid run8
          have HC8 := Lib.hid (HAE8.out.grown g8 HAE8.out.size (fun j hj => ((owns_noS ww ww.heap.size (Nat.le_refl _)).lt j hj).1))
          obtain ⟨v9, u9, run9, o9, g9, _⟩ := moreS6 30 o8 (by omega) Bm d cm (wsS wy) (HM.out.later HC8.out) HMN.out (by omega) HC8.out.size
          have RUN9 := Lib.hid run9
          have HC9 := Lib.hid (HC8.out.grown g9 HC8.out.size (fun j hj => (o8.lt j hj).1))
          obtain ⟨A9, c9, hv9, _, _, hba9, hi9⟩ := owns_strs o9
          subst hv9
          have HI9 := Lib.hid hi9
          have HA9 := Lib.hid hba9
          clear run8 run9 g8 g9 hi9 o8 o9 hba9
          have HCL := Lib.hid (closedR_any A9 (n + d) c9 (catS q n (wsS wy)) u9 (by omega) HSTW.out HI9.out)
          have HFO := Lib.hid (fun s w hp => followsR_any A9 (n + d) c9 (catS q n (wsS wy)) s w (by omega) HSTW.out hp)
          have HME := Lib.hid (fun j hj => memB_wd (ct := (ruS st wy).1) (la := (ruS st wy).2.1) (lm := (ruS st wy).2.2) (j := j) hj)
          cases hcl : clB (ruS st wy).1 (ruS st wy).2.1
          · rw [hcl] at HCL
            go_wp2_with (first
              | (at_builtin; (refine Lib.wpList_append_run _ rfl _ _ _ _ rfl _ _ rfl rfl _ _ RUN8.out ?_))
              | (at_builtin; (refine Lib.wpList_append_run _ rfl _ _ _ _ rfl _ _ rfl rfl _ _ RUN9.out ?_))
              | (go_at_call 86; (refine HCL.out.mono ?_); rintro e w10 ⟨rfl, hb10⟩; have HB10 := Lib.hid (bthen HC9.out hb10); have HI9 := Lib.hid (HI9.out.later hb10); clear hb10)
              | (go_at_call 88; (refine (HSTP.out _).mono ?_); rintro e w11 ⟨rfl, q3, hb11⟩; have HI11 := Lib.hid q3; have HA11 := Lib.hid (show ∀ g o s, (some ⟨w10.heap.size, 0, none⟩ : Option Addr) = some ⟨g, o, s⟩ → ww.heap.size ≤ g from fun g o s e => by cases e; exact HB10.out.size); have HB11 := Lib.hid (bthen HB10.out hb11); have HI9 := Lib.hid (HI9.out.later hb11); clear q3 hb11))
            have HX := Lib.hid (HLS.out.later HB11.out)
            have HOB := Lib.hid (fun g hg => (HLS.out.lt g hg).2)
            have HXL := Lib.hid (show ((T.take k).flatMap (fun wy => (nyS (ruS st wy)).map (fun s => wy ++ [s]))).length ≤ 243 from by
              have h1 := flat_small (fun wy => nyS (ruS st wy)) (fun wy => nyF_len _ _ _) (T.take k)
              have h2 : (T.take k).length ≤ 81 := by rw [List.length_take]; omega
              omega)
            have HTK := Lib.hid (show (T.take (k + 1)).flatMap (fun wy => (nyS (ruS st wy)).map (fun s => wy ++ [s])) = (T.take k).flatMap (fun wy => (nyS (ruS st wy)).map (fun s => wy ++ [s])) ++ (nyS (ruS st wy)).map (fun s => wy ++ [s]) from by
              rw [List.take_add_one, HWY.out]
              simp)
            have HNC2 := Lib.hid (show ∀ j v, j < k + 1 → T[j]? = some v → clS (ruS st v) = false from fun j v hj hv => by
              rcases Nat.lt_or_ge j k with h | h
              · exact HNC.out j v h hv
              · obtain rfl : j = k := by omega
                rw [HWY.out] at hv
                injection hv with hv
                subst hv
                exact hcl)
            have HALL6 := Lib.hid (show sl6 (fun j => decide (j ∈ nyS (ruS st wy))) 6 = nyS (ruS st wy) from nyF_all _ _ _)
            have HWS := Lib.hid (fun (j : Nat) k (hk : k < d + 1) => show catS (wsS wy) d (fun _ => wdS j) k = wsS (wy ++ [j]) k from by
              unfold catS wsS ilq
              by_cases h : k < d
              · rw [if_pos h, List.getElem?_append_left (by rw [HLEN.out]; omega)]
              · rw [if_neg h, List.getElem?_append_right (by rw [HLEN.out]; omega), HLEN.out, show k - d = 0 by omega]
                rfl)
            have HWL := Lib.hid (fun (j : Nat) => show (wy ++ [j]).length = d + 1 from by rw [List.length_append, HLEN.out]; rfl)
            have HNY := Lib.hid (show nyF (ruS st wy).1 (ruS st wy).2.1 (ruS st wy).2.2 = nyS (ruS st wy) from rfl)
            rw [HNY.out] at HME HFO
            have HR11 := Lib.hid (bthen HBi.out HB11.out)
            generalize (T.take k).flatMap (fun wy => (nyS (ruS st wy)).map (fun s => wy ++ [s])) = X at *
            generalize nyS (ruS st wy) = L at *
            clear HCL hcl HLS
            go_loopw [5, 10, 37] (fun v _ i wx => ∃ j : Nat, j ≤ 6 ∧ i = .int .i64 (j : Int) ∧ LsS wx wo.heap.size v (X ++ (sl6 (fun j => decide (j ∈ L)) j).map (fun s => wy ++ [s])) ∧ Kp ww.heap.size w11 wx ∧ (∀ g, v.ownBlock = some g → g < ww.heap.size ∨ w11.heap.size ≤ g) ∧ Below wo.heap.size wo wx) (fun _ _ i _ => 6 - (intOf i).toNat)
            case atStart => exact ⟨0, Nat.zero_le _, rfl, by show LsS w11 _ _ (X ++ []); rw [List.append_nil]; exact HX.out, Kp.refl _ _, fun g hg => .inl (HOB.out g hg), HR11.out⟩
            case round =>
              obtain ⟨wx, rfl⟩ : ∃ wx, wx = wr := ⟨_, rfl⟩
              obtain ⟨j, hj, rfl, hlj, hkp, hob, hbj⟩ := hrel
              have HLJ := Lib.hid hlj
              have HKP := Lib.hid hkp
              have HOJ := Lib.hid hob
              have HBJ := Lib.hid hbj
              clear hlj hbj hkp hob
              by_cases hj6 : j < 6
              · obtain ⟨b', off', hA', lb', hx'⟩ := (HI11.out.kp HA11.out HKP.out) (by omega)
                have z0 := hx' j hj6
                cases hA'
                rw [Nat.zero_add] at z0
                have hjz : (j : Int) < 6 := by omega
                have HFK := Lib.hid (HFO.out (wdS j) wx (HI9.out.kp HA9.out HKP.out))
                rw [HME.out j hj6] at HFK
                have HSTEP := Lib.hid (sl6_succ (fun j => decide (j ∈ L)) j)
                have HWJ := Lib.hid (HWS.out j)
                have HWJL := Lib.hid (HWL.out j)
                have HSL := Lib.hid (sl6_le (fun j => decide (j ∈ L)) j)
                clear hx'
                generalize wdS j = wd at *
                cases hm : decide (j ∈ L)
                · rw [hm] at HFK
                  have ST := Lib.hid (show (sl6 (fun j => decide (j ∈ L)) (j + 1)) = sl6 (fun j => decide (j ∈ L)) j from by rw [HSTEP.out, hm]; simp)
                  clear hm
                  go_wp2_with (go_at_call 89; (refine HFK.out.mono ?_); rintro e w13 ⟨rfl, hb13⟩; have HB13 := Lib.hid hb13; clear hb13)
                  go_roundw
                  case rel => exact ⟨j + 1, by omega, by go_num, by rw [ST.out]; exact HLJ.out.later HB13.out, HKP.out.below HB13.out, HOJ.out, bthen HBJ.out HB13.out⟩
                  case measure => simp [intOf]; omega
                · rw [hm] at HFK
                  have ST := Lib.hid (show (sl6 (fun j => decide (j ∈ L)) (j + 1)) = sl6 (fun j => decide (j ∈ L)) j ++ [j] from by rw [HSTEP.out, hm]; simp)
                  clear hm
                  go_wp2_with (first
                    | (go_at_call 89; (refine HFK.out.mono ?_); rintro e w13 ⟨rfl, hb13⟩; have HB13 := Lib.hid hb13; clear hb13; have HR13 := Lib.hid (bthen HBJ.out HB13.out); have HAE20 := Lib.hid (show Below w13.heap.size w13 (w13.alloc (.cells #[] 9)) from (Below.refl _ _).alloc (Nat.le_refl _) _); obtain ⟨v20, u20, run20, o20, g20, _⟩ := copyS6 (W := w13.alloc (.cells #[] 9)) 30 (owns_noS w13 w13.heap.size (Nat.le_refl _)) Bm d cm (wsS wy) (HMR.out.later (bthen HR13.out HAE20.out)) HMN.out (by omega) HAE20.out.size; have RUN20 := Lib.hid run20; have HC20 := Lib.hid (HAE20.out.grown g20 HAE20.out.size (fun j hj => ((owns_noS w13 w13.heap.size (Nat.le_refl _)).lt j hj).1)); have HCS := Lib.hid (HC20.out.alloc HC20.out.size (.cells #[.string wd] 9)); obtain ⟨v21, u21, run21, o21, g21, _⟩ := moreS6 (W := u20.alloc (.cells #[.string wd] 9)) 30 (o20.alloc _) (by omega) _ 1 1 (fun _ => wd) (one_new6 u20 wd) (fun e => by cases e) (by omega) HCS.out.size; have HC21 := Lib.hid (HCS.out.grown g21 HCS.out.size (fun j hj => ((o20.alloc (.cells #[.string wd] 9)).lt j hj).1)); obtain ⟨A21, c21, hv21, k21, k22, hba, hi21⟩ := owns_strs o21; subst hv21; have RUN21 := Lib.hid run21; have HCA := Lib.hid (HC21.out.alloc HC21.out.size (.cells #[.slice A21 (d + 1) c21] 30)); have HLJ13 := Lib.hid (HLJ.out.later HB13.out); have HIN := Lib.hid (new_in HLJ13.out HWJL.out HWJ.out k21 k22 hba hi21 (by have := HR13.out.size; omega)); obtain ⟨v22, u22, run22, ls22, g22, ob22⟩ := LsS.push 101 (HLJ13.out.later HCA.out) HIN.out (by rw [List.length_append, List.length_map]; have := HXL.out; have := HSL.out; omega) (by have q5 := HR13.out.size; have q6 := HCA.out.size; omega) u21.heap.size (new_at u21 _ _ rfl) rfl; have RUN22 := Lib.hid run22; have HLS22 := Lib.hid (show LsS u22 wo.heap.size v22 (X ++ (sl6 (fun j => decide (j ∈ L)) (j + 1)).map (fun s => wy ++ [s])) from by rw [ST.out, List.map_append, ← List.append_assoc]; exact ls22); have HKP22 := Lib.hid (((HKP.out.below HB13.out).below HCA.out).grown g22 HOJ.out); have HOB22 := Lib.hid (show ∀ g, v22.ownBlock = some g → g < ww.heap.size ∨ w11.heap.size ≤ g from fun g hg => by (rcases ob22 with h | h; exact HOJ.out g (h.symm.trans hg); right; rw [h] at hg; injection hg with hg; have := (HKP.out.below HB13.out).below HCA.out; have := this.1; omega)); have HB22 := Lib.hid (show Below wo.heap.size wo u22 from (bthen HR13.out HCA.out).grown g22 (bthen HR13.out HCA.out).size (fun g hg => (HLJ13.out.lt g hg).1)); clear run20 run21 run22 g20 g21 g22 o20 o21 hi21 ls22 hba ob22)
                    | (at_builtin; (refine Lib.wpList_append_run _ rfl _ _ _ _ rfl _ _ rfl rfl _ _ RUN20.out ?_))
                    | (at_builtin; (refine Lib.wpList_append_run _ rfl _ _ _ _ rfl _ _ rfl rfl _ _ RUN21.out ?_))
                    | (at_builtin; (refine Lib.wpList_append_run _ rfl _ _ _ _ rfl _ _ rfl rfl _ _ RUN22.out ?_)))
                  go_roundw
                  case rel => exact ⟨j + 1, by omega, by go_num, HLS22.out, HKP22.out, HOB22.out, HB22.out⟩
                  case measure => simp [intOf]; omega
              · obtain rfl : j = 6 := by omega
                have HF := Lib.hid HLJ.out
                rw [HALL6.out, ← HTK.out] at HF
                go_wp2
                go_roundw
                case rel => exact ⟨k + 1, by omega, by go_num, rfl, rfl, HF.out, HNC2.out, HBJ.out⟩
                case measure => simp [intOf]; omega
          · rw [hcl] at HCL
            have HCFk := Lib.hid (HCF.out k wy HWY.out hcl HNC.out)
            by_cases h100 : n + d ≤ 100
            · have hz : ¬ (100 : Int) < (n : Int) + (d : Int) := by omega
              go_wp2_with (first
                | (at_builtin; (refine Lib.wpList_append_run _ rfl _ _ _ _ rfl _ _ rfl rfl _ _ RUN8.out ?_))
                | (at_builtin; (refine Lib.wpList_append_run _ rfl _ _ _ _ rfl _ _ rfl rfl _ _ RUN9.out ?_))
                | (go_at_call 86; (refine HCL.out.mono ?_); rintro e w10 ⟨rfl, hb10⟩; have HB10 := Lib.hid (bthen HC9.out hb10); clear hb10))
              go_ret2
              refine ⟨(fun h => by rw [HC.out] at h; cases h), fun st' h => ?_, bthen HB.out (bthen HBi.out HB10.out)⟩
              rw [HC.out] at h
              injection h with h
              subst h
              exact ⟨d, wy, HCFk.out, HALL.out, .inl ⟨h100, Bm, cm, rfl, m1, m2, HM.out.later HB10.out⟩⟩
            · have hz : (100 : Int) < (n : Int) + (d : Int) := by omega
              go_wp2_with (first
                | (at_builtin; (refine Lib.wpList_append_run _ rfl _ _ _ _ rfl _ _ rfl rfl _ _ RUN8.out ?_))
                | (at_builtin; (refine Lib.wpList_append_run _ rfl _ _ _ _ rfl _ _ rfl rfl _ _ RUN9.out ?_))
                | (go_at_call 86; (refine HCL.out.mono ?_); rintro e w10 ⟨rfl, hb10⟩; have HB10 := Lib.hid (bthen HC9.out hb10); clear hb10))
              go_ret2
              refine ⟨(fun h => by rw [HC.out] at h; cases h), fun st' h => ?_, bthen HB.out (bthen HBi.out HB10.out)⟩
              rw [HC.out] at h
              injection h with h
              subst h
              exact ⟨d, wy, HCFk.out, HALL.out, .inr ⟨by omega, rfl⟩⟩
        · obtain rfl : k = T.length := by omega
          have HX := Lib.hid HLS.out
          rw [List.take_length, ← HNEXT.out] at HX
          obtain ⟨A2, c2, hv2, u1, u2, u3⟩ := HX.out.has
          subst hv2
          have HLX := Lib.hid u3
          have HNONE := Lib.hid (HCN.out (fun j v hj => HNC.out j v (by have := (List.getElem?_eq_some_iff.1 hj).1; omega) hj))
          have hd5 : d + 1 ≤ 4 := by
            rcases Nat.lt_or_ge d d0 with h | h
            · omega
            · obtain rfl : d = d0 := by omega
              exact absurd HNONE.out HD0.out
          have HNE2 := Lib.hid (show 0 < (lvS (d + 1) st).length from by
            rcases Nat.eq_zero_or_pos (lvS (d + 1) st).length with h | h
            · have h1 : lvS (d + 1) st = [] := List.eq_nil_of_length_eq_zero h
              have hlt2 : d < d0 := by
                rcases Nat.lt_or_ge d d0 with h | h
                · exact h
                · obtain rfl : d = d0 := by omega
                  exact absurd HNONE.out HD0.out
              have h2 := lvS_ne (e := d0 - (d + 1)) h1
              rw [show d + 1 + (d0 - (d + 1)) = d0 by omega] at h2
              exact absurd (by unfold cfS; rw [h2]; rfl) HD0.out
            · exact h)
          have HME2 := Lib.hid (meaL_is (c := c2) u3 HNE2.out (fun l h => lvS_len h))
          clear u3 HX HLS
          go_wp2
          go_roundw
          case rel =>
            exact ⟨d + 1, A2, c2, hd5, rfl, rfl, rfl, u1, u2, HLX.out, (fun j hj => by
              rcases Nat.lt_or_ge j d with h | h
              · exact HALL.out j h
              · obtain rfl : j = d := by omega
                exact HNONE.out), bthen HB.out HBi.out⟩
          case measure =>
            have h1 := HMEA.out
            have h2 := HME2.out
            show meaL (.slice A2 (lvS (d + 1) st).length c2) _ < meaL (.slice A' T.length c') _
            rw [h1, h2]
            omega
end Go.Proofs.YtcifmmdfjglbnaaDoor
