/- Offcuts, by its contract; no statement is proved here. -/
import Derived.Test.YtecgnjeakgefnaaDoorBOffM
import Derived.Test.YtecgnjeakgefnaaDoorBNumR
import Derived.Test.YtecgnjeakgefnaaDoorBFewest
namespace Go.Proofs.YtecgnjeakgefnaaDoor
open Go.Proofs.YtecgnjeakgefnaaDoor.Hoofs
open Go.ChangeShapes Go.WideShapes Go.ChangeAt Go.RowKit Go.Shelf

/-- A list that may be written, in a block from a number on. -/
def LRow (w : World) (base : Nat) (A : Option Addr) (R : Nat) (ρ : Nat → Int) : Prop := 0 < R → ∃ g, A = some ⟨g, 0, none⟩ ∧ base ≤ g ∧ Row w g R ρ
theorem LRow.later {w w' : World} {base : Nat} {A : Option Addr} {R : Nat} {ρ : Nat → Int} (h : LRow w base A R ρ) (hb : Below w.heap.size w w') : LRow w' base A R ρ := fun h0 => by
  obtain ⟨g, e, h1, h2⟩ := h h0
  exact ⟨g, e, h1, h2.later hb⟩
theorem LRow.grown {w w' : World} {base : Nat} {A : Option Addr} {R : Nat} {ρ : Nat → Int} {row : Option Nat} (h : LRow w base A R ρ) (hg : w.grownBy w' row) (hne : 0 < R → ∀ g, A = some ⟨g, 0, none⟩ → row ≠ some g) : LRow w' base A R ρ := fun h0 => by
  obtain ⟨g, e, h1, h2⟩ := h h0
  obtain ⟨cs, r1, r2⟩ := h2.row
  exact ⟨g, e, h1, ⟨cs, (hg.block g h2.lt (Ne.symm (hne h0 g e))).trans r1, r2⟩⟩
theorem owns_ne {w : World} {base : Nat} {e : TypeId} {s : Nat} {v : Value} {n : Nat} {xs : List Value} (h : w.ownsRow base e s v n xs) {b o : Nat} (hb : v.ownBlock ≠ some b) (u : Value) : (w.setCell ⟨b, o, none⟩ u).ownsRow base e s v n xs := by
  refine ⟨h.1, ?_⟩
  rcases h.2 with h2 | ⟨g, cap, cur, h3, h4, h5, h6⟩
  · exact .inl h2
  · exact .inr ⟨g, cap, cur, h3, h4, (heap_setCell_ne _ (fun e => hb (by subst h3; subst e; rfl))).trans h5, h6⟩
theorem row_ne' {w : World} {e : TypeId} {s : Nat} {v : Value} {k b : Nat} {l : List Value} (h : w.ownsRow (b + 1) e s v k l) : v.ownBlock ≠ some b := by
  rcases row_else h with h | h
  · rw [h]; simp
  · exact h
theorem LRow.has {w : World} {base : Nat} {A : Option Addr} {R : Nat} {ρ : Nat → Int} (h : LRow w base A R ρ) : IHas w A R ρ := fun h0 => by
  obtain ⟨g, e, _, h2⟩ := h h0
  exact e ▸ h2.has h0
/-- Three results: two lists and an error. -/
def Ret3 (W : World) (n : Nat) (f : Nat → Int) (R : Nat) (g : Nat → Int) (E : Int) (e : Ending) (w' : World) : Prop :=
  ∃ A c D d, e = .returned (.tuple #[.slice A n c, .slice D R d, .int .i64 E]) ∧ n ≤ c ∧ c ≤ 9223372036854775807 ∧ R ≤ d ∧ d ≤ 9223372036854775807 ∧ IHas w' A n f ∧ IHas w' D R g ∧ Below W.heap.size W w'
def offOk (ρ : Nat → Int) (R : Nat) : Bool := decide (R ≤ 64) && allTo (fun k => btw (ρ k) 0 10000) R
theorem ownsVals (q : Nat → Int) (n : Nat) : ((List.range n).map q).map (Value.int .i64) = ints q n := by
  apply List.ext_getElem?
  intro i
  rcases Nat.lt_or_ge i n with h | h
  · rw [ints_get _ _ _ h]; simp [h]
  · rw [List.getElem?_eq_none (by simpa using h), List.getElem?_eq_none (by rw [ints_length]; exact h)]

theorem Clone_any (A : Option Addr) (R c : Nat) (ρ : Nat → Int) (w : World) (hR : R ≤ 100) (hp : IHas w A R ρ) :
    Calls Tryd.prog 25 #[.slice A R c] w fun e w' => ∃ D d, e = .returned (.slice D R d) ∧ R ≤ d ∧ d ≤ 9223372036854775807 ∧ LRow w' w.heap.size D R ρ ∧ Below w.heap.size w w' := by
  rcases Nat.eq_zero_or_pos R with h0 | h0
  · subst h0
    cases A with
    | none => exact (Tryd.slices_Clone_int_nil 0 c w).mono fun e w' ⟨he, hw⟩ => ⟨none, 0, he, Nat.le_refl _, by omega, fun h => absurd h (Nat.lt_irrefl 0), by rw [hw]; exact Below.refl _ _⟩
    | some a =>
      refine (Tryd.slices_Clone_int_zero a c w).mono ?_
      rintro e w' ⟨v, he, ho, _, hb⟩
      obtain ⟨D, d, rfl, h1, h2, _, _⟩ := owns_ints (q := ρ) (n := 0) ho
      exact ⟨D, d, he, h1, h2, fun h => absurd h (Nat.lt_irrefl 0), hb⟩
  · obtain ⟨b, off, rfl, hP⟩ := hp h0
    refine (Tryd.slices_Clone_int b off R c ((List.range R).map ρ) w (by simp) (by omega) (fun j hj => ?_)).mono ?_
    · simp only [List.length_map, List.length_range] at hj
      rw [hP.v j hj]
      simp [hj]
    · rintro e w' ⟨v, he, ho, _, hb⟩
      rw [List.take_of_length_le (by simp), ownsVals] at ho
      obtain ⟨g, d, rfl, h1, h2, h3, h4⟩ := owns_row h0 ho
      exact ⟨some ⟨g, 0, none⟩, d, he, h1, h2, fun _ => ⟨g, rfl, h3, h4⟩, hb⟩

def offE (B K : Int) (l : Nat → Int) (n : Nat) (ρ : Nat → Int) (R : Nat) : Int := if vS B K && vP l n then (if offOk ρ R then 0 else 7) else 1
set_option maxHeartbeats 8000000 in
set_option maxRecDepth 100000 in
theorem Offcuts_ok (B K : Int) (P A : Option Addr) (R d n c : Nat) (ρ l : Nat → Int) (w : World) (hR : R ≤ d) (hd : d ≤ 9223372036854775807) (hn : n ≤ c) (hc : c ≤ 9223372036854775807) (hp : IHas w A n l) (hq : IHas w P R ρ) (h1 : (vS B K && vP l n) = true) (h2 : offOk ρ R = true) :
    Calls Tryd.prog 9 #[.agg #[.int .i64 B, .int .i64 K], .slice P R d, .slice A n c] w (Ret3 w n (offA K R ρ l) R (offR K R ρ l n) 0) := by
  obtain ⟨⟨B0, B1⟩, ⟨K0, K1⟩⟩ := vS_is (Bool.and_eq_true _ _ ▸ h1).1
  obtain ⟨h16, hl⟩ := vP_is (Bool.and_eq_true _ _ ▸ h1).2
  have h2' := h2
  unfold offOk at h2'
  rw [Bool.and_eq_true, allTo_iff] at h2'
  have h64 : R ≤ 64 := of_decide_eq_true h2'.1
  have hρ : ∀ r, r < R → 0 ≤ ρ r ∧ ρ r ≤ 10000 := fun r hr => btw_iff.1 (h2'.2 r hr)
  have HP := Lib.hid hp
  have HQ := Lib.hid hq
  have HL := Lib.hid hl
  have H1 := Lib.hid (fun w hp => checked_any B K A n c l w hn hc hp)
  unfold ckE at H1
  rw [h1] at H1
  have H2 := Lib.hid (fun w hp => allBetween_any P R d ρ 0 10000 w hR hd hp)
  rw [show allTo (fun k => btw (ρ k) 0 10000) R = true from h2'.2 |> fun h => allTo_iff.2 h] at H2
  have H3 := Lib.hid (fun w hp => Clone_any P R d ρ w (by omega) hp)
  have HBD := Lib.hid (fun i (hi : i ≤ n) r (hr : r < R) => show 0 ≤ offR K R ρ l i r ∧ offR K R ρ l i r ≤ 10000 from by
    have h5 := offR_bd (R := R) hl K0 hρ i hi r hr
    have h6 := hρ r hr
    have h7 := sumTo_bd (f := fun j => if offA K R ρ l j = (r : Int) then l j else 0) (n := i) (lo := 0) (hi := 10000) (fun j hj => by have := hl j (by omega); split <;> omega)
    omega)
  have HST := Lib.hid (fun i => show offR K R ρ l (i + 1) = cutS K R (offR K R ρ l i) (l i) from rfl)
  have HAF := Lib.hid (fun i => show ints (offA K R ρ l) (i + 1) = ints (offA K R ρ l) i ++ [.int .i64 (bstF (offR K R ρ l i) (l i) R)] from rfl)
  have HIS := Lib.hid (fun i => bst_is (offR K R ρ l i) (l i) R)
  have h64' : ¬ (64 : Int) < (R : Int) := by omega
  have Z0 := Lib.hid (cells2 w (.cells #[.int .i64 B, .int .i64 K] 23) (.cells #[.slice none 0 0] 24))
  have HB0 := Lib.hid (show Below w.heap.size w ((w.alloc (.cells #[.int .i64 B, .int .i64 K] 23)).alloc (.cells #[.slice none 0 0] 24)) from ((Below.refl _ _).alloc (Nat.le_refl _) _).alloc (by simp) _)
  clear hp hq hl h1 h2 h2' hρ
  obtain ⟨i0, hi0, hz0, hz1, hz2⟩ := info_parts infoInt
  go_enter Tryd.func9, Tryd.ntmps9
  go_wp2_with fail
  refine (H1.out _ (HP.out.later HB0.out)).mono ?_
  rintro e w1 ⟨rfl, hb1⟩
  have HB := Lib.hid (bthen HB0.out hb1)
  have ZA := Lib.hid ((hb1.block _ (lt_of_heap Z0.out.1)).trans Z0.out.1)
  have ZB := Lib.hid ((hb1.block _ (lt_of_heap Z0.out.2)).trans Z0.out.2)
  clear hb1
  go_wp2_with fail
  refine (H2.out _ (HQ.out.later HB.out)).mono ?_
  rintro e w2 ⟨rfl, hb2⟩
  have HB := Lib.hid (bthen HB.out hb2)
  have ZA := Lib.hid ((hb2.block _ (lt_of_heap ZA.out)).trans ZA.out)
  have ZB := Lib.hid ((hb2.block _ (lt_of_heap ZB.out)).trans ZB.out)
  clear hb2
  go_wp2_with fail
  refine (H3.out _ (HQ.out.later HB.out)).mono ?_
  rintro e w3 ⟨D, dd, rfl, hd1, hd2, hrow, hb3⟩
  have hsz2 := lt_of_heap ZB.out
  have HB := Lib.hid (bthen HB.out hb3)
  have ZA := Lib.hid ((hb3.block _ (lt_of_heap ZA.out)).trans ZA.out)
  have ZB := Lib.hid ((hb3.block _ (lt_of_heap ZB.out)).trans ZB.out)
  have HR3 := Lib.hid (show LRow w3 (w.heap.size + 1 + 1) D R ρ from fun h0 => by
    obtain ⟨g, e, h1, h2⟩ := hrow h0
    exact ⟨g, e, by omega, h2⟩)
  clear hb3 hrow
  obtain ⟨cb, fb⟩ := cell1_of ZB.out
  have lb := lt_of_heap ZB.out
  go_wp2
  have HW4 := Lib.hid (show (w3.setCell ⟨w.heap.size + 1, 0, none⟩ (.slice D R dd)).heap[w.heap.size + 1]? = some (.cells #[.slice D R dd] 24) from heap_setCell_at ZB.out 0 (.slice D R dd))
  have HA4 := Lib.hid (show (w3.setCell ⟨w.heap.size + 1, 0, none⟩ (.slice D R dd)).heap[w.heap.size]? = some (.cells #[.int .i64 B, .int .i64 K] 23) from (heap_setCell_ne _ (by omega)).trans ZA.out)
  have HB4 := Lib.hid (HB.out.setCell (p := ⟨w.heap.size + 1, 0, none⟩) (by show w.heap.size ≤ w.heap.size + 1; omega) (.slice D R dd))
  have HR4 := Lib.hid (show LRow (w3.setCell ⟨w.heap.size + 1, 0, none⟩ (.slice D R dd)) (w.heap.size + 1 + 1) D R ρ from fun h0 => by
    obtain ⟨g, e, h1, h2⟩ := HR3.out h0
    exact ⟨g, e, h1, h2.ne (by omega) _⟩)
  generalize w3.setCell ⟨w.heap.size + 1, 0, none⟩ (.slice D R dd) = w4 at *
  clear cb fb lb HR3 ZA ZB HB hsz2
  have HR0 := Lib.hid (show offR K R ρ l 0 = ρ from rfl)
  obtain ⟨S, hS⟩ : ∃ S, S = offR K R ρ l := ⟨_, rfl⟩
  obtain ⟨a, ha⟩ : ∃ a, a = offA K R ρ l := ⟨_, rfl⟩
  rw [← hS] at HBD HST HAF HIS HR0 ⊢
  rw [← ha] at HAF ⊢
  have HS0 := Lib.hid hS
  have HA0 := Lib.hid ha
  clear hS ha
  go_loopw [6, 11, 12, 13, 32] (fun v _ _ _ i wr => ∃ k : Nat, k ≤ n ∧ i = .int .i64 (k : Int) ∧ wr.ownsRow (w.heap.size + 1 + 1) 3 1 v k (ints a k) ∧ LRow wr (w.heap.size + 1 + 1) D R (S k) ∧ (0 < R → ∀ g, D = some ⟨g, 0, none⟩ → v.ownBlock ≠ some g) ∧
    wr.heap[w.heap.size + 1]? = some (.cells #[.slice D R dd] 24) ∧ wr.heap[w.heap.size]? = some (.cells #[.int .i64 B, .int .i64 K] 23) ∧ Below w.heap.size w wr) (fun _ _ _ _ i _ => n - (intOf i).toNat)
  case atStart => exact ⟨0, Nat.zero_le _, rfl, World.ownsRow_nil _ _ _ _, by rw [HR0.out]; exact HR4.out, (fun _ g _ h => by cases h), HW4.out, HA4.out, HB4.out⟩
  case round =>
    obtain ⟨k, hk, rfl, hown, hrow, hap, hw, hz, hbr⟩ := hrel
    have HO := Lib.hid hown
    have HR := Lib.hid hrow
    have HAP := Lib.hid hap
    have HW := Lib.hid hw
    have HZ := Lib.hid hz
    have HB := Lib.hid hbr
    clear hown hrow hap hw hz hbr HW4 HA4 HB4 HR4
    obtain ⟨cb, fb⟩ := cell1_of HW.out
    have lb := lt_of_heap HW.out
    by_cases hlt : k < n
    · obtain ⟨b, off, rfl, hP⟩ := (HP.out.later HB.out) (by omega)
      have hx := hP.v k hlt
      obtain ⟨x0, x1⟩ := HL.out k hlt
      have HSk := Lib.hid (HST.out k)
      have HAk := Lib.hid (HAF.out k)
      have HIk := Lib.hid (HIS.out k)
      have HBk := Lib.hid (HBD.out k hk)
      clear hP
      generalize l k = x at *
      have H5 := Lib.hid (fun w hp => longEnough_any D R dd x (S k) w hp)
      have H6 := Lib.hid (fun E w h1 h2 => best_any E (w.heap.size + 1) D R dd x (S k) w (by omega) h1 h2)
      have H6 := Lib.hid (fun E C w h1 h2 => best_any E C D R dd x (S k) w (by omega) h1 h2)
      go_wp2_with fail
      refine (H5.out _ HR.out.has).mono ?_
      rintro e w5 ⟨E, rfl, hli, hb5⟩
      have HLI := Lib.hid hli
      have HO := Lib.hid (owns_later HO.out hb5)
      have HR := Lib.hid (HR.out.later hb5)
      have HW := Lib.hid ((hb5.block _ (lt_of_heap HW.out)).trans HW.out)
      have HZ := Lib.hid ((hb5.block _ (lt_of_heap HZ.out)).trans HZ.out)
      have HB := Lib.hid (bthen HB.out hb5)
      clear hli hb5 cb fb lb hx
      go_wp2_with fail
      refine (H6.out E _ _ HLI.out HW.out).mono ?_
      rintro e w6 ⟨rfl, hb6⟩
      have HO := Lib.hid (owns_later HO.out hb6)
      have HR := Lib.hid (HR.out.later hb6)
      have HW := Lib.hid ((hb6.block _ (lt_of_heap HW.out)).trans HW.out)
      have HZ := Lib.hid ((hb6.block _ (lt_of_heap HZ.out)).trans HZ.out)
      have HB := Lib.hid (bthen HB.out hb6)
      clear hb6 HLI H5 H6
      by_cases hv : bstF (S k) x R < 0
      · have hv1 : bstF (S k) x R = -1 := by rcases HIk.out with h | h; exact h; omega
        have HCU := Lib.hid (show S (k + 1) = S k from by rw [HSk.out]; unfold cutS; rw [if_pos hv])
        rw [hv1] at HAk ⊢
        clear hv hv1 HIk
        rw [show decide (0 ≤ (-1 : Int)) = false from rfl]
        go_wp2_with (at_builtin; go_loud (refine wpList_append_own_at _ rfl _ _ 24 rfl (w.heap.size + 1 + 1) 3 i0 (.int .i64 0) 1 8 Tryd.underlying24 hi0 hz0 hz1 hz2 rfl (by decide) _ _ _ rfl (HO.out.alloc _) ⟨w6.heap.size, 0, none⟩ 1 1 [.int .i64 (-1)] rfl rfl ?c1 ?c2 ?c3 ?c4 ?c5 ?_))
        case c1 =>
          intro j u hj
          match j, hj with
          | 0, hj => simp at hj; subst hj; simp [Addr.add]
        case c2 => intro u hu; simp at hu; subst hu; rfl
        case c3 => unfold maxLen; omega
        case c4 => omega
        case c5 => have := HB.out.size; have := lt_of_heap HW.out; simp; omega
        intro v' w9 hown' hgrow _ hblk
        have hs := HB.out.size
        have hlw := lt_of_heap HW.out
        have hb9 := (HB.out.alloc hs (.cells #[.int .i64 (-1)] 3)).grown hgrow (by simp; omega) (fun j hj => by have := (HO.out.lt j hj).1; omega)
        have hrow9 := (HR.out.later ((Below.refl _ _).alloc (Nat.le_refl _) (.cells #[.int .i64 (-1)] 3))).grown hgrow (HAP.out)
        have hap9 : 0 < R → ∀ g, D = some ⟨g, 0, none⟩ → v'.ownBlock ≠ some g := fun h0 g hg e => by
          rcases hblk with hblk | hblk
          · exact HAP.out h0 g hg (hblk.symm.trans e)
          · rw [hblk] at e
            injection e with e
            have hg2 : g < w6.heap.size := by
              · obtain ⟨g', e', _, hr'⟩ := HR.out h0
                rw [hg] at e'
                cases e'
                exact hr'.lt
            first | omega | (simp at e; omega)
        have hw9 := (hgrow.block (w.heap.size + 1) (by simp; omega) (Ne.symm (row_ne' (rows_mono HO.out (Nat.le_refl _))))).trans ((((Below.refl _ _).alloc (Nat.le_refl _) (.cells #[.int .i64 (-1)] 3)).block _ hlw).trans HW.out)
        have hz9 := (hgrow.block w.heap.size (by simp; omega) (Ne.symm (row_ne' (rows_mono HO.out (by omega))))).trans ((((Below.refl _ _).alloc (Nat.le_refl _) (.cells #[.int .i64 (-1)] 3)).block _ (by omega)).trans HZ.out)
        have RR := Lib.hid (And.intro hown' (And.intro hb9 (And.intro hrow9 (And.intro hap9 (And.intro hw9 hz9)))))
        clear hown' hgrow hb9 hrow9 hap9 hw9 hz9 hblk
        go_wp2
        go_roundw
        case rel => exact ⟨k + 1, by omega, by go_num, by rw [HAk.out]; exact RR.out.1, by rw [HCU.out]; exact RR.out.2.2.1, RR.out.2.2.2.1, RR.out.2.2.2.2.1, RR.out.2.2.2.2.2, RR.out.2.1⟩
        case measure => simp [intOf]; omega
      · obtain ⟨m, hm⟩ : ∃ m : Nat, bstF (S k) x R = (m : Int) := ⟨(bstF (S k) x R).toNat, by omega⟩
        have hmx : m < R ∧ x ≤ S k m := by
          rcases HIk.out with h | h
          · omega
          · rw [hm] at h; exact ⟨h.2.1, h.2.2⟩
        have HCU := Lib.hid (show S (k + 1) = updI (S k) m (max (S k m - x - K) 0) from by rw [HSk.out]; unfold cutS; rw [if_neg hv, hm]; rfl)
        have hfd : fdV (m : Int) = (m : Int) := by unfold fdV; rw [if_neg (by omega)]
        obtain ⟨y0, y1⟩ := HBk.out m hmx.1
        have hmR := hmx.1
        have hR0 : 0 < R := by omega
        obtain ⟨g, rfl, hg1, hgr⟩ := HR.out hR0
        obtain ⟨cy, fy⟩ := hgr.at' hmx.1
        have lg := hgr.lt
        obtain ⟨cb, fb⟩ := cell1_of HW.out
        obtain ⟨cz0, cz1, _, _⟩ := cell2_of HZ.out
        have lb := lt_of_heap HW.out
        have lz := lt_of_heap HZ.out
        rw [hm] at HAk ⊢
        rw [hfd]
        rw [show decide (0 ≤ (m : Int)) = true from decide_eq_true (by omega)]
        have HGR := Lib.hid hgr
        clear hv hm hmx hfd HIk HBk hgr
        generalize S k m = y at *
        go_wp2
        refine wp_region_from_tail 13 (Below.refl _ _) (by kernel_rfl) (by kernel_rfl) (fun hcell => ?_)
        simp only [List.take_succ_cons, List.take_zero, List.drop_succ_cons, List.drop_zero]
        repeat (go_big_quiet_step (fail))
        refine wpQuiet_nil ?_
        intro w7 hb7
        have HGR7 := Lib.hid (HGR.out.later hb7)
        obtain ⟨cy, fy⟩ := HGR7.out.at' hmR
        have lg := HGR7.out.lt
        have HO8 := Lib.hid (owns_ne (owns_later HO.out hb7) (b := g) (o := m) (HAP.out hR0 g rfl) (.int .i64 (max (y - x - K) 0)))
        have HR8 := Lib.hid (show LRow (w7.setCell ⟨g, m, none⟩ (.int .i64 (max (y - x - K) 0))) (w.heap.size + 1 + 1) (some ⟨g, 0, none⟩) R (updI (S k) m (max (y - x - K) 0)) from fun _ => ⟨g, rfl, hg1, HGR7.out.set hmR _⟩)
        have HW8 := Lib.hid ((heap_setCell_ne (w := w7) (k := g) (o := m) (.int .i64 (max (y - x - K) 0)) (show g ≠ w.heap.size + 1 by omega)).trans ((hb7.block _ (lt_of_heap HW.out)).trans HW.out))
        have HZ8 := Lib.hid ((heap_setCell_ne (w := w7) (k := g) (o := m) (.int .i64 (max (y - x - K) 0)) (show g ≠ w.heap.size by omega)).trans ((hb7.block _ (lt_of_heap HZ.out)).trans HZ.out))
        have HB8 := Lib.hid ((bthen HB.out hb7).setCell (p := ⟨g, m, none⟩) (by show w.heap.size ≤ g; omega) (.int .i64 (max (y - x - K) 0)))
        clear hcell cb fb cz0 cz1 lb lz hb7
        go_wp2_with (at_builtin; go_loud (refine wpList_append_own_at _ rfl _ _ 24 rfl (w.heap.size + 1 + 1) 3 i0 (.int .i64 0) 1 8 Tryd.underlying24 hi0 hz0 hz1 hz2 rfl (by decide) _ _ _ rfl (HO8.out.alloc _) ⟨w7.heap.size, 0, none⟩ 1 1 [.int .i64 (m : Int)] rfl rfl ?c1 ?c2 ?c3 ?c4 ?c5 ?_))
        case c1 =>
          intro j u hj
          match j, hj with
          | 0, hj =>
            simp at hj
            subst hj
            show ((w7.setCell ⟨g, m, none⟩ (.int .i64 (max (y - x - K) 0))).alloc _).cell? ⟨w7.heap.size, 0, none⟩ = _
            rw [World.cell?_alloc_at _ _ _ _ (by simp [World.setCell])]
            rfl
        case c2 => intro u hu; simp at hu; subst hu; rfl
        case c3 => unfold maxLen; omega
        case c4 => omega
        case c5 => have := HB8.out.size; have := lt_of_heap HW8.out; simp; omega
        intro v' w9 hown' hgrow _ hblk
        have hs := HB8.out.size
        have hlw := lt_of_heap HW8.out
        have hb9 := (HB8.out.alloc hs (.cells #[.int .i64 (m : Int)] 3)).grown hgrow (by simp; omega) (fun j hj => by have := (HO8.out.lt j hj).1; omega)
        have hrow9 := (HR8.out.later ((Below.refl _ _).alloc (Nat.le_refl _) (.cells #[.int .i64 (m : Int)] 3))).grown hgrow (HAP.out)
        have hap9 : 0 < R → ∀ g', (some ⟨g, 0, none⟩ : Option Addr) = some ⟨g', 0, none⟩ → v'.ownBlock ≠ some g' := fun h0 g' hg e => by
          rcases hblk with hblk | hblk
          · exact HAP.out h0 g' hg (hblk.symm.trans e)
          · rw [hblk] at e
            injection e with e
            have hg2 : g' < (w7.setCell ⟨g, m, none⟩ (.int .i64 (max (y - x - K) 0))).heap.size := by
              · obtain ⟨g2, e', _, hr'⟩ := HR8.out h0
                rw [hg] at e'
                cases e'
                exact hr'.lt
            have hz8 : (w7.setCell ⟨g, m, none⟩ (.int .i64 (max (y - x - K) 0))).heap.size = w7.heap.size := by simp [World.setCell]
            omega
        have hw9 := (hgrow.block (w.heap.size + 1) (by simp; omega) (Ne.symm (row_ne' (rows_mono HO8.out (Nat.le_refl _))))).trans ((((Below.refl _ _).alloc (Nat.le_refl _) (.cells #[.int .i64 (m : Int)] 3)).block _ hlw).trans HW8.out)
        have hz9 := (hgrow.block w.heap.size (by simp; omega) (Ne.symm (row_ne' (rows_mono HO8.out (by omega))))).trans ((((Below.refl _ _).alloc (Nat.le_refl _) (.cells #[.int .i64 (m : Int)] 3)).block _ (by omega)).trans HZ8.out)
        have RR := Lib.hid (And.intro hown' (And.intro hb9 (And.intro hrow9 (And.intro hap9 (And.intro hw9 hz9)))))
        clear hown' hgrow hb9 hrow9 hap9 hw9 hz9 hblk
        go_wp2
        go_roundw
        case rel => exact ⟨k + 1, by omega, by go_num, by rw [HAk.out]; exact RR.out.1, by rw [HCU.out]; exact RR.out.2.2.1, RR.out.2.2.2.1, RR.out.2.2.2.2.1, RR.out.2.2.2.2.2, RR.out.2.1⟩
        case measure => simp [intOf]; omega
    · obtain rfl : k = n := by omega
      obtain ⟨A', c', rfl, h1, h2, h3, h4⟩ := owns_ints HO.out
      have HI := Lib.hid h4
      clear h4
      go_wp2
      go_region
      have HWE := Lib.hid (show (wr.setCell ⟨w.heap.size + 1, 0, none⟩ (.slice D R dd)).drew.heap[w.heap.size + 1]? = some (.cells #[.slice D R dd] 24) from heap_setCell_at HW.out 0 (.slice D R dd))
      have HBE := Lib.hid ((HB.out.setCell (p := ⟨w.heap.size + 1, 0, none⟩) (by show w.heap.size ≤ w.heap.size + 1; omega) (.slice D R dd)).drew)
      have HIE := Lib.hid (show IHas (wr.setCell ⟨w.heap.size + 1, 0, none⟩ (.slice D R dd)).drew A' k a from fun h0 => by
        obtain ⟨bb, off, e, hP⟩ := HI.out h0
        have h3' := h3 bb off none e
        exact ⟨bb, off, e, Nat.lt_of_lt_of_le hP.lt (by simp [World.setCell]), fun j hj => (World.cell?_of_block (w := wr) (w' := wr.setCell ⟨w.heap.size + 1, 0, none⟩ (.slice D R dd)) (a := ⟨bb, off + j, none⟩) (heap_setCell_ne _ (show w.heap.size + 1 ≠ bb by omega))).trans (hP.v j hj)⟩)
      have HRE := Lib.hid (show IHas (wr.setCell ⟨w.heap.size + 1, 0, none⟩ (.slice D R dd)).drew D R (S k) from fun h0 => by
        obtain ⟨g, e, h5, h6⟩ := HR.out h0
        have h7 := (h6.ne (k := w.heap.size + 1) (o := 0) (by omega) (.slice D R dd)).later ((Below.refl _ _).drew)
        exact ⟨g, 0, e, h7.ints⟩)
      clear cb fb lb
      obtain ⟨cb, fb⟩ := cell1_of HWE.out
      go_wp2
      refine bodyPost_ret (v := .tuple #[.slice A' k c', .slice D R dd, .int .i64 0]) (by simp [results, Tryd.results9, go_sem, cb]) rfl ⟨A', c', D, dd, rfl, h1, h2, hd1, hd2, by rw [← HA0.out]; exact HIE.out, by rw [← HS0.out]; exact HRE.out, HBE.out⟩
end Go.Proofs.YtecgnjeakgefnaaDoor
