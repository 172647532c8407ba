/- The stops that are not possible alone, by the code; no statement is proved here. -/
import Derived.Test.YtclallodmbianaaRoDirect
namespace Go.Proofs.Ytclallodmbianaa
open Go.ChangeShapes Go.WideShapes Go.ChangeAt Go.RowKit

/-- Is a stop possible alone; the stops up to k that aren't. -/
def pos1 (p : Nat → Sto) (q : Nat → List Int) (t : Int) (s : Nat) : Bool := posR p q (fun _ => (s : Int)) t 1
def alL (p : Nat → Sto) (q : Nat → List Int) (t : Int) : Nat → List Int
  | 0 => []
  | k + 1 => if pos1 p q t (k + 1) then alL p q t k else alL p q t k ++ [((k + 1 : Nat) : Int)]
theorem alL_len (p : Nat → Sto) (q : Nat → List Int) (t : Int) : ∀ k, (alL p q t k).length ≤ k
  | 0 => Nat.le_refl _
  | k + 1 => by
    have := alL_len p q t k
    unfold alL
    split
    · omega
    · rw [List.length_append]; simp; omega
theorem alL_mem {p : Nat → Sto} {q : Nat → List Int} {t : Int} : ∀ {k : Nat} {x : Int}, x ∈ alL p q t k ↔ ∃ s : Nat, 1 ≤ s ∧ s ≤ k ∧ x = (s : Int) ∧ pos1 p q t s = false
  | 0, x => by
    unfold alL
    simp
    intro s h1 h2
    omega
  | k + 1, x => by
    have ih := alL_mem (p := p) (q := q) (t := t) (k := k) (x := x)
    unfold alL
    cases h : pos1 p q t (k + 1)
    · rw [if_neg (by simp), List.mem_append, ih, List.mem_singleton]
      constructor
      · rintro (⟨s, h1, h2, h3⟩ | rfl)
        · exact ⟨s, h1, by omega, h3⟩
        · exact ⟨k + 1, by omega, Nat.le_refl _, rfl, h⟩
      · rintro ⟨s, h1, h2, h3, h4⟩
        by_cases e : s = k + 1
        · subst e; exact .inr h3
        · exact .inl ⟨s, h1, by omega, h3, h4⟩
    · rw [if_pos rfl, ih]
      constructor
      · rintro ⟨s, h1, h2, h3⟩
        exact ⟨s, h1, by omega, h3⟩
      · rintro ⟨s, h1, h2, h3, h4⟩
        by_cases e : s = k + 1
        · subst e; rw [h] at h4; cases h4
        · exact ⟨s, h1, by omega, h3, h4⟩
/-- With direct roads one is nowhere earlier than by the straight way. -/
theorem mnK_dir {m : Nat} {p : Nat → Sto} {q : Nat → List Int} (hd : DayOk m p q) (ht : triN (m + 1) q = true) {l : Nat → Int} {t : Int} {n : Nat} (h : ∀ k, k < n → 1 ≤ l k ∧ l k ≤ (m : Int)) (h0 : 0 ≤ t) : ∀ k, k ≤ n → t + atL (q 0) (plK l k) ≤ mnK p q l t k
  | 0, _ => by
    have := hd.zero 0 (Nat.zero_le _)
    show t + atL (q 0) 0 ≤ t
    omega
  | k + 1, hk => by
    have ih := mnK_dir hd ht h h0 k (by omega)
    have h1 := h k (by omega)
    have h2 := plK_le h (show k ≤ n by omega)
    have h3 := triN_at ht (show 0 < m + 1 by omega) (show plK l k < m + 1 by omega) (show (l k).toNat < m + 1 by omega)
    have h4 := mnK_bd hd h h0 k (by omega)
    have h5 := hd.en (g := plK l k) (s := (l k).toNat) (t := mnK p q l t k) h2 (by omega) (by omega) h4.1
    have h6 := hd.be (g := plK l k) (s := (l k).toNat) (t := mnK p q l t k) h2 (by omega) (by omega) h4.1
    have e1 : mnK p q l t (k + 1) = enV p q (plK l k) (mnK p q l t k) (l k).toNat := rfl
    have e2 : plK l (k + 1) = (l k).toNat := rfl
    have e3 : arV q (plK l k) (mnK p q l t k) (l k).toNat = mnK p q l t k + atL (q (plK l k)) (l k).toNat := rfl
    rw [e1, e2]
    omega
theorem alone_ok {m : Nat} {p : Nat → Sto} {q : Nat → List Int} (hd : DayOk m p q) (ht : triN (m + 1) q = true) {l : Nat → Int} {t : Int} {n : Nat} (h : ∀ k, k < n → 1 ≤ l k ∧ l k ≤ (m : Int)) (h0 : 0 ≤ t) (hp : posR p q l t n = true) {k : Nat} (hk : k < n) : pos1 p q t (l k).toNat = true := by
  have h1 := mnK_dir hd ht h h0 k (by omega)
  have h2 := h k hk
  have h3 := plK_le h (show k ≤ n by omega)
  have h4 := triN_at ht (show 0 < m + 1 by omega) (show plK l k < m + 1 by omega) (show (l k).toNat < m + 1 by omega)
  have h5 := allTo_iff.1 hp k hk
  have e1 : ltK p q l t k = decide ((p ((l k).toNat - 1)).cl < max (mnK p q l t k + atL (q (plK l k)) (l k).toNat) (p ((l k).toNat - 1)).op) := rfl
  rw [e1, Bool.not_eq_true', decide_eq_false_iff_not] at h5
  have hz : (((l k).toNat : Nat) : Int).toNat = (l k).toNat := by omega
  unfold pos1 posR
  rw [allTo_iff]
  intro j hj
  obtain rfl : j = 0 := by omega
  have e2 : ltK p q (fun _ => (((l k).toNat : Nat) : Int)) t 0 = decide ((p ((((l k).toNat : Nat) : Int).toNat - 1)).cl < max (t + atL (q 0) (((l k).toNat : Nat) : Int).toNat) (p ((((l k).toNat : Nat) : Int).toNat - 1)).op) := rfl
  rw [e2, hz, Bool.not_eq_true', decide_eq_false_iff_not]
  omega

theorem owns_has8 {W : World} {base : Nat} {r : List Int} {A : Option Addr} {n c : Nat} (h : W.ownsRow base 3 1 (.slice A n c) r.length (encI r)) : IHas W A r.length (atL r) := fun hn => by
  rcases h.2 with ⟨_, h0⟩ | ⟨g, cap, cur, e, hg, h5, h6, h7, h8, h9⟩
  · omega
  · injection e with e1 e2 e3
    subst e1
    refine ⟨g, 0, rfl, lt_of_heap h5, fun k hk => ?_⟩
    have h10 := atL_map hk
    rw [← h9, List.getElem?_take, if_pos (by omega)] at h10
    simp only [World.cell?, h5]
    simpa using h10
set_option maxHeartbeats 8000000 in
set_option maxRecDepth 100000 in
theorem Alone_no (A : Option Addr) (m c : Nat) (p : Nat → Sto) (R : Option Addr) (n d : Nat) (q : Nat → List Int) (t : Int) (w : World) (hm : m ≤ c) (hc : c ≤ 9223372036854775807) (hn : n ≤ d) (hd : d ≤ 9223372036854775807) (hm2 : m ≤ 1000000) (hp : StHas w A m p) (hq : LHas w R n q) (h0 : dyE m p n q t ≠ 0) :
    Calls Try.prog 33 #[.slice A m c, .slice R n d, .int .i64 t] w (RetL8 w [] (dyE m p n q t)) := by
  have HN := Lib.hid (newDay_no A m c p R n d q t w hm hc hn hd hm2 hp hq h0)
  generalize dyE m p n q t = E at *
  have h1 : (E != 0) = true := by simpa using h0
  clear hp hq h0
  go_enter Try.func33, Try.ntmps33
  go_wp2_with (go_at_call 69; (refine HN.out.mono ?_); rintro e w1 ⟨rfl, hb1⟩)
  go_ret2
  exact ⟨none, 0, rfl, Nat.le_refl _, by omega, (fun h => absurd h (Nat.lt_irrefl 0)), hb1.alloc hb1.size _⟩

set_option maxHeartbeats 16000000 in
set_option maxRecDepth 100000 in
theorem Alone_ok (A : Option Addr) (m c : Nat) (p : Nat → Sto) (R : Option Addr) (d : Nat) (q : Nat → List Int) (t : Int) (w : World) (hm : m ≤ c) (hc : c ≤ 9223372036854775807) (hn : m + 1 ≤ d) (hd : d ≤ 9223372036854775807) (hp : StHas w A m p) (hq : LHas w R (m + 1) q) (h0 : dyE m p (m + 1) q t = 0) :
    Calls Try.prog 33 #[.slice A m c, .slice R (m + 1) d, .int .i64 t] w (RetL8 w (alL p q t m) 0) := by
  have hdy : dayB m p (m + 1) q = true ∧ btw t 0 1440 = true := by
    unfold dyE at h0
    cases h1 : dayB m p (m + 1) q <;> cases h2 : btw t 0 1440 <;> rw [h1, h2] at h0 <;> simp_all
  have hok := (dayB_ok hdy.1).2
  have ht := btw_iff.1 hdy.2
  have hm8 := hok.le
  have HN := Lib.hid (newDay_ok A m c p R (m + 1) d q t w hm hc hn hd (by omega) hp hq h0)
  have HP := Lib.hid hp
  have HQ := Lib.hid hq
  have HPS := Lib.hid (fun (s : Nat) (h1 : 1 ≤ s) (h2 : s ≤ m) (b : Nat) (w : World) hp hq hr => show Calls Try.prog 62 #[.agg #[.slice A m c, .slice R (m + 1) d, .int .i64 t], .slice (some ⟨b, 0, none⟩) 1 1] w fun e w' => e = .returned (.bool (pos1 p q t s)) ∧ Below w.heap.size w w' from
    isPossible_any A m c p R d q t (some ⟨b, 0, none⟩) 1 1 (fun _ => (s : Int)) w hok ht (fun k _ => ⟨by omega, by omega⟩) (by omega) (Nat.le_refl _) (by omega) hp hq hr)
  have HLS := Lib.hid (fun k => show alL p q t (k + 1) = if pos1 p q t (k + 1) then alL p q t k else alL p q t k ++ [((k + 1 : Nat) : Int)] from rfl)
  have HLL := Lib.hid (fun k => alL_len p q t k)
  clear hp hq h0 hdy hok ht
  go_enter Try.func33, Try.ntmps33
  go_wp2_with fail
  refine HN.out.mono ?_
  rintro e w1 ⟨rfl, hb1⟩
  obtain ⟨W2, e2⟩ : ∃ W2, w1.alloc (.cells #[.slice A m c, .slice R (m + 1) d, .int .i64 t] 59) = W2 := ⟨_, rfl⟩
  have HB2 := Lib.hid (show Below w.heap.size w W2 from by rw [← e2]; exact hb1.alloc hb1.size _)
  have HZ2 := Lib.hid (show W2.heap[w1.heap.size]? = some (.cells #[.slice A m c, .slice R (m + 1) d, .int .i64 t] 59) from by rw [← e2]; exact new_at w1 _ _ rfl)
  clear hb1
  go_wp2
  go_loopw [10, 11] (fun v iv wr => ∃ k j : Nat, k ≤ m ∧ j = k + 1 ∧ iv = .int .i64 (j : Int) ∧ wr.ownsRow W2.heap.size 3 1 v (alL p q t k).length (encI (alL p q t k)) ∧ Below W2.heap.size W2 wr) (fun _ iv _ => m + 1 - (intOf iv).toNat)
  case atStart => exact ⟨0, 1, Nat.zero_le _, rfl, rfl, World.ownsRow_nil _ _ _ _, Below.refl _ _⟩
  case round =>
    obtain ⟨k, j, hk, hjk, rfl, hown, hb'⟩ := hrel
    have hb := bthen HB2.out hb'
    have HO := Lib.hid hown
    have HB := Lib.hid hb
    have HB' := Lib.hid hb'
    have HJK := Lib.hid hjk
    obtain ⟨AL, cL, rfl, gL1, gL2⟩ := owns_form8 hown
    have hLk := HLL.out k
    by_cases hlt : k < m
    · have hle : (j : Int) ≤ (m : Int) := by omega
      have hlj : j ≤ m := by omega
      have hj1 : 1 ≤ j := by omega
      have HLSk := Lib.hid (HLS.out k)
      rw [← hjk] at HLSk
      obtain ⟨c0, c1, c2, _, cl⟩ := cells3_8 ((hb'.block _ (lt_of_heap HZ2.out)).trans HZ2.out)
      have HB5 := Lib.hid (show Below wr.heap.size wr (wr.alloc (.cells #[.int .i64 (j : Int)] 3)) from (Below.refl _ _).alloc (Nat.le_refl _) _)
      have HI5 := Lib.hid (show IHas (wr.alloc (.cells #[.int .i64 (j : Int)] 3)) (some ⟨wr.heap.size, 0, none⟩) 1 (fun _ => (j : Int)) from fun _ => ⟨_, 0, rfl, by simp, fun i hi => by
        obtain rfl : i = 0 := by omega
        exact (cell1_of8 (new_at wr _ _ rfl)).1⟩)
      have HPj := Lib.hid (HPS.out j hj1 hlj wr.heap.size _ ((HP.out.later HB.out).later HB5.out) ((HQ.out.later HB.out).later HB5.out) HI5.out)
      clear hown hb hb' hjk
      cases hp1 : pos1 p q t j
      · rw [hp1] at HPj HLSk
        have HL1 := Lib.hid (show alL p q t (k + 1) = alL p q t k ++ [(j : Int)] from by rw [← HJK.out]; exact HLSk.out)
        clear hp1 HLSk
        go_wp2_with fail
        refine HPj.out.mono ?_
        rintro e w6 ⟨rfl, hb6⟩
        have HB6 := Lib.hid (bthen HB'.out (bthen HB5.out hb6))
        have HO6 := Lib.hid (owns_later HO.out (bthen HB5.out hb6))
        obtain ⟨vp, wp, run, op', gp, pp⟩ := push8 (W := w6.alloc (.cells #[.int .i64 (j : Int)] 3)) 24 (HO6.out.alloc _) (by omega) (j : Int) (Nat.le_trans HB6.out.size (by simp)) w6.heap.size (new_at w6 _ _ rfl)
        have RUN := Lib.hid run
        have HOp := Lib.hid op'
        have HBp := Lib.hid (show Below W2.heap.size W2 wp from (HB6.out.alloc HB6.out.size _).grown gp (HB6.out.alloc HB6.out.size _).size (fun j hj => (HO6.out.lt j hj).1))
        clear run op' gp pp hb6
        go_wp2_with (at_builtin; go_loud (refine Lib.wpList_append_run _ rfl _ _ _ _ rfl _ _ rfl rfl _ _ RUN.out ?_))
        go_roundw
        case rel => exact ⟨k + 1, j + 1, by omega, by rw [HJK.out], by go_num, by rw [HL1.out]; exact HOp.out, HBp.out⟩
        case measure => simp [intOf]; omega
      · rw [hp1] at HPj HLSk
        have HL1 := Lib.hid (show alL p q t (k + 1) = alL p q t k from by rw [← HJK.out]; exact HLSk.out)
        clear hp1 HLSk
        go_wp2_with (go_at_call 62; (refine HPj.out.mono ?_); rintro e w6 ⟨rfl, hb6⟩; have HB6 := Lib.hid (bthen HB5.out hb6); clear hb6)
        go_roundw
        case rel => exact ⟨k + 1, j + 1, by omega, by rw [HJK.out], by go_num, by rw [HL1.out]; exact owns_later HO.out HB6.out, bthen HB'.out HB6.out⟩
        case measure => simp [intOf]; omega
    · obtain rfl : k = m := by omega
      have hle : ¬ (j : Int) ≤ (k : Int) := by omega
      have HI := Lib.hid (owns_has8 hown)
      clear hown hb hb' hjk
      go_wp2
      go_ret2
      exact ⟨AL, cL, rfl, gL1, gL2, HI.out, HB.out⟩
end Go.Proofs.Ytclallodmbianaa
