/- BFFM: First fit, as the code goes: what stays while the plan is written; no statement is proved here. -/
import Derived.Test.YtlfkbinjlgbckaaDoorBFirstM
import Derived.Test.YtlfkbinjlgbckaaDoorBLong2
import Derived.Test.YtlfkbinjlgbckaaDoorBFew
import Derived.Test.YtlfkbinjlgbckaaDoorBPlans
import Derived.Maps.AppendAt
namespace Go.Proofs.YtlfkbinjlgbckaaDoor
open Go.ChangeShapes Go.WideShapes Go.ChangeAt Go.RowKit

theorem seenL_congr {p q : Nat → Int} : ∀ {n : Nat}, (∀ k, k < n → p k = q k) → seenL p n = seenL q n
  | 0, _ => rfl
  | n + 1, h => by rw [seenL, seenL, seenL_congr (n := n) (fun k hk => h k (by omega)), h n (by omega)]
theorem num_congr {p q : Nat → Int} {n k : Nat} (h : ∀ k, k < n → p k = q k) (hk : k < n) : numF p k = numF q k := by
  unfold numF
  rw [seenL_congr (p := p) (q := q) (n := k + 1) (fun j hj => h j (by omega)), h k hk]
theorem IHas.congr {w : World} {A : Option Addr} {n : Nat} {p q : Nat → Int} (h : IHas w A n p) (hpq : ∀ k, k < n → p k = q k) : IHas w A n q := fun hn => by
  obtain ⟨b, off, e, hP⟩ := h hn
  exact ⟨b, off, e, hP.lt, fun k hk => by rw [← hpq k hk]; exact hP.v k hk⟩

def posF (q : Nat → Int) (i : Nat) : Int := if q i < 0 then 0 else q i
theorem posF_upd (q : Nat → Int) (i b : Nat) : updI (posF q) i (b : Int) = posF (updI q i (b : Int)) := by
  funext j
  unfold posF updI
  by_cases h : j = i
  · rw [if_pos h, if_pos h, if_neg (by omega)]
  · rw [if_neg h, if_neg h]
theorem first_ff {R : Int} {z q : Nat → Int} {n i : Nat} : ∀ f b, firstAt (fun x => decide (z i ≤ leftR R z q n x)) f b = if ffB R z q n i f b < b + f then ((ffB R z q n i f b : Nat) : Int) else -1
  | 0, b => by
    have : ffB R z q n i 0 b = b := rfl
    rw [this, if_neg (by omega)]; rfl
  | f + 1, b => by
    rw [firstAt, ffB]
    by_cases h : z i ≤ leftR R z q n b
    · rw [if_pos (decide_eq_true h), if_pos h, if_pos (by omega)]
    · rw [if_neg (by simpa using h), if_neg h, first_ff f (b + 1)]
      by_cases h2 : ffB R z q n i f (b + 1) < b + 1 + f
      · rw [if_pos h2, if_pos (by omega)]
      · rw [if_neg h2, if_neg (by omega)]

/-- All that lay in W1 stays, but the block p. -/
structure Keep (p : Nat) (W1 w : World) : Prop where
  os : w.os = W1.os
  tape : w.tape = W1.tape
  output : w.output = W1.output
  size : W1.heap.size ≤ w.heap.size
  block : ∀ k, k < W1.heap.size → k ≠ p → w.heap[k]? = W1.heap[k]?
theorem Keep.refl (p : Nat) (w : World) : Keep p w w := ⟨rfl, rfl, rfl, Nat.le_refl _, fun _ _ _ => rfl⟩
theorem Keep.then {p : Nat} {W1 w w' : World} (h : Keep p W1 w) (hb : Below w.heap.size w w') : Keep p W1 w' :=
  ⟨hb.os.trans h.os, hb.tape.trans h.tape, hb.output.trans h.output, Nat.le_trans h.size hb.size, fun k hk hne => (hb.block k (by have := h.size; omega)).trans (h.block k hk hne)⟩
theorem Keep.grown {p : Nat} {W1 w w' : World} {own : Option Nat} (h : Keep p W1 w) (hg : w.grownBy w' own) (ho : ∀ k, own = some k → W1.heap.size ≤ k) : Keep p W1 w' :=
  ⟨hg.os.trans h.os, hg.tape.trans h.tape, hg.output.trans h.output, Nat.le_trans h.size hg.size, fun k hk hne => (hg.block k (by have := h.size; omega) (fun e => by have := ho k e.symm; omega)).trans (h.block k hk hne)⟩
theorem Keep.set {p g : Nat} {W1 w : World} (h : Keep p W1 w) (hg : g = p ∨ W1.heap.size ≤ g) (o : Nat) (v : Value) : Keep p W1 (w.setCell ⟨g, o, none⟩ v) :=
  ⟨h.os, h.tape, h.output, by simpa [World.setCell] using h.size, fun k hk hne => (heap_setCell_ne _ (by rcases hg with e | e <;> omega)).trans (h.block k hk hne)⟩
theorem Keep.ints {p : Nat} {W1 w : World} {b off n : Nat} {l : Nat → Int} (h : Keep p W1 w) (hI : Ints W1 b off n l) (hne : b ≠ p) : Ints w b off n l :=
  ⟨Nat.lt_of_lt_of_le hI.lt h.size, fun k hk => (World.cell?_of_block (a := ⟨b, off + k, none⟩) (h.block b hI.lt hne)).trans (hI.v k hk)⟩
theorem IHas.keep {p : Nat} {W1 w : World} {A : Option Addr} {n : Nat} {l : Nat → Int} (hI : IHas W1 A n l) (h : Keep p W1 w) (hne : ∀ b o s, A = some ⟨b, o, s⟩ → b ≠ p) : IHas w A n l := fun hn => by
  obtain ⟨b, off, e, hP⟩ := hI hn
  exact ⟨b, off, e, h.ints hP (hne _ _ _ e)⟩
theorem Keep.below {p B : Nat} {w0 W1 w : World} (h : Keep p W1 w) (hb : Below B w0 W1) (hB : B ≤ w0.heap.size) (hp : B ≤ p) : Below B w0 w :=
  ⟨h.os.trans hb.os, h.tape.trans hb.tape, h.output.trans hb.output, Nat.le_trans hb.size h.size, fun k hk => (h.block k (by have := hb.size; omega) (by omega)).trans (hb.block k hk)⟩
theorem Row.grown {w w' : World} {b N : Nat} {l : Nat → Int} {own : Option Nat} (h : Row w b N l) (hg : w.grownBy w' own) (ho : own ≠ some b) : Row w' b N l := by
  obtain ⟨cs, h1, h2⟩ := h.row
  exact ⟨cs, (hg.block b (lt_of_heap h1) (fun e => ho e.symm)).trans h1, h2⟩

theorem Keep.drew {p : Nat} {W1 w : World} (h : Keep p W1 w) : Keep p W1 w.drew := ⟨h.os, h.tape, h.output, h.size, h.block⟩
theorem Row.congr {w : World} {b N : Nat} {p q : Nat → Int} (h : Row w b N p) (e : ∀ j, j < N → p j = q j) : Row w b N q := by
  obtain ⟨cs, h1, h2, h3⟩ := h.row
  exact ⟨cs, h1, h2, fun j hj => by rw [← e j hj]; exact h3 j hj⟩
theorem Row.drew {w : World} {b N : Nat} {l : Nat → Int} (h : Row w b N l) : Row w.drew b N l := ⟨h.row⟩
theorem owns_drew {w : World} {base : Nat} {e : TypeId} {size : Nat} {v : Value} {n : Nat} {xs : List Value} (h : w.ownsRow base e size v n xs) : w.drew.ownsRow base e size v n xs := ⟨h.1, h.2⟩
theorem drew_cell (w : World) (a : Addr) : w.drew.cell? a = w.cell? a := rfl
theorem drew_frozen (w : World) (a : Addr) : w.drew.frozen? a = w.frozen? a := rfl
theorem drew_set (w : World) (a : Addr) (v : Value) : w.drew.setCell a v = (w.setCell a v).drew := rfl

/-- **A piece is put on a bar: the room is less, the plan says so.** -/
theorem ff_put {pb ib n N b i : Nat} {W1 W : World} {v : Value} {ρ π : Nat → Int} (hk : Keep pb W1 W) (hv : W.ownsRow W1.heap.size 3 1 v N (ints ρ N)) (hr : Row W pb n π) (hpb : pb < W1.heap.size) (hb : b < N) (hi : i < n)
    (hib : W1.heap.size ≤ ib) (hic : W.cell? ⟨ib, 0, none⟩ = some (.int .i64 (i : Int))) (hown : v.ownBlock ≠ some ib) (Z : Int) :
    ∃ g cg, v = .slice (some ⟨g, 0, none⟩) N cg ∧ W1.heap.size ≤ g ∧ g < W.heap.size ∧ W.cell? ⟨g, b, none⟩ = some (.int .i64 (ρ b)) ∧ W.frozen? ⟨g, b, none⟩ = false ∧
      (W.setCell ⟨g, b, none⟩ (.int .i64 (ρ b - Z))).cell? ⟨ib, 0, none⟩ = some (.int .i64 (i : Int)) ∧
      (W.setCell ⟨g, b, none⟩ (.int .i64 (ρ b - Z))).cell? ⟨pb, i, none⟩ = some (.int .i64 (π i)) ∧
      (W.setCell ⟨g, b, none⟩ (.int .i64 (ρ b - Z))).frozen? ⟨pb, i, none⟩ = false ∧
      ((W.setCell ⟨g, b, none⟩ (.int .i64 (ρ b - Z))).setCell ⟨pb, i, none⟩ (.int .i64 (b : Int))).ownsRow W1.heap.size 3 1 v N (ints (updI ρ b (ρ b - Z)) N) ∧
      Row ((W.setCell ⟨g, b, none⟩ (.int .i64 (ρ b - Z))).setCell ⟨pb, i, none⟩ (.int .i64 (b : Int))) pb n (updI π i (b : Int)) ∧
      Keep pb W1 ((W.setCell ⟨g, b, none⟩ (.int .i64 (ρ b - Z))).setCell ⟨pb, i, none⟩ (.int .i64 (b : Int))) := by
  obtain ⟨g, cg, rfl, g1, g2, g3, g4, g5⟩ := owns_set hv hb
  have hr2 : Row (W.setCell ⟨g, b, none⟩ (.int .i64 (ρ b - Z))) pb n π := hr.ne (by omega) _
  have hne : g ≠ ib := fun e => hown (by subst e; rfl)
  refine ⟨g, cg, rfl, g1, g2, g3, g4, ?_, (hr2.at' hi).1, (hr2.at' hi).2, ?_, hr2.set hi _, (hk.set (.inr g1) _ _).set (.inl rfl) _ _⟩
  · exact (World.cell?_of_block (w' := W.setCell ⟨g, b, none⟩ (.int .i64 (ρ b - Z))) (a := ⟨ib, 0, none⟩) (heap_setCell_ne _ hne)).trans hic
  · have h6 := (g5 (ρ b - Z)).1
    refine ⟨h6.1, ?_⟩
    rcases h6.2 with h7 | ⟨g', cap, cur, h8, h9, h10, h11⟩
    · exact .inl h7
    · cases h8
      exact .inr ⟨g, _, cur, rfl, h9, (heap_setCell_ne _ (by omega)).trans h10, h11⟩
end Go.Proofs.YtlfkbinjlgbckaaDoor

/- BFFC: First fit: where the first bar with room is, walked; no statement is proved here. -/
namespace Go.Proofs.YtlfkbinjlgbckaaDoor
open Go.ChangeShapes Go.WideShapes Go.ChangeAt Go.RowKit

set_option maxHeartbeats 1000000 in
theorem fits1_is (A : Option Addr) (n c nb ib i : Nat) (z : Nat → Int) (x : Int) (w : World) (hi : i < n) (hz : IHas w A n z) (h0 : w.cell? ⟨nb, 0, none⟩ = some (.slice A n c)) (h1 : w.cell? ⟨ib, 0, none⟩ = some (.int .i64 (i : Int))) (r : Bool) (hr : decide (z i ≤ x) = r) :
    Calls Tryd.prog 30 #[.int .i64 x, .pointer (some ⟨nb, 0, none⟩), .pointer (some ⟨ib, 0, none⟩)] w fun e w' => e = .returned (.bool r) ∧ Below w.heap.size w w' := by
  obtain ⟨b, off, rfl, hP⟩ := hz (by omega)
  have hx := hP.v i hi
  subst hr
  clear hP hz
  generalize z i = Z at *
  go_enter Tryd.func30, Tryd.ntmps30
  go_wp2
  go_ret
  exact ⟨rfl, Below.refl _ _⟩

set_option maxHeartbeats 1000000 in
theorem indexFit (A V : Option Addr) (n c N d nb ib i : Nat) (z ρ : Nat → Int) (w : World) (hn : N ≤ 9223372036854775807) (hv : IHas w V N ρ) (hi : i < n) (hz : IHas w A n z) (hg : nb < w.heap.size) (hg' : ib < w.heap.size) (h0 : w.cell? ⟨nb, 0, none⟩ = some (.slice A n c)) (h1 : w.cell? ⟨ib, 0, none⟩ = some (.int .i64 (i : Int))) :
    Calls Tryd.prog 29 #[.slice V N d, .func (.func 30) #[] #[.pointer (some ⟨nb, 0, none⟩), .pointer (some ⟨ib, 0, none⟩)]] w fun e w' =>
      e = .returned (.int .i64 (firstAt (fun x => decide (z i ≤ ρ x)) N 0)) ∧ Below w.heap.size w w' := by
  have HP := Lib.hid hv
  have HC := Lib.hid (fun W x r (hb : Below w.heap.size w W) hr => fits1_is A n c nb ib i z x W hi (hz.later hb) ((hb.cell (p := ⟨nb, 0, none⟩) hg).trans h0) ((hb.cell (p := ⟨ib, 0, none⟩) hg').trans h1) r hr)
  clear hv hz h0 h1
  go_enter Tryd.func29, Tryd.ntmps29
  go_wp2
  go_loopw [5, 8] (fun _ j wr => ∃ k : Nat, k ≤ N ∧ j = .int .i64 (k : Int) ∧ allTo (fun x => !decide (z i ≤ ρ x)) k = true ∧ Below w.heap.size w wr) (fun _ j _ => N - (intOf j).toNat)
  case atStart => exact ⟨0, Nat.zero_le _, rfl, rfl, Below.refl _ _⟩
  case round =>
    obtain ⟨k, hk, rfl, ha, hb⟩ := hrel
    have HA := Lib.hid ha
    have HB := Lib.hid hb
    clear ha hb
    by_cases hlt : k < N
    · obtain ⟨b, off, rfl, hP⟩ := HP.out (by omega)
      have hx := (hP.later HB.out).v k hlt
      clear hP
      cases hr : decide (z i ≤ ρ k)
      · have HR := Lib.hid hr
        have HK := Lib.hid (HC.out wr (ρ k) false HB.out hr)
        clear hr
        go_wp2_with (go_at_call 30; refine HK.out.mono ?_; rintro e w1 ⟨rfl, hb1⟩)
        go_roundw
        case rel => exact ⟨k + 1, by omega, by go_num, by simp only [allTo, HA.out, HR.out, Bool.and_self, Bool.not_false], bthen HB.out hb1⟩
        case measure => simp [intOf]; omega
      · have HR := Lib.hid hr
        have HK := Lib.hid (HC.out wr (ρ k) true HB.out hr)
        clear hr
        go_wp2_with (go_at_call 30; refine HK.out.mono ?_; rintro e w1 ⟨rfl, hb1⟩)
        go_ret
        exact ⟨int_of (firstAt_hit hlt HA.out HR.out).symm, bthen HB.out hb1⟩
    · obtain rfl : k = N := by omega
      go_wp2
      go_ret
      exact ⟨int_of (firstAt_none HA.out).symm, HB.out⟩
end Go.Proofs.YtlfkbinjlgbckaaDoor

/- BFFG: First fit, as the code goes, walked; no statement is proved here. -/
namespace Go.Proofs.YtlfkbinjlgbckaaDoor
open Go.ChangeShapes Go.WideShapes Go.ChangeAt Go.RowKit

def nfN (B K : Int) (l : Nat → Int) (n : Nat) : Nat := if plE B K l n = 0 then n else 0
def ffP (B K : Int) (l : Nat → Int) (n : Nat) : Nat → Int := (ffQ (B + K) (fun k => l k + K) (ordF (lmN l n) n) n n).1
theorem pl_is {B K : Int} {l : Nat → Int} {n : Nat} (h : plE B K l n = 0) : (vS B K && vP l n) = true ∧ (1 ≤ B ∧ B ≤ 10000) ∧ (0 ≤ K ∧ K ≤ 100) ∧ n ≤ 16 ∧ ∀ k, k < n → 1 ≤ l k ∧ l k ≤ B := by
  unfold plE at h
  by_cases h1 : (vS B K && vP l n) = true
  · rw [if_pos h1] at h
    by_cases h2 : allTo (fun k => btw (l k) 1 B) n = true
    · have h3 := allTo_iff.1 h2
      refine ⟨h1, ?_, ?_, ?_, fun k hk => by have := h3 k hk; simpa [btw] using this⟩ <;> (unfold vS vP btw at h1; simp at h1; omega)
    · rw [if_neg h2] at h; omega
  · rw [if_neg h1] at h; omega

set_option maxHeartbeats 2000000 in
theorem FirstFit_no (B K : Int) (A : Option Addr) (n c : Nat) (l : Nat → Int) (w : World) (hn : n ≤ c) (hc : c ≤ 9223372036854775807) (hp : IHas w A n l) (hpl : plE B K l n ≠ 0) :
    Calls Tryd.prog 11 #[.agg #[.int .i64 B, .int .i64 K], .slice A n c] w fun e w' => e = .returned (.tuple #[.slice none 0 0, .int .i64 (plE B K l n)]) ∧ Below w.heap.size w w' := by
  have HP := Lib.hid hp
  have H1 := Lib.hid (fun w hp => planned_any B K A n c l w hn hc hp)
  have HB0 := Lib.hid (show Below w.heap.size w (w.alloc (.cells #[.int .i64 B, .int .i64 K] 23)) from (Below.refl _ _).alloc (Nat.le_refl _) _)
  have hne : (plE B K l n == 0) = false := by simpa using hpl
  clear hp
  generalize plE B K l n = E at *
  go_enter Tryd.func11, Tryd.ntmps11
  go_wp2_with (go_at_call 18; (refine (H1.out _ (HP.out.later HB0.out)).mono ?_); rintro e w1 ⟨rfl, hb1⟩)
  go_ret2
  exact ⟨rfl, bthen HB0.out hb1⟩

set_option maxHeartbeats 8000000 in
set_option maxRecDepth 100000 in
theorem FirstFit_go (B K : Int) (A : Option Addr) (n c : Nat) (l : Nat → Int) (w : World) (hn : n ≤ c) (hc : c ≤ 9223372036854775807) (hp : IHas w A n l) (hpl : plE B K l n = 0) :
    Calls Tryd.prog 11 #[.agg #[.int .i64 B, .int .i64 K], .slice A n c] w (RetL w n (numF (ffP B K l n)) 0) := by
  obtain ⟨hck, ⟨B0, B1⟩, ⟨K0, K1⟩, h16, hl⟩ := pl_is hpl
  have HP := Lib.hid hp
  have H1 := Lib.hid (fun w hp => planned_any B K A n c l w hn hc hp)
  rw [hpl] at H1
  have H2 := Lib.hid (fun w hp => sizes_any A n c l K w (by omega) hp (fun k hk => ⟨by have := hl k hk; omega, by have := hl k hk; omega⟩) ⟨K0, by omega⟩)
  have H3 := Lib.hid (fun w hp => longestFirst_any A n c l w h16 hp)
  have H4 := Lib.hid (fun w => room_any B K w ⟨by omega, by omega⟩ ⟨K0, by omega⟩)
  have HS := Lib.hid (fun i (hi : i < n) => ordF_all (l := lmN l n) hi)
  have HO := Lib.hid (And.intro (fun j (hj : j < n) => ordF_lt (l := lmN l n) hj) (fun j m (hj : j < n) (hm : m < n) e => ordF_inj (l := lmN l n) hj hm e))
  have Z0 := Lib.hid (new_at w (.cells #[.int .i64 B, .int .i64 K] 23) _ rfl)
  have HB0 := Lib.hid (show Below w.heap.size w (w.alloc (.cells #[.int .i64 B, .int .i64 K] 23)) from (Below.refl _ _).alloc (Nat.le_refl _) _)
  have HZ := Lib.hid (show ∀ k, k < n → 0 ≤ l k + K ∧ l k + K ≤ B + K from fun k hk => by have := hl k hk; omega)
  unfold ffP
  clear hp hck hl hpl
  generalize ordF (lmN l n) n = o at *
  obtain ⟨z, hz⟩ : ∃ z : Nat → Int, z = fun k => l k + K := ⟨_, rfl⟩
  have HZ2 : Hid (∀ k, k < n → 0 ≤ z k ∧ z k ≤ B + K) := Lib.hid (by rw [hz]; exact HZ.out)
  rw [← hz] at H2 ⊢
  clear hz HZ
  obtain ⟨R, hR⟩ : ∃ R : Int, R = B + K := ⟨_, rfl⟩
  have R0 : 0 ≤ R := by omega
  have R1 : R ≤ 20000 := by omega
  rw [← hR] at H4 HZ2 ⊢
  clear hR
  have HQ := Lib.hid (fun k (hk : k ≤ n) => ffQ_is (R := R) (z := z) (o := o) (n := n) (fun i hi => (HZ2.out i hi).2) HO.out.1 HO.out.2 k hk)
  obtain ⟨i0, hi0, hz0, hz1, hz2⟩ := info_parts infoInt
  go_enter Tryd.func11, Tryd.ntmps11
  go_wp2_with (first
    | (go_at_call 18; (refine (H1.out _ (HP.out.later HB0.out)).mono ?_); rintro e w1 ⟨rfl, hb1⟩; have HB1 := Lib.hid (bthen HB0.out hb1); have Z1 := Lib.hid ((hb1.block _ (lt_of_heap Z0.out)).trans Z0.out); obtain ⟨s0, s1, s2, s3⟩ := cell2_of Z1.out; have s4 := lt_of_heap Z1.out; clear hb1)
    | (go_at_call 19; (refine (H2.out _ (HP.out.later HB1.out)).mono ?_); rintro e w2 ⟨A2, c2, rfl, m1, m2, m3, hi2, hb2⟩; have HB2 := Lib.hid (bthen HB1.out hb2); have HI2 := Lib.hid hi2; have Z2 := Lib.hid ((hb2.block _ (lt_of_heap Z1.out)).trans Z1.out); clear hb2 hi2)
    | (at_make; go_loud (refine wpList_make_full _ rfl _ _ 24 rfl w2.heap.size 3 i0 (.int .i64 0) 1 Tryd.underlying24 hi0 hz0 hz1 .i64 .i64 _ _ n rfl rfl rfl rfl ?b2 ?b3 ?b4 ?_)))
  case b2 => rw [hz2]; omega
  case b3 => unfold maxLen; omega
  case b4 => simp
  intro w3 hown3 hgrow3
  have hsz : (w2.alloc (.cells #[.slice A2 n c2] 24)).heap.size = w2.heap.size + 1 := by simp
  have hg3 := hgrow3.size
  rw [hsz] at hg3
  have HN3 := Lib.hid ((hgrow3.block w2.heap.size (by rw [hsz]; omega) (by intro h; cases h)).trans (new_at w2 (.cells #[.slice A2 n c2] 24) _ rfl))
  have hb3 : Below w2.heap.size w2 w3 := ((Below.refl _ _).alloc (Nat.le_refl _) _).grown hgrow3 (by rw [hsz]; omega) (fun k h => by cases h)
  have HR3 := Lib.hid (row_made (by rw [Nat.mul_one]; exact hown3))
  have HB3 := Lib.hid (bthen HB2.out hb3)
  have HI3 := Lib.hid (HI2.out.later hb3)
  have Z3 := Lib.hid ((hb3.block _ (lt_of_heap Z2.out)).trans Z2.out)
  have HLT2 := Lib.hid (fun b o s (e : A2 = some ⟨b, o, s⟩) => show b < w2.heap.size ∨ n = 0 from by
    rcases Nat.eq_zero_or_pos n with h | h
    · exact .inr h
    · obtain ⟨b', o', e', hP⟩ := HI2.out h
      rw [e'] at e; cases e
      exact .inl hP.lt)
  have hlw := lt_of_heap Z2.out
  clear hown3 hgrow3 hb3 hsz
  generalize hpb : w2.heap.size + 1 = pb at *
  generalize hnb : w2.heap.size = nb at *
  have HPB := Lib.hid hpb
  clear hpb hnb
  go_wp2_with (go_at_call 28; (refine (H3.out _ (HP.out.later HB3.out)).mono ?_); rintro e w4 ⟨A4, c4, rfl, m5, m6, m7, hi4, hb4⟩; have HB4 := Lib.hid (bthen HB3.out hb4); have HI4 := Lib.hid hi4; have HN4 := Lib.hid ((hb4.block _ (lt_of_heap HN3.out)).trans HN3.out); have HR4 := Lib.hid (HR3.out.later hb4); have HZ4 := Lib.hid (HI3.out.later hb4); have Z4 := Lib.hid ((hb4.block _ (lt_of_heap Z3.out)).trans Z3.out); have hs4 := hb4.size; clear hb4 hi4)
  have hpl := HR3.out.lt
  have HM7 := Lib.hid m7
  clear m7
  go_loopw [9, 11, 12, 29] (fun v _ _ i wr => ∃ k : Nat, k ≤ n ∧ i = .int .i64 (k : Int) ∧ wr.ownsRow w4.heap.size 3 1 v (ffQ R z o n k).2 (ints (leftR R z (ffQ R z o n k).1 n) (ffQ R z o n k).2) ∧ Row wr pb n (posF (ffQ R z o n k).1) ∧ Keep pb w4 wr) (fun _ _ _ i _ => n - (intOf i).toNat)
  case atStart => exact ⟨0, Nat.zero_le _, rfl, World.ownsRow_nil _ _ _ _, HR4.out, Keep.refl _ _⟩
  case round =>
    obtain ⟨k, hk, rfl, hv, hr, hkp⟩ := hrel
    by_cases hlt : k < n
    · have F := HQ.out k hk
      have hstep : (ffQ R z o n (k + 1)).1 = updI (ffQ R z o n k).1 (o k) ((ffB R z (ffQ R z o n k).1 n (o k) (ffQ R z o n k).2 0 : Nat) : Int) ∧ (ffQ R z o n (k + 1)).2 = max (ffQ R z o n k).2 (ffB R z (ffQ R z o n k).1 n (o k) (ffQ R z o n k).2 0 + 1) := ⟨rfl, rfl⟩
      have hfi := first_ff (R := R) (z := z) (q := (ffQ R z o n k).1) (n := n) (i := o k) (ffQ R z o n k).2 0
      obtain ⟨b1, b2, b3, b4⟩ := ffB_is (R := R) (z := z) (q := (ffQ R z o n k).1) (n := n) (i := o k) (ffQ R z o n k).2 0
      have hoi := HO.out.1 k hlt
      have hun := (F.un _ hoi).2 (fun j hj e => by have := HO.out.2 j k (by omega) hlt e; omega)
      obtain ⟨ob, off, rfl, hP⟩ := HI4.out (by omega)
      have hne4 : ob ≠ pb := by have := HM7.out _ _ _ rfl; omega
      have hx := (hkp.ints hP hne4).v k hlt
      obtain ⟨zb, zoff, rfl, hZ⟩ := HZ4.out (by omega)
      have hzlt := HLT2.out _ _ _ rfl
      have hnez : zb ≠ pb := by have := HPB.out; omega
      have hzi := (hkp.ints hZ hnez).v (o k) hoi
      have hnb4 := lt_of_heap HN4.out
      have hnbc : wr.heap[nb]? = _ := (hkp.block nb hnb4 (by have := HPB.out; omega)).trans HN4.out
      have hst : wr.heap[w.heap.size]? = _ := (hkp.block _ (lt_of_heap Z4.out) (by have := HPB.out; omega)).trans Z4.out
      have hle := F.le
      have hnew := ff_new F (Nat.le_refl _)
      have hzo := HZ2.out _ hoi
      have hlu := fun b (v : Nat) => left_upd (R := R) (z := z) (i := o k) (b := b) (v := v) hun (n := n)
      have S := Lib.hid hstep
      generalize ffB R z (ffQ R z o n k).1 n (o k) (ffQ R z o n k).2 0 = b at *
      generalize (ffQ R z o n k).1 = q at *
      generalize (ffQ R z o n k).2 = N at *
      generalize o k = i at *
      have HUP := Lib.hid (fun M => show ints (updI (leftR R z q n) b (leftR R z q n b - z i)) M = ints (leftR R z (updI q i (b : Int)) n) M from ints_congr (fun x _ => by
        rw [hlu x b]
        unfold updI
        by_cases e : x = b
        · subst e; rw [if_pos rfl, if_pos ⟨hoi, rfl⟩]
        · rw [if_neg e, if_neg (fun h => e h.2.symm)]; omega))
      obtain ⟨L0, L1⟩ := left_bd (R := R) (z := z) (q := q) (k := n) (b := b) ⟨R0, R1⟩ h16 (fun j hj => by have := HZ2.out j hj; omega)
      have hN16 : N ≤ 16 := by omega
      have hW : Below wr.heap.size wr (wr.alloc (.cells #[.int .i64 (i : Int)] 3)) := (Below.refl _ _).alloc (Nat.le_refl _) _
      have hWs : (wr.alloc (.cells #[.int .i64 (i : Int)] 3)).heap.size = wr.heap.size + 1 := by simp
      have hkz : wr.heap.size ≥ w4.heap.size := hkp.size
      have hic : (wr.alloc (.cells #[.int .i64 (i : Int)] 3)).cell? ⟨wr.heap.size, 0, none⟩ = some (.int .i64 (i : Int)) := by simp
      have hnc : wr.cell? ⟨nb, 0, none⟩ = some (.slice (some ⟨zb, zoff, none⟩) n c2) := by simp only [World.cell?, hnbc]; rfl
      obtain ⟨A9, c9, rfl, n1, n2, _, hi9⟩ := owns_ints hv
      have HX := Lib.hid (indexFit (some ⟨zb, zoff, none⟩) A9 n c2 N c9 nb wr.heap.size i z (leftR R z q n) (wr.alloc (.cells #[.int .i64 (i : Int)] 3)) (by omega) (hi9.later hW) hoi ((fun _ => ⟨zb, zoff, rfl, (hkp.ints hZ hnez).later hW⟩ : IHas _ _ n z)) (by omega) (by omega) ((hW.cell (p := ⟨nb, 0, none⟩) (by show nb < wr.heap.size; omega)).trans hnc) hic)
      rw [hfi] at HX
      have HF := Lib.hid (And.intro hkp (And.intro hv hr))
      have HZi := Lib.hid hzi
      have HNC := Lib.hid hnc
      have hown : (Value.slice A9 N c9).ownBlock ≠ some wr.heap.size := fun e => by have := (hv.lt _ e).2; omega
      have HB5 := Lib.hid hW
      clear hfi hlu hstep hi9 hP hZ hkp hv hr hzi hnc b4 HI4 HM7 HI2 HI3 HN3 HN4 HZ4 HLT2 m3 HR4 F hnbc
      by_cases hbN : b < N
      · rw [if_pos (by omega)] at HX
        clear hnew b3
        go_wp2_with fail
        refine HX.out.mono ?_
        rintro e w5 ⟨rfl, hb5⟩
        have hbw := bthen hW hb5
        have hic5 := (hb5.cell (p := ⟨wr.heap.size, 0, none⟩) (by rw [hWs]; exact Nat.lt_succ_self _)).trans hic
        have hnc5 := (hbw.cell (p := ⟨nb, 0, none⟩) (by show nb < wr.heap.size; omega)).trans HNC.out
        have hzi5 := (hbw.cell (p := ⟨zb, zoff + i, none⟩) (by show zb < wr.heap.size; omega)).trans HZi.out
        obtain ⟨g', cg', e', p1, p2, p3, p4, p5, p6, p7, p8, p9, p10⟩ := ff_put (HF.out.1.then hbw) (owns_later HF.out.2.1 hbw) (HF.out.2.2.later hbw) (by omega) hbN hoi hkz hic5 hown (z i)
        cases e'
        have Q1 := Lib.hid (show World.ownsRow (World.drew _) w4.heap.size 3 1 _ (ffQ R z o n (k + 1)).2 (ints (leftR R z (ffQ R z o n (k + 1)).1 n) (ffQ R z o n (k + 1)).2) from by
          rw [S.out.1, S.out.2, Nat.max_eq_left (by omega), ← HUP.out N]; exact owns_drew p8)
        have Q2 := Lib.hid (show Row (World.drew _) pb n (posF (ffQ R z o n (k + 1)).1) from by rw [S.out.1, ← posF_upd]; exact p9.drew)
        have Q3 := Lib.hid p10.drew
        have P1 := Lib.hid p1
        clear p8 p9 p10 p1 hbw hb5 hic HX HUP HF HNC HZi hW hWs hown S
        generalize leftR R z q n b = L at *
        generalize z i = Z at *
        generalize posF q i = X at *
        go_wp2
        go_region
        rw [← drew_cell] at p5 p6
        rw [← drew_frozen] at p7
        go_wp2
        go_roundw
        case rel => exact ⟨k + 1, by omega, by go_num, Q1.out, Q2.out, Q3.out⟩
        case measure => simp [intOf]; omega
      · obtain rfl : b = N := by omega
        rw [if_neg (by omega)] at HX
        rw [hnew] at L0 L1 HUP
        have HF1 := Lib.hid (show ints (leftR R z q n) (b + 1) = ints (leftR R z q n) b ++ [.int .i64 R] from by rw [ints, hnew])
        clear b3
        go_wp2_with fail
        refine HX.out.mono ?_
        rintro e w5 ⟨rfl, hb5⟩
        have hbw := bthen hW hb5
        have hic5 := (hb5.cell (p := ⟨wr.heap.size, 0, none⟩) (by rw [hWs]; exact Nat.lt_succ_self _)).trans hic
        have hs5 : wr.heap.size < w5.heap.size := by have := hb5.size; omega
        obtain ⟨s0, s1, s2, s3⟩ := cell2_of ((hbw.block _ (lt_of_heap hst)).trans hst)
        have s4 := lt_of_heap ((hbw.block _ (lt_of_heap hst)).trans hst)
        have HF5 := Lib.hid (And.intro hbw (And.intro hic5 hs5))
        clear hb5 hic5 hbw hs5 HX
        go_wp2_with fail
        refine (H4.out _).mono ?_
        rintro e w6 ⟨rfl, hb6⟩
        have hbw := bthen HF5.out.1 hb6
        have hic6 := (hb6.cell (p := ⟨wr.heap.size, 0, none⟩) HF5.out.2.2).trans HF5.out.2.1
        have hs6 : wr.heap.size < w6.heap.size := by have := hb6.size; have := HF5.out.2.2; omega
        have HV6 := Lib.hid (owns_later HF.out.2.1 hbw)
        have HR6 := Lib.hid (HF.out.2.2.later hbw)
        have HK6 := Lib.hid (HF.out.1.then hbw)
        have HC6 := Lib.hid (And.intro hic6 (And.intro ((hbw.cell (p := ⟨nb, 0, none⟩) (by show nb < wr.heap.size; omega)).trans HNC.out) ((hbw.cell (p := ⟨zb, zoff + i, none⟩) (by show zb < wr.heap.size; omega)).trans HZi.out)))
        clear hb6 hbw hic6 s0 s1 s2 s3 s4
        go_wp2_with (at_builtin; go_loud (refine wpList_append_own_at _ rfl _ _ 24 rfl w4.heap.size 3 i0 (.int .i64 0) 1 8 Tryd.underlying24 hi0 hz0 hz1 hz2 rfl (by decide) _ _ _ rfl (HV6.out.alloc _) ⟨w6.heap.size, 0, none⟩ 1 1 [.int .i64 R] rfl rfl ?c1 ?c2 ?c3 ?c4 ?c5 ?_))
        case c1 =>
          intro j u hj
          match j, hj with
          | 0, hj => simp at hj; subst hj; simp [Addr.add]
        case c2 => intro u hu; simp at hu; subst hu; rfl
        case c3 => unfold maxLen; omega
        case c4 => omega
        case c5 => simp; omega
        intro v' w7 hown' hgrow _ hblk
        rw [← HF1.out] at hown'
        have hA6 : Below w6.heap.size w6 (w6.alloc (.cells #[.int .i64 R] 3)) := (Below.refl _ _).alloc (Nat.le_refl _) _
        have hA6s : (w6.alloc (.cells #[.int .i64 R] 3)).heap.size = w6.heap.size + 1 := by simp
        have hlow : ∀ j, (Value.slice A9 b c9).ownBlock = some j → w4.heap.size ≤ j := fun j hj => (HV6.out.lt j hj).1
        have hk7 := (HK6.out.then hA6).grown hgrow hlow
        have hr7 := (HR6.out.later hA6).grown hgrow (fun e => by have := hlow _ e; omega)
        have hof : ∀ a, a < w6.heap.size → (Value.slice A9 b c9).ownBlock ≠ some a → w7.heap[a]? = w6.heap[a]? := fun a ha hn => (hgrow.block a (by rw [hA6s]; omega) (Ne.symm hn)).trans (hA6.block a ha)
        have hic7 := (World.cell?_of_block (w := w6) (w' := w7) (a := ⟨wr.heap.size, 0, none⟩) (hof _ hs6 hown)).trans HC6.out.1
        have hnc7 := (World.cell?_of_block (w := w6) (w' := w7) (a := ⟨nb, 0, none⟩) (hof nb (by omega) (fun e => by have := hlow nb e; omega))).trans HC6.out.2.1
        have hzi7 := (World.cell?_of_block (w := w6) (w' := w7) (a := ⟨zb, zoff + i, none⟩) (hof zb (by omega) (fun e => by have := hlow zb e; omega))).trans HC6.out.2.2
        have hov' : v'.ownBlock ≠ some wr.heap.size := by
          rcases hblk with h | h
          · rw [h]; exact hown
          · rw [h]; intro e; injection e with e; omega
        obtain ⟨g', cg', rfl, p1, p2, p3, p4, p5, p6, p7, p8, p9, p10⟩ := ff_put hk7 hown' hr7 (by omega) (show b < b + 1 by omega) hoi hkz hic7 hov' (z i)
        rw [hnew] at p3 p5 p6 p7 p8 p9 p10
        have Q1 := Lib.hid (show World.ownsRow (World.drew _) w4.heap.size 3 1 _ (ffQ R z o n (k + 1)).2 (ints (leftR R z (ffQ R z o n (k + 1)).1 n) (ffQ R z o n (k + 1)).2) from by
          rw [S.out.1, S.out.2, Nat.max_eq_right (by omega), ← HUP.out (b + 1)]; exact owns_drew p8)
        have Q2 := Lib.hid (show Row (World.drew _) pb n (posF (ffQ R z o n (k + 1)).1) from by rw [S.out.1, ← posF_upd]; exact p9.drew)
        have Q3 := Lib.hid p10.drew
        have P1 := Lib.hid p1
        clear p8 p9 p10 p1 hic HUP HF HNC HZi hW hWs hown S HF5 HF1 hown' hgrow hblk hA6 hA6s hlow hk7 hr7 hof hov' HC6 HV6 HR6 HK6 hnew
        generalize z i = Z at *
        generalize posF q i = X at *
        go_wp2
        go_region
        rw [← drew_cell] at p5 p6
        rw [← drew_frozen] at p7
        go_wp2
        go_roundw
        case rel => exact ⟨k + 1, by omega, by go_num, Q1.out, Q2.out, Q3.out⟩
        case measure => simp [intOf]; omega
    · obtain rfl : k = n := by omega
      have F := HQ.out k (Nat.le_refl _)
      have hq : ∀ i, i < k → posF (ffQ R z o k k).1 i = (ffQ R z o k k).1 i := fun i hi => by
        have h1 := F.un i hi
        have h2 : ¬ (ffQ R z o k k).1 i < 0 := fun h => by
          obtain ⟨j, hj, e⟩ := HS.out i hi
          exact h1.1 h j hj e
        unfold posF
        rw [if_neg h2]
      have hlo := fun i (hi : i < k) => F.lt i hi
      have hle := F.le
      have hr' := fun i (hi : i < k) => show -9223372036854775808 ≤ posF (ffQ R z o k k).1 i ∧ posF (ffQ R z o k k).1 i ≤ 9223372036854775807 from by rw [hq i hi]; have := hlo i hi; omega
      have HX := Lib.hid (numbered_any (some ⟨pb, 0, none⟩) k k (posF (ffQ R z o k k).1) wr (by omega) hr.has hr')
      have HG := Lib.hid (fun i (hi : i < k) => num_congr hq hi)
      have HBW := Lib.hid (hkp.below HB4.out (Nat.le_refl _) (by have := HPB.out; omega))
      clear F hq hlo hr' hv hr hkp hle
      go_wp2_with (go_at_call 31; refine HX.out.mono ?_; rintro e w5 ⟨A5, c5, rfl, x1, x2, _, hi5, hb5⟩)
      go_ret2
      exact ⟨A5, c5, rfl, x1, x2, hi5.congr HG.out, bthen HBW.out hb5⟩
end Go.Proofs.YtlfkbinjlgbckaaDoor
