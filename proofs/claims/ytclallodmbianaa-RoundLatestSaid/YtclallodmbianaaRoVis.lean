/- Lists of visits in memory; no statement is proved here. -/
import Derived.Test.YtclallodmbianaaRoRefV
import Derived.Maps.OwnRows
namespace Go.Proofs.Ytclallodmbianaa
open Go.ChangeShapes Go.WideShapes Go.ChangeAt Go.RowKit

/-- A visit: the stop, the arrival, the beginning, the end. -/
structure Vi where
  s : Int
  a : Int
  b : Int
  e : Int
/-- The cells from ⟨b, off⟩ on hold n visits. -/
structure Viss (w : World) (b off n : Nat) (f : Nat → Vi) : Prop where
  lt : b < w.heap.size
  x : ∀ k, k < n → w.cell? ⟨b, off + k * 4, none⟩ = some (.int .i64 (f k).s)
  y : ∀ k, k < n → w.cell? ⟨b, off + k * 4 + 1, none⟩ = some (.int .i64 (f k).a)
  z : ∀ k, k < n → w.cell? ⟨b, off + k * 4 + 2, none⟩ = some (.int .i64 (f k).b)
  u : ∀ k, k < n → w.cell? ⟨b, off + k * 4 + 3, none⟩ = some (.int .i64 (f k).e)
theorem Viss.later {w W : World} {b off n : Nat} {f : Nat → Vi} (h : Viss w b off n f) (hb : Below w.heap.size w W) : Viss W b off n f :=
  ⟨Nat.lt_of_lt_of_le h.lt hb.size, fun k hk => (hb.cell (p := ⟨b, off + k * 4, none⟩) h.lt).trans (h.x k hk), fun k hk => (hb.cell (p := ⟨b, off + k * 4 + 1, none⟩) h.lt).trans (h.y k hk), fun k hk => (hb.cell (p := ⟨b, off + k * 4 + 2, none⟩) h.lt).trans (h.z k hk), fun k hk => (hb.cell (p := ⟨b, off + k * 4 + 3, none⟩) h.lt).trans (h.u k hk)⟩
def VHas (w : World) (A : Option Addr) (n : Nat) (f : Nat → Vi) : Prop := 0 < n → ∃ b off, A = some ⟨b, off, none⟩ ∧ Viss w b off n f
theorem VHas.later {w W : World} {A : Option Addr} {n : Nat} {f : Nat → Vi} (h : VHas w A n f) (hb : Below w.heap.size w W) : VHas W A n f := fun hn => by
  obtain ⟨b, off, e, hP⟩ := h hn
  exact ⟨b, off, e, hP.later hb⟩

theorem infoVis : (Try.prog.info? 64).map (fun i => (i.zero, i.size, i.bytes)) = some (some (.agg #[.int .i64 0, .int .i64 0, .int .i64 0, .int .i64 0]), 4, 32) := by kernel_rfl
def visC (x : Vi) : List Value := [.int .i64 x.s, .int .i64 x.a, .int .i64 x.b, .int .i64 x.e]
def visL (f : Nat → Vi) : Nat → List Value
  | 0 => []
  | k + 1 => visL f k ++ visC (f k)
theorem visL_len (f : Nat → Vi) : ∀ n, (visL f n).length = n * 4
  | 0 => rfl
  | n + 1 => by simp [visL, visL_len f n, visC]; omega
theorem visL_get (f : Nat → Vi) : ∀ n k j, k < n → j < 4 → (visL f n)[k * 4 + j]? = (visC (f k))[j]?
  | 0, k, j, h, _ => by omega
  | n + 1, k, j, h, hj => by
    show (visL f n ++ visC (f n))[k * 4 + j]? = _
    by_cases e : k = n
    · subst e
      rw [List.getElem?_append_right (by rw [visL_len]; omega), visL_len, show k * 4 + j - k * 4 = j by omega]
    · rw [List.getElem?_append_left (by rw [visL_len]; omega)]
      exact visL_get f n k j (by omega) hj
/-- A row of visits of one's own, as a slice. -/
theorem owns_vis {w : World} {base : Nat} {A : Option Addr} {n c : Nat} {f : Nat → Vi} (h : w.ownsRow base 64 4 (.slice A n c) n (visL f n)) : VHas w A n f := by
  rcases h.2 with ⟨_, rfl⟩ | ⟨g, cap, cur, e, hg, h5, h6, h7, h8, h9⟩
  · exact fun h => absurd h (Nat.lt_irrefl 0)
  · injection e with e1 e2 e3
    subst e1
    have key : ∀ k j v, k < n → j < 4 → (visC (f k))[j]? = some v → w.cell? ⟨g, 0 + k * 4 + j, none⟩ = some v := fun k j v hk hj hv => by
      have h1 := visL_get f n k j hk hj
      rw [← h9, List.getElem?_take, if_pos (by omega), hv] at h1
      have h2 : cur[k * 4 + j]? = some v := by simpa using h1
      simp [World.cell?, h5, h2]
    exact fun hn => ⟨g, 0, rfl, lt_of_heap h5, fun k hk => key k 0 _ hk (by omega) rfl, fun k hk => key k 1 _ hk (by omega) rfl, fun k hk => key k 2 _ hk (by omega) rfl, fun k hk => key k 3 _ hk (by omega) rfl⟩
/-- One visit more at the end. -/
theorem pushV8 {base : Nat} {W : World} {v : Value} {k : Nat} {f : Nat → Vi} (ty : TypeId) (hown : W.ownsRow base 64 4 v k (visL f k)) (hk : k ≤ 100000) (x : Vi) (hx : f k = x) (hbase : base ≤ W.heap.size) (g : Nat)
    (hc : W.heap[g]? = some (.cells #[.int .i64 x.s, .int .i64 x.a, .int .i64 x.b, .int .i64 x.e] 64)) :
    ∃ v' w', (Builtin.append_ #[27, 27] ty #[v, .slice (some ⟨g, 0, none⟩) 1 1]).run Try.prog W = .ok v' w' ∧ w'.ownsRow base 64 4 v' (k + 1) (visL f (k + 1)) ∧ W.grownBy w' v.ownBlock ∧ (v'.ownBlock = v.ownBlock ∨ v'.ownBlock = some W.heap.size) := by
  obtain ⟨i0, hi0, hz0, hz1, hz2⟩ := info_parts infoVis
  obtain ⟨h0, h1, h2, h3⟩ := (cells4_8 hc).1
  obtain ⟨v', w', r1, r2, r3, r4, r5⟩ := run_append_own_at (P := Try.prog) (w := W) base 27 ty 64 i0 (.agg #[.int .i64 0, .int .i64 0, .int .i64 0, .int .i64 0]) 4 32 Try.underlying27 hi0 hz0 hz1 hz2 rfl (by decide) v k (visL f k) hown ⟨g, 0, none⟩ 1 1 (visC x) rfl (fun j u hj => by
    match j, hj with
    | 0, hj => simp [visC] at hj; subst hj; exact h0
    | 1, hj => simp [visC] at hj; subst hj; exact h1
    | 2, hj => simp [visC] at hj; subst hj; exact h2
    | 3, hj => simp [visC] at hj; subst hj; exact h3) (by intro u hu; simp [visC] at hu; rcases hu with rfl | rfl | rfl | rfl <;> rfl) (by unfold maxLen; omega) (by omega) hbase
  refine ⟨v', w', r1, ?_, r3, r5⟩
  have e : visL f (k + 1) = visL f k ++ visC x := by rw [← hx]; rfl
  rw [e]; exact r2
/-- The visits of a round. -/
def viK (p : Nat → Sto) (q : Nat → List Int) (l : Nat → Int) (t : Int) (k : Nat) : Vi := ⟨l k, arK p q l t k, beK p q l t k, enK p q l t k⟩
/-- What a function gives that makes a list of visits. -/
def RetVis (W : World) (n : Nat) (f : Nat → Vi) (e : Ending) (w' : World) : Prop :=
  ∃ A c, e = .returned (.slice A n c) ∧ n ≤ c ∧ c ≤ 9223372036854775807 ∧ VHas w' A n f ∧ Below W.heap.size W w'
set_option maxHeartbeats 16000000 in
set_option maxRecDepth 100000 in
theorem run_any8 (A : Option Addr) (m c : Nat) (p : Nat → Sto) (R : Option Addr) (d : Nat) (q : Nat → List Int) (t : Int) (C : Option Addr) (len lc : Nat) (l : Nat → Int) (w : World) (hd : DayOk m p q) (ht : 0 ≤ t ∧ t ≤ 1440) (hl : ∀ k, k < len → 1 ≤ l k ∧ l k ≤ (m : Int)) (hn : len ≤ 20)
    (hp : StHas w A m p) (hq : LHas w R (m + 1) q) (hr : IHas w C len l) :
    Calls Try.prog 56 #[.slice A m c, .slice R (m + 1) d, .int .i64 t, .slice C len lc] w (RetVis w len (viK p q l t)) := by
  have HP := Lib.hid hp
  have HQ := Lib.hid hq
  have HR := Lib.hid hr
  have HD := Lib.hid hd
  have HL := Lib.hid hl
  have HMN := Lib.hid (mnK_bd hd (l := l) (t := t) (n := len) hl ht.1)
  have HPL := Lib.hid (fun k (hk : k ≤ len) => plK_le hl hk)
  have HT := Lib.hid ht
  have hm8 := hd.le
  clear hp hq hr hd hl ht
  go_enter Try.func56, Try.ntmps56
  go_wp2
  go_loopw [9, 10, 11, 13, 14, 18] (fun v pl mn _ _ iv wr => ∃ k : Nat, k ≤ len ∧ iv = .int .i64 (k : Int) ∧ pl = .int .i64 ((plK l k : Nat) : Int) ∧ mn = .int .i64 (mnK p q l t k) ∧ wr.ownsRow w.heap.size 64 4 v k (visL (viK p q l t) k) ∧ Below w.heap.size w wr) (fun _ _ _ _ _ iv _ => len - (intOf iv).toNat)
  case atStart => exact ⟨0, Nat.zero_le _, rfl, rfl, rfl, World.ownsRow_nil _ _ _ _, Below.refl _ _⟩
  case round =>
    obtain ⟨k, hk, rfl, rfl, rfl, hown, hb⟩ := hrel
    have HO := Lib.hid hown
    have HB := Lib.hid hb
    obtain ⟨AL, cL, rfl, gL1, gL2⟩ := owns_form8 hown
    by_cases hlt : k < len
    · obtain ⟨bl, ol, rfl, hI⟩ := (HR.out.later hb) (by omega)
      have x0 := hI.v k hlt
      obtain ⟨i1, i2⟩ := HL.out k hlt
      obtain ⟨s, hs⟩ : ∃ s : Nat, l k = ((s + 1 : Nat) : Int) := ⟨(l k).toNat - 1, by omega⟩
      have hsn : (l k).toNat = s + 1 := by omega
      have hsm : s < m := by omega
      have hpl := HPL.out k hk
      have hmn := HMN.out k hk
      obtain ⟨b', o', rfl, l0, hQ⟩ := (HQ.out.later hb) (by omega)
      obtain ⟨CC, kk, z0, k1, k2, k3⟩ := hQ (plK l k) (by omega)
      have hlen := HD.out.len (plK l k) hpl
      obtain ⟨b2, o2, rfl, hII⟩ := k3 (by rw [hlen]; omega)
      have z1 := hII.v (s + 1) (by rw [hlen]; omega)
      have lb2 := hII.lt
      rw [hlen] at z0 k1
      obtain ⟨bs, os, rfl, hS⟩ := (HP.out.later hb) (by omega)
      have HS := Lib.hid hS
      have HPS := Lib.hid (show plK l (k + 1) = s + 1 from hsn)
      have HMS := Lib.hid (show mnK p q l t (k + 1) = enK p q l t k from rfl)
      have har : arK p q l t k = mnK p q l t k + atL (q (plK l k)) (s + 1) := by unfold arK arV; rw [hsn]
      have hbe : beK p q l t k = max (arK p q l t k) (p s).op := by unfold beK beV arK; rw [hsn]; rfl
      have hen : enK p q l t k = beK p q l t k + (p s).jb := by unfold enK enV beK; rw [hsn]; rfl
      have HVI := Lib.hid (show viK p q l t k = ⟨((s + 1 : Nat) : Int), arK p q l t k, beK p q l t k, enK p q l t k⟩ from by unfold viK; rw [hs])
      obtain ⟨r1, r2⟩ := HD.out.rd (plK l k) (s + 1) hpl (by omega)
      obtain ⟨o1, o3⟩ := HD.out.op s hsm
      have o4 := HD.out.cl s hsm
      obtain ⟨j1, j2⟩ := HD.out.jb s hsm
      have ht2 := HT.out
      obtain ⟨g1, g2⟩ : 0 ≤ mnK p q l t k ∧ mnK p q l t k ≤ 60000 := by omega
      obtain ⟨u, hu⟩ : ∃ u : Nat, u = s + 1 := ⟨_, rfl⟩
      rw [hs] at x0
      rw [← hu] at x0 z1 HPS har HVI r1 r2
      have hu1 : ((u : Int) - 1).toNat = s := by omega
      have hu2 : (u : Int) - 1 = (s : Int) := by omega
      have hu3 : IntKind.i64.wrap ((u : Int) - 1) = (s : Int) := by rw [hu2]; exact IntWalk.i64_in _ (by omega)
      have hul : u ≤ m := by omega
      clear hown hb hI hQ k3 hII hS hs hsn hlen hu i1 i2 hmn ht2
      generalize arK p q l t k = AR at *
      generalize beK p q l t k = BE at *
      generalize enK p q l t k = EN at *
      generalize hmk : mnK p q l t k = MN at *
      generalize atL (q (plK l k)) u = r at *
      generalize plK l k = PL at *
      have y0 := HS.out.x s hsm
      have y2 := HS.out.z s hsm
      have ly := HS.out.lt
      generalize (p s).op = o at *
      generalize (p s).jb = j at *
      have HN := Lib.hid (And.intro har (And.intro hbe hen))
      clear hmk hbe hen
      subst har
      obtain ⟨W1, e1⟩ : ∃ W1, wr.alloc (.cells #[.int .i64 (u : Int), .int .i64 (MN + r), .int .i64 0, .int .i64 0] 64) = W1 := ⟨_, rfl⟩
      have B1 : Below wr.heap.size wr W1 := by rw [← e1]; exact (Below.refl _ _).alloc (Nat.le_refl _) _
      have v1 : W1.heap[wr.heap.size]? = some (.cells #[.int .i64 (u : Int), .int .i64 (MN + r), .int .i64 0, .int .i64 0] 64) := by rw [← e1]; exact new_at wr _ _ rfl
      obtain ⟨⟨a0, a1, a2, a3⟩, _, al⟩ := cells4_8 v1
      have y0 := (B1.cell (p := ⟨bs, os + s * 3, none⟩) ly).trans y0
      have ly1 : bs < W1.heap.size := Nat.lt_of_lt_of_le ly B1.size
      have HV1 := Lib.hid v1
      have HB1 := Lib.hid B1
      have HE1 := Lib.hid e1
      clear v1 B1 e1
      have hcase : (o ≤ MN + r ∧ BE = MN + r) ∨ (MN + r < o ∧ BE = o) := by have := HN.out.2.1; omega
      have hEN := HN.out.2.2
      have hBE0 : 0 ≤ BE ∧ BE ≤ 100000 := by omega
      have hu4 : s + 1 = u := by omega
      rcases hcase with ⟨hge, hBE⟩ | ⟨hge, hBE⟩
      · subst hBE
        subst hEN
        go_wp2
        rw [HE1.out]
        refine wp_region_from_tail 10 (Below.refl _ _) (by kernel_rfl) (by kernel_rfl) (fun hcell => ?_)
        simp only [List.take_succ_cons, List.take_zero, List.drop_succ_cons, List.drop_zero]
        repeat (go_big_quiet_step (fail))
        refine wpQuiet_nil ?_
        intro w2 hb2
        have v2 := (hb2.block _ al).trans HV1.out
        have HB2 := Lib.hid (show Below wr.heap.size wr w2 from bthen HB1.out hb2)
        clear hcell hb2 a0 a1 a2 a3 al y0 ly1
        obtain ⟨W3, e3⟩ : ∃ W3, w2.setCell ⟨wr.heap.size, 2, none⟩ (.int .i64 (MN + r)) = W3 := ⟨_, rfl⟩
        have v3 : W3.heap[wr.heap.size]? = some (.cells #[.int .i64 (u : Int), .int .i64 (MN + r), .int .i64 (MN + r), .int .i64 0] 64) := by rw [← e3]; exact heap_setCell_at v2 2 _
        have B3 : Below wr.heap.size wr W3 := by rw [← e3]; exact HB2.out.setCell (p := ⟨wr.heap.size, 2, none⟩) (Nat.le_refl _) _
        have y3 := (B3.cell (p := ⟨bs, os + s * 3 + 2, none⟩) ly).trans y2
        have ly3 : bs < W3.heap.size := Nat.lt_of_lt_of_le ly B3.size
        have V3 := Lib.hid (cells4_8 v3)
        have HV3 := Lib.hid v3
        have HB3 := Lib.hid B3
        obtain ⟨⟨a0, a1, a2, a3⟩, ⟨f0, f1, f2, f3⟩, al⟩ := cells4_8 v2
        clear v2 v3 B3 HB2
        go_wp2
        try rw [e3]
        clear a0 a1 a2 a3 f0 f1 f2 f3 al e3
        obtain ⟨⟨a0, a1, a2, a3⟩, _, al⟩ := V3.out
        clear V3
        refine wp_region_from_tail 10 (Below.refl _ _) (by kernel_rfl) (by kernel_rfl) (fun hcell => ?_)
        simp only [List.take_succ_cons, List.take_zero, List.drop_succ_cons, List.drop_zero]
        repeat (go_big_quiet_step (fail))
        refine wpQuiet_nil ?_
        intro w4 hb4
        have v4 := (hb4.block _ al).trans HV3.out
        have HB4 := Lib.hid (show Below wr.heap.size wr w4 from bthen HB3.out hb4)
        clear hcell hb4 a0 a1 a2 a3 al y3 ly3
        obtain ⟨W5, e5⟩ : ∃ W5, w4.setCell ⟨wr.heap.size, 3, none⟩ (.int .i64 (MN + r + j)) = W5 := ⟨_, rfl⟩
        have v5 : W5.heap[wr.heap.size]? = some (.cells #[.int .i64 (u : Int), .int .i64 (MN + r), .int .i64 (MN + r), .int .i64 (MN + r + j)] 64) := by rw [← e5]; exact heap_setCell_at v4 3 _
        have B5 : Below wr.heap.size wr W5 := by rw [← e5]; exact HB4.out.setCell (p := ⟨wr.heap.size, 3, none⟩) (Nat.le_refl _) _
        have V5 := Lib.hid (cells4_8 v5)
        have HV5 := Lib.hid v5
        have HB5 := Lib.hid B5
        obtain ⟨⟨a0, a1, a2, a3⟩, ⟨f0, f1, f2, f3⟩, al⟩ := cells4_8 v4
        clear v4 v5 B5 HB4
        obtain ⟨⟨q0, q1, q2, q3⟩, _, ql⟩ := V5.out
        have HO5 := owns_later HO.out (HB5.out.alloc HB5.out.size (.cells #[.int .i64 (u : Int), .int .i64 (MN + r), .int .i64 (MN + r), .int .i64 (MN + r + j)] 64))
        obtain ⟨v', w', run, O', G', ne'⟩ := pushV8 27 HO5 (by omega) _ HVI.out (by have h1 := HB.out.size; have h2 := HB5.out.size; simp; omega) W5.heap.size (new_at W5 _ _ rfl)
        have RUN := Lib.hid run
        have HO' := Lib.hid O'
        have HB' := Lib.hid (show Below w.heap.size w w' from by
          have h3 := bthen HB.out (HB5.out.alloc HB5.out.size (.cells #[.int .i64 (u : Int), .int .i64 (MN + r), .int .i64 (MN + r), .int .i64 (MN + r + j)] 64))
          exact h3.grown G' h3.size (fun j hj => (HO.out.lt j hj).1))
        have v6 := (G'.block wr.heap.size (by have := (cells4_8 HV5.out).2.2; simp; omega) (fun e => by have := (HO.out.lt _ e.symm).2; omega)).trans ((((Below.refl W5.heap.size W5).alloc (Nat.le_refl _) (.cells #[.int .i64 (u : Int), .int .i64 (MN + r), .int .i64 (MN + r), .int .i64 (MN + r + j)] 64)).block wr.heap.size (cells4_8 HV5.out).2.2).trans HV5.out)
        obtain ⟨⟨_, _, _, p3⟩, _, pl⟩ := cells4_8 v6
        clear run O' G' HO5 V5 v6
        go_wp2_with (at_builtin; go_loud (refine Lib.wpList_append_run _ rfl _ _ _ _ rfl _ _ rfl rfl _ _ RUN.out ?_))
        go_region
        go_wp2
        go_roundw
        case rel => exact ⟨k + 1, by omega, by go_num, by rw [HPS.out], by rw [HMS.out], HO'.out, HB'.out.drew⟩
        case measure => simp [intOf]; omega
      · subst hBE
        subst hEN
        go_wp2
        rw [HE1.out]
        refine wp_region_from_tail 10 (Below.refl _ _) (by kernel_rfl) (by kernel_rfl) (fun hcell => ?_)
        simp only [List.take_succ_cons, List.take_zero, List.drop_succ_cons, List.drop_zero]
        repeat (go_big_quiet_step (fail))
        refine wpQuiet_nil ?_
        intro w2 hb2
        have v2 := (hb2.block _ al).trans HV1.out
        have HB2 := Lib.hid (show Below wr.heap.size wr w2 from bthen HB1.out hb2)
        clear hcell hb2 a0 a1 a2 a3 al y0 ly1
        obtain ⟨W3, e3⟩ : ∃ W3, w2.setCell ⟨wr.heap.size, 2, none⟩ (.int .i64 (BE)) = W3 := ⟨_, rfl⟩
        have v3 : W3.heap[wr.heap.size]? = some (.cells #[.int .i64 (u : Int), .int .i64 (MN + r), .int .i64 BE, .int .i64 0] 64) := by rw [← e3]; exact heap_setCell_at v2 2 _
        have B3 : Below wr.heap.size wr W3 := by rw [← e3]; exact HB2.out.setCell (p := ⟨wr.heap.size, 2, none⟩) (Nat.le_refl _) _
        have y3 := (B3.cell (p := ⟨bs, os + s * 3 + 2, none⟩) ly).trans y2
        have ly3 : bs < W3.heap.size := Nat.lt_of_lt_of_le ly B3.size
        have V3 := Lib.hid (cells4_8 v3)
        have HV3 := Lib.hid v3
        have HB3 := Lib.hid B3
        obtain ⟨⟨a0, a1, a2, a3⟩, ⟨f0, f1, f2, f3⟩, al⟩ := cells4_8 v2
        clear v2 v3 B3 HB2
        go_wp2
        try rw [e3]
        clear a0 a1 a2 a3 f0 f1 f2 f3 al e3
        obtain ⟨⟨a0, a1, a2, a3⟩, _, al⟩ := V3.out
        clear V3
        refine wp_region_from_tail 10 (Below.refl _ _) (by kernel_rfl) (by kernel_rfl) (fun hcell => ?_)
        simp only [List.take_succ_cons, List.take_zero, List.drop_succ_cons, List.drop_zero]
        repeat (go_big_quiet_step (fail))
        refine wpQuiet_nil ?_
        intro w4 hb4
        have v4 := (hb4.block _ al).trans HV3.out
        have HB4 := Lib.hid (show Below wr.heap.size wr w4 from bthen HB3.out hb4)
        clear hcell hb4 a0 a1 a2 a3 al y3 ly3
        obtain ⟨W5, e5⟩ : ∃ W5, w4.setCell ⟨wr.heap.size, 3, none⟩ (.int .i64 (BE + j)) = W5 := ⟨_, rfl⟩
        have v5 : W5.heap[wr.heap.size]? = some (.cells #[.int .i64 (u : Int), .int .i64 (MN + r), .int .i64 BE, .int .i64 (BE + j)] 64) := by rw [← e5]; exact heap_setCell_at v4 3 _
        have B5 : Below wr.heap.size wr W5 := by rw [← e5]; exact HB4.out.setCell (p := ⟨wr.heap.size, 3, none⟩) (Nat.le_refl _) _
        have V5 := Lib.hid (cells4_8 v5)
        have HV5 := Lib.hid v5
        have HB5 := Lib.hid B5
        obtain ⟨⟨a0, a1, a2, a3⟩, ⟨f0, f1, f2, f3⟩, al⟩ := cells4_8 v4
        clear v4 v5 B5 HB4
        obtain ⟨⟨q0, q1, q2, q3⟩, _, ql⟩ := V5.out
        have HO5 := owns_later HO.out (HB5.out.alloc HB5.out.size (.cells #[.int .i64 (u : Int), .int .i64 (MN + r), .int .i64 BE, .int .i64 (BE + j)] 64))
        obtain ⟨v', w', run, O', G', ne'⟩ := pushV8 27 HO5 (by omega) _ HVI.out (by have h1 := HB.out.size; have h2 := HB5.out.size; simp; omega) W5.heap.size (new_at W5 _ _ rfl)
        have RUN := Lib.hid run
        have HO' := Lib.hid O'
        have HB' := Lib.hid (show Below w.heap.size w w' from by
          have h3 := bthen HB.out (HB5.out.alloc HB5.out.size (.cells #[.int .i64 (u : Int), .int .i64 (MN + r), .int .i64 BE, .int .i64 (BE + j)] 64))
          exact h3.grown G' h3.size (fun j hj => (HO.out.lt j hj).1))
        have v6 := (G'.block wr.heap.size (by have := (cells4_8 HV5.out).2.2; simp; omega) (fun e => by have := (HO.out.lt _ e.symm).2; omega)).trans ((((Below.refl W5.heap.size W5).alloc (Nat.le_refl _) (.cells #[.int .i64 (u : Int), .int .i64 (MN + r), .int .i64 BE, .int .i64 (BE + j)] 64)).block wr.heap.size (cells4_8 HV5.out).2.2).trans HV5.out)
        obtain ⟨⟨_, _, _, p3⟩, _, pl⟩ := cells4_8 v6
        clear run O' G' HO5 V5 v6
        go_wp2_with (at_builtin; go_loud (refine Lib.wpList_append_run _ rfl _ _ _ _ rfl _ _ rfl rfl _ _ RUN.out ?_))
        go_region
        go_wp2
        go_roundw
        case rel => exact ⟨k + 1, by omega, by go_num, by rw [HPS.out], by rw [HMS.out], HO'.out, HB'.out.drew⟩
        case measure => simp [intOf]; omega
    · obtain rfl : k = len := by omega
      have HV := Lib.hid (owns_vis hown)
      clear hown hb
      go_wp2
      go_ret
      exact ⟨AL, cL, rfl, gL1, gL2, HV.out, HB.out⟩
end Go.Proofs.Ytclallodmbianaa
