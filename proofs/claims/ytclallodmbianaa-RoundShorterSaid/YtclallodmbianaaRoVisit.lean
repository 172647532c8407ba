/- A visit, and sets of stops, by the code's own functions; no statement is proved here. -/
import Derived.Test.YtclallodmbianaaRoStops
import Derived.IntWalk
import Derived.Laws.Bits64b
namespace Go.Proofs.Ytclallodmbianaa
open Go.ChangeShapes Go.WideShapes Go.ChangeAt Go.RowKit

theorem ofInt8 {a : Nat} (h : a < 4294967296) : (BitVec.ofInt 64 (a : Int)).toNat = a := by
  rw [BitVec.ofInt_natCast, BitVec.toNat_ofNat]; exact Nat.mod_eq_of_lt (by omega)
theorem and8 (a b : Nat) (ha : a < 4294967296) (hb : b < 4294967296) : bits .and .i64 (a : Int) (b : Int) = ((a &&& b : Nat) : Int) := by
  have hx : a &&& b < 2 ^ 32 := Nat.and_lt_two_pow _ (by omega)
  show IntKind.i64.wrap ((BitVec.ofInt 64 (a : Int) &&& BitVec.ofInt 64 (b : Int)).toNat : Int) = _
  rw [BitVec.toNat_and, ofInt8 ha, ofInt8 hb, IntKind.wrap_i64]
  omega
theorem or8 (a b : Nat) (ha : a < 4294967296) (hb : b < 4294967296) : bits .or .i64 (a : Int) (b : Int) = ((a ||| b : Nat) : Int) := by
  have hx : a ||| b < 2 ^ 32 := Nat.or_lt_two_pow (by omega) (by omega)
  show IntKind.i64.wrap ((BitVec.ofInt 64 (a : Int) ||| BitVec.ofInt 64 (b : Int)).toNat : Int) = _
  rw [BitVec.toNat_or, ofInt8 ha, ofInt8 hb, IntKind.wrap_i64]
  omega
theorem and_one8 (s m : Nat) : (((s / 2 ^ m &&& 1 : Nat) : Int) == 1) = s.testBit m := by
  rw [Nat.and_one_is_mod, Nat.testBit_eq_decide_div_mod_eq, Bool.eq_iff_iff, beq_iff_eq, decide_eq_true_iff]
  omega
set_option maxHeartbeats 1000000 in
theorem has_any8 (s m : Nat) (hs : s < 4294967296) (hm : m < 64) (w : World) :
    Calls Try.prog 92 #[.int .i64 (s : Int), .int .i64 (m : Int)] w fun e w' => e = .returned (.bool (s.testBit m)) ∧ Below w.heap.size w w' := by
  have HH := Lib.hid (show (bits .and .i64 ((s : Int) / 2 ^ m) 1 == 1) = s.testBit m from by
    have e : ((s : Int) / 2 ^ m) = ((s / 2 ^ m : Nat) : Int) := by push_cast; rfl
    rw [e]
    have h2 := and8 (s / 2 ^ m) 1 (Nat.lt_of_le_of_lt (Nat.div_le_self _ _) hs) (by omega)
    rw [show ((1 : Nat) : Int) = 1 from rfl] at h2
    rw [h2]
    exact and_one8 s m)
  have h4 : min m 64 = m := by omega
  have h5 : ¬ (m : Int) < 0 := by omega
  go_enter Try.func92, Try.ntmps92
  go_wp2
  go_ret
  exact ⟨bool_of HH.out, Below.refl _ _⟩
set_option maxHeartbeats 1000000 in
theorem with_any8 (s m : Nat) (hs : s < 1024) (hm : m ≤ 9) (w : World) :
    Calls Try.prog 93 #[.int .i64 (s : Int), .int .i64 (m : Int)] w fun e w' => e = .returned (.int .i64 ((s ||| 2 ^ m : Nat) : Int)) ∧ Below w.heap.size w w' := by
  have hp : 2 ^ m ≤ 2 ^ 9 := Nat.pow_le_pow_right (by omega) hm
  have hw : wrap64 ((2 : Int) ^ m) = ((2 ^ m : Nat) : Int) := by
    rw [show (2 : Int) ^ m = ((2 ^ m : Nat) : Int) by push_cast; rfl]
    have h512 : 2 ^ m ≤ 512 := hp
    generalize 2 ^ m = x at *
    unfold wrap64
    omega
  have HO := Lib.hid (or8 s (2 ^ m) (by omega) (by have h512 : 2 ^ m ≤ 512 := hp; omega))
  have HW := Lib.hid hw
  have h5 : ¬ (m : Int) < 0 := by omega
  have h6 : ¬ 64 ≤ m := by omega
  clear hw hp
  go_enter Try.func93, Try.ntmps93
  go_wp2
  go_ret
  exact ⟨by rw [HW.out, HO.out]; rfl, Below.refl _ _⟩

theorem cells4_8 {w : World} {k : Nat} {t : TypeId} {u0 u1 u2 u3 : Value} (h : w.heap[k]? = some (.cells #[u0, u1, u2, u3] t)) : (w.cell? ⟨k, 0, none⟩ = some u0 ∧ w.cell? ⟨k, 1, none⟩ = some u1 ∧ w.cell? ⟨k, 2, none⟩ = some u2 ∧ w.cell? ⟨k, 3, none⟩ = some u3) ∧ (w.frozen? ⟨k, 0, none⟩ = false ∧ w.frozen? ⟨k, 1, none⟩ = false ∧ w.frozen? ⟨k, 2, none⟩ = false ∧ w.frozen? ⟨k, 3, none⟩ = false) ∧ k < w.heap.size := by
  refine ⟨⟨?_, ?_, ?_, ?_⟩, ⟨?_, ?_, ?_, ?_⟩, lt_of_heap h⟩ <;> simp [World.cell?, World.frozen?, h]

set_option maxHeartbeats 8000000 in
theorem visit_any (A : Option Addr) (m c : Nat) (p : Nat → Sto) (R : Option Addr) (d : Nat) (q : Nat → List Int) (t0 : Int) (s g : Nat) (t : Int) (w : World) (hp : StHas w A m p) (hq : LHas w R (m + 1) q) (hd : DayOk m p q) (hg : g ≤ m) (h1 : 1 ≤ s) (hs : s ≤ m) (ht0 : 0 ≤ t) (ht : t ≤ 100000) :
    Calls Try.prog 86 #[.agg #[.slice A m c, .slice R (m + 1) d, .int .i64 t0], .int .i64 (s : Int), .int .i64 (g : Int), .int .i64 t] w fun e w' =>
      e = .returned (.agg #[.int .i64 (s : Int), .int .i64 (arV q g t s), .int .i64 (beV p q g t s), .int .i64 (enV p q g t s)]) ∧ Below w.heap.size w w' := by
  obtain ⟨b, off, rfl, hP⟩ := hp (by omega)
  obtain ⟨b', off', rfl, lb', hQ⟩ := hq (by omega)
  obtain ⟨C, k, y0, k1, k2, k3⟩ := hQ g (by omega)
  obtain ⟨b2, o2, rfl, hI⟩ := k3 (by rw [hd.len g hg]; omega)
  have z0 := hI.v s (by rw [hd.len g hg]; omega)
  have lb2 := hI.lt
  have lb := hP.lt
  have x0 := hP.x (s - 1) (by omega)
  have x1 := hP.y (s - 1) (by omega)
  have x2 := hP.z (s - 1) (by omega)
  have hl := hd.len g hg
  rw [hl] at y0 k1
  have hs0 : ((s : Int) - 1).toNat = s - 1 := by omega
  have hs1 : ((s : Int) - 1) = ((s - 1 : Nat) : Int) := by omega
  have HAR := Lib.hid (And.intro (hd.ar hg hs ht0) (show arV q g t s = t + atL (q g) s from rfl))
  have HBE := Lib.hid (And.intro (hd.be hg hs h1 ht0) (show beV p q g t s = max (arV q g t s) (p (s - 1)).op from rfl))
  have HEN := Lib.hid (And.intro (hd.en hg hs h1 ht0) (show enV p q g t s = beV p q g t s + (p (s - 1)).jb from rfl))
  obtain ⟨r1, r2⟩ := hd.rd g s hg hs
  obtain ⟨o1, o3⟩ := hd.op (s - 1) (by omega)
  have o4 := hd.cl (s - 1) (by omega)
  obtain ⟨j1, j2⟩ := hd.jb (s - 1) (by omega)
  generalize arV q g t s = AR at *
  generalize beV p q g t s = BE at *
  generalize enV p q g t s = EN at *
  generalize atL (q g) s = r at *
  generalize (p (s - 1)).op = o at *
  generalize (p (s - 1)).cl = cl at *
  generalize (p (s - 1)).jb = j at *
  clear hP hQ hI hd hp hq k3
  obtain ⟨W1, e1⟩ : ∃ W1, w.alloc (.cells #[.slice (some ⟨b, off, none⟩) m c, .slice (some ⟨b', off', none⟩) (m + 1) d, .int .i64 t0] 59) = W1 := ⟨_, rfl⟩
  obtain ⟨W2, e2⟩ : ∃ W2, W1.alloc (.cells #[.int .i64 0, .int .i64 0, .int .i64 0, .int .i64 0] 64) = W2 := ⟨_, rfl⟩
  obtain ⟨W3, e3⟩ : ∃ W3, W2.alloc (.cells #[.int .i64 o, .int .i64 cl, .int .i64 j] 39) = W3 := ⟨_, rfl⟩
  have s1 : W1.heap.size = w.heap.size + 1 := by rw [← e1]; simp
  have s2 : W2.heap.size = w.heap.size + 1 + 1 := by rw [← e2]; simp [s1]
  have B1 : Below w.heap.size w W1 := by rw [← e1]; exact (Below.refl _ _).alloc (Nat.le_refl _) _
  have B2 : Below W1.heap.size W1 W2 := by rw [← e2]; exact (Below.refl _ _).alloc (Nat.le_refl _) _
  have B3 : Below W2.heap.size W2 W3 := by rw [← e3]; exact (Below.refl _ _).alloc (Nat.le_refl _) _
  have d1 : W1.heap[w.heap.size]? = some (.cells #[.slice (some ⟨b, off, none⟩) m c, .slice (some ⟨b', off', none⟩) (m + 1) d, .int .i64 t0] 59) := by rw [← e1]; exact new_at w _ _ rfl
  have d2 := (B2.block _ (lt_of_heap d1)).trans d1
  have d3 := (B3.block _ (lt_of_heap d2)).trans d2
  have v2 : W2.heap[w.heap.size + 1]? = some (.cells #[.int .i64 0, .int .i64 0, .int .i64 0, .int .i64 0] 64) := by rw [← e2]; exact new_at W1 _ _ s1
  have v3 := (B3.block _ (lt_of_heap v2)).trans v2
  have q3 : W3.heap[w.heap.size + 1 + 1]? = some (.cells #[.int .i64 o, .int .i64 cl, .int .i64 j] 39) := by rw [← e3]; exact new_at W2 _ _ s2
  have B12 := bthen B1 B2
  have B13 := bthen B12 B3
  have x0 := (B12.cell (p := ⟨b, off + (s - 1) * 3, none⟩) lb).trans x0
  have x1 := (B12.cell (p := ⟨b, off + (s - 1) * 3 + 1, none⟩) lb).trans x1
  have x2 := (B12.cell (p := ⟨b, off + (s - 1) * 3 + 2, none⟩) lb).trans x2
  have y0 := (B13.cell (p := ⟨b', off' + g, none⟩) lb').trans y0
  have z0 := (B13.cell (p := ⟨b2, o2 + s, none⟩) lb2).trans z0
  obtain ⟨c20, c21, c22, _, c2l⟩ := cells3_8 d2
  obtain ⟨c30, c31, c32, _, c3l⟩ := cells3_8 d3
  obtain ⟨⟨u0, u1, u2, u3⟩, ⟨g0, g1, g2, g3⟩, gl⟩ := cells4_8 v3
  obtain ⟨w0, w1, w2, _, wl⟩ := cells3_8 q3
  have HB13 := Lib.hid B13
  clear B1 B2 B3 d1 d2 d3 v2 v3 q3 B12 B13
  go_enter Try.func86, Try.ntmps86
  go_wp2
  all_goals
    have a1 := HAR.out.2
    have a3 := HEN.out.2
    first
      | (have a2 : BE = t + r := by have := HBE.out.2; omega
         subst a3; subst a2; subst a1
         refine bodyPost_ret (v := .agg #[.int .i64 (s : Int), .int .i64 (t + r), .int .i64 (t + r), .int .i64 (t + r + j)]) (by simp [results, Try.results86, go_sem, u0, u1, u2, u3]) rfl ⟨rfl, ?_⟩)
      | (have a2 : BE = o := by have := HBE.out.2; omega
         subst a3; subst a2; subst a1
         refine bodyPost_ret (v := .agg #[.int .i64 (s : Int), .int .i64 (t + r), .int .i64 BE, .int .i64 (BE + j)]) (by simp [results, Try.results86, go_sem, u0, u1, u2, u3]) rfl ⟨rfl, ?_⟩)
    exact ((((HB13.out.setCell (by simp) _).setCell (by simp) _).setCell (by simp) _).setCell (by simp) _)

set_option maxHeartbeats 8000000 in
theorem isLate_any (A : Option Addr) (m c : Nat) (p : Nat → Sto) (R : Option Addr) (n d : Nat) (t0 : Int) (s : Nat) (a b e : Int) (w : World) (hp : StHas w A m p) (h1 : 1 ≤ s) (hs : s ≤ m) (hm : m ≤ 1000000) :
    Calls Try.prog 91 #[.agg #[.slice A m c, .slice R n d, .int .i64 t0], .agg #[.int .i64 (s : Int), .int .i64 a, .int .i64 b, .int .i64 e]] w fun x w' =>
      x = .returned (.bool (decide ((p (s - 1)).cl < b))) ∧ Below w.heap.size w w' := by
  obtain ⟨bb, off, rfl, hP⟩ := hp (by omega)
  have lb := hP.lt
  have x1 := hP.y (s - 1) (by omega)
  have hs0 : ((s : Int) - 1).toNat = s - 1 := by omega
  have hs1 : ((s : Int) - 1) = ((s - 1 : Nat) : Int) := by omega
  have hs2 : IntKind.i64.wrap ((s : Int) - 1) = ((s - 1 : Nat) : Int) := by rw [hs1]; exact IntWalk.i64_in _ (by omega)
  obtain ⟨W1, e1⟩ : ∃ W1, w.alloc (.cells #[.slice (some ⟨bb, off, none⟩) m c, .slice R n d, .int .i64 t0] 59) = W1 := ⟨_, rfl⟩
  obtain ⟨W2, e2⟩ : ∃ W2, W1.alloc (.cells #[.int .i64 (s : Int), .int .i64 a, .int .i64 b, .int .i64 e] 64) = W2 := ⟨_, rfl⟩
  have s1 : W1.heap.size = w.heap.size + 1 := by rw [← e1]; simp
  have B1 : Below w.heap.size w W1 := by rw [← e1]; exact (Below.refl _ _).alloc (Nat.le_refl _) _
  have B2 : Below W1.heap.size W1 W2 := by rw [← e2]; exact (Below.refl _ _).alloc (Nat.le_refl _) _
  have d1 : W1.heap[w.heap.size]? = some (.cells #[.slice (some ⟨bb, off, none⟩) m c, .slice R n d, .int .i64 t0] 59) := by rw [← e1]; exact new_at w _ _ rfl
  have d2 := (B2.block _ (lt_of_heap d1)).trans d1
  have v2 : W2.heap[w.heap.size + 1]? = some (.cells #[.int .i64 (s : Int), .int .i64 a, .int .i64 b, .int .i64 e] 64) := by rw [← e2]; exact new_at W1 _ _ s1
  have x1 := ((bthen B1 B2).cell (p := ⟨bb, off + (s - 1) * 3 + 1, none⟩) lb).trans x1
  have lb2 : bb < W2.heap.size := Nat.lt_of_lt_of_le lb (bthen B1 B2).size
  obtain ⟨c0, c1, c2, _, cl⟩ := cells3_8 d2
  obtain ⟨⟨u0, u1, u2, u3⟩, _, ul⟩ := cells4_8 v2
  have HB := Lib.hid (bthen B1 B2)
  generalize (p (s - 1)).cl = C at *
  have hC : decide (C < b) = decide (C < b) := rfl
  clear B1 B2 d1 d2 v2 hP hp hC
  go_enter Try.func91, Try.ntmps91
  go_wp2_with fail
  refine wp_region_after (by kernel_rfl) (by kernel_rfl) (fun hcell => ?_)
  repeat (go_big_quiet_step (fail))
  refine wpQuiet_nil ?_
  intro w4 hb4
  go_wp2
  go_ret
  exact ⟨rfl, bthen HB.out hb4⟩
end Go.Proofs.Ytclallodmbianaa
