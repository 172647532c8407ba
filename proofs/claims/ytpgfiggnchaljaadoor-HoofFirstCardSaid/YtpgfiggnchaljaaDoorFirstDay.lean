/- The search for a first day of layer hoof, by its contract; no statement is proved here. -/
import Derived.Test.YtpgfiggnchaljaaDoorDaily
namespace Go.Proofs.YtpgfiggnchaljaaDoor
open Go.ChangeShapes Go.WideShapes Go.ChangeAt Go.RowKit Go.Shelf
attribute [local go_sem] Oper.semAt_some

/-- The first k, of so many left, at which a thing is bad (an error) or as asked (a day). -/
def look (f : Int) (bad ask : Nat → Bool) : Nat → Nat → Int × Int
  | 0, _ => (0, 8)
  | j + 1, k => if bad k then (0, 4) else if ask k then (f + (k : Int), 0) else look f bad ask j (k + 1)

theorem cells12 (s : Nat → Int) (w : World) (m : Nat) (h : m < 12) (t : TypeId) : (w.alloc (.cells #[.int .i64 (s 0), .int .i64 (s 1), .int .i64 (s 2), .int .i64 (s 3), .int .i64 (s 4), .int .i64 (s 5), .int .i64 (s 6), .int .i64 (s 7), .int .i64 (s 8), .int .i64 (s 9), .int .i64 (s 10), .int .i64 (s 11)] t)).cell? ⟨w.heap.size, m, none⟩ = some (.int .i64 (s m)) := by
  rw [World.cell?_alloc_at _ _ _ _ rfl]
  rcases lt12 h with rfl | rfl | rfl | rfl | rfl | rfl | rfl | rfl | rfl | rfl | rfl | rfl <;> rfl

set_option maxRecDepth 100000 in
theorem daily_any (a b c d p q r u : Int) (s : Nat → Int) (f t : Int) (w : World) (hT : Tab w) :
    Calls Tryd.prog 88 #[.agg #[.int .i64 a, .int .i64 b, .int .i64 c, .int .i64 d], .agg #[.int .i64 p, .int .i64 q, .int .i64 r, .int .i64 u], .agg #[.int .i64 (s 0), .int .i64 (s 1), .int .i64 (s 2), .int .i64 (s 3), .int .i64 (s 4), .int .i64 (s 5), .int .i64 (s 6), .int .i64 (s 7), .int .i64 (s 8), .int .i64 (s 9), .int .i64 (s 10), .int .i64 (s 11)], .int .i64 f, .int .i64 t] w fun e w' =>
      e = .returned (.func (.func 98) #[] #[.pointer (some ⟨w.heap.size + 3, 0, none⟩), .pointer (some ⟨w.heap.size + 4, 0, none⟩), .pointer (some ⟨w.heap.size, 0, none⟩), .pointer (some ⟨w.heap.size + 1, 0, none⟩), .pointer (some ⟨w.heap.size + 2, 0, none⟩)]) ∧
      Below w.heap.size w w' ∧ w'.heap.size = w.heap.size + 5 ∧ w'.heap[w.heap.size]? = some (.cells #[.int .i64 a, .int .i64 b, .int .i64 c, .int .i64 d] 70) ∧
      Caps w' (w.heap.size + 3) (w.heap.size + 4) w.heap.size (w.heap.size + 1) (w.heap.size + 2) f t p q r u s := by
  have hmf : ∀ (fn : Fn) (first cap : Array Value) (w : World), (Instr.makeFunc fn first cap).run Tryd.prog w = .ok (.func fn first cap) w := fun _ _ _ _ => rfl
  have HT := Lib.hid hT
  clear hT
  go_enter Tryd.func88, Tryd.ntmps88
  go_wp2
  go_ret
  obtain ⟨w1, h1⟩ : ∃ w1, w.alloc (.cells #[.int .i64 a, .int .i64 b, .int .i64 c, .int .i64 d] 70) = w1 := ⟨_, rfl⟩
  have z1 : w1.heap.size = w.heap.size + 1 := by rw [← h1]; simp
  have k1 : w1.heap[w.heap.size]? = some (.cells #[.int .i64 a, .int .i64 b, .int .i64 c, .int .i64 d] 70) := by rw [← h1]; exact World.alloc_heap_new w _
  have b1 : Below w.heap.size w w1 := by rw [← h1]; exact (Below.refl _ _).alloc (Nat.le_refl _) _
  rw [h1]
  obtain ⟨w2, h2⟩ : ∃ w2, w1.alloc (.cells #[.int .i64 p, .int .i64 q, .int .i64 r, .int .i64 u] 70) = w2 := ⟨_, rfl⟩
  have z2 : w2.heap.size = w1.heap.size + 1 := by rw [← h2]; simp
  have k2 : w2.heap[w1.heap.size]? = some (.cells #[.int .i64 p, .int .i64 q, .int .i64 r, .int .i64 u] 70) := by rw [← h2]; exact World.alloc_heap_new w1 _
  have b2 : Below w1.heap.size w1 w2 := by rw [← h2]; exact (Below.refl _ _).alloc (Nat.le_refl _) _
  rw [h2]
  obtain ⟨w3, h3⟩ : ∃ w3, w2.alloc (.cells #[.int .i64 (s 0), .int .i64 (s 1), .int .i64 (s 2), .int .i64 (s 3), .int .i64 (s 4), .int .i64 (s 5), .int .i64 (s 6), .int .i64 (s 7), .int .i64 (s 8), .int .i64 (s 9), .int .i64 (s 10), .int .i64 (s 11)] 26) = w3 := ⟨_, rfl⟩
  have z3 : w3.heap.size = w2.heap.size + 1 := by rw [← h3]; simp
  have k3 : ∀ m, m < 12 → w3.cell? ⟨w2.heap.size, m, none⟩ = some (.int .i64 (s m)) := fun m hm => by rw [← h3]; exact cells12 s w2 m hm _
  have b3 : Below w2.heap.size w2 w3 := by rw [← h3]; exact (Below.refl _ _).alloc (Nat.le_refl _) _
  rw [h3]
  obtain ⟨w4, h4⟩ : ∃ w4, w3.alloc (.cells #[.int .i64 f] 3) = w4 := ⟨_, rfl⟩
  have z4 : w4.heap.size = w3.heap.size + 1 := by rw [← h4]; simp
  have k4 : w4.cell? ⟨w3.heap.size, 0, none⟩ = some (.int .i64 f) := by rw [← h4, World.cell?_alloc_at _ _ _ _ rfl]; rfl
  have b4 : Below w3.heap.size w3 w4 := by rw [← h4]; exact (Below.refl _ _).alloc (Nat.le_refl _) _
  rw [h4]
  obtain ⟨w5, h5⟩ : ∃ w5, w4.alloc (.cells #[.int .i64 t] 3) = w5 := ⟨_, rfl⟩
  have z5 : w5.heap.size = w4.heap.size + 1 := by rw [← h5]; simp
  have k5 : w5.cell? ⟨w4.heap.size, 0, none⟩ = some (.int .i64 t) := by rw [← h5, World.cell?_alloc_at _ _ _ _ rfl]; rfl
  have b5 : Below w4.heap.size w4 w5 := by rw [← h5]; exact (Below.refl _ _).alloc (Nat.le_refl _) _
  rw [h5]
  clear h1 h2 h3 h4 h5
  have e2 : w1.heap.size = w.heap.size + 1 := z1
  have e3 : w2.heap.size = w.heap.size + 2 := by omega
  have e4 : w3.heap.size = w.heap.size + 3 := by omega
  have e5 : w4.heap.size = w.heap.size + 4 := by omega
  rw [e2] at k2
  rw [e3] at k3
  rw [e4] at k4
  rw [e5] at k5
  have c15 : Below w1.heap.size w1 w5 := bthen (bthen (bthen b2 b3) b4) b5
  have c25 : Below w2.heap.size w2 w5 := bthen (bthen b3 b4) b5
  have c35 : Below w3.heap.size w3 w5 := bthen b4 b5
  have hw5 := (c15.block w.heap.size (by omega)).trans k1
  obtain ⟨r0, r1, r2, r3, _, _, _, _⟩ := cell4_of ((c25.block (w.heap.size + 1) (by omega)).trans k2)
  have hT1 := HT.out.later (bthen b1 c15)
  have hsz := HT.out.size
  refine ⟨rfl, bthen b1 c15, by omega, hw5, ⟨by omega, by omega, by omega, by omega, by omega, by omega, by omega, by omega, by omega, by omega, hT1, ?_, k5, r0, r1, r2, r3, fun m hm => ?_⟩⟩
  · exact (b5.cell (p := ⟨w.heap.size + 3, 0, none⟩) (by show w.heap.size + 3 < _; omega)).trans k4
  · exact (c35.cell (p := ⟨w.heap.size + 2, m, none⟩) (by show w.heap.size + 2 < _; omega)).trans (k3 m hm)

/-- The lengths after k days from a day on. -/
def lens (s : Nat → Int) (f a b c d p q r u : Int) : Len4 := fun k =>
  (a + p * (shareB s (f + (k : Int)) - shareB s f), b + q * (shareB s (f + (k : Int)) - shareB s f), c + r * (shareB s (f + (k : Int)) - shareB s f), d + u * (shareB s (f + (k : Int)) - shareB s f))

theorem lens_grows (s : Nat → Int) (f a b c d p q r u : Int) (M : Nat) (h0 : 0 ≤ f) : Grows (lens s f a b c d p q r u) f p q r u s M := by
  intro k _
  refine ⟨_, rfl, mon_lt _, ?_⟩
  have e : shareB s (f + ((k + 1 : Nat) : Int)) = shareB s (f + (k : Int)) + s (mon ((f + (k : Int)) % 365)) := by
    rw [show f + ((k + 1 : Nat) : Int) = (f + (k : Int)) + 1 by omega]
    exact shareB_succ s (by omega)
  have key : ∀ x y : Int, x + y * (shareB s (f + ((k + 1 : Nat) : Int)) - shareB s f) = x + y * (shareB s (f + (k : Int)) - shareB s f) + y * s (mon ((f + (k : Int)) % 365)) := fun x y => by
    rw [e, show shareB s (f + (k : Int)) + s (mon ((f + (k : Int)) % 365)) - shareB s f = (shareB s (f + (k : Int)) - shareB s f) + s (mon ((f + (k : Int)) % 365)) by omega, Int.mul_add]
    omega
  exact ⟨key _ _, key _ _, key _ _, key _ _⟩

theorem lens_fits (s : Nat → Int) (f a b c d p q r u : Int) (M : Nat) (h0 : 0 ≤ f) (hM : M ≤ 2000) (hs : okS s) (hh : vH a b c d = true) (hr : vR p q r u = true) : Fits4 (lens s f a b c d p q r u) M := by
  intro k hk
  obtain ⟨⟨a1, a2⟩, ⟨b1, b2⟩, ⟨c1, c2⟩, ⟨d1, d2⟩⟩ := in4_iff.1 hh
  obtain ⟨⟨p1, p2⟩, ⟨q1, q2⟩, ⟨r1, r2⟩, ⟨u1, u2⟩⟩ := in4_iff.1 hr
  obtain ⟨g1, g2⟩ := shareB_le s hs h0 (show f ≤ f + (k : Int) by omega)
  have n0 : 0 ≤ shareB s (f + (k : Int)) - shareB s f := by omega
  have n1 : shareB s (f + (k : Int)) - shareB s f ≤ 4000000 := by omega
  obtain ⟨m1, m2⟩ := mul_bd p1 p2 n0 n1
  obtain ⟨m3, m4⟩ := mul_bd q1 q2 n0 n1
  obtain ⟨m5, m6⟩ := mul_bd r1 r2 n0 n1
  obtain ⟨m7, m8⟩ := mul_bd u1 u2 n0 n1
  simp only [lens]
  omega

theorem lens_zero (s : Nat → Int) (f a b c d p q r u : Int) : lens s f a b c d p q r u 0 = (a, b, c, d) := by simp [lens]

theorem daily_at (B : Nat) (a b c d p q r u : Int) (s : Nat → Int) (f t : Int) (w : World) (hT : Tab w) (hB : w.heap.size = B) :
    Calls Tryd.prog 88 #[.agg #[.int .i64 a, .int .i64 b, .int .i64 c, .int .i64 d], .agg #[.int .i64 p, .int .i64 q, .int .i64 r, .int .i64 u], .agg #[.int .i64 (s 0), .int .i64 (s 1), .int .i64 (s 2), .int .i64 (s 3), .int .i64 (s 4), .int .i64 (s 5), .int .i64 (s 6), .int .i64 (s 7), .int .i64 (s 8), .int .i64 (s 9), .int .i64 (s 10), .int .i64 (s 11)], .int .i64 f, .int .i64 t] w fun e w' =>
      e = .returned (.func (.func 98) #[] #[.pointer (some ⟨B + 3, 0, none⟩), .pointer (some ⟨B + 4, 0, none⟩), .pointer (some ⟨B, 0, none⟩), .pointer (some ⟨B + 1, 0, none⟩), .pointer (some ⟨B + 2, 0, none⟩)]) ∧
      Below B w w' ∧ w'.heap.size = B + 5 ∧ w'.heap[B]? = some (.cells #[.int .i64 a, .int .i64 b, .int .i64 c, .int .i64 d] 70) ∧
      Caps w' (B + 3) (B + 4) B (B + 1) (B + 2) f t p q r u s := by
  subst hB
  exact daily_any a b c d p q r u s f t w hT

theorem DI.put {w0 W W' : World} {Bw k : Nat} {v : Len4} (hB : Bw < w0.heap.size) (h : DI w0 Bw v k W) (h1 : W'.os = W.os) (h2 : W'.tape = W.tape) (h3 : W'.output = W.output) (h4 : W.heap.size ≤ W'.heap.size) (h5 : ∀ b, b < w0.heap.size → W'.heap[b]? = W.heap[b]?) : DI w0 Bw v k W' :=
  ⟨h1.trans h.os, h2.trans h.tape, h3.trans h.output, Nat.le_trans h.size h4, fun b hb hn => (h5 b hb).trans (h.block b hb hn), (h5 Bw hB).trans h.walls⟩

theorem DI.alloc {w0 W : World} {Bw k : Nat} {v : Len4} (h : DI w0 Bw v k W) (hB : Bw < w0.heap.size) (o : Obj) : DI w0 Bw v k (W.alloc o) :=
  h.put hB rfl rfl rfl (by simp) fun b hb => Below.heap_alloc _ _ _ (Nat.lt_of_lt_of_le hb h.size)

theorem DI.below {w0 W : World} {Bw k : Nat} {v : Len4} (h : DI w0 Bw v k W) {n0 : Nat} (h0 : n0 ≤ w0.heap.size) (hn : n0 ≤ Bw) : Below n0 w0 W :=
  ⟨h.os, h.tape, h.output, h.size, fun b hb => h.block b (by omega) (by omega)⟩

/-- What a left search leaves: two numbers, in two cells of its own. -/
structure Found (w : World) (R1 R2 : Nat) (D E : Int) (W : World) : Prop where
  below : Below w.heap.size w W
  c1 : W.cell? ⟨R1, 0, none⟩ = some (.int .i64 D)
  c2 : W.cell? ⟨R2, 0, none⟩ = some (.int .i64 E)
end Go.Proofs.YtpgfiggnchaljaaDoor
