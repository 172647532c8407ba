/- Mirrored, turned and shifted outlines keep what they are, and points go with them: plain facts; no statement is proved here. -/
import Derived.Test.YtoaomhcffdnpeaaOMovesM
import Derived.Test.YtoaomhcffdnpeaaOMotion3
import Derived.Test.YtoaomhcffdnpeaaOPoints
namespace Go.Proofs.Ytoaomhcffdnpeaa

/-- What a motion keeps. -/
structure Keeps (p q : Nat → Pt) (n : Nat) (f : Pt → Pt) : Prop where
  area : area q n = area p n
  border : borderV q n = borderV p n
  conv : convV q n = convV p n
  wher : ∀ x, whereV q n (f x) = whereV p n x
  sq : ∀ x, Pin 10000 x → lowest (leastTo (sqAt q n (f x)) n) = lowest (leastTo (sqAt p n x) n)
theorem keeps_direct {f : Pt → Pt} (D : Direct f) (p : Nat → Pt) (n : Nat) (h : 0 < n) (hw : ∀ x, whereV (fun i => f (p i)) n (f x) = whereV p n x) : Keeps p (fun i => f (p i)) n f := by
  refine ⟨area_d D p n h, borderV_d D p n, convV_d D p n, hw, fun x _ => ?_⟩
  have e : sqAt (fun i => f (p i)) n (f x) = sqAt p n x := funext fun i => sqf_d D _ _ _
  rw [e]
theorem whereV_q1 (p : Nat → Pt) (n : Nat) (h : 0 < n) (x : Pt) : whereV (fun i => q1 (p i)) n (q1 x) = whereV p n x := by
  unfold whereV
  rw [offAll_d q1_direct]
  by_cases ho : offAll p n x = true
  · rw [if_pos ho, if_pos ho]
    unfold offAll at ho
    rw [allTo_iff] at ho
    exact inside_of (h := fun i => nook (p i) x) h fun i hi => flip_q1 _ _ _ (by have := ho i hi; simpa using this)
  · rw [if_neg ho, if_neg ho]
theorem whereV_s1 (X Y : Int) (p : Nat → Pt) (n : Nat) (h : 0 < n) (x : Pt) : whereV (fun i => s1 X Y (p i)) n (s1 X Y x) = whereV p n x := by
  unfold whereV
  rw [offAll_d (s1_direct X Y)]
  by_cases ho : offAll p n x = true
  · rw [if_pos ho, if_pos ho]
    exact inside_of (h := fun _ => false) h fun i hi => by rw [flip_s1]; simp
  · rw [if_neg ho, if_neg ho]
theorem keeps_q1 (p : Nat → Pt) (n : Nat) (h : 0 < n) : Keeps p (fun i => q1 (p i)) n q1 := keeps_direct q1_direct p n h (whereV_q1 p n h)
theorem keeps_s1 (X Y : Int) (p : Nat → Pt) (n : Nat) (h : 0 < n) : Keeps p (fun i => s1 X Y (p i)) n (s1 X Y) := keeps_direct (s1_direct X Y) p n h (whereV_s1 X Y p n h)
theorem least_any {p : Nat → Pt} {n : Nat} {x : Pt} (h0 : 0 < n) (hin : inAll p n = true) (hx : Pin 10000 x) : ∃ k, k < n ∧ leastTo (sqAt p n x) n = sqAt p n x k := by
  obtain ⟨m, rfl⟩ : ∃ m, n = m + 1 := ⟨n - 1, by omega⟩
  have b0 := sqAt_bd hin hx (show 0 < m + 1 by omega)
  exact least_in (f := sqAt p (m + 1) x) (n := m) b0.2.2.1 (by omega)
theorem keeps_mr (p : Nat → Pt) (n : Nat) (h : 3 ≤ n) (hin : inAll p n = true) : Keeps p (mrP p n) n m1 := by
  have h0 : 0 < n := by omega
  refine ⟨area_mr p n h0, borderV_mr p n h0, convV_mr p n h, fun x => whereV_mr p n x h0, fun x hx => ?_⟩
  have hx2 : Pin 10000 (m1 x) := by unfold m1 Pin at *; omega
  have hin2 : inAll (mrP p n) n = true := by rw [inAll_mr]; exact hin
  have key : ∀ k, k < n → sqAt (mrP p n) n (m1 x) k = sqAt p n x ((rv n k + 1) % n) := fun k hk => by
    unfold sqAt
    rw [mr_edge p hk]
    show sqf (m1 _) (m1 _) (m1 _) = _
    rw [sqf_m1, sqf_swap]
    have e : prv n ((rv n k + 1) % n) = rv n k := by
      have hr := rv_lt (n := n) (i := k) h0
      rw [prv_eq (Nat.mod_lt _ h0), mod_succ hr]; split <;> split <;> omega
    rw [e]
  refine least_same (fun k _ => sqf_pos _ _ _) (fun k _ => sqf_pos _ _ _) (least_any h0 hin2 hx2) (least_any h0 hin hx) (fun k hk => ⟨_, Nat.mod_lt _ h0, key k hk⟩) (fun k hk => ⟨rv n (prv n k), rv_lt h0, ?_⟩)
  rw [key _ (rv_lt h0), rv_rv (prv_lt h0)]
  have e : (prv n k + 1) % n = k := by rw [mod_succ (prv_lt h0), prv_eq hk]; split <;> split <;> omega
  rw [e]
theorem Keeps.trans {p q r : Nat → Pt} {n : Nat} {f g : Pt → Pt} (h1 : Keeps p q n f) (h2 : Keeps q r n g) (hf : ∀ x, Pin 10000 x → Pin 10000 (f x)) : Keeps p r n (fun x => g (f x)) :=
  ⟨h2.area.trans h1.area, h2.border.trans h1.border, h2.conv.trans h1.conv, fun x => (h2.wher _).trans (h1.wher x), fun x hx => (h2.sq _ (hf x hx)).trans (h1.sq x hx)⟩
theorem Keeps.refl (p : Nat → Pt) (n : Nat) : Keeps p p n id := ⟨rfl, rfl, rfl, fun _ => rfl, fun _ _ => rfl⟩
theorem keeps_turn (p : Nat → Pt) (n : Nat) (h : 0 < n) : ∀ t, Keeps p (turnP p t) n (qt t)
  | 0 => Keeps.refl p n
  | t + 1 => (keeps_turn p n h t).trans (keeps_q1 (turnP p t) n h) fun _ hx => qt_bd hx t
theorem inAll_q1 (p : Nat → Pt) (n : Nat) : inAll (fun i => q1 (p i)) n = inAll p n := by
  unfold inAll
  refine allTo_congr fun k _ => ?_
  unfold inR q1; rw [Bool.eq_iff_iff]; simp only [Bool.and_eq_true, decide_eq_true_eq]; omega
theorem vC_turn {p : Nat → Pt} {n : Nat} (hv : vC p n = true) : ∀ t, vC (turnP p t) n = true
  | 0 => hv
  | t + 1 => by
    have ih := vC_turn hv t
    obtain ⟨_, _, hin, _⟩ := vC_parts ih
    exact vC_d q1_direct (turnP p t) n ih (by rw [inAll_q1]; exact hin)
theorem vC_shift {p : Nat → Pt} {n : Nat} {x y : Int} (hv : vC p n = true) (hin : inAll (shP p x y) n = true) : vC (shP p x y) n = true := vC_d (s1_direct x y) p n hv hin
theorem mir_twice {p : Nat → Pt} {n i : Nat} (hi : i < n) : mirP (mirP p n) n i = p i := by
  show m1 (m1 (p (rv n (rv n i)))) = p i
  rw [rv_rv hi]
  unfold m1
  exact Prod.ext (by dsimp only; omega) rfl
/-- A point that goes with an outline. -/
def mvF (mir : Bool) (t : Nat) (x y : Int) (a : Pt) : Pt := s1 x y (qt t (if mir then m1 a else a))
def mvB (mir : Bool) (p : Nat → Pt) (n : Nat) : Nat → Pt := if mir then mirP p n else p
theorem vC_mv {p : Nat → Pt} {n : Nat} (mir : Bool) (hv : vC p n = true) : vC (mvB mir p n) n = true := by
  cases mir
  · exact hv
  · exact vC_mr hv
theorem keeps_mv {p : Nat → Pt} {n : Nat} (mir : Bool) (t : Nat) (x y : Int) (hv : vC p n = true) : Keeps p (shP (turnP (mvB mir p n) t) x y) n (mvF mir t x y) := by
  obtain ⟨h3, _, hin, _⟩ := vC_parts hv
  have h0 : 0 < n := by omega
  have k2 := keeps_turn (mvB mir p n) n h0 t
  have k3 := keeps_s1 x y (turnP (mvB mir p n) t) n h0
  have k23 := k2.trans k3 fun a ha => qt_bd ha t
  cases mir
  · exact k23
  · exact (keeps_mr p n h3 hin).trans k23 fun a ha => by unfold m1 Pin at *; omega
end Go.Proofs.Ytoaomhcffdnpeaa
