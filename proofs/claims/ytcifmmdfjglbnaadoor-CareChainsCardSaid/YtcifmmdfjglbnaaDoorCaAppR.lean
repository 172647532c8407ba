/- Orders appended to a list of one's own; no statement is proved here. -/
import Derived.Test.YtcifmmdfjglbnaaDoorCaAppS
import Derived.Test.YtcifmmdfjglbnaaDoorCaRule
namespace Go.Proofs.YtcifmmdfjglbnaaDoor
open Go.ChangeShapes Go.WideShapes Go.ChangeAt Go.RowKit

/-- A list, and another one behind it. -/
def catR (p : Nat → Ru) (n : Nat) (r : Nat → Ru) : Nat → Ru := fun k => if k < n then p k else r (k - n)
theorem catR_lo {p r : Nat → Ru} {n k : Nat} (h : k < n) : catR p n r k = p k := by unfold catR; rw [if_pos h]
theorem catR_hi (p r : Nat → Ru) (n k : Nat) : catR p n r (n + k) = r k := by unfold catR; rw [if_neg (by omega), show n + k - n = k by omega]
theorem rulesL_cat (p : Nat → Ru) (n : Nat) (r : Nat → Ru) : ∀ m, rulesL p n ++ rulesL r m = rulesL (catR p n r) (n + m)
  | 0 => by
    show rulesL p n ++ [] = _
    rw [List.append_nil]
    exact rulesL_congr fun k hk => (catR_lo hk).symm
  | m + 1 => by
    show rulesL p n ++ (rulesL r m ++ ruC (r m)) = rulesL (catR p n r) (n + m) ++ ruC (catR p n r (n + m))
    rw [← List.append_assoc, rulesL_cat p n r m, catR_hi]
theorem ruC_len (x : Ru) : (ruC x).length = 7 := rfl
theorem rulesL_at {p : Nat → Ru} {n j : Nat} {u : Value} (h : (rulesL p n)[j]? = some u) : ∃ k i, k < n ∧ i < 7 ∧ j = k * 7 + i ∧ (ruC (p k))[i]? = some u := by
  have hj : j < n * 7 := by
    have := (List.getElem?_eq_some_iff.1 h).1
    rwa [rulesL_len] at this
  refine ⟨j / 7, j % 7, by omega, by omega, by omega, ?_⟩
  rw [show j = j / 7 * 7 + j % 7 by omega, rulesL_get p n (j / 7) (j % 7) (by omega) (by omega)] at h
  exact h
theorem owns_noR2 (w : World) (base : Nat) {k : Nat} (h : w.heap.size = k) (hb : base ≤ k) : (w.alloc (.cells #[] 54)).ownsRow base 54 7 (.slice (some ⟨k, 0, none⟩) 0 0) 0 [] := by
  subst h
  exact ⟨rfl, .inr ⟨w.heap.size, 0, #[], rfl, hb, new_at w _ _ rfl, Nat.le_refl _, by unfold maxLen; omega, rfl, rfl⟩⟩
theorem one_hasR {w : World} {b : Nat} {x : Ru} (h : w.heap[b]? = some (.cells #[.string x.nm, .int .i64 x.ad, .int .i64 x.fr, .int .i64 x.to, .int .i64 x.ft, .int .i64 x.jb, .string x.rp] 54)) : RHas w (some ⟨b, 0, none⟩) 1 (fun _ => x) := fun _ => by
  obtain ⟨c0, c1, c2, c3, c4, c5, c6, l0⟩ := cell7_of h
  refine ⟨b, 0, rfl, l0, fun k hk => ?_, fun k hk => ?_, fun k hk => ?_, fun k hk => ?_, fun k hk => ?_, fun k hk => ?_, fun k hk => ?_⟩ <;> obtain rfl : k = 0 := by omega
  · exact c0
  · exact c1
  · exact c2
  · exact c3
  · exact c4
  · exact c5
  · exact c6
theorem RHas.part {w : World} {ad : Addr} {R : Nat} {r : Nat → Ru} (hp : RHas w (some ad) R r) {j : Nat} {u : Value} (hj : (rulesL r R)[j]? = some u) : w.cell? (ad.add j) = some u := by
  obtain ⟨k, i, hk, hi, rfl, hu⟩ := rulesL_at hj
  obtain ⟨b, off, e, _, y0, y1, y2, y3, y4, y5, y6⟩ := hp.at_ hk
  cases e
  have e0 : ∀ m, (⟨b, off, none⟩ : Addr).add m = ⟨b, off + m, none⟩ := fun m => by unfold Addr.add; split <;> simp_all
  have e : (⟨b, off, none⟩ : Addr).add (k * 7 + i) = ⟨b, off + k * 7 + i, none⟩ := by rw [e0, Nat.add_assoc]
  rw [e]
  rcases (show i = 0 ∨ i = 1 ∨ i = 2 ∨ i = 3 ∨ i = 4 ∨ i = 5 ∨ i = 6 by omega) with rfl | rfl | rfl | rfl | rfl | rfl | rfl
  · exact y0.trans hu
  · exact y1.trans hu
  · exact y2.trans hu
  · exact y3.trans hu
  · exact y4.trans hu
  · exact y5.trans hu
  · exact y6.trans hu
theorem ruC_one {x : Ru} {u : Value} {i : Nat} (h : (ruC x)[i]? = some u) : u.oneCell' = true := by
  have hi : i < 7 := (List.getElem?_eq_some_iff.1 h).1
  rcases (show i = 0 ∨ i = 1 ∨ i = 2 ∨ i = 3 ∨ i = 4 ∨ i = 5 ∨ i = 6 by omega) with rfl | rfl | rfl | rfl | rfl | rfl | rfl <;> (simp [ruC] at h; subst h; rfl)
/-- A list appended, whole, to a list of one's own: what append does. -/
theorem moreR6 {base : Nat} {W : World} {v : Value} {n : Nat} {p : Nat → Ru} (ty : TypeId) (hown : W.ownsRow base 54 7 v n (rulesL p n)) (hn : n ≤ 100000) (A : Option Addr) (R d : Nat) (r : Nat → Ru) (hp : RHas W A R r)
    (hnil : A = none → d = 0) (hR : R ≤ 100000) (hbase : base ≤ W.heap.size) :
    ∃ v' w', (Builtin.append_ #[22, 22] ty #[v, .slice A R d]).run Tryd.prog W = .ok v' w' ∧ w'.ownsRow base 54 7 v' (n + R) (rulesL (catR p n r) (n + R)) ∧ W.grownBy w' v.ownBlock := by
  obtain ⟨i0, hi0, hz0, hz1, hz2⟩ := info_parts infoRule
  cases A with
  | none =>
    have hR0 : R = 0 := by
      rcases Nat.eq_zero_or_pos R with h0 | h0
      · exact h0
      · obtain ⟨b, off, e, _⟩ := hp h0
        cases e
    subst hR0
    obtain rfl := hnil rfl
    have hrun := run_append_owned_none (P := Tryd.prog) (w := W) base 22 ty 54 i0 7 Tryd.underlying22 hi0 v n (rulesL p n) hown
    refine ⟨v, W, hrun, ?_, ⟨rfl, rfl, rfl, Nat.le_refl _, fun _ _ _ => rfl⟩⟩
    rw [← rulesL_cat]
    show W.ownsRow base 54 7 v n (rulesL p n ++ [])
    rw [List.append_nil]
    exact hown
  | some ad =>
    obtain ⟨v', w', r1, r2, r3, r4, r5⟩ := run_append_own_at (P := Tryd.prog) (w := W) base 22 ty 54 i0 (.agg #[.string ⟨#[]⟩, .int .i64 0, .int .i64 0, .int .i64 0, .int .i64 0, .int .i64 0, .string ⟨#[]⟩]) 7 72 Tryd.underlying22 hi0 hz0 hz1 hz2 rfl (by decide) v n (rulesL p n) hown ad R d (rulesL r R) (by rw [rulesL_len]) (fun j u hj => hp.part hj) (fun u hu => by
      obtain ⟨j, hj⟩ := List.mem_iff_getElem?.1 hu
      obtain ⟨k, i, _, _, _, hu'⟩ := rulesL_at hj
      exact ruC_one hu') (by unfold maxLen; omega) (by omega) hbase
    refine ⟨v', w', r1, ?_, r3⟩
    rw [← rulesL_cat]
    exact r2
/-- A list appended, whole, to one's own, as a step. -/
theorem step_moreR {ops : Array Oper} {o : Oper} {a : Act} {w : World} {K : Act → World → Prop} {Q : Exit → Act → World → Prop} {E : Prop}
    (hg : o.guard = none) (s x : Operand) (hop : o.op = Op.call { callee := Callee.builtin Builtin.append, args := #[s, x], argTypes := #[22, 22] })
    (base : Nat) (v : Value) (n : Nat) (p : Nat → Ru) (hs : a.eval s = v) (hown : w.ownsRow base 54 7 v n (rulesL p n)) (hn : n ≤ 100000)
    (A : Option Addr) (R d : Nat) (r : Nat → Ru) (hx : a.eval x = .slice A R d) (hp : RHas w A R r) (hnil : A = none → d = 0) (hR : R ≤ 100000) (hbase : base ≤ w.heap.size)
    (hK : ∀ v' w', w'.ownsRow base 54 7 v' (n + R) (rulesL (catR p n r) (n + R)) → w.grownBy w' v.ownBlock → K (a.put o.dst v') w') :
    if Region.wanted o (yielded ops a.tmps) = true then Oper.wp Tryd.prog o a w K Q else E := by
  obtain ⟨v', w', h1, h2, h3⟩ := moreR6 o.type hown hn A R d r hp hnil hR hbase
  exact step_append_run6 hg s x 22 hop _ _ v' w' hs hx h1 (hK v' w' h2 h3)
theorem copy_catR (r : Nat → Ru) (R : Nat) : rulesL (catR r 0 r) (0 + R) = rulesL r R := by
  rw [Nat.zero_add]
  exact rulesL_congr fun k _ => by unfold catR; rw [if_neg (by omega)]; rfl
/-- The same onto an empty one. -/
theorem step_copyR {ops : Array Oper} {o : Oper} {a : Act} {w : World} {K : Act → World → Prop} {Q : Exit → Act → World → Prop} {E : Prop}
    (hg : o.guard = none) (s x : Operand) (hop : o.op = Op.call { callee := Callee.builtin Builtin.append, args := #[s, x], argTypes := #[22, 22] })
    (base : Nat) (v : Value) (hs : a.eval s = v) (hown : w.ownsRow base 54 7 v 0 [])
    (A : Option Addr) (R d : Nat) (r : Nat → Ru) (hx : a.eval x = .slice A R d) (hp : RHas w A R r) (hnil : A = none → d = 0) (hR : R ≤ 100000) (hbase : base ≤ w.heap.size)
    (hK : ∀ v' w', w'.ownsRow base 54 7 v' R (rulesL r R) → w.grownBy w' v.ownBlock → K (a.put o.dst v') w') :
    if Region.wanted o (yielded ops a.tmps) = true then Oper.wp Tryd.prog o a w K Q else E := by
  refine step_moreR hg s x hop base v 0 r hs hown (by omega) A R d r hx hp hnil hR hbase fun v' w' h1 h2 => hK v' w' ?_ h2
  rw [copy_catR, Nat.zero_add] at h1
  exact h1
theorem copyR6 {base : Nat} {W : World} {v : Value} (ty : TypeId) (hown : W.ownsRow base 54 7 v 0 []) (A : Option Addr) (R d : Nat) (r : Nat → Ru) (hp : RHas W A R r) (hnil : A = none → d = 0) (hR : R ≤ 100000) (hbase : base ≤ W.heap.size) :
    ∃ v' w', (Builtin.append_ #[22, 22] ty #[v, .slice A R d]).run Tryd.prog W = .ok v' w' ∧ w'.ownsRow base 54 7 v' R (rulesL r R) ∧ W.grownBy w' v.ownBlock := by
  obtain ⟨v', w', h1, h2, h3⟩ := moreR6 (p := r) (n := 0) ty hown (by omega) A R d r hp hnil hR hbase
  rw [copy_catR, Nat.zero_add] at h2
  exact ⟨v', w', h1, h2, h3⟩
end Go.Proofs.YtcifmmdfjglbnaaDoor
