/- The document's square of a distance from an edge, layer 2, by its contract · The document's square of a distance from an outline, layer 2, by its contract; no statement is proved here. -/
import Derived.Test.YtmnaginofingoaaGreatDoorOWhereR
import Derived.Test.YtmnaginofingoaaGreatDoorOAwake
import Derived.Test.YtmnaginofingoaaGreatDoorOCompareR
namespace Go.Proofs.YtmnaginofingoaaGreatDoor.Outl
open Go.ChangeShapes Go.WideShapes Go.ChangeAt Go.RowKit Go.Shelf
attribute [local go_sem] Oper.semAt_some

theorem lowest_one (n : Int) : lowest (n, 1) = (n, 1) := by
  have : (Int.gcd n 1 : Int) = 1 := by rw [Int.gcd_one_right]; rfl
  show (n / (Int.gcd n 1 : Int), 1 / (Int.gcd n 1 : Int)) = (n, 1)
  rw [this]; simp

end Go.Proofs.YtmnaginofingoaaGreatDoor.Outl

namespace Go.Proofs.YtmnaginofingoaaGreatDoor.Outl
open Go.ChangeShapes Go.WideShapes Go.ChangeAt Go.RowKit Go.Shelf
attribute [local go_sem] Oper.semAt_some

/-- A region that makes one new variable, in any order, and whose stores come last. -/
theorem wpIn_region_new1 {F : Fence} {fm : Nat} (hF : WideF F) {P : Program} {id : Nat} {Q : Exit → Act → World → Prop} {a : Act} {W0 W : World} {l : List Oper} (n : Nat) (al0 : Oper) (d0 : Nat) (ty0 : TypeId) (zs0 : Array Value)
    (hW : Below W0.heap.size W0 W) (hm : P.follows .mixedOrders = true) (hsel : Region.noSelect l.toArray = true) (hnd : noDefer l = true) (hB : newsB .any l.toArray n 1 = true)
    (hlex : lexW .any l.toArray n 1 (l.length - (n + 1)) n 0 (Array.replicate l.toArray.size false) = true) (honce : onceB a.tmps.size (l.take n) = true)
    (h0 : l.toArray[n + 0]? = some al0) (hd0 : al0.dst = some d0) (hr0 : ∀ (a : Act) (w : World), (execOp a.eval al0).run P w = .ok (.value (.pointer (some ⟨w.heap.size, 0, none⟩))) (w.alloc (.cells zs0 ty0)))
    (h : ∃ afin : Act, (∀ E : World → Prop, Kept E → Nonempty (Aft W0 E) → (∀ (x : Aft W0 E) (b o : Nat), b < W0.heap.size → x.val.cell? ⟨b, o, none⟩ = W0.cell? ⟨b, o, none⟩) →
      wpQuiet P l.toArray (fun w' => ∃ x : Aft W0 E, w' = x.val) (fun a' => a' = afin) (l.take n) a) ∧
    ∀ (k0 : Nat) (w' : World), Below W0.heap.size W0 w' → W0.heap.size ≤ k0 → w'.heap[k0]? = some (.cells zs0 ty0) → wpListIn F fm P l.toArray Q (l.drop (n + 1)) (afin.put (some d0) (.pointer (some ⟨k0, 0, none⟩))) w') :
    (Code.region id l.toArray true).wpIn F fm P Q a W := by
  have hidx : ∀ j, j ∈ List.range' n 1 → j = n + 0 := fun j hj => by obtain ⟨i, hi, hj⟩ := List.mem_range'.1 hj; omega
  have hin : n + 0 ∈ List.range' n 1 := by rw [List.mem_range']; exact ⟨0, by omega, by omega⟩
  obtain ⟨afin, hh, ht⟩ := h
  refine wpIn_region_news hF n 1 (fun _ => d0) (fun _ => ty0) (fun _ => zs0) hW hm hsel hnd hB hlex honce (by simp [List.range']) ?_ ⟨afin, hh, fun κ w' hb hk hn => ?_⟩
  · intro j hj al hal
    obtain rfl := hidx j hj
    obtain rfl : al0 = al := Option.some.inj (h0.symm.trans hal)
    exact ⟨hd0, hr0⟩
  · have q0 := hk (n + 0) hin
    have := ht (κ (n + 0)) w' hb q0.1 q0.2.2
    simpa [List.range', putAll, Nat.add_assoc] using this

theorem One.fresh {w0 W : World} {S b : Nat} {T : TypeId} {v : Array Value} (h : One w0 S T v W) (hS : S < w0.heap.size) (hb : w0.heap.size ≤ b) (o : Nat) (u : Value) : One w0 S T v (W.setCell ⟨b, o, none⟩ u) :=
  ⟨h.os, h.tape, h.output, by rw [size_setCell]; exact h.size, fun c hc hcn => (Below.heap_setCell _ _ _ _ (show c ≠ b by omega)).trans (h.block c hc hcn), (Below.heap_setCell _ _ _ _ (show S ≠ b by omega)).trans h.var⟩

theorem low_bd {r : Int × Int} (h : Rat_ r) : Rat_ (lowest r) := by
  obtain ⟨h1, h2, h3, h4⟩ := h
  obtain ⟨g, n, d, hg, hd, e, el⟩ := lowest_parts r h3
  have hg' := gcd_pos_of (a := r.1) h3
  have e1 : (lowest r).1 = r.1 / (Int.gcd r.1 r.2 : Int) := rfl
  have e2 : (lowest r).2 = r.2 / (Int.gcd r.1 r.2 : Int) := rfl
  have q1 := quo_bd h1 hg'
  have q2 := quo_bd (show 0 ≤ r.2 by omega) hg'
  have q3 : 1 ≤ (lowest r).2 := by rw [el]; exact hd
  unfold Rat_
  rw [e1]
  rw [e2] at q3 ⊢
  omega
theorem leastFrom_bd {f : Nat → Int × Int} {n : Nat} (h : ∀ k, k ≤ n → Rat_ (f k)) : Rat_ (leastFrom f n) := by
  induction n with
  | zero => exact h 0 (Nat.le_refl _)
  | succ n ih =>
    simp only [leastFrom]
    split
    · exact h _ (Nat.le_refl _)
    · exact ih fun k hk => h k (by omega)

/-- The distances from the edges, in lowest terms. -/
def loAt (p : Nat → Pt) (n : Nat) (x : Pt) (i : Nat) : Int × Int := lowest (sqAt p n x i)
theorem loAt_bd {p : Nat → Pt} {n : Nat} {x : Pt} (h : inAll p n = true) (hx : Pin 10000 x) {k : Nat} (hk : k < n) : Rat_ (loAt p n x k) := low_bd (by have := sqAt_bd h hx hk; unfold Rat_; omega)
theorem prv_back {n k : Nat} (h : k + 1 < n) : prv n (k + 1) = k := by rw [prv_eq h]; split <;> omega

end Go.Proofs.YtmnaginofingoaaGreatDoor.Outl
