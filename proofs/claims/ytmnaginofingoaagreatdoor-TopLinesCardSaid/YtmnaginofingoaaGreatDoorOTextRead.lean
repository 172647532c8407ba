/- What is read of an outline's text, by the code's way and by the document's: the same; plain facts, nothing of a program is spoken of. -/
import Derived.Test.YtmnaginofingoaaGreatDoorOTextMath
import Derived.Test.YtmnaginofingoaaGreatDoorOValid
namespace Go.Proofs.YtmnaginofingoaaGreatDoor.Outl

theorem vC_congr {p q : Nat → Pt} {n : Nat} (h : ∀ k, k < n → p k = q k) : vC p n = vC q n := by
  by_cases hn : 0 < n
  · have hp : ∀ i, i < n → p (prv n i) = q (prv n i) := fun i hi => h _ (by unfold prv; exact Nat.mod_lt _ hn)
    have e1 : inAll p n = inAll q n := allTo_congr fun k hk => by rw [h k hk]
    have e2 : diffC p n = diffC q n := allTo_congr fun i hi => allTo_congr fun j hj => by rw [h i hi, h j (by omega)]
    have e3 : simpleC p n = simpleC q n := allTo_congr fun i hi => allTo_congr fun j hj => by
      unfold pairOK
      rw [h i hi, h j hj, hp i hi, hp j hj]
    have e4 : area p n = area q n := sumTo_congr fun i hi => by rw [h i hi, hp i hi]
    unfold vC
    rw [e1, e2, e3, e4]
  · obtain rfl : n = 0 := by omega
    rfl
theorem ptsL_congr {p q : Nat → Pt} : ∀ {n}, (∀ k, k < n → p k = q k) → ptsL p n = ptsL q n
  | 0, _ => rfl
  | n + 1, h => by rw [ptsL, ptsL, ptsL_congr fun k hk => h k (by omega), h n (by omega)]
theorem ofL_congr {p q : Nat → Pt} {n : Nat} (h : ∀ k, k < n → p k = q k) : ofL p n = ofL q n := by unfold ofL; rw [ptsL_congr h]

/-- A number as Atoi reads it; whether it is one. -/
def atV (l : List UInt8) : Int := match Lib.atoiAll l with
  | .ok v => v
  | .range => Lib.atoiSat l
  | _ => 0
def atOk (l : List UInt8) : Bool := match Lib.atoiAll l with
  | .ok _ => true
  | _ => false
/-- Where a word has its comma, what stands before it and behind it. -/
def cutI (x : List UInt8) : Int := Lib.index x [44]
def wdA (x : List UInt8) : List UInt8 := x.take (cutI x).toNat
def wdB (x : List UInt8) : List UInt8 := x.drop ((cutI x).toNat + 1)
/-- The code's reading of a word. -/
def wOk (x : List UInt8) : Bool := decide (0 ≤ cutI x) && (atOk (wdA x) && atOk (wdB x))
def wPt (x : List UInt8) : Pt := (atV (wdA x), atV (wdB x))
/-- The document's. -/
def nmV (l : List UInt8) : Int := if 20 < l.length then 0 else atV l
def rPt (x : List UInt8) : Pt := (nmV (wdA x), nmV (wdB x))
/-- What is written. -/
def fmtO (p : Nat → Pt) (n : Nat) : List UInt8 := if vC p n then ofL p n else []
/-- Whether a text is read, by the code's way and by the document's. -/
def cdB (W : Nat → List UInt8) (n : Nat) (s : List UInt8) : Bool := allTo (fun k => wOk (W k)) n && decide (fmtO (fun k => wPt (W k)) n = s)
def rfB (W : Nat → List UInt8) (n : Nat) (s : List UInt8) : Bool := decide (n ≤ 64) && (allTo (fun k => decide (0 ≤ cutI (W k))) n && (vC (fun k => rPt (W k)) n && decide (fmtO (fun k => rPt (W k)) n = s)))

theorem pt_cut (p : Pt) : wdA (ptL p) = Lib.itoa p.1 ∧ wdB (ptL p) = Lib.itoa p.2 ∧ 0 ≤ cutI (ptL p) := by
  have e : cutI (ptL p) = ((Lib.itoa p.1).length : Int) := pt_index p
  unfold wdA wdB
  rw [e]
  refine ⟨?_, ?_, by omega⟩
  · show (ptL p).take (Lib.itoa p.1).length = _
    unfold ptL
    rw [List.take_left']
    rfl
  · show (ptL p).drop ((Lib.itoa p.1).length + 1) = _
    unfold ptL
    rw [← List.drop_drop, List.drop_left' rfl]
    rfl
theorem pt_ok {p : Pt} (h : Pin 10000 p) : wOk (ptL p) = true ∧ wPt (ptL p) = p ∧ rPt (ptL p) = p := by
  obtain ⟨e1, e2, e3⟩ := pt_cut p
  have h1 := atoi_num (n := p.1) (by have := h.1; omega) (by have := h.2.1; omega)
  have h2 := atoi_num (n := p.2) (by have := h.2.2.1; omega) (by have := h.2.2.2; omega)
  obtain ⟨a, b, c, d⟩ := h
  have l1 := itoa_len (n := p.1) (by omega)
  have l2 := itoa_len (n := p.2) (by omega)
  have v1 : atV (Lib.itoa p.1) = p.1 := by unfold atV; rw [h1]
  have v2 : atV (Lib.itoa p.2) = p.2 := by unfold atV; rw [h2]
  have o1 : atOk (Lib.itoa p.1) = true := by unfold atOk; rw [h1]
  have o2 : atOk (Lib.itoa p.2) = true := by unfold atOk; rw [h2]
  refine ⟨?_, ?_, ?_⟩
  · unfold wOk; rw [e1, e2, o1, o2, decide_eq_true e3]; rfl
  · unfold wPt; rw [e1, e2, v1, v2]
  · unfold rPt nmV; rw [e1, e2, if_neg (by omega), if_neg (by omega), v1, v2]

/-- The two ways are one. 'hW': the words of an outline's text; 'h0': a text without bytes is one word without a comma. -/
theorem read_eq {W : Nat → List UInt8} {n : Nat} {s : List UInt8}
    (hW : ∀ q m, vC q m = true → s = ofL q m → n = m ∧ ∀ k, k < m → W k = ptL (q k)) (h0 : s = [] → ∃ k, k < n ∧ cutI (W k) < 0) :
    cdB W n s = rfB W n s ∧ (cdB W n s = true → vC (fun k => wPt (W k)) n = true ∧ s = ofL (fun k => wPt (W k)) n ∧ ∀ k, k < n → wPt (W k) = rPt (W k)) := by
  have hc : cdB W n s = true → vC (fun k => wPt (W k)) n = true ∧ s = ofL (fun k => wPt (W k)) n ∧ (∀ k, k < n → 0 ≤ cutI (W k)) ∧ ∀ k, k < n → wPt (W k) = rPt (W k) := by
    intro h
    unfold cdB at h
    rw [Bool.and_eq_true, allTo_iff, decide_eq_true_eq] at h
    obtain ⟨ho, hf⟩ := h
    have hcut : ∀ k, k < n → 0 ≤ cutI (W k) := fun k hk => by
      have := ho k hk
      unfold wOk at this
      rw [Bool.and_eq_true] at this
      exact of_decide_eq_true this.1
    unfold fmtO at hf
    cases hv : vC (fun k => wPt (W k)) n
    · rw [hv] at hf
      obtain ⟨k, hk, hn⟩ := h0 hf.symm
      have := hcut k hk
      omega
    · rw [hv, if_pos rfl] at hf
      obtain ⟨_, hw⟩ := hW _ n hv hf.symm
      obtain ⟨_, _, hin, _⟩ := vC_parts hv
      refine ⟨rfl, hf.symm, hcut, fun k hk => ?_⟩
      have e := (pt_ok (inAll_at' hin hk)).2.2
      rw [← hw k hk] at e
      exact e.symm
  have hr : rfB W n s = true → cdB W n s = true := by
    intro h
    unfold rfB at h
    simp only [Bool.and_eq_true, decide_eq_true_eq] at h
    obtain ⟨_, _, hv, hf⟩ := h
    unfold fmtO at hf
    rw [hv, if_pos rfl] at hf
    obtain ⟨_, hw⟩ := hW _ n hv hf.symm
    obtain ⟨_, _, hin, _⟩ := vC_parts hv
    have hall : ∀ k, k < n → wOk (W k) = true ∧ wPt (W k) = rPt (W k) := fun k hk => by
      have e := pt_ok (inAll_at' hin hk)
      rw [← hw k hk] at e
      exact ⟨e.1, e.2.1⟩
    unfold cdB fmtO
    rw [vC_congr (q := fun k => rPt (W k)) fun k hk => (hall k hk).2, ofL_congr (q := fun k => rPt (W k)) fun k hk => (hall k hk).2, hv, if_pos rfl, hf, allTo_iff.2 fun k hk => (hall k hk).1, decide_eq_true rfl]
    rfl
  refine ⟨?_, fun h => ⟨(hc h).1, (hc h).2.1, (hc h).2.2.2⟩⟩
  rw [Bool.eq_iff_iff]
  refine ⟨fun h => ?_, hr⟩
  obtain ⟨hv, hs, hcut, he⟩ := hc h
  obtain ⟨_, h64, _⟩ := vC_parts hv
  have hv' : vC (fun k => rPt (W k)) n = true := by rw [← vC_congr (p := fun k => wPt (W k)) he]; exact hv
  unfold rfB fmtO
  rw [hv', if_pos rfl, ← ofL_congr (p := fun k => wPt (W k)) he, ← hs, decide_eq_true h64, allTo_iff.2 fun k hk => decide_eq_true (hcut k hk), decide_eq_true rfl]
  rfl
end Go.Proofs.YtmnaginofingoaaGreatDoor.Outl
