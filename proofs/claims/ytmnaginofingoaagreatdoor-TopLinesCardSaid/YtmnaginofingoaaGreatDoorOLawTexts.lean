/- Both Parses at any text, and the walk of OutlineTexts; no statement is proved here. -/
import Derived.Test.YtmnaginofingoaaGreatDoorOText5
namespace Go.Proofs.YtmnaginofingoaaGreatDoor.Outl
open Go.ChangeShapes Go.WideShapes Go.ChangeAt Go.RowKit

theorem has_congr {w : World} {A : Option Addr} {n : Nat} {p q : Nat → Pt} (h : ∀ k, k < n → p k = q k) (hp : Has w A n p) : Has w A n q := by
  intro hn
  obtain ⟨b, off, rfl, hP⟩ := hp hn
  exact ⟨b, off, rfl, hP.lt, fun k hk => by rw [← h k hk]; exact hP.x k hk, fun k hk => by rw [← h k hk]; exact hP.y k hk⟩

/-- What both Parses give: the same list, the same error. -/
def ListRet (W : World) (E : Int) (N : Nat) (q : Nat → Pt) (e : Ending) (w' : World) : Prop :=
  ∃ A c, e = .returned (.tuple #[.slice A N c, .int .i64 E]) ∧ N ≤ c ∧ c ≤ 9223372036854775807 ∧ Has w' A N q ∧ Below W.heap.size W w'
theorem words_of (q : Nat → Pt) {m : Nat} (h : 0 < m) : cntW (ofB q m) = m ∧ ∀ k, k < m → wLt (ofB q m) k = ptL (q k) := by
  obtain ⟨h1, h2⟩ := of_words q h
  refine ⟨by unfold cntW; rw [h1]; omega, fun k hk => ?_⟩
  unfold wLt wAt wdsW
  rw [h1, h2, ptsB_at q m k hk]
  rfl
theorem bytes_of {s : ByteArray} {l : List UInt8} (h : s.data.toList = l) : s = ⟨l.toArray⟩ := by
  apply ByteArray.ext
  simp [← h]

theorem reads_eq (s : ByteArray) : cdB (wLt s) (cntW s) s.data.toList = rfB (wLt s) (cntW s) s.data.toList ∧ (cdB (wLt s) (cntW s) s.data.toList = true → vC (fun k => wPt (wLt s k)) (cntW s) = true ∧ s.data.toList = ofL (fun k => wPt (wLt s k)) (cntW s) ∧ ∀ k, k < cntW s → wPt (wLt s k) = rPt (wLt s k)) := by
  refine read_eq (fun q m hv hs => ?_) (fun h0 => ⟨0, Nat.succ_pos _, ?_⟩)
  · have e : s = ofB q m := bytes_of hs
    obtain ⟨h3, _⟩ := vC_parts hv
    rw [e]
    exact words_of q (by omega)
  · have hz : (wAt s 0).size ≤ 0 := Nat.le_trans (wAt_le s 0) (by
      have : s.data.toList.length = s.size := rfl
      rw [h0] at this
      simp at this; omega)
    have hz' : (wLt s 0).length = (wAt s 0).size := rfl
    have : wLt s 0 = [] := List.length_eq_zero_iff.1 (by omega)
    rw [this]
    decide

/-- What is written is read back. -/
theorem parseO_back (p : Nat → Pt) (n : Nat) (hv : vC p n = true) (w : World) (hE : EnvO w) : Calls Tryz.prog 6 #[.string (fmtOB p n)] w (ListRet w 0 n p) := by
  obtain ⟨h3, h64, hin, _⟩ := vC_parts hv
  have e : fmtOB p n = ofB p n := by unfold fmtOB fmtO; rw [hv]; rfl
  obtain ⟨hw1, hw2⟩ := words_of p (show 0 < n by omega)
  have hz := ofB_size h64 hin (Nat.le_refl n)
  have ho : ∀ k, k < n → wOk (wLt (ofB p n) k) = true ∧ wPt (wLt (ofB p n) k) = p k := fun k hk => by
    rw [hw2 k hk]
    have := pt_ok (inAll_at' hin hk)
    exact ⟨this.1, this.2.1⟩
  have hb : cdB (wLt (ofB p n)) (cntW (ofB p n)) (ofB p n).data.toList = true := by
    unfold cdB fmtO
    rw [hw1, allTo_iff.2 fun k hk => (ho k hk).1, vC_congr (q := p) fun k hk => (ho k hk).2, ofL_congr (q := p) fun k hk => (ho k hk).2, hv, if_pos rfl]
    exact decide_eq_true rfl
  rw [e]
  refine (parse_any (ofB p n) w (by omega) hE).mono fun e w' h => ?_
  rw [hb, hw1] at h
  rcases h with ⟨_, A, c, rfl, g1, g2, g3, g4⟩ | ⟨h, _⟩
  · exact ⟨A, c, rfl, g1, g2, has_congr (fun k hk => (ho k hk).2) g3, g4⟩
  · cases h

theorem sameB_refl (n : Nat) (p : Nat → Pt) : sameB n n p p = true := by
  unfold sameB
  rw [decide_eq_true rfl, Bool.true_and]
  exact allTo_iff.2 fun k _ => decide_eq_true rfl
theorem below_new {w : World} (o : Obj) : Below w.heap.size w (w.alloc o) := (Below.refl _ _).alloc (Nat.le_refl _) o

end Go.Proofs.YtmnaginofingoaaGreatDoor.Outl
