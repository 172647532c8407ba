/- Plain facts on a text's words, and the contracts of the library's readers of numbers at any word; no statement is proved here. -/
import Derived.Test.YtpgfiggnchaljaaDoorText2
import Derived.Lib.SmallJoins
import Derived.Laws.StructEq
namespace Go.Proofs.YtpgfiggnchaljaaDoor
open Go.ChangeShapes Go.WideShapes Go.ChangeAt Go.RowKit

theorem str_eq {a b : ByteArray} (h : a = b) : (a.toList == b.toList) = true := by subst h; simp
theorem str_ne {a b : ByteArray} (h : a ≠ b) : (a.toList == b.toList) = false := by
  rw [ByteArray.toList_eq, ByteArray.toList_eq]
  exact beq_eq_false_iff_ne.2 (fun e => h (ByteArray.ext (Array.toList_inj.1 e)))

def sp : ByteArray := ⟨#[32]⟩
def words (s : ByteArray) : List ByteArray := Lib.splitB ⟨#[32]⟩ 0 (Lib.countB s ⟨#[32]⟩) s

theorem piece_le (sep : List UInt8) : ∀ (k : Nat) (s : List UInt8) (x : List UInt8), x ∈ Lib.splitK sep 0 k s → x.length ≤ s.length
  | 0, s, x, h => by simp [Lib.splitK] at h; simp [h]
  | k + 1, s, x, h => by
    unfold Lib.splitK at h
    split at h
    · simp at h; simp [h]
    · rcases List.mem_cons.1 h with h | h
      · subst h; simp; omega
      · have := piece_le sep k _ x h
        simp at this; omega

theorem word_le (s x : ByteArray) (k : Nat) (h : x ∈ Lib.splitB ⟨#[32]⟩ 0 k s) : x.size ≤ s.size := by
  have h1 : x.data.toList ∈ (Lib.splitB ⟨#[32]⟩ 0 k s).map (·.data.toList) := List.mem_map.2 ⟨x, h, rfl⟩
  rw [Lib.splitB_data] at h1
  exact piece_le _ _ _ _ h1

/-- Four words. -/
theorem four_words (s : ByteArray) (h : Lib.countB s ⟨#[32]⟩ = 3) : ∃ x0 x1 x2 x3, Lib.splitB ⟨#[32]⟩ 0 3 s = [x0, x1, x2, x3] ∧ x0.size ≤ s.size ∧ x1.size ≤ s.size ∧ x2.size ≤ s.size ∧ x3.size ≤ s.size := by
  have hl := Lib.splitB_all ⟨#[32]⟩ (by decide) 0 3 s h
  have hw := word_le s
  generalize hx : Lib.splitB ⟨#[32]⟩ 0 3 s = l at hl
  match l, hl with
  | [x0, x1, x2, x3], _ => exact ⟨x0, x1, x2, x3, rfl, hw _ 3 (by simp [hx]), hw _ 3 (by simp [hx]), hw _ 3 (by simp [hx]), hw _ 3 (by simp [hx])⟩

theorem bytes_ext {x : ByteArray} {l : List UInt8} (h : x.data.toList = l) : x = ⟨l.toArray⟩ := by
  apply ByteArray.ext
  simp [← h]

theorem no32 (n : Int) : (32 : UInt8) ∉ Lib.itoa n := itoa_no n 32 (by decide) (by decide)

theorem fmt_words (a b c d : Int) : Lib.countB (fmtB a b c d) ⟨#[32]⟩ = 3 ∧ Lib.splitB ⟨#[32]⟩ 0 3 (fmtB a b c d) = [numB a, numB b, numB c, numB d] := by
  have h := split_join 32 [Lib.itoa b, Lib.itoa c, Lib.itoa d] (Lib.itoa a) (no32 a) (by
    intro x hx
    simp at hx
    rcases hx with rfl | rfl | rfl <;> exact no32 _)
  have hc := count_words 32 [Lib.itoa b, Lib.itoa c, Lib.itoa d] (Lib.itoa a) (no32 a) (by
    intro x hx
    simp at hx
    rcases hx with rfl | rfl | rfl <;> exact no32 _)
  have hd := Lib.splitB_data ⟨#[32]⟩ 0 3 (fmtB a b c d)
  have e : (fmtB a b c d).data.toList = Lib.join [Lib.itoa a, Lib.itoa b, Lib.itoa c, Lib.itoa d] [32] := rfl
  rw [e] at hd
  rw [show Lib.splitK (ByteArray.mk #[32]).data.toList 0 3 _ = _ from h.1] at hd
  refine ⟨hc, ?_⟩
  generalize Lib.splitB ⟨#[32]⟩ 0 3 (fmtB a b c d) = l at hd
  have hl : l.length = 4 := by have := congrArg List.length hd; simpa using this
  match l, hl with
  | [x0, x1, x2, x3], _ =>
    simp only [List.map_cons, List.map_nil, List.cons.injEq, and_true] at hd
    obtain ⟨h0, h1, h2, h3⟩ := hd
    have e0 : x0 = numB a := bytes_ext h0
    have e1 : x1 = numB b := bytes_ext h1
    have e2 : x2 = numB c := bytes_ext h2
    have e3 : x3 = numB d := bytes_ext h3
    rw [e0, e1, e2, e3]

/-- What is read of a word, and whether it is one. -/
def av (x : ByteArray) : Int := match Lib.atoiAll x.data.toList with
  | .ok v => v
  | .range => Lib.atoiSat x.data.toList
  | _ => 0
def pv (x : ByteArray) : Int := match Lib.parseIntB 32 x.data.toList with
  | .ok v => v
  | .range => Lib.intSat 32 x.data.toList
  | _ => 0
def pok (x : ByteArray) : Bool := match Lib.parseIntB 32 x.data.toList with
  | .ok _ => true
  | _ => false

theorem av_num (n : Int) (h0 : 0 ≤ n) (h1 : n ≤ 500000000) : av (numB n) = n := by
  have : Lib.atoiAll (numB n).data.toList = .ok n := atoiAll_itoa n (by omega) (by omega)
  simp [av, this]
theorem pv_num (n : Int) (h0 : 0 ≤ n) (h1 : n ≤ 500000000) : pv (numB n) = n ∧ pok (numB n) = true := by
  have : Lib.parseIntB 32 (numB n).data.toList = .ok n := parseIntB_itoa 32 (by omega) (by decide) n (by omega) (by omega)
  simp [pv, pok, this]

theorem atoi_any (x : ByteArray) (w : World) (hx : x.size ≤ 300) (hE : Env w) :
    Calls Tryd.prog 84 #[.string x] w fun e w' => ∃ er, e = .returned (.tuple #[.int .i64 (av x), er]) ∧ Below w.heap.size w w' := by
  obtain ⟨tp, p, hv⟩ := hE.syn
  obtain ⟨tq, q, hr⟩ := hE.ran
  rcases h : Lib.atoiAll x.data.toList with v | _ | _
  · refine (Tryd.strconv_Atoi_ok x (by omega) v h w).mono ?_
    rintro e w' ⟨rfl, hw⟩
    refine ⟨.nilIface, by simp [av, h], ?_⟩
    rcases hw with rfl | ⟨t, rfl⟩
    · exact Below.refl _ _
    · exact Joins.below_bytesWorld _ _ _ _ (Nat.le_refl _)
  · refine (Tryd.strconv_Atoi_syntax_var x (by omega) h tp p w hv).mono ?_
    rintro e w' ⟨N, rfl, _, _, hb⟩
    exact ⟨_, by simp [av, h]; rfl, hb⟩
  · refine (Tryd.strconv_Atoi_range_var x (by omega) h tq q w hr).mono ?_
    rintro e w' ⟨N, rfl, _, _, hb⟩
    exact ⟨_, by simp [av, h]; rfl, hb⟩

theorem parseInt_ok (x : ByteArray) (w : World) (hx : x.size ≤ 300) (h1 : pok x = true) :
    Calls Tryd.prog 83 #[.string x, .int .i64 10, .int .i64 32] w fun e w' => e = .returned (.tuple #[.int .i64 (pv x), .nilIface]) ∧ Below w.heap.size w w' := by
  rcases h : Lib.parseIntB 32 x.data.toList with v | _ | _
  · refine (Tryd.strconv_ParseInt_10_at32_ok x (by omega) v h w).mono ?_
    rintro e w' ⟨rfl, hw⟩
    refine ⟨by simp [pv, h], ?_⟩
    rcases hw with rfl | ⟨t, rfl⟩
    · exact Below.refl _ _
    · exact Joins.below_bytesWorld _ _ _ _ (Nat.le_refl _)
  · simp [pok, h] at h1
  · simp [pok, h] at h1

theorem parseInt_bad (x : ByteArray) (w : World) (hx : x.size ≤ 300) (h1 : pok x = false) (hE : Env w) :
    Calls Tryd.prog 83 #[.string x, .int .i64 10, .int .i64 32] w fun e w' => ∃ tp p, e = .returned (.tuple #[.int .i64 (pv x), .iface tp p]) ∧ Below w.heap.size w w' := by
  obtain ⟨tp, p, hv⟩ := hE.syn
  obtain ⟨tq, q, hr⟩ := hE.ran
  rcases h : Lib.parseIntB 32 x.data.toList with v | _ | _
  · simp [pok, h] at h1
  · refine (Tryd.strconv_ParseInt_10_at32_syntax_var x (by omega) h tp p w hv).mono ?_
    rintro e w' ⟨N, rfl, _, _, hb⟩
    exact ⟨_, _, by simp [pv, h]; exact ⟨rfl, rfl⟩, hb⟩
  · refine (Tryd.strconv_ParseInt_10_at32_range_var x (by omega) h tq q w hr).mono ?_
    rintro e w' ⟨N, rfl, _, _, hb⟩
    exact ⟨_, _, by simp [pv, h]; exact ⟨rfl, rfl⟩, hb⟩

/-- Four words in memory, and four numbers that are filled in. -/
structure PS (W : World) (R A B : Nat) (xs : Nat → ByteArray) (tA : TypeId) (vs : Nat → Int) (w : World) : Prop where
  low : Below W.heap.size W w
  lt : W.heap.size ≤ R ∧ W.heap.size ≤ A ∧ W.heap.size ≤ B ∧ R < w.heap.size ∧ A < w.heap.size ∧ B < w.heap.size ∧ A ≠ R ∧ A ≠ B
  res : w.heap[R]? = some (.cells #[.int .i64 0, .int .i64 0, .int .i64 0, .int .i64 0] 23)
  txt : w.heap[B]? = some (.cells #[.string (xs 0), .string (xs 1), .string (xs 2), .string (xs 3)] 9)
  arr : w.heap[A]? = some (.cells #[.int .i64 (vs 0), .int .i64 (vs 1), .int .i64 (vs 2), .int .i64 (vs 3)] tA)

theorem PS.later {W w w' : World} {R A B : Nat} {xs : Nat → ByteArray} {tA : TypeId} {vs : Nat → Int} (h : PS W R A B xs tA vs w) (hb : Below w.heap.size w w') : PS W R A B xs tA vs w' := by
  obtain ⟨l1, l2, l3, l4, l5, l6, l7, l8⟩ := h.lt
  have := hb.size
  exact ⟨bthen h.low hb, ⟨l1, l2, l3, by omega, by omega, by omega, l7, l8⟩, by rw [hb.block R l4]; exact h.res, by rw [hb.block B l6]; exact h.txt, by rw [hb.block A l5]; exact h.arr⟩

def setN (vs : Nat → Int) (k : Nat) (v : Int) : Nat → Int := fun j => if j = k then v else vs j

theorem heap_setCell_ne {w : World} {k j o : Nat} (v : Value) (h : k ≠ j) : (w.setCell ⟨k, o, none⟩ v).heap[j]? = w.heap[j]? := by
  show (w.heap.modify k _)[j]? = _
  simp [Array.getElem?_modify, h]

theorem PS.set {W w : World} {R A B : Nat} {xs : Nat → ByteArray} {tA : TypeId} {vs : Nat → Int} (h : PS W R A B xs tA vs w) (k : Nat) (hk : k < 4) (v : Int) : PS W R A B xs tA (setN vs k v) (w.setCell ⟨A, k, none⟩ (.int .i64 v)) := by
  obtain ⟨l1, l2, l3, l4, l5, l6, l7, l8⟩ := h.lt
  have hs : (w.setCell ⟨A, k, none⟩ (.int .i64 v)).heap.size = w.heap.size := by
    show (w.heap.modify A _).size = _
    simp
  refine ⟨h.low.setCell (p := ⟨A, k, none⟩) l2 _, ⟨l1, l2, l3, by omega, by omega, by omega, l7, l8⟩, ?_, ?_, ?_⟩
  · rw [heap_setCell_ne _ l7]; exact h.res
  · rw [heap_setCell_ne _ l8]; exact h.txt
  · rw [heap_setCell_at h.arr]
    rcases (show k = 0 ∨ k = 1 ∨ k = 2 ∨ k = 3 by omega) with rfl | rfl | rfl | rfl <;> simp [setN]
end Go.Proofs.YtpgfiggnchaljaaDoor
