/- Cases without a limit, level by level, as lists; no statement is proved here. -/
import Derived.Test.YtcifmmdfjglbnaaDoorCaClosM
namespace Go.Proofs.YtcifmmdfjglbnaaDoor
open Go.ChangeShapes Go.WideShapes Go.ChangeAt Go.RowKit

/-- The steps that may follow, whatever the number of steps. -/
def nyF (ct la lm : Int) : List Nat :=
  if ct = 0 then [0] else if 2 ≤ lm then [1] else if la = 0 ∨ la = 4 then [1, 2, 5] else if la = 1 then [2] else if la = 2 then [3, 4] else if la = 3 then [5] else []
theorem nyF_is {ct la lm : Int} (h : ct < 100) : nxF ct la lm = nyF ct la lm := by
  unfold nxF nyF
  by_cases h0 : ct = 0
  · rw [if_pos h0, if_pos h0]
  · rw [if_neg h0, if_neg h0, if_neg (by omega)]
theorem nyF_lt {ct la lm : Int} : ∀ x ∈ nyF ct la lm, x < 6 := by
  intro x hx
  unfold nyF at hx
  repeat' split at hx
  all_goals (first | (simp at hx; done) | (simp at hx; omega))
theorem nyF_len (ct la lm : Int) : (nyF ct la lm).length ≤ 3 := by
  unfold nyF
  repeat' split
  all_goals simp
/-- The members below six, in order: the list itself. -/
theorem nyF_all (ct la lm : Int) : (List.range 6).filter (fun j => decide (j ∈ nyF ct la lm)) = nyF ct la lm := by
  unfold nyF
  repeat' split
  all_goals decide
/-- What a case has come to, whatever its length. -/
def cyF (q : Nat → ByteArray) : Nat → Option (Int × Int × Int)
  | 0 => some (0, 0, 0)
  | k + 1 => match cyF q k with
    | none => none
    | some (ct, la, lm) => if ixF (fun k' => decide (wdS (ilq (nyF ct la lm) k') = q k)) (nyF ct la lm).length = -1 then none else some (ct + 1, ((ilq (nyF ct la lm) (ixF (fun k' => decide (wdS (ilq (nyF ct la lm) k') = q k)) (nyF ct la lm).length).toNat : Nat) : Int), lmF lm (ilq (nyF ct la lm) (ixF (fun k' => decide (wdS (ilq (nyF ct la lm) k') = q k)) (nyF ct la lm).length).toNat))
theorem cyF_congr {q r : Nat → ByteArray} : ∀ {n : Nat}, (∀ k, k < n → q k = r k) → cyF q n = cyF r n
  | 0, _ => rfl
  | n + 1, h => by
    unfold cyF
    rw [cyF_congr fun k hk => h k (by omega), h n (by omega)]
theorem cyF_ct {q : Nat → ByteArray} : ∀ {n : Nat} {ct la lm : Int}, cyF q n = some (ct, la, lm) → ct = n ∧ 0 ≤ lm ∧ lm ≤ n
  | 0, ct, la, lm, h => by simp [cyF] at h; omega
  | n + 1, ct, la, lm, h => by
    unfold cyF at h
    cases h1 : cyF q n with
    | none => rw [h1] at h; simp at h
    | some st =>
      obtain ⟨c1, l1, m1⟩ := st
      rw [h1] at h
      obtain ⟨h2, h3, h4⟩ := cyF_ct h1
      simp only at h
      split at h
      · cases h
      · simp only [Option.some.injEq, Prod.mk.injEq] at h
        obtain ⟨rfl, _, rfl⟩ := h
        unfold lmF
        split
        · omega
        · split <;> omega
theorem csF_cy {q : Nat → ByteArray} : ∀ {n : Nat}, n ≤ 100 → csF q n = cyF q n
  | 0, _ => rfl
  | n + 1, h => by
    have h1 := csF_cy (q := q) (n := n) (by omega)
    unfold csF cyF
    rw [h1]
    cases h2 : cyF q n with
    | none => rfl
    | some st =>
      obtain ⟨ct, la, lm⟩ := st
      have h3 := (cyF_ct h2).1
      simp only
      unfold siF
      rw [nyF_is (show ct < 100 by omega)]
/-- One step more. -/
theorem cyF_next {q : Nat → ByteArray} {n : Nat} {ct la lm : Int} (h : cyF q n = some (ct, la, lm)) : (∃ s, s ∈ nyF ct la lm ∧ q n = wdS s ∧ cyF q (n + 1) = some (ct + 1, (s : Int), lmF lm s)) ∨ (cyF q (n + 1) = none ∧ ∀ s, s ∈ nyF ct la lm → q n ≠ wdS s) := by
  have hs : cyF q (n + 1) = if ixF (fun k' => decide (wdS (ilq (nyF ct la lm) k') = q n)) (nyF ct la lm).length = -1 then none else some (ct + 1, ((ilq (nyF ct la lm) (ixF (fun k' => decide (wdS (ilq (nyF ct la lm) k') = q n)) (nyF ct la lm).length).toNat : Nat) : Int), lmF lm (ilq (nyF ct la lm) (ixF (fun k' => decide (wdS (ilq (nyF ct la lm) k') = q n)) (nyF ct la lm).length).toNat)) := by
    show (match cyF q n with | none => none | some (ct, la, lm) => _) = _
    rw [h]
  rcases ixF_cases (fun k' => decide (wdS (ilq (nyF ct la lm) k') = q n)) (nyF ct la lm).length with ⟨h1, h2⟩ | ⟨j, h1, h2, h3, _⟩
  · refine .inr ⟨by rw [hs, if_pos h1], fun s hm he => ?_⟩
    obtain ⟨k, hk, hke⟩ := List.mem_iff_getElem.1 hm
    have h4 := h2 k hk
    have h5 : ilq (nyF ct la lm) k = s := by unfold ilq; rw [List.getElem?_eq_getElem hk, hke]; rfl
    simp [h5, he] at h4
  · refine .inl ⟨ilq (nyF ct la lm) j, ilq_mem h1, (of_decide_eq_true h3).symm, ?_⟩
    rw [hs, h2, if_neg (by omega), Int.toNat_natCast]
theorem cyF_prefix {q : Nat → ByteArray} {k : Nat} (h : cyF q k = none) : ∀ {n : Nat}, k ≤ n → cyF q n = none
  | 0, hk => by obtain rfl : k = 0 := by omega
                exact h
  | n + 1, hk => by
    rcases Nat.lt_or_ge n k with h1 | h1
    · obtain rfl : k = n + 1 := by omega
      exact h
    · have := cyF_prefix h h1
      simp [cyF, this]
/-- A step that may follow leads on. -/
theorem wdS_inj {a b : Nat} (ha : a < 6) (hb : b < 6) (h : wdS a = wdS b) : a = b := by
  rcases (show a = 0 ∨ a = 1 ∨ a = 2 ∨ a = 3 ∨ a = 4 ∨ a = 5 by omega) with rfl | rfl | rfl | rfl | rfl | rfl <;> rcases (show b = 0 ∨ b = 1 ∨ b = 2 ∨ b = 3 ∨ b = 4 ∨ b = 5 by omega) with rfl | rfl | rfl | rfl | rfl | rfl <;> first | rfl | (exact absurd h (by decide))
theorem cyF_step {q : Nat → ByteArray} {n : Nat} {ct la lm : Int} {s : Nat} (h : cyF q n = some (ct, la, lm)) (hs : s ∈ nyF ct la lm) (hq : q n = wdS s) : cyF q (n + 1) = some (ct + 1, (s : Int), lmF lm s) := by
  rcases cyF_next h with ⟨t, h1, h2, h3⟩ | ⟨_, h2⟩
  · obtain rfl := wdS_inj (nyF_lt _ h1) (nyF_lt _ hs) (h2.symm.trans hq)
    exact h3
  · exact absurd hq (h2 s hs)
/-- The last step and the lame ones of a case that was begun. -/
theorem cyF_wf {q : Nat → ByteArray} : ∀ {n : Nat} {ct la lm : Int}, cyF q n = some (ct, la, lm) → (n = 0 ∧ ct = 0 ∧ la = 0 ∧ lm = 0) ∨ ∃ (m s : Nat), n = m + 1 ∧ s < 6 ∧ la = (s : Int) ∧ q m = wdS s ∧ (2 ≤ lm → s = 4)
  | 0, ct, la, lm, h => by simp [cyF] at h; exact .inl ⟨rfl, by omega, by omega, by omega⟩
  | n + 1, ct, la, lm, h => by
    cases h1 : cyF q n with
    | none => have := cyF_prefix h1 (Nat.le_succ n); rw [this] at h; cases h
    | some st =>
      obtain ⟨c1, l1, m1⟩ := st
      rcases cyF_next h1 with ⟨s, h2, h3, h4⟩ | ⟨h2, _⟩
      · rw [h4] at h
        injection h with h
        injection h with e1 h
        injection h with e2 e3
        refine .inr ⟨n, s, rfl, nyF_lt _ h2, e2.symm, h3, fun hl => ?_⟩
        have hw := cyF_ct h1
        by_cases hm : 2 ≤ m1
        · rcases Int.lt_or_le 0 c1 with h5 | h5
          · have : nyF c1 l1 m1 = [1] := by unfold nyF; rw [if_neg (by omega), if_pos hm]
            rw [this] at h2
            simp at h2
            subst h2
            unfold lmF at e3
            simp at e3
            omega
          · omega
        · unfold lmF at e3
          split at e3
          · omega
          · split at e3
            · assumption
            · omega
      · rw [h2] at h; cases h

/-- A state and a list of steps behind it. -/
def ruS : Int × Int × Int → List Nat → Int × Int × Int
  | st, [] => st
  | (ct, _, lm), s :: t => ruS (ct + 1, (s : Int), lmF lm s) t
def nyS (st : Int × Int × Int) : List Nat := nyF st.1 st.2.1 st.2.2
def stS (st : Int × Int × Int) (s : Nat) : Int × Int × Int := (st.1 + 1, (s : Int), lmF st.2.2 s)
def clS (st : Int × Int × Int) : Bool := clB st.1 st.2.1
theorem ruS_cons (st : Int × Int × Int) (s : Nat) (t : List Nat) : ruS st (s :: t) = ruS (stS st s) t := rfl
theorem ruS_snoc : ∀ (w : List Nat) (st : Int × Int × Int) (s : Nat), ruS st (w ++ [s]) = stS (ruS st w) s
  | [], _, _ => rfl
  | a :: t, st, s => by rw [List.cons_append, ruS_cons, ruS_snoc t, ruS_cons]
/-- All lists of so many steps that may follow. -/
def lvS : Nat → Int × Int × Int → List (List Nat)
  | 0, _ => [[]]
  | d + 1, st => (nyS st).flatMap (fun s => (lvS d (stS st s)).map (s :: ·))
theorem lvS_len : ∀ {d : Nat} {st : Int × Int × Int} {w : List Nat}, w ∈ lvS d st → w.length = d
  | 0, _, w, h => by simp [lvS] at h; subst h; rfl
  | d + 1, st, w, h => by
    simp only [lvS, List.mem_flatMap, List.mem_map] at h
    obtain ⟨s, _, v, hv, rfl⟩ := h
    simp [lvS_len hv]
theorem lvS_next : ∀ (d : Nat) (st : Int × Int × Int), lvS (d + 1) st = (lvS d st).flatMap (fun w => (nyS (ruS st w)).map (fun s => w ++ [s]))
  | 0, st => by
    simp [lvS, ruS]
    exact List.map_eq_flatMap.symm
  | d + 1, st => by
    have h1 : lvS (d + 1 + 1) st = (nyS st).flatMap (fun s => (lvS (d + 1) (stS st s)).map (s :: ·)) := rfl
    have h2 : lvS (d + 1) st = (nyS st).flatMap (fun s => (lvS d (stS st s)).map (s :: ·)) := rfl
    rw [h1, h2, List.flatMap_assoc]
    congr 1
    funext s
    rw [lvS_next d, List.map_flatMap, List.flatMap_map]
    congr 1
    funext w
    rw [List.map_map, ruS_cons]
    rfl
/-- The first list of so many steps that closes, whatever the length. -/
def cfS (d : Nat) (st : Int × Int × Int) : Option (List Nat) := (lvS d st).find? (fun w => clS (ruS st w))
theorem clG_find (f : Nat → Option (List Nat)) (g : Nat → List (List Nat)) (p : Nat → List Nat → Bool) : ∀ l : List Nat, (∀ s, s ∈ l → f s = (g s).find? (p s)) → clG f l = (l.flatMap (fun s => (g s).map (s :: ·))).find? (fun w => match w with | [] => false | s :: t => p s t)
  | [], _ => rfl
  | s :: t, h => by
    have h1 := h s (by simp)
    have h2 := clG_find f g p t (fun a ha => h a (by simp [ha]))
    unfold clG
    rw [h1, List.flatMap_cons, List.find?_append, List.find?_map]
    have e : ((fun w : List Nat => match w with | [] => false | s :: t => p s t) ∘ fun x => s :: x) = p s := by funext x; rfl
    rw [e, ← h2]
    cases (g s).find? (p s) <;> rfl
theorem clF_find : ∀ (m : Nat) (ct la lm : Int), 0 ≤ ct → ct + m ≤ 100 → clF m ct la lm = cfS m (ct, la, lm)
  | 0, ct, la, lm, _, _ => by
    unfold clF cfS lvS
    by_cases h : clB ct la = true <;> simp [ruS, clS, h]
  | m + 1, ct, la, lm, h0, h => by
    have h1 : clF (m + 1) ct la lm = clG (fun s => clF m (ct + 1) (s : Int) (lmF lm s)) (nxF ct la lm) := rfl
    rw [h1, nyF_is (by omega), clG_find _ (fun s => lvS m (stS (ct, la, lm) s)) (fun s w => clS (ruS (stS (ct, la, lm) s) w)) _ (fun s _ => clF_find m (ct + 1) (s : Int) (lmF lm s) (by omega) (by omega))]
    unfold cfS
    show List.find? _ ((nyS (ct, la, lm)).flatMap _) = List.find? _ ((nyS (ct, la, lm)).flatMap _)
    have key : ∀ L : List (List Nat), (∀ w, w ∈ L → w ≠ []) → L.find? (fun w => match w with | [] => false | s :: t => clS (ruS (stS (ct, la, lm) s) t)) = L.find? (fun w => clS (ruS (ct, la, lm) w)) := fun L hL => by
      induction L with
      | nil => rfl
      | cons a t ih =>
        have ha := hL a (by simp)
        rw [List.find?_cons, List.find?_cons, ih fun w hw => hL w (by simp [hw])]
        cases a with
        | nil => exact absurd rfl ha
        | cons s v => rfl
    exact key _ fun w hw => by
      simp only [List.mem_flatMap, List.mem_map] at hw
      obtain ⟨s, _, v, _, rfl⟩ := hw
      simp
end Go.Proofs.YtcifmmdfjglbnaaDoor
