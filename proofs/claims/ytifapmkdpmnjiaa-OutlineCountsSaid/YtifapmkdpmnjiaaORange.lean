/- A range over a function that keeps no state of its own: one law for the caller's loop, one for a loop in the round of another. No statement is proved here. -/
import Derived.Test.YtifapmkdpmnjiaaORound
namespace Go.Proofs.Ytifapmkdpmnjiaa
open Go.ChangeShapes Go.WideShapes Go.ChangeAt Go.RowKit Go.Shelf

section
variable {F : Fence} {n : Nat} {P : Program}

/-- Blocks from B on, as far as they were there, are as they were. -/
def StaysFrom (B : Nat) (W W' : World) : Prop := W.heap.size ≤ W'.heap.size ∧ ∀ b, B ≤ b → b < W.heap.size → W'.heap[b]? = W.heap[b]?

theorem StaysFrom.refl (B : Nat) (W : World) : StaysFrom B W W := ⟨Nat.le_refl _, fun _ _ _ => rfl⟩
theorem StaysFrom.trans {B : Nat} {W W1 W2 : World} (h : StaysFrom B W W1) (k : StaysFrom B W1 W2) : StaysFrom B W W2 :=
  ⟨Nat.le_trans h.1 k.1, fun b hB hb => (k.2 b hB (Nat.lt_of_lt_of_le hb h.1)).trans (h.2 b hB hb)⟩
theorem StaysFrom.mono {B B' : Nat} {W W1 : World} (h : StaysFrom B W W1) (hB : B ≤ B') : StaysFrom B' W W1 := ⟨h.1, fun b h1 h2 => h.2 b (Nat.le_trans hB h1) h2⟩
theorem StaysFrom.of_below {B : Nat} {W W' : World} (h : Below W.heap.size W W') : StaysFrom B W W' := ⟨h.size, fun b _ hb => h.block b hb⟩
theorem StaysFrom.setCell {B : Nat} (W : World) {p : Addr} (hp : p.block < B) (u : Value) : StaysFrom B W (W.setCell p u) :=
  ⟨by simp [World.setCell], fun b hB _ => Below.heap_setCell _ _ _ _ (by omega)⟩

/-- How a round's body may be left. -/
def roundE (B : Nat) (I X : World → Prop) (W : World) : Exit → Act → World → Prop
  | .normal, _, W' => StaysFrom B W W' ∧ I W'
  | .ret, _, W' => StaysFrom B W W' ∧ X W'
  | _, _, _ => False

/-- What a step of the machine's own, and of the iterator's, leaves of the blocks below B. -/
structure Calm (B : Nat) (W W' : World) : Prop where
  os : W'.os = W.os
  tape : W'.tape = W.tape
  output : W'.output = W.output
  size : W.heap.size ≤ W'.heap.size
  block : ∀ b, b < B → W'.heap[b]? = W.heap[b]?

theorem Calm.of_below {B : Nat} {W W' : World} (h : Below W.heap.size W W') (hB : B ≤ W.heap.size) : Calm B W W' := ⟨h.os, h.tape, h.output, h.size, fun b hb => h.block b (by omega)⟩
theorem Calm.putObj {B : Nat} (W : World) {l : Nat} (o : Obj) (h : B ≤ l) : Calm B W (W.putObj l o) := ⟨rfl, rfl, rfl, by simp, fun b hb => World.putObj_heap_other (by omega)⟩

/-- The call of an iterator that keeps no state, whatever the loop keeps. -/
def IterE (F : Fence) (n : Nat) (P : Program) (gf : Nat) (lb : Array Value) (encs : Nat → Array Value) (M : Nat) (Rd : World → Prop) : Prop :=
  ∀ (l : Nat) (J : Nat → World → Prop) (Y : World → Prop) (W1 : World),
    (∀ k W W', J k W → Below W.heap.size W W' → J k W') → (∀ k W, J k W → Rd W) →
    (∀ k W, k ≤ M → J k W → YieldAt F (n - 1) P l (encs k) W fun e W' => (e = .returned (.bool true) ∧ J (k + 1) W') ∨ (e = .returned (.bool false) ∧ Y W')) →
    J 0 W1 → CallsIn F n P gf (#[.func (.yield l) #[] #[]] ++ lb) W1 fun e W' => (∃ v, e = .returned v) ∧ (J (M + 1) W' ∨ Y W')

theorem IterE.inRound {gf : Nat} {lb : Array Value} {encs : Nat → Array Value} {M : Nat} {Rd : World → Prop} (l : Nat) (h : IterE F n P gf lb encs M Rd) : IterE (F.inRound l) n P gf lb encs M Rd := h

/-- A range over a function. -/
theorem range_E {g : Operand} {ps : Array Tmp} {assign body : Code} {Q : Exit → Act → World → Prop} {a : Act} {w : World} {Rd : World → Prop} (hro : F.round = none) (h1 : 1 ≤ n)
    {gf : Nat} {lb : Array Value} (hg : a.eval g = .func (.func gf) #[] lb) (hFg : F.fn gf) (eg : ∀ args w, (callFunc gf args).run P w = .ok (.enter gf args) w)
    (encs : Nat → Array Value) (M : Nat) (hps : ∀ k, (encs k).size = ps.size) (I : Nat → World → Prop) (X : World → Prop)
    (hI : ∀ k W W', I k W → Calm w.heap.size W W' → I k W') (hX : ∀ W W', X W → Calm w.heap.size W W' → X W') (hIw : ∀ k W, I k W → Rd W)
    (hit : IterE F (n - 1) P gf lb encs M Rd) (h0 : I 0 w)
    (hround : ∀ (l k : Nat) (W : World), k ≤ M → I k W → w.heap.size ≤ l → l < W.heap.size →
      assign.wpIn (F.inRound l) (n - 1 - 1) P (Exit.then (fun a₁ W₁ => StaysFrom w.heap.size W W₁ ∧ I k W₁ ∧ ∀ o, I k (W₁.putObj l (.loop o)) → (W₁.putObj l (.loop o)).heap[l]? = some (.loop o) → body.wpIn (F.inRound l) (n - 1 - 1) P (roundE w.heap.size (I (k + 1)) X (W₁.putObj l (.loop o))) a₁ (W₁.putObj l (.loop o))) (fun _ _ _ => False))
        { tmps := (ps.zip (encs k)).foldl (fun t (p, v) => t.setIfInBounds p v) a.tmps, defers := [] } W)
    (hdone : ∀ (D : Nat) (W : World), w.heap.size ≤ D → I (M + 1) W → W.heap[D]? = some (.deferred (some [])) → Q .normal { a with defers := { target := .collected D, args := #[] } :: a.defers } W)
    (hstop : ∀ (D : Nat) (W : World), w.heap.size ≤ D → X W → W.heap[D]? = some (.deferred (some [])) → Code.ret.wpIn F n P Q { a with defers := { target := .collected D, args := #[] } :: a.defers } W) :
    (Code.rangeFunc g ps assign body).wpIn F n P Q a w := by
  refine wpIn_rangeFunc fun fn hfn => ?_
  rw [hro]
  let rec0 : Loop := { state := .ready, pending := none, fn, tmps := a.tmps, params := ps, assign, body, defers := w.heap.size }
  obtain ⟨W1, hW1⟩ : ∃ W1, (w.alloc (.deferred (some []))).alloc (.loop rec0) = W1 := ⟨_, rfl⟩
  have s1 : W1.heap.size = w.heap.size + 2 := by rw [← hW1]; simp
  have hL1 : W1.heap[w.heap.size + 1]? = some (.loop rec0) := by
    rw [← hW1]; have := World.alloc_heap_new (w.alloc (.deferred (some []))) (.loop rec0); rwa [World.size_alloc] at this
  have hD1 : W1.heap[w.heap.size]? = some (.deferred (some [])) := by
    rw [← hW1]; exact (Below.heap_alloc _ _ _ (by simp)).trans (World.alloc_heap_new w _)
  have hI1 : I 0 W1 := by rw [← hW1]; exact hI 0 w _ h0 (Calm.of_below (((Below.refl _ _).alloc (Nat.le_refl _) _).alloc (by simp) _) (Nat.le_refl _))
  refine ⟨w.heap.size + 1, [{ target := .collected w.heap.size, args := #[] }], W1, { target := .fn (.func gf) lb, args := #[.func (.yield (w.heap.size + 1)) #[] #[]] }, W1, gf,
    #[.func (.yield (w.heap.size + 1)) #[] #[]] ++ lb, W1, ?_, ?_, ?_, ?_, fun _ => h1, ?_⟩
  · rw [← hW1]; exact run_enterLoop_outer _ _ _ _ _
  · simp only [resolve, hg]
    simp [go_sem]
  · intro f' hf'; simp [Target.leads] at hf'; subst hf'; exact hFg
  · simp [invoke, go_sem, eg]
  let J : Nat → World → Prop := fun k W => I k W ∧ W.heap[w.heap.size + 1]? = some (.loop rec0) ∧ W.heap[w.heap.size]? = some (.deferred (some []))
  let Y : World → Prop := fun W => X W ∧ W.heap[w.heap.size + 1]? = some (.loop { rec0 with state := .done, pending := some .ret }) ∧ W.heap[w.heap.size]? = some (.deferred (some []))
  have lt1 : ∀ {W : World} {o : Obj}, W.heap[w.heap.size + 1]? = some o → w.heap.size + 1 < W.heap.size := fun h => (Array.getElem?_eq_some_iff.1 h).1
  refine (hit (w.heap.size + 1) J Y W1 (fun k W W' h hs => ⟨hI k W W' h.1 (Calm.of_below hs (by have := lt1 h.2.1; omega)), (hs.block _ (lt1 h.2.1)).trans h.2.1, (hs.block _ (by have := lt1 h.2.1; omega)).trans h.2.2⟩) (fun k W h => hIw k W h.1) ?_ ⟨hI1, hL1, hD1⟩).mono ?_
  · rintro k W hk ⟨hi, hl, hd⟩
    have hlt := lt1 hl
    refine ⟨fn, _, assign, body, run_yield (P := P) (args := encs k) hl (hps k), roundIn_of_wpIn hfn (wpIn_mono (hround (w.heap.size + 1) k W hk hi (by omega) hlt) ?_)⟩
    intro e a₁ W2 hp
    cases e with
    | normal =>
      obtain ⟨hs0, hi0, hb⟩ := hp
      have hl := (hs0.2 (w.heap.size + 1) (by omega) hlt).trans hl
      have hd := (hs0.2 w.heap.size (Nat.le_refl _) (by omega)).trans hd
      have hlt := lt1 hl
      have hbusy := run_beginRound (P := P) hl rfl
      refine ⟨_, hbusy, ?_⟩
      have hl2 : (W2.putObj (w.heap.size + 1) (.loop { rec0 with state := .busy })).heap[w.heap.size + 1]? = some (.loop { rec0 with state := .busy }) := World.putObj_heap_same hlt
      have hd2 : (W2.putObj (w.heap.size + 1) (.loop { rec0 with state := .busy })).heap[w.heap.size]? = some (.deferred (some [])) := (World.putObj_heap_other (by omega)).trans hd
      refine wpIn_mono (hb _ (hI k _ _ hi0 (Calm.putObj _ _ (by omega))) hl2) ?_
      intro e a₃ W3 hp
      have fin : ∀ (jump : Option Code), StaysFrom w.heap.size (W2.putObj (w.heap.size + 1) (.loop { rec0 with state := .busy })) W3 →
          (Instr.endRound (w.heap.size + 1) jump).run P W3 = .ok (.bool jump.isNone) (W3.putObj (w.heap.size + 1) (.loop { rec0 with state := if jump.isNone then .ready else .done, pending := jump })) ∧
          (W3.putObj (w.heap.size + 1) (.loop { rec0 with state := if jump.isNone then .ready else .done, pending := jump })).heap[w.heap.size + 1]? = some (.loop { rec0 with state := if jump.isNone then .ready else .done, pending := jump }) ∧
          (W3.putObj (w.heap.size + 1) (.loop { rec0 with state := if jump.isNone then .ready else .done, pending := jump })).heap[w.heap.size]? = some (.deferred (some [])) := fun jump hs => by
        have hl3 := (hs.2 (w.heap.size + 1) (by omega) (by simp; omega)).trans hl2
        have hd3 := (hs.2 w.heap.size (Nat.le_refl _) (by simp; omega)).trans hd2
        exact ⟨run_endRound (P := P) (r := { rec0 with state := .busy }) jump hl3, World.putObj_heap_same (lt1 hl3), (World.putObj_heap_other (by omega)).trans hd3⟩
      cases e with
      | normal =>
        obtain ⟨hs, hi3⟩ := hp
        obtain ⟨f1, f2, f3⟩ := fin none hs
        exact ⟨_, _, f1, .inl ⟨rfl, hI _ _ _ hi3 (Calm.putObj _ _ (by omega)), f2, f3⟩⟩
      | ret =>
        obtain ⟨hs, hx3⟩ := hp
        obtain ⟨f1, f2, f3⟩ := fin (some .ret) hs
        exact ⟨_, _, f1, .inr ⟨rfl, hX _ _ hx3 (Calm.putObj _ _ (by omega)), f2, f3⟩⟩
      | exit id => exact hp.elim
      | goto t => exact hp.elim
      | panic ch => exact hp.elim
      | outgrown => exact hp.elim
    | exit id => exact hp.elim
    | goto t => exact hp.elim
    | ret => exact hp.elim
    | panic ch => exact hp.elim
    | outgrown => exact hp.elim
  · rintro e W2 ⟨⟨v, rfl⟩, (⟨hi, hl, hd⟩ | ⟨hx, hl, hd⟩)⟩
    · exact ⟨none, _, run_endLoop (P := P) hl (by simp [rec0]), hdone _ _ (Nat.le_refl _) (hI _ _ _ hi (Calm.putObj _ _ (by omega))) ((World.putObj_heap_other (by omega)).trans hd)⟩
    · exact ⟨some .ret, _, run_endLoop (P := P) hl (by simp), hstop _ _ (Nat.le_refl _) (hX _ _ hx (Calm.putObj _ _ (by omega))) ((World.putObj_heap_other (by omega)).trans hd)⟩

/-- A range over a function in the round of another. -/
theorem range_EN {g : Operand} {ps : Array Tmp} {assign body : Code} {Q : Exit → Act → World → Prop} {a : Act} {w : World} {Rd : World → Prop} {l₀ : Nat} {r₀ : Loop} (hro : F.round = some l₀) (hl₀ : w.heap[l₀]? = some (.loop r₀)) (h1 : 1 ≤ n)
    {gf : Nat} {lb : Array Value} (hg : a.eval g = .func (.func gf) #[] lb) (hFg : F.fn gf) (eg : ∀ args w, (callFunc gf args).run P w = .ok (.enter gf args) w)
    (encs : Nat → Array Value) (M : Nat) (hps : ∀ k, (encs k).size = ps.size) (I : Nat → World → Prop) (X : World → Prop)
    (hI : ∀ k W W', I k W → Calm w.heap.size W W' → I k W') (hX : ∀ W W', X W → Calm w.heap.size W W' → X W') (hIw : ∀ k W, I k W → Rd W)
    (hit : IterE F (n - 1) P gf lb encs M Rd) (h0 : I 0 w)
    (hround : ∀ (l k : Nat) (W : World), k ≤ M → I k W → w.heap.size ≤ l → l < W.heap.size →
      assign.wpIn (F.inRound l) (n - 1 - 1) P (Exit.then (fun a₁ W₁ => StaysFrom w.heap.size W W₁ ∧ I k W₁ ∧ ∀ o, I k (W₁.putObj l (.loop o)) → (W₁.putObj l (.loop o)).heap[l]? = some (.loop o) → body.wpIn (F.inRound l) (n - 1 - 1) P (roundE w.heap.size (I (k + 1)) X (W₁.putObj l (.loop o))) a₁ (W₁.putObj l (.loop o))) (fun _ _ _ => False))
        { tmps := (ps.zip (encs k)).foldl (fun t (p, v) => t.setIfInBounds p v) a.tmps, defers := [] } W)
    (hdone : ∀ (W : World), I (M + 1) W → Q .normal a W)
    (hstop : ∀ (W : World), X W → Code.ret.wpIn F n P Q a W) :
    (Code.rangeFunc g ps assign body).wpIn F n P Q a w := by
  refine wpIn_rangeFunc fun fn hfn => ?_
  rw [hro]
  let rec0 : Loop := { state := .ready, pending := none, fn, tmps := a.tmps, params := ps, assign, body, defers := r₀.defers }
  obtain ⟨W1, hW1⟩ : ∃ W1, w.alloc (.loop rec0) = W1 := ⟨_, rfl⟩
  have s1 : W1.heap.size = w.heap.size + 1 := by rw [← hW1]; simp
  have hL1 : W1.heap[w.heap.size]? = some (.loop rec0) := by rw [← hW1]; exact World.alloc_heap_new w _
  have hI1 : I 0 W1 := by rw [← hW1]; exact hI 0 w _ h0 (Calm.of_below ((Below.refl _ _).alloc (Nat.le_refl _) _) (Nat.le_refl _))
  refine ⟨w.heap.size, [], W1, { target := .fn (.func gf) lb, args := #[.func (.yield w.heap.size) #[] #[]] }, W1, gf,
    #[.func (.yield w.heap.size) #[] #[]] ++ lb, W1, ?_, ?_, ?_, ?_, fun _ => h1, ?_⟩
  · rw [← hW1]; exact run_enterLoop_inner hl₀ _ _ _ _ _
  · simp only [resolve, hg]
    simp [go_sem]
  · intro f' hf'; simp [Target.leads] at hf'; subst hf'; exact hFg
  · simp [invoke, go_sem, eg]
  let J : Nat → World → Prop := fun k W => I k W ∧ W.heap[w.heap.size]? = some (.loop rec0)
  let Y : World → Prop := fun W => X W ∧ W.heap[w.heap.size]? = some (.loop { rec0 with state := .done, pending := some .ret })
  have lt1 : ∀ {W : World} {o : Obj}, W.heap[w.heap.size]? = some o → w.heap.size < W.heap.size := fun h => (Array.getElem?_eq_some_iff.1 h).1
  refine (hit w.heap.size J Y W1 (fun k W W' h hs => ⟨hI k W W' h.1 (Calm.of_below hs (by have := lt1 h.2; omega)), (hs.block _ (lt1 h.2)).trans h.2⟩) (fun k W h => hIw k W h.1) ?_ ⟨hI1, hL1⟩).mono ?_
  · rintro k W hk ⟨hi, hl⟩
    have hlt := lt1 hl
    refine ⟨fn, _, assign, body, run_yield (P := P) (args := encs k) hl (hps k), roundIn_of_wpIn hfn (wpIn_mono (hround w.heap.size k W hk hi (by omega) hlt) ?_)⟩
    intro e a₁ W2 hp
    cases e with
    | normal =>
      obtain ⟨hs0, hi0, hb⟩ := hp
      have hl := (hs0.2 w.heap.size (by omega) hlt).trans hl
      have hlt := lt1 hl
      have hbusy := run_beginRound (P := P) hl rfl
      refine ⟨_, hbusy, ?_⟩
      have hl2 : (W2.putObj w.heap.size (.loop { rec0 with state := .busy })).heap[w.heap.size]? = some (.loop { rec0 with state := .busy }) := World.putObj_heap_same hlt
      refine wpIn_mono (hb _ (hI k _ _ hi0 (Calm.putObj _ _ (by omega))) hl2) ?_
      intro e a₃ W3 hp
      have fin : ∀ (jump : Option Code), StaysFrom w.heap.size (W2.putObj w.heap.size (.loop { rec0 with state := .busy })) W3 →
          (Instr.endRound w.heap.size jump).run P W3 = .ok (.bool jump.isNone) (W3.putObj w.heap.size (.loop { rec0 with state := if jump.isNone then .ready else .done, pending := jump })) ∧
          (W3.putObj w.heap.size (.loop { rec0 with state := if jump.isNone then .ready else .done, pending := jump })).heap[w.heap.size]? = some (.loop { rec0 with state := if jump.isNone then .ready else .done, pending := jump }) := fun jump hs => by
        have hl3 := (hs.2 w.heap.size (by omega) (by simp; omega)).trans hl2
        exact ⟨run_endRound (P := P) (r := { rec0 with state := .busy }) jump hl3, World.putObj_heap_same (lt1 hl3)⟩
      cases e with
      | normal =>
        obtain ⟨hs, hi3⟩ := hp
        obtain ⟨f1, f2⟩ := fin none hs
        exact ⟨_, _, f1, .inl ⟨rfl, hI _ _ _ hi3 (Calm.putObj _ _ (by omega)), f2⟩⟩
      | ret =>
        obtain ⟨hs, hx3⟩ := hp
        obtain ⟨f1, f2⟩ := fin (some .ret) hs
        exact ⟨_, _, f1, .inr ⟨rfl, hX _ _ hx3 (Calm.putObj _ _ (by omega)), f2⟩⟩
      | exit id => exact hp.elim
      | goto t => exact hp.elim
      | panic ch => exact hp.elim
      | outgrown => exact hp.elim
    | exit id => exact hp.elim
    | goto t => exact hp.elim
    | ret => exact hp.elim
    | panic ch => exact hp.elim
    | outgrown => exact hp.elim
  · rintro e W2 ⟨⟨v, rfl⟩, (⟨hi, hl⟩ | ⟨hx, hl⟩)⟩
    · exact ⟨none, _, run_endLoop (P := P) hl (by simp [rec0]), hdone _ (hI _ _ _ hi (Calm.putObj _ _ (by omega)))⟩
    · exact ⟨some .ret, _, run_endLoop (P := P) hl (by simp), hstop _ (hX _ _ hx (Calm.putObj _ _ (by omega)))⟩

end
end Go.Proofs.Ytifapmkdpmnjiaa
