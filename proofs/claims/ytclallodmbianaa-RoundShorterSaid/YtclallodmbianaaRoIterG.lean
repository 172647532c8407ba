/- A range over a function whose values are told by a predicate on memory, of any number of rounds, whose body may leave it by a return or a break, and may write memory that was made in the rounds: what the iterator keeps for itself is told by a set of blocks. No statement is proved here. -/
import Derived.Test.YtclallodmbianaaIter
namespace Go.Proofs.Ytclallodmbianaa
open Go.ChangeShapes Go.WideShapes Go.ChangeAt Go.RowKit Go.Shelf

section
variable {F : Fence} {n : Nat} {P : Program}

/-- The call of an iterator: M rounds, whatever the loop keeps (J), told which blocks are the iterator's own (S). -/
def IterG (F : Fence) (n : Nat) (P : Program) (gf : Nat) (lb : Array Value) (En : Nat → (Nat → Prop) → World → Array Value → Prop) (M : Nat) (Rd : World → Prop) : Prop :=
  ∀ (l : Nat) (J : Nat → (Nat → Prop) → World → Prop) (Y : World → Prop) (W1 : World),
    (∀ k S W W', J k S W → CalmS S W W' → J k (growS S W W') W') → (∀ k S W, J k S W → Rd W ∧ ∀ b, S b → b < W.heap.size) →
    (∀ k S W vs, k < M → J k S W → En k S W vs → YieldAt F (n - 1) P l vs W fun e W' => (e = .returned (.bool true) ∧ HoldsS S W W' ∧ J (k + 1) S W') ∨ (e = .returned (.bool false) ∧ Y W')) →
    J 0 (fun _ => False) W1 → CallsIn F n P gf (#[.func (.yield l) #[] #[]] ++ lb) W1 fun e W' => (∃ v, e = .returned v) ∧ ((∃ S, J M S W') ∨ Y W')

theorem IterG.inRound {gf : Nat} {lb : Array Value} {En : Nat → (Nat → Prop) → World → Array Value → Prop} {M : Nat} {Rd : World → Prop} (l : Nat) (h : IterG F n P gf lb En M Rd) : IterG (F.inRound l) n P gf lb En M Rd := h

/-- A range over a function. -/
theorem range_G {g : Operand} {ps : Array Tmp} {assign body : Code} {Q : Exit → Act → World → Prop} {a : Act} {w : World} {Rd : World → Prop} (hro : F.round = none) (h1 : 1 ≤ n)
    {gf : Nat} {lb : Array Value} (hg : a.eval g = .func (.func gf) #[] lb) (hFg : F.fn gf) (eg : ∀ args w, (callFunc gf args).run P w = .ok (.enter gf args) w)
    (En : Nat → (Nat → Prop) → World → Array Value → Prop) (M : Nat) (hps : ∀ k S W vs, En k S W vs → vs.size = ps.size) (hEn : ∀ k (S S' : Nat → Prop) W vs, (∀ b, S b → S' b) → En k S W vs → En k S' W vs) (I : Nat → (Nat → Prop) → World → Prop) (X : Code → (Nat → Prop) → World → Prop)
    (hI : ∀ k S W W', I k S W → CalmS S W W' → I k (growS S W W') W') (hX : ∀ c S W W', X c S W → CalmS S W W' → X c (growS S W W') W') (hIw : ∀ k S W, I k S W → Rd W)
    (hit : IterG F (n - 1) P gf lb En M Rd) (h0 : I 0 (fun _ => False) w)
    (hround : ∀ (l k : Nat) (S : Nat → Prop) (W : World) (vs : Array Value), k < M → I k S W → En k S W vs → S l → w.heap.size ≤ l → l < W.heap.size → (∃ rr, W.heap[l]? = some (.loop rr)) → (∀ b, S b → w.heap.size ≤ b ∧ b < W.heap.size) →
      assign.wpIn (F.inRound l) (n - 1 - 1) P (Exit.then (fun a₁ W₁ => HoldsS S W W₁ ∧ I k S W₁ ∧ ∀ o, I k (growS S W₁ (W₁.putObj l (.loop o))) (W₁.putObj l (.loop o)) → (W₁.putObj l (.loop o)).heap[l]? = some (.loop o) → body.wpIn (F.inRound l) (n - 1 - 1) P (roundS S (I (k + 1)) X (W₁.putObj l (.loop o))) a₁ (W₁.putObj l (.loop o))) (fun _ _ _ => False))
        { tmps := (ps.zip vs).foldl (fun t (p, v) => t.setIfInBounds p v) a.tmps, defers := [] } W)
    (hdone : ∀ (D : Nat) (S : Nat → Prop) (W : World), w.heap.size ≤ D → S D → I M S W → W.heap[D]? = some (.deferred (some [])) → Q .normal { a with defers := { target := .collected D, args := #[] } :: a.defers } W)
    (hstop : ∀ (c : Code) (D : Nat) (S : Nat → Prop) (W : World), w.heap.size ≤ D → S D → X c S W → W.heap[D]? = some (.deferred (some [])) → c.wpIn F n P Q { a with defers := { target := .collected D, args := #[] } :: a.defers } W) :
    (Code.rangeFunc g ps assign body).wpIn F n P Q a w := by
  refine wpIn_rangeFunc fun fn hfn => ?_
  rw [hro]
  let rec0 : Loop := { state := .ready, pending := none, fn, tmps := a.tmps, params := ps, assign, body, defers := w.heap.size }
  obtain ⟨W1, hW1⟩ : ∃ W1, (w.alloc (.deferred (some []))).alloc (.loop rec0) = W1 := ⟨_, rfl⟩
  have s1 : W1.heap.size = w.heap.size + 2 := by rw [← hW1]; simp
  have hL1 : W1.heap[w.heap.size + 1]? = some (.loop rec0) := by
    rw [← hW1]; have := World.alloc_heap_new (w.alloc (.deferred (some []))) (.loop rec0); rwa [World.size_alloc] at this
  have hD1 : W1.heap[w.heap.size]? = some (.deferred (some [])) := by
    rw [← hW1]; exact (Below.heap_alloc _ _ _ (by simp)).trans (World.alloc_heap_new w _)
  have hI1 : I 0 (growS (fun _ => False) w W1) W1 := hI 0 _ w W1 h0 (by rw [← hW1]; exact CalmS.of_below (((Below.refl _ _).alloc (Nat.le_refl _) _).alloc (by simp) _))
  refine ⟨w.heap.size + 1, [{ target := .collected w.heap.size, args := #[] }], W1, { target := .fn (.func gf) lb, args := #[.func (.yield (w.heap.size + 1)) #[] #[]] }, W1, gf,
    #[.func (.yield (w.heap.size + 1)) #[] #[]] ++ lb, W1, ?_, ?_, ?_, ?_, fun _ => h1, ?_⟩
  · rw [← hW1]; exact run_enterLoop_outer _ _ _ _ _
  · simp only [resolve, hg]
    simp [go_sem]
  · intro f' hf'; simp [Target.leads] at hf'; subst hf'; exact hFg
  · simp [invoke, go_sem, eg]
  -- the iterator's own blocks, and the loop's two
  let T : (Nat → Prop) → Nat → Prop := fun S b => S b ∨ b = w.heap.size ∨ b = w.heap.size + 1
  have lt1 : ∀ {W : World} {o : Obj} {b : Nat}, W.heap[b]? = some o → b < W.heap.size := fun h => (Array.getElem?_eq_some_iff.1 h).1
  let J : Nat → (Nat → Prop) → World → Prop := fun k S W => (∃ S', (∀ b, S' b ↔ T S b) ∧ I k S' W) ∧ (∀ b, S b → w.heap.size + 2 ≤ b ∧ b < W.heap.size) ∧ W.heap[w.heap.size + 1]? = some (.loop rec0) ∧ W.heap[w.heap.size]? = some (.deferred (some []))
  let Y : World → Prop := fun W => ∃ (c : Code) (S : Nat → Prop), S w.heap.size ∧ S (w.heap.size + 1) ∧ X c S W ∧ W.heap[w.heap.size + 1]? = some (.loop { rec0 with state := .done, pending := some c }) ∧ W.heap[w.heap.size]? = some (.deferred (some []))
  have hmove : ∀ k S W W', J k S W → CalmS S W W' → J k (growS S W W') W' := by
    rintro k S W W' ⟨⟨S', hS', hi⟩, hlt, hl, hd⟩ hc
    have hl2 := lt1 hl
    refine ⟨⟨growS S' W W', fun b => ?_, hI k S' W W' hi ⟨hc.os, hc.tape, hc.output, hc.size, fun b hb hn => hc.block b hb (fun h => hn ((hS' b).2 (.inl h)))⟩⟩, fun b hb => ?_, ?_, ?_⟩
    · show (S' b ∨ _) ↔ ((S b ∨ _) ∨ _)
      rw [hS' b]
      show ((S b ∨ _) ∨ _) ↔ _
      constructor
      · rintro ((h | h) | h)
        · exact .inl (.inl h)
        · exact .inr h
        · exact .inl (.inr h)
      · rintro ((h | h) | h)
        · exact .inl (.inl h)
        · exact .inr h
        · exact .inl (.inr h)
    · have := hc.size
      rcases hb with h | h
      · have := hlt b h; omega
      · omega
    · exact (hc.block _ hl2 (fun h => by have := hlt _ h; omega)).trans hl
    · exact (hc.block _ (by omega) (fun h => by have := hlt _ h; omega)).trans hd
  have J0 : J 0 (fun _ => False) W1 := ⟨⟨_, fun b => by
    show (False ∨ _) ↔ (False ∨ _)
    constructor
    · rintro (h | h)
      · exact h.elim
      · exact .inr (by omega)
    · rintro (h | h)
      · exact h.elim
      · exact .inr (by omega), hI1⟩, fun b hb => hb.elim, hL1, hD1⟩
  refine (hit (w.heap.size + 1) J Y W1 hmove (fun k S W h => ⟨by obtain ⟨⟨S', _, hi⟩, _⟩ := h; exact hIw k S' W hi, fun b hb => (h.2.1 b hb).2⟩) ?_ J0).mono ?_
  · rintro k S W vs hk ⟨⟨S', hS', hi⟩, hlt, hl, hd⟩ hen
    have hlt1 := lt1 hl
    have hSl : S' (w.heap.size + 1) := (hS' _).2 (.inr (.inr rfl))
    have hSd : S' w.heap.size := (hS' _).2 (.inr (.inl rfl))
    have hSb : ∀ b, S' b → w.heap.size ≤ b ∧ b < W.heap.size := fun b hb => by
      rcases (hS' b).1 hb with h | h | h
      · have := hlt b h; omega
      · omega
      · omega
    refine ⟨fn, _, assign, body, run_yield (P := P) (args := vs) hl (hps _ _ _ _ hen), roundIn_of_wpIn hfn (wpIn_mono (hround (w.heap.size + 1) k S' W vs hk hi (hEn _ _ _ _ _ (fun b hb => (hS' b).2 (.inl hb)) hen) hSl (by omega) hlt1 ⟨_, hl⟩ hSb) ?_)⟩
    intro e a₁ W2 hp
    cases e with
    | normal =>
      obtain ⟨hs0, hi0, hb⟩ := hp
      have hl := (hs0.2 _ hSl).trans hl
      have hd := (hs0.2 _ hSd).trans hd
      have hlt2 := lt1 hl
      have hbusy := run_beginRound (P := P) hl rfl
      refine ⟨_, hbusy, ?_⟩
      obtain ⟨W2', hW2'⟩ : ∃ W2', W2.putObj (w.heap.size + 1) (.loop { rec0 with state := .busy }) = W2' := ⟨_, rfl⟩
      have hl2 : W2'.heap[w.heap.size + 1]? = some (.loop { rec0 with state := .busy }) := by rw [← hW2']; exact World.putObj_heap_same hlt2
      have hd2 : W2'.heap[w.heap.size]? = some (.deferred (some [])) := by rw [← hW2']; exact (World.putObj_heap_other (by omega)).trans hd
      have hz2 : W2'.heap.size = W2.heap.size := by rw [← hW2']; simp
      have hkeep : ∀ b, S' b → b ≠ w.heap.size + 1 → W2'.heap[b]? = W.heap[b]? := fun b hb hne => by rw [← hW2']; exact (World.putObj_heap_other (by omega)).trans (hs0.2 b hb)
      have hi2 := hI k S' W2 W2' hi0 (by rw [← hW2']; exact CalmS.putObj _ _ hSl)
      have hb2 := hb { rec0 with state := .busy } (by rw [hW2']; exact hi2) (by rw [hW2']; exact hl2)
      rw [hW2'] at hb2 ⊢
      refine wpIn_mono hb2 ?_
      intro e a₃ W3 hp
      have fin : ∀ (jump : Option Code), HoldsS S' W2' W3 → ∃ W4, W4 = W3.putObj (w.heap.size + 1) (.loop { rec0 with state := if jump.isNone then .ready else .done, pending := jump }) ∧
          (Instr.endRound (w.heap.size + 1) jump).run P W3 = .ok (.bool jump.isNone) W4 ∧ W4.heap[w.heap.size + 1]? = some (.loop { rec0 with state := if jump.isNone then .ready else .done, pending := jump }) ∧ W4.heap[w.heap.size]? = some (.deferred (some [])) ∧
          CalmS S' W3 W4 ∧ W4.heap.size = W3.heap.size ∧ W.heap.size ≤ W4.heap.size ∧ (∀ b, S b → W4.heap[b]? = W.heap[b]?) := fun jump hs => by
        have hl3 := (hs.2 _ hSl).trans hl2
        have hd3 := (hs.2 _ hSd).trans hd2
        refine ⟨_, rfl, run_endRound (P := P) (r := { rec0 with state := .busy }) jump hl3, World.putObj_heap_same (lt1 hl3), (World.putObj_heap_other (by omega)).trans hd3, CalmS.putObj _ _ hSl, by simp, by have := hs.1; have := hs0.1; simp; omega, fun b hb => ?_⟩
        have hbl := hlt b hb
        exact (World.putObj_heap_other (by omega)).trans ((hs.2 b ((hS' b).2 (.inl hb))).trans (hkeep b ((hS' b).2 (.inl hb)) (by omega)))
      have eqS : ∀ (W3 W4 : World), W4.heap.size = W3.heap.size → growS S' W3 W4 = S' := fun W3 W4 h => by
        funext b
        exact propext ⟨fun hg => by rcases hg with hg | hg; exact hg; omega, fun hg => .inl hg⟩
      cases e with
      | normal =>
        obtain ⟨hs, hi3⟩ := hp
        obtain ⟨W4, _, f1, f2, f3, f4, f5, f6, f7⟩ := fin none hs
        have := hI _ _ _ _ hi3 f4
        rw [eqS _ _ f5] at this
        exact ⟨_, _, f1, .inl ⟨rfl, ⟨f6, f7⟩, ⟨S', hS', this⟩, fun b hb => by have := hlt b hb; omega, f2, f3⟩⟩
      | ret =>
        obtain ⟨hs, hx3⟩ := hp
        obtain ⟨W4, _, f1, f2, f3, f4, f5, f6, f7⟩ := fin (some .ret) hs
        have := hX _ _ _ _ hx3 f4
        rw [eqS _ _ f5] at this
        exact ⟨_, _, f1, .inr ⟨rfl, _, S', hSd, hSl, this, f2, f3⟩⟩
      | exit id =>
        obtain ⟨hs, hx3⟩ := hp
        obtain ⟨W4, _, f1, f2, f3, f4, f5, f6, f7⟩ := fin (some (.exit id)) hs
        have := hX _ _ _ _ hx3 f4
        rw [eqS _ _ f5] at this
        exact ⟨_, _, f1, .inr ⟨rfl, _, S', hSd, hSl, this, f2, f3⟩⟩
      | goto t => exact hp.elim
      | panic ch => exact hp.elim
      | outgrown => exact hp.elim
    | exit id => exact hp.elim
    | goto t => exact hp.elim
    | ret => exact hp.elim
    | panic ch => exact hp.elim
    | outgrown => exact hp.elim
  · rintro e W2 ⟨⟨v, rfl⟩, (⟨S, ⟨S', hS', hi⟩, hlt, hl, hd⟩ | ⟨c, S, hSd, hSl, hx, hl, hd⟩)⟩
    · have hz : ∀ o, (W2.putObj (w.heap.size + 1) o).heap.size = W2.heap.size := fun o => by simp
      have hSl : S' (w.heap.size + 1) := (hS' _).2 (.inr (.inr rfl))
      have hSd : S' w.heap.size := (hS' _).2 (.inr (.inl rfl))
      exact ⟨none, _, run_endLoop (P := P) hl (by simp [rec0]), hdone _ _ _ (Nat.le_refl _) (.inl hSd) (hI _ _ _ _ hi (CalmS.putObj _ _ hSl)) ((World.putObj_heap_other (by omega)).trans hd)⟩
    · exact ⟨some c, _, run_endLoop (P := P) hl (by simp), hstop _ _ _ _ (Nat.le_refl _) (.inl hSd) (hX _ _ _ _ hx (CalmS.putObj _ _ hSl)) ((World.putObj_heap_other (by omega)).trans hd)⟩
end
end Go.Proofs.Ytclallodmbianaa
