/- A level of the search in memory; a way appended whole to an empty list; no statement is proved here. -/
import Derived.Test.YtoflgehonabllaaDoorGaLvlW
import Derived.Laws.AppendOwnNone
import Derived.Maps.AppendAt
namespace Go.Proofs.YtoflgehonabllaaDoor
open Go.ChangeShapes Go.WideShapes Go.ChangeAt Go.RowKit

theorem intsC {p q : Nat → Int} : ∀ {n : Nat}, (∀ k, k < n → p k = q k) → ints p n = ints q n
  | 0, _ => rfl
  | n + 1, h => by rw [ints, ints, intsC (n := n) (fun k hk => h k (by omega)), h n (by omega)]
theorem ints_wayF (N : List Nat) (x : Nat) : ints (wayF N) N.length ++ [.int .i64 (x : Int)] = ints (wayF (N ++ [x])) (N ++ [x]).length := by
  rw [ints_more5, show (N ++ [x]).length = N.length + 1 from by simp]
  exact intsC (wayF_push N x)
theorem ownsE5 (w : World) (base : Nat) (hb : base ≤ w.heap.size) : (w.alloc (.cells #[] 3)).ownsRow base 3 1 (.slice (some ⟨w.heap.size, 0, none⟩) 0 0) 0 [] :=
  ⟨rfl, .inr ⟨w.heap.size, 0, #[], rfl, hb, new_at w _ _ rfl, Nat.le_refl _, by unfold maxLen; omega, rfl, rfl⟩⟩
/-- A way appended, whole, to an empty list. -/
theorem append_way5 {w : World} {ops : Array Oper} {rest : List Oper} {o : Oper} {a : Act} {Q : Exit → Act → World → Prop} (hgd : o.guard = none) (s x : Operand)
    (ho : o.op = .call { callee := .builtin .append, args := #[s, x], argTypes := #[38, 38] }) (base : Nat) (v : Value) (hs : a.eval s = v) (hown : w.ownsRow base 3 1 v 0 [])
    (A : Option Addr) (R d : Nat) (ρ : Nat → Int) (hx : a.eval x = .slice A R d) (hp : IHas w A R ρ) (hnil : A = none → d = 0) (hR : R ≤ 10000) (hbase : base ≤ w.heap.size)
    (h : ∀ v' w', w'.ownsRow base 3 1 v' R (ints ρ R) → w.grownBy w' v.ownBlock → wpList Tryd.prog ops Q rest (a.put o.dst v') w') : wpList Tryd.prog ops Q (o :: rest) a w := by
  obtain ⟨i0, hi0, hz0, hz1, hz2⟩ := info_parts infoInt
  cases A with
  | none =>
    have hR0 : R = 0 := by
      rcases Nat.eq_zero_or_pos R with h0 | h0
      · exact h0
      · obtain ⟨b, off, e, _⟩ := hp h0
        cases e
    subst hR0
    have hd := hnil rfl
    subst hd
    exact wpList_append_own_none hgd s x 38 ho base 3 i0 1 Tryd.underlying38 hi0 v 0 [] hs hown hx (h v w hown ⟨rfl, rfl, rfl, Nat.le_refl _, fun _ _ _ => rfl⟩)
  | some ad => exact append_ints5 hgd s x ho base v hs hown ad R d ρ hx hp hR hbase h

/-- A level: the sets found so far, their ways and marks. -/
structure LvM (V M F E : Nat) (A9 : Option Addr) (L : List Nat) (met : Nat → Bool) (w : World) (wy : Nat → List Nat) (fr : Nat → Bool) (N : List Nat) (v : Value) (W : World) : Prop where
  own : W.ownsRow (F + 1) 3 1 v N.length (ints (wayF N) N.length)
  wy' : WyAt W V E wy (fun b => b = V ∨ b = M ∨ b = F ∨ v.ownBlock = some b)
  fr' : BoAt W F E fr
  me : BoAt W M E met
  re : IHas W A9 L.length (wayF L)
  be : Below V w W
variable {V M F E : Nat} {A9 : Option Addr} {L : List Nat} {met : Nat → Bool} {w : World} {wy : Nat → List Nat} {fr : Nat → Bool} {N : List Nat} {v : Value} {W W' : World}
theorem LvM.later (h : LvM V M F E A9 L met w wy fr N v W) (hb : Below W.heap.size W W') : LvM V M F E A9 L met w wy fr N v W' :=
  ⟨owns_later h.own hb, h.wy'.later hb, h.fr'.later hb, h.me.later hb, h.re.later hb, h.be.trans (hb.mono (Nat.le_of_lt h.wy'.lt))⟩
theorem LvM.way (h : LvM V M F E A9 L met w wy fr N v W) (hVM : V < M) (hMF : M < F) (hA : ∀ b o s, A9 = some ⟨b, o, s⟩ → b ≠ V ∧ b < F) {x : Nat} (hx : x < E) {A : Option Addr} {c : Nat} {s : List Nat} (k2 : s.length ≤ c) (k3 : c ≤ 9223372036854775807) (k4 : IHas W A s.length (wayF s)) (k5 : A = none → c = 0) (k6 : ∀ b o t, A = some ⟨b, o, t⟩ → b < W.heap.size ∧ F < b ∧ v.ownBlock ≠ some b) :
    LvM V M F E A9 L met w (updW wy x s) fr N v (W.setCell ⟨V, x, none⟩ (.slice A s.length c)) :=
  ⟨owns_set5 h.own (by omega) _, h.wy'.set (.inl rfl) hx k2 k3 k4 k5 (fun b o t e => ⟨(k6 b o t e).1, fun h2 => by
      obtain ⟨_, h3, h4⟩ := k6 b o t e
      rcases h2 with h2 | h2 | h2 | h2
      · omega
      · omega
      · omega
      · exact h4 h2⟩), h.fr'.keep (heap_ne5 _ (by omega)), h.me.keep (heap_ne5 _ (by omega)), has_keep h.re (by simp [World.setCell]) (fun b o s e => heap_ne5 _ (fun e2 => (hA b o s e).1 e2.symm)), h.be.setCell (p := ⟨V, x, none⟩) (Nat.le_refl _) _⟩
theorem LvM.mark (h : LvM V M F E A9 L met w wy fr N v W) (hVM : V < M) (hMF : M < F) (hA : ∀ b o s, A9 = some ⟨b, o, s⟩ → b ≠ V ∧ b < F) {x : Nat} (hx : x < E) :
    LvM V M F E A9 L met w wy (updW fr x true) N v (W.setCell ⟨F, x, none⟩ (.bool true)) :=
  ⟨owns_set5 h.own (by omega) _, h.wy'.keep (by simp [World.setCell]) (heap_ne5 _ (by omega)) (fun b _ h2 => heap_ne5 _ (fun e => h2 (.inr (.inr (.inl e.symm))))) (fun _ _ h => h), h.fr'.set hx true, h.me.keep (heap_ne5 _ (by omega)), has_keep h.re (by simp [World.setCell]) (fun b o s e => heap_ne5 _ (by have := (hA b o s e).2; omega)), h.be.setCell (p := ⟨F, x, none⟩) (by show V ≤ F; omega) _⟩
theorem LvM.push (h : LvM V M F E A9 L met w wy fr N v W) (hVM : V < M) (hMF : M < F) (hA : ∀ b o s, A9 = some ⟨b, o, s⟩ → b ≠ V ∧ b < F) {x : Nat} {v' : Value} {ob : Obj}
    (hown : W'.ownsRow (F + 1) 3 1 v' (N.length + 1) (ints (wayF N) N.length ++ [.int .i64 (x : Int)])) (hg : (W.alloc ob).grownBy W' v.ownBlock) (hat : v'.ownBlock = v.ownBlock ∨ v'.ownBlock = some (W.alloc ob).heap.size) :
    LvM V M F E A9 L met w wy fr (N ++ [x]) v' W' := by
  have hz : (W.alloc ob).heap.size = W.heap.size + 1 := by simp
  have hfr : ∀ b, b < W.heap.size → some b ≠ v.ownBlock → W'.heap[b]? = W.heap[b]? := fun b hb hne =>
    (hg.block b (by omega) hne).trans (((Below.refl W.heap.size W).alloc (Nat.le_refl _) _).block b hb)
  have hsz : W.heap.size ≤ W'.heap.size := by have := hg.size; omega
  have hlo : ∀ k, v.ownBlock = some k → F + 1 ≤ k ∧ k < W.heap.size := h.own.lt
  have hne : ∀ b, b ≤ F → some b ≠ v.ownBlock := fun b hb e => by have := (hlo b e.symm).1; omega
  refine ⟨by rw [ints_wayF] at hown; rw [show (N ++ [x]).length = N.length + 1 from by simp] at hown ⊢; exact hown, h.wy'.keep hsz (hfr V h.wy'.lt (hne V (by omega))) (fun b hb h2 => hfr b hb (fun e => h2 (.inr (.inr (.inr e.symm))))) (fun b hb h2 => ?_), h.fr'.keep (hfr F h.fr'.lt (hne F (Nat.le_refl _))), h.me.keep (hfr M h.me.lt (hne M (by omega))), fun hn => ?_, ?_⟩
  · rcases h2 with h2 | h2 | h2 | h2
    · exact .inl h2
    · exact .inr (.inl h2)
    · exact .inr (.inr (.inl h2))
    · rcases hat with e | e
      · exact .inr (.inr (.inr (e ▸ h2)))
      · rw [e] at h2; cases h2; omega
  · obtain ⟨b, o, e, hP⟩ := h.re hn
    exact has_keep h.re hsz (fun b' o' s' e' => hfr b' (by rw [e] at e'; cases e'; exact hP.lt) (hne b' (by have := (hA b' o' s' e').2; omega))) hn
  · exact ((h.be.alloc (Nat.le_of_lt h.wy'.lt) ob).grown hg (by have := h.wy'.lt; omega) (fun k hk => by have := (hlo k hk).1; omega))
end Go.Proofs.YtoflgehonabllaaDoor
