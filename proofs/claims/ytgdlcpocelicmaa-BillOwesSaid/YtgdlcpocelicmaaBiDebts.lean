/- An account's debts (the code's side), by contract; no statement is proved here. -/
import Derived.Test.YtgdlcpocelicmaaBiItO
import Derived.Test.YtgdlcpocelicmaaBiDebtM
namespace Go.Proofs.Ytgdlcpocelicmaa
open Go.ChangeShapes Go.WideShapes Go.ChangeAt Go.RowKit Go.Shelf
attribute [local go_sem] Oper.semAt_some

/-- What the range keeps: the debts in block B, the iterator's variables behind it, all that is old. -/
structure DebAt (w : World) (B : Nat) (A : Option Addr) (n c : Nat) (p : Nat → En) (s : ByteArray) (fr to : Int) (d : List (Int × Int) × Int) (S : Nat → Prop) (W : World) : Prop where
  ex : ∃ A' n' c', W.heap[B]? = some (.cells #[.slice A' n' c', .int .i64 d.2] 83) ∧ IAt W B A' n' c' d.1 ∧ ∀ b o s, A' = some ⟨b, o, s⟩ → B + 5 ≤ b ∧ b < W.heap.size ∧ ¬ S b
  inn : EntIn (B + 1) A n c p s fr to W
  below : Below w.heap.size w W
  own : ∀ b, S b → B + 5 ≤ b
  size : B + 5 ≤ W.heap.size
  lo : w.heap.size ≤ B
section
variable {w : World} {B : Nat} {A : Option Addr} {n c : Nat} {p : Nat → En} {s : ByteArray} {fr to : Int} {d d' : List (Int × Int) × Int} {S S' : Nat → Prop} {W W' : World}
theorem DebAt.calm (h : DebAt w B A n c p s fr to d S W) (hA : EHas9 w A n p) (hc : CalmS S W W') : DebAt w B A n c p s fr to d (growS S W W') W' := by
  have key : ∀ b, b < B + 5 → W'.heap[b]? = W.heap[b]? := fun b hb => hc.block b (by have := h.size; omega) (fun hs => by have := h.own b hs; omega)
  have hbel : Below w.heap.size w W' := ⟨hc.os.trans h.below.os, hc.tape.trans h.below.tape, hc.output.trans h.below.output, by have := h.below.size; have := hc.size; omega, fun b hb => (key b (by have := h.lo; omega)).trans (h.below.block b hb)⟩
  obtain ⟨i1, i2, i3, i4, i5⟩ := h.inn
  obtain ⟨A', n', c', e1, e2, e3⟩ := h.ex
  refine ⟨⟨A', n', c', (key _ (by omega)).trans e1, iat_kept e2 (fun b _ hlt ho => ?_), fun b o s e => ?_⟩, ⟨(key _ (by omega)).trans i1, (key _ (by omega)).trans i2, (key _ (by omega)).trans i3, (key _ (by omega)).trans i4, hA.later hbel⟩, hbel, fun b hb => ?_, by have := h.size; have := hc.size; omega, h.lo⟩
  · obtain ⟨o, ho⟩ := ho
    exact hc.block b hlt (e3 b o none ho).2.2
  · obtain ⟨a1, a2, a3⟩ := e3 b o s e
    refine ⟨a1, by have := hc.size; omega, fun hg => ?_⟩
    rcases hg with hg | hg
    · exact a3 hg
    · omega
  · rcases hb with hb | hb
    · exact h.own b hb
    · have := h.size; omega
theorem DebAt.later (h : DebAt w B A n c p s fr to d S W) (hb : Below W.heap.size W W') : DebAt w B A n c p s fr to d S W' := by
  obtain ⟨A', n', c', e1, e2, e3⟩ := h.ex
  exact ⟨⟨A', n', c', (hb.block _ (lt_of_heap e1)).trans e1, iat_kept e2 (fun b _ hlt _ => hb.block b hlt), fun b o s e => by obtain ⟨a1, a2, a3⟩ := e3 b o s e; exact ⟨a1, Nat.lt_of_lt_of_le a2 hb.size, a3⟩⟩, h.inn.later hb, bthen h.below hb, h.own, Nat.le_trans h.size hb.size, h.lo⟩
theorem DebAt.same (h : DebAt w B A n c p s fr to d S W) (h' : DebAt w B A n c p s fr to d (growS S W W') W') : DebAt w B A n c p s fr to d S W' := by
  obtain ⟨A', n', c', e1, e2, e3⟩ := h'.ex
  exact ⟨⟨A', n', c', e1, e2, fun b o s e => by obtain ⟨a1, a2, a3⟩ := e3 b o s e; exact ⟨a1, a2, fun hs => a3 (.inl hs)⟩⟩, h'.inn, h'.below, h.own, h'.size, h'.lo⟩
/-- One entry has been taken in. -/
theorem DebAt.turn (h : DebAt w B A n c p s fr to d S W) (hA : EHas9 w A n p) (hSb : ∀ b, S b → b < W.heap.size) {A1 : Option Addr} (hA1 : ∀ b o s, A1 = some ⟨b, o, s⟩ → B + 5 ≤ b ∧ b < W.heap.size ∧ ¬ S b) {A' : Option Addr} {n' c' : Nat}
    (g1 : W'.heap[B]? = some (.cells #[.slice A' n' c', .int .i64 d'.2] 83)) (g2 : IAt W' B A' n' c' d'.1) (g3 : ∀ b o s, A' = some ⟨b, o, s⟩ → (∃ o', A1 = some ⟨b, o', none⟩) ∨ W.heap.size ≤ b)
    (g4 : W'.os = W.os) (g5 : W'.tape = W.tape) (g6 : W'.output = W.output) (g7 : W.heap.size ≤ W'.heap.size) (g8 : ∀ b, b < W.heap.size → b ≠ B → (∀ o s, A1 ≠ some ⟨b, o, s⟩) → W'.heap[b]? = W.heap[b]?) :
    HoldsS S W W' ∧ DebAt w B A n c p s fr to d' S W' := by
  have hne : ∀ b, S b → W'.heap[b]? = W.heap[b]? := fun b hb => g8 b (hSb b hb) (by have := h.own b hb; omega) (fun o s e => (hA1 b o s e).2.2 hb)
  have key : ∀ b, b < B + 5 → b ≠ B → W'.heap[b]? = W.heap[b]? := fun b hb hn => g8 b (by have := h.size; omega) hn (fun o s e => by have := (hA1 b o s e).1; omega)
  have hbel : Below w.heap.size w W' := ⟨g4.trans h.below.os, g5.trans h.below.tape, g6.trans h.below.output, Nat.le_trans h.below.size g7, fun b hb => (key b (by have := h.lo; omega) (by have := h.lo; omega)).trans (h.below.block b hb)⟩
  obtain ⟨i1, i2, i3, i4, i5⟩ := h.inn
  refine ⟨⟨g7, hne⟩, ⟨A', n', c', g1, g2, fun b o s e => ?_⟩, ⟨(key _ (by omega) (by omega)).trans i1, (key _ (by omega) (by omega)).trans i2, (key _ (by omega) (by omega)).trans i3, (key _ (by omega) (by omega)).trans i4, hA.later hbel⟩, hbel, h.own, Nat.le_trans h.size g7, h.lo⟩
  have hlt : b < W'.heap.size := by
    rcases g2.2.2.2 with ⟨h1, _⟩ | ⟨own, off, cur, h1, h2, h3, _⟩
    · rw [h1] at e; cases e
    · rw [h1] at e; injection e with e; injection e with e1 e2 e3; subst e1; exact lt_of_heap h3
  rcases g3 b o s e with ⟨o', h1⟩ | h1
  · obtain ⟨a1, a2, a3⟩ := hA1 b o' none h1
    exact ⟨a1, hlt, a3⟩
  · exact ⟨Nat.le_trans h.size h1, hlt, fun hs => by have := hSb b hs; omega⟩
end
/-- What debtsOn gives. -/
def RetDeb (W : World) (d : List (Int × Int) × Int) (e : Ending) (w' : World) : Prop :=
  ∃ A c, e = .returned (.agg #[.slice A d.1.length c, .int .i64 d.2]) ∧ d.1.length ≤ c ∧ c ≤ 9223372036854775807 ∧ ItHas w' A d.1.length (itq d.1) ∧ Below W.heap.size W w'
theorem set2_9 {W : World} {g : Nat} {T : TypeId} {z0 z1 : Value} (h : W.heap[g]? = some (.cells #[z0, z1] T)) (v0 v1 : Value) :
    ((W.setCell ⟨g, 0, none⟩ v0).setCell ⟨g, 1, none⟩ v1).heap[g]? = some (.cells #[v0, v1] T) ∧ (∀ b, b ≠ g → ((W.setCell ⟨g, 0, none⟩ v0).setCell ⟨g, 1, none⟩ v1).heap[b]? = W.heap[b]?) ∧
      ∀ w, Below w.heap.size w W → w.heap.size ≤ g → Below w.heap.size w ((W.setCell ⟨g, 0, none⟩ v0).setCell ⟨g, 1, none⟩ v1) := by
  have ne_ : ∀ (w : World) (o : Nat) (v : Value) (b : Nat), b ≠ g → (w.setCell ⟨g, o, none⟩ v).heap[b]? = w.heap[b]? := fun w o v b hb => Below.heap_setCell _ _ _ _ hb
  have bl_ : ∀ (w W : World) (o : Nat) (v : Value), Below w.heap.size w W → w.heap.size ≤ g → Below w.heap.size w (W.setCell ⟨g, o, none⟩ v) := fun w W o v h hg =>
    ⟨h.os, h.tape, h.output, by have := h.size; simpa [World.setCell] using this, fun b hb => (ne_ W o v b (by omega)).trans (h.block b hb)⟩
  refine ⟨?_, fun b hb => ?_, fun w hb hg => bl_ _ _ _ _ (bl_ _ _ _ _ hb hg) hg⟩
  · have := heap_set8 (heap_set8 h 0 v0) 1 v1
    simpa using this
  · rw [ne_ _ _ _ _ hb, ne_ _ _ _ _ hb]

set_option maxHeartbeats 8000000 in
set_option maxRecDepth 100000 in
theorem debtsOn_any (A : Option Addr) (n c : Nat) (p : Nat → En) (s : ByteArray) (day : Int) (w : World) (hn : n ≤ c) (hc : c ≤ 9223372036854775807) (hp : EHas9 w A n p) (hb : ∀ k, k < n → -1000000000 ≤ (p k).a ∧ (p k).a ≤ 1000000000) (hn2 : n ≤ 1000) (hd0 : 0 ≤ day) (hd1 : day ≤ 100000) :
    Calls Try.prog 61 #[.slice A n c, .string s, .int .i64 day] w (RetDeb w (debL p (mineE p s 0 (day + 1)) n)) := by
  have HF := Lib.hid hp
  have HBD := Lib.hid hb
  have HLE := Lib.hid (selL_le (mineE p s 0 (day + 1)) n)
  have HSUM := Lib.hid (debL_sel p (mineE p s 0 (day + 1)) n)
  have HBT := Lib.hid (fun w hp => entriesOf_any A n c p s 0 (day + 1) w hp)
  obtain ⟨W0, hW0⟩ : ∃ W0, w.alloc (.cells #[.slice none 0 0, .int .i64 0] 83) = W0 := ⟨_, rfl⟩
  have Z0 := Lib.hid (new_at w (.cells #[.slice none 0 0, .int .i64 0] 83) _ rfl)
  have HB0 := Lib.hid (show Below w.heap.size w W0 from by rw [← hW0]; exact (Below.refl _ _).alloc (Nat.le_refl _) _)
  have S0 := Lib.hid (show W0.heap.size = w.heap.size + 1 from by rw [← hW0]; simp)
  rw [hW0] at Z0
  have HF0 := Lib.hid (HF.out.later HB0.out)
  have Z1 := Lib.hid (new_at W0 (.cells #[.slice none 0 0, .int .i64 0] 83) _ S0.out)
  have HB1 := Lib.hid (show Below W0.heap.size W0 (W0.alloc (.cells #[.slice none 0 0, .int .i64 0] 83)) from (Below.refl _ _).alloc (Nat.le_refl _) _)
  have S1 := Lib.hid (show (W0.alloc (.cells #[.slice none 0 0, .int .i64 0] 83)).heap.size = w.heap.size + 1 + 1 from by rw [World.size_alloc, S0.out])
  generalize debL p (mineE p s 0 (day + 1)) n = dr at *
  clear hp hb
  refine (callsIn_wide (n := 9)).1 ?_
  refine callsIn_of_wp_marks Try.func61 rfl trivial ?_ rfl
  simp only [Try.ntmps61, List.size_toArray, List.length_cons, List.length_nil, Nat.reduceAdd, Nat.reduceSub, Array.replicate_succ, Array.replicate_zero, List.push_toArray, List.append_toArray, List.nil_append, List.cons_append]
  gi_wp2
  rw [S0.out]
  clear hW0
  refine ⟨trivial, (callsIn_wide.2 (HBT.out _ (HF0.out.later HB1.out))).mono ?_⟩
  rintro e w0 ⟨rfl, hbt, hsz, hb0⟩
  rw [S1.out] at hbt hsz ⊢
  have H0 := Lib.hid (show DebAt W0 (w.heap.size + 1) A n c p s 0 (day + 1) (dsQ (fun j => p (selN (mineE p s 0 (day + 1)) n j)) 0) (fun _ => False) w0 from by
    exact ⟨⟨none, 0, 0, (hb0.block _ (lt_of_heap Z1.out)).trans Z1.out, ⟨rfl, Nat.le_refl _, by omega, .inl ⟨rfl, rfl⟩⟩, fun b o s e => by cases e⟩, hbt, bthen HB1.out hb0, fun _ h => h.elim, by omega, by rw [S0.out]; exact Nat.le_refl _⟩)
  clear hbt hsz hb0
  gi_wp2
  refine range_S rfl (by omega) (gf := 81) (lb := #[.pointer (some ⟨w.heap.size + 1 + 1, 0, none⟩), .pointer (some ⟨w.heap.size + 1 + 1 + 1, 0, none⟩), .pointer (some ⟨w.heap.size + 1 + 1 + 2, 0, none⟩), .pointer (some ⟨w.heap.size + 1 + 1 + 3, 0, none⟩)]) rfl trivial (enters_of Try.func81 (by kernel_rfl) rfl) (entEnc p (mineE p s 0 (day + 1)) n) (selL (mineE p s 0 (day + 1)) n).length (fun _ => rfl)
    (Rd := EntIn (w.heap.size + 1 + 1) A n c p s 0 (day + 1)) (fun k S W => DebAt W0 (w.heap.size + 1) A n c p s 0 (day + 1) (dsQ (fun j => p (selN (mineE p s 0 (day + 1)) n j)) k) S W) (fun _ _ _ => False)
    (fun k S W W' h hc => h.calm HF0.out hc) (fun cd S W W' h hc => h) (fun k S W h => h.inn) (entries_iter _ (w.heap.size + 1 + 1) A n c p s 0 (day + 1) hn hc) H0.out ?round ?done ?stop
  case stop =>
    rintro cd D S W hD hSD h
    exact h.elim
  case done =>
    rintro D S W hD hSD hS hK
    rw [HSUM.out] at hS
    obtain ⟨A', n', c', e1, e2, e3⟩ := hS.ex
    have HS := Lib.hid hS
    have HK := Lib.hid hK
    have HE := Lib.hid (And.intro e2 e3)
    obtain ⟨d0, d1, dl⟩ : W.cell? ⟨w.heap.size + 1, 0, none⟩ = some (.slice A' n' c') ∧ W.cell? ⟨w.heap.size + 1, 1, none⟩ = some (.int .i64 dr.2) ∧ w.heap.size + 1 < W.heap.size := ⟨by simp [World.cell?, e1], by simp [World.cell?, e1], lt_of_heap e1⟩
    have hz := (hS.below.block _ (lt_of_heap Z0.out)).trans Z0.out
    have HZ := Lib.hid hz
    obtain ⟨r0, r1, rl⟩ : W.cell? ⟨w.heap.size, 0, none⟩ = some (.slice none 0 0) ∧ W.cell? ⟨w.heap.size, 1, none⟩ = some (.int .i64 0) ∧ w.heap.size < W.heap.size := ⟨by simp [World.cell?, hz], by simp [World.cell?, hz], lt_of_heap hz⟩
    have rf0 : W.frozen? ⟨w.heap.size, 0, none⟩ = false := by simp [World.frozen?, hz]
    have rf1 : W.frozen? ⟨w.heap.size, 1, none⟩ = false := by simp [World.frozen?, hz]
    have HD3 := Lib.hid (show w.heap.size + 1 + 5 ≤ D from hS.own D hSD)
    clear hz
    have HSD := Lib.hid hSD
    clear hS hK e1 e2 e3 hSD
    gi_wp2
    obtain ⟨s1, s2, s3⟩ := set2_9 HZ.out (.slice A' n' c') (.int .i64 dr.2)
    have hbl := s3 w (bthen HB0.out HS.out.below) (Nat.le_refl _)
    have hDne : D ≠ w.heap.size := by have := HD3.out; omega
    have hK4 := (s2 D hDne).trans HK.out
    have S2 := Lib.hid s2
    clear r0 r1 rl rf0 rf1 d0 d1 dl s2 s3
    generalize (W.setCell ⟨w.heap.size, 0, none⟩ (.slice A' n' c')).setCell ⟨w.heap.size, 1, none⟩ (.int .i64 dr.2) = W4 at *
    have h4 := (World.putObj_heap_other (w := W4) (o := .deferred none) (Ne.symm hDne)).trans s1
    have r0 : (W4.putObj D (.deferred none)).cell? ⟨w.heap.size, 0, none⟩ = some (.slice A' n' c') := by simp [World.cell?, h4]
    have r1 : (W4.putObj D (.deferred none)).cell? ⟨w.heap.size, 1, none⟩ = some (.int .i64 dr.2) := by simp [World.cell?, h4]
    refine ⟨by simp, .inl ⟨_, _, rfl, run_takeDeferred hK4, ?_⟩⟩
    refine ⟨.agg #[.slice A' n' c', .int .i64 dr.2], by simp [results, Try.results61, go_sem, r0, r1], ?_⟩
    have q := iat_kept (W' := W4.putObj D (.deferred none)) HE.out.1 (fun b _ hlt ho => by
      obtain ⟨o, ho⟩ := ho
      obtain ⟨a1, a2, a3⟩ := HE.out.2 b o none ho
      exact (World.putObj_heap_other (fun e => a3 (by rw [e]; exact HSD.out))).trans (S2.out b (by omega)))
    obtain ⟨q1, q2, q3, q4⟩ := q.has
    subst q1
    exact ⟨A', c', rfl, q2, q3, q4, below_put9 hbl _ (by have := HD3.out; omega)⟩
  case round =>
    rintro l k S W hk hS hSl hl1 hl2 hSb
    have HS := Lib.hid hS
    have HSB := Lib.hid hSb
    have hle := HLE.out
    have HDB := Lib.hid (dsQ_bd (q := fun j => p (selN (mineE p s 0 (day + 1)) n j)) (m := k) (fun j hj => HBD.out _ (selN_lt (show j < _ by omega)).1))
    obtain ⟨a1, a2⟩ := HBD.out _ (selN_lt hk).1
    have HST := Lib.hid (show dsQ (fun j => p (selN (mineE p s 0 (day + 1)) n j)) (k + 1) = debS (dsQ (fun j => p (selN (mineE p s 0 (day + 1)) n j)) k) ⟨(p (selN (mineE p s 0 (day + 1)) n k)).d, (p (selN (mineE p s 0 (day + 1)) n k)).s, (p (selN (mineE p s 0 (day + 1)) n k)).a⟩ from rfl)
    unfold entEnc
    generalize dsQ (fun j => p (selN (mineE p s 0 (day + 1)) n j)) (k + 1) = st' at *
    generalize dsQ (fun j => p (selN (mineE p s 0 (day + 1)) n j)) k = st at *
    generalize (p (selN (mineE p s 0 (day + 1)) n k)).a = a at *
    generalize (p (selN (mineE p s 0 (day + 1)) n k)).d = d at *
    generalize (p (selN (mineE p s 0 (day + 1)) n k)).s = t at *
    obtain ⟨ls, h⟩ := st
    obtain ⟨b1, b2, b3, b4⟩ := HDB.out
    have hls : ls.length ≤ 1000 := by have : ls.length ≤ k := b3; omega
    have hh0 : 0 ≤ h := b1
    have hh1 : h ≤ 1000000000000 := by have : h ≤ k * 1000000000 := b2; omega
    have HIT := Lib.hid (show ∀ x ∈ ls, 0 < x.2 ∧ x.2 ≤ 1000000000000 from fun x hx => by have : 0 < x.2 ∧ x.2 ≤ 1000000000 := b4 x hx; omega)
    have HL := Lib.hid (show ∀ o, Below W.heap.size W (W.alloc o) from fun o => (Below.refl _ _).alloc (Nat.le_refl _) _)
    clear hS hk hSb b1 b2 b3 b4 HDB hle
    gi_wp2
    refine ⟨HoldsS.of_below (HL.out _) (fun b hb => (HSB.out b hb).2), HS.out.later (HL.out _), fun o hI hlo => ?_⟩
    obtain ⟨W2, hW2⟩ : ∃ W2, (W.alloc (.cells #[.int .i64 d, .string t, .int .i64 a] 51)).putObj l (.loop o) = W2 := ⟨_, rfl⟩
    have hx : W2.heap[W.heap.size]? = some (.cells #[.int .i64 d, .string t, .int .i64 a] 51) := by
      rw [← hW2]; exact (World.putObj_heap_other (by omega)).trans (World.alloc_heap_new W _)
    have HSZ := Lib.hid (show W.heap.size < W2.heap.size from by rw [← hW2]; simp)
    rw [hW2] at hI ⊢
    have HI := Lib.hid (HS.out.later (HL.out (.cells #[.int .i64 d, .string t, .int .i64 a] 51)) |>.same hI)
    obtain ⟨A1, n1, c1, e1, e2, e3⟩ := HI.out.ex
    have HE1 := Lib.hid e1
    have HE2 := Lib.hid e2
    have HE3 := Lib.hid e3
    have hn1 : n1 ≤ 100000 := by have : n1 = ls.length := e2.1; omega
    obtain ⟨x0', x1', x2', xl⟩ := cell3_of hx
    clear hI hlo hW2 hx e1 e2 e3
    have HSB2 := Lib.hid (show ∀ b, S b → b < W2.heap.size from fun b hb => by have := (HSB.out b hb).2; have := HSZ.out; omega)
    by_cases ha : 0 < a
    · have HO := Lib.hid (owe_any (w.heap.size + 1) A1 n1 c1 ls h d a W2 HE1.out HE2.out hn1 ha (by omega) hh0 hh1)
      gi_wp2
      refine ⟨trivial, (callsIn_wide.2 HO.out).mono ?_⟩
      rintro e w5 ⟨rfl, A5, n5, c5, f1, f2, f3, f4, f5, f6, f7, f8⟩
      obtain ⟨q1, q2⟩ := debS_pos ls h d t ha
      rw [← HST.out] at q1 q2
      rw [← q2] at f1
      rw [← q1] at f2
      have HT := Lib.hid (HI.out.turn (d' := st') HF0.out HSB2.out HE3.out f1 f2 f3 f4 f5 f6 f7 f8)
      clear q1 q2
      clear f1 f2 f3 f4 f5 f6 f7 f8
      gi_wp2
      exact HT.out
    · have HO := Lib.hid (pay_any (w.heap.size + 1) A1 n1 c1 ls h (-a) W2 HE1.out HE2.out (by omega) (by omega) hh0 hh1 HIT.out)
      gi_wp2
      refine ⟨trivial, (callsIn_wide.2 HO.out).mono ?_⟩
      rintro e w5 ⟨rfl, A5, n5, c5, f1, f2, f3, f4, f5, f6, f7, f8⟩
      obtain ⟨q1, q2⟩ := debS_neg ls h d t (a := a) (by omega)
      rw [← HST.out] at q1 q2
      rw [← q2] at f1
      rw [← q1] at f2
      have HT := Lib.hid (HI.out.turn (d' := st') HF0.out HSB2.out HE3.out f1 f2 (fun b o s e => .inl (f3 b o s e)) f4 f5 f6 (Nat.le_of_eq f7.symm) (fun b _ => f8 b))
      clear q1 q2
      clear f1 f2 f3 f4 f5 f6 f7 f8
      gi_wp2
      exact HT.out
end Go.Proofs.Ytgdlcpocelicmaa
