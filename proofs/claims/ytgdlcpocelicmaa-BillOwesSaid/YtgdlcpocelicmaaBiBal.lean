/- The balance of an account, by contract (the code's side); no statement is proved here. -/
import Derived.Test.YtgdlcpocelicmaaBiIter
namespace Go.Proofs.Ytgdlcpocelicmaa
open Go.ChangeShapes Go.WideShapes Go.ChangeAt Go.RowKit Go.Shelf
attribute [local go_sem] Oper.semAt_some

theorem four9 (w : World) (a b c d : Obj) : ((((w.alloc a).alloc b).alloc c).alloc d).heap[w.heap.size]? = some a ∧ ((((w.alloc a).alloc b).alloc c).alloc d).heap[w.heap.size + 1]? = some b ∧ ((((w.alloc a).alloc b).alloc c).alloc d).heap[w.heap.size + 2]? = some c ∧ ((((w.alloc a).alloc b).alloc c).alloc d).heap[w.heap.size + 3]? = some d := by
  have s1 := World.size_alloc w a
  have s2 := World.size_alloc (w.alloc a) b
  have s3 := World.size_alloc ((w.alloc a).alloc b) c
  exact ⟨alloc_old9 _ (alloc_old9 _ (alloc_old9 _ (alloc_at9 w a rfl))), alloc_old9 _ (alloc_old9 _ (alloc_at9 _ b s1)), alloc_old9 _ (alloc_at9 _ c (by omega)), alloc_at9 _ d (by omega)⟩

set_option maxHeartbeats 1000000 in
theorem entriesOf_any (A : Option Addr) (n c : Nat) (p : Nat → En) (s : ByteArray) (fr to : Int) (w : World) (hp : EHas9 w A n p) :
    Calls Try.prog 57 #[.slice A n c, .string s, .int .i64 fr, .int .i64 to] w fun e w' => e = .returned (.func (.func 81) #[] #[.pointer (some ⟨w.heap.size, 0, none⟩), .pointer (some ⟨w.heap.size + 1, 0, none⟩), .pointer (some ⟨w.heap.size + 2, 0, none⟩), .pointer (some ⟨w.heap.size + 3, 0, none⟩)]) ∧
      EntIn w.heap.size A n c p s fr to w' ∧ w'.heap.size = w.heap.size + 4 ∧ Below w.heap.size w w' := by
  have hmf : ∀ (fn : Fn) (first cap : Array Value) (w : World), (Instr.makeFunc fn first cap).run Try.prog w = .ok (.func fn first cap) w := fun _ _ _ _ => rfl
  have HB := Lib.hid (show Below w.heap.size w ((((w.alloc (.cells #[.slice A n c] 30)).alloc (.cells #[.string s] 9)).alloc (.cells #[.int .i64 fr] 3)).alloc (.cells #[.int .i64 to] 3)) from
    ((((Below.refl _ _).alloc (Nat.le_refl _) _).alloc (by simp) _).alloc (by simp; omega) _).alloc (by simp; omega) _)
  have HZ := Lib.hid (four9 w (.cells #[.slice A n c] 30) (.cells #[.string s] 9) (.cells #[.int .i64 fr] 3) (.cells #[.int .i64 to] 3))
  have HP := Lib.hid hp
  clear hp
  go_enter Try.func57, Try.ntmps57
  go_wp2
  go_ret
  exact ⟨rfl, ⟨HZ.out.1, HZ.out.2.1, HZ.out.2.2.1, HZ.out.2.2.2, HP.out.later HB.out⟩, by simp, HB.out⟩

/-- The sum of the amounts of those that are picked. -/
def balF (p : Nat → En) (s : ByteArray) (fr to : Int) (n : Nat) : Int := sumTo (fun k => if mineE p s fr to k then (p k).a else 0) n
/-- What the range keeps: the total, in its variable's block. -/
structure TotAt (w : World) (A : Option Addr) (n c : Nat) (p : Nat → En) (s : ByteArray) (fr to : Int) (k : Nat) (S : Nat → Prop) (W : World) : Prop where
  tot : W.heap[w.heap.size]? = some (.cells #[.int .i64 (sumTo (fun j => (p (selN (mineE p s fr to) n j)).a) k)] 3)
  inn : EntIn (w.heap.size + 1) A n c p s fr to W
  below : Below w.heap.size w W
  own : ∀ b, S b → w.heap.size + 5 ≤ b
  size : w.heap.size + 5 ≤ W.heap.size
theorem TotAt.calm {w : World} {A : Option Addr} {n c : Nat} {p : Nat → En} {s : ByteArray} {fr to : Int} {k : Nat} {S : Nat → Prop} {W W' : World} (h : TotAt w A n c p s fr to k S W) (hA : EHas9 w A n p) (hc : CalmS S W W') : TotAt w A n c p s fr to k (growS S W W') W' := by
  have key : ∀ b, b < w.heap.size + 5 → W'.heap[b]? = W.heap[b]? := fun b hb => hc.block b (by have := h.size; omega) (fun hs => by have := h.own b hs; omega)
  have hbel : Below w.heap.size w W' := ⟨hc.os.trans h.below.os, hc.tape.trans h.below.tape, hc.output.trans h.below.output, by have := h.below.size; have := hc.size; omega, fun b hb => (key b (by omega)).trans (h.below.block b hb)⟩
  obtain ⟨i1, i2, i3, i4, i5⟩ := h.inn
  refine ⟨(key _ (by omega)).trans h.tot, ⟨(key _ (by omega)).trans i1, (key _ (by omega)).trans i2, (key _ (by omega)).trans i3, (key _ (by omega)).trans i4, hA.later hbel⟩, hbel, fun b hb => ?_, by have := h.size; have := hc.size; omega⟩
  rcases hb with hb | hb
  · exact h.own b hb
  · have := h.size; omega

theorem below_put9 {w W : World} (h : Below w.heap.size w W) {D : Nat} (o : Obj) (hD : w.heap.size ≤ D) : Below w.heap.size w (W.putObj D o) :=
  ⟨h.os, h.tape, h.output, by rw [World.putObj_size]; exact h.size, fun b hb => (World.putObj_heap_other (by omega)).trans (h.block b hb)⟩
theorem TotAt.later {w : World} {A : Option Addr} {n c : Nat} {p : Nat → En} {s : ByteArray} {fr to : Int} {k : Nat} {S : Nat → Prop} {W W' : World} (h : TotAt w A n c p s fr to k S W) (hb : Below W.heap.size W W') : TotAt w A n c p s fr to k S W' :=
  ⟨(hb.block _ (lt_of_heap h.tot)).trans h.tot, h.inn.later hb, bthen h.below hb, h.own, Nat.le_trans h.size hb.size⟩
theorem TotAt.set {w : World} {A : Option Addr} {n c : Nat} {p : Nat → En} {s : ByteArray} {fr to : Int} {k : Nat} {S : Nat → Prop} {W : World} (h : TotAt w A n c p s fr to k S W) (hA : EHas9 w A n p) :
    TotAt w A n c p s fr to (k + 1) S (W.setCell ⟨w.heap.size, 0, none⟩ (.int .i64 (sumTo (fun j => (p (selN (mineE p s fr to) n j)).a) (k + 1)))) := by
  have hne : ∀ b, b ≠ w.heap.size → (W.setCell ⟨w.heap.size, 0, none⟩ (.int .i64 (sumTo (fun j => (p (selN (mineE p s fr to) n j)).a) (k + 1)))).heap[b]? = W.heap[b]? := fun b hb => Below.heap_setCell _ _ _ _ hb
  have hbel : Below w.heap.size w (W.setCell ⟨w.heap.size, 0, none⟩ (.int .i64 (sumTo (fun j => (p (selN (mineE p s fr to) n j)).a) (k + 1)))) :=
    ⟨h.below.os, h.below.tape, h.below.output, by have := h.below.size; simpa [World.setCell] using this, fun b hb => (hne b (by omega)).trans (h.below.block b hb)⟩
  obtain ⟨i1, i2, i3, i4, i5⟩ := h.inn
  refine ⟨?_, ⟨(hne _ (by omega)).trans i1, (hne _ (by omega)).trans i2, (hne _ (by omega)).trans i3, (hne _ (by omega)).trans i4, hA.later hbel⟩, hbel, h.own, by have := h.size; simpa [World.setCell] using this⟩
  have hlt := lt_of_heap h.tot
  have h' : W.heap[w.heap.size] = .cells #[.int .i64 (sumTo (fun j => (p (selN (mineE p s fr to) n j)).a) k)] 3 := by have := h.tot; simpa [Array.getElem?_eq_getElem hlt] using this
  show (W.heap.modify w.heap.size _)[w.heap.size]? = _
  rw [Array.getElem?_eq_getElem (by simpa using hlt), Array.getElem_modify_self, h']
  rfl

set_option maxHeartbeats 8000000 in
set_option maxRecDepth 100000 in
theorem balance_any (A : Option Addr) (n c : Nat) (p : Nat → En) (s : ByteArray) (to : Int) (w : World) (hn : n ≤ c) (hc : c ≤ 9223372036854775807) (hp : EHas9 w A n p) (hb : ∀ k, k < n → -1000000000 ≤ (p k).a ∧ (p k).a ≤ 1000000000) (hn2 : n ≤ 1000) :
    Calls Try.prog 53 #[.slice A n c, .string s, .int .i64 to] w fun e w' => e = .returned (.int .i64 (balF p s 0 to n)) ∧ Below w.heap.size w w' := by
  have HF := Lib.hid hp
  have HBD := Lib.hid hb
  have HSUM := Lib.hid (sum_sel (mineE p s 0 to) (fun k => (p k).a) n)
  have HBT := Lib.hid (fun w hp => entriesOf_any A n c p s 0 to w hp)
  have Z0 := Lib.hid (new_at w (.cells #[.int .i64 0] 3) _ rfl)
  have HB0 := Lib.hid (show Below w.heap.size w (w.alloc (.cells #[.int .i64 0] 3)) from (Below.refl _ _).alloc (Nat.le_refl _) _)
  have S0 := Lib.hid (show (w.alloc (.cells #[.int .i64 0] 3)).heap.size = w.heap.size + 1 from by simp)
  clear hp hb
  refine (callsIn_wide (n := 9)).1 ?_
  refine callsIn_of_wp_marks Try.func53 rfl trivial ?_ rfl
  simp only [Try.ntmps53, List.size_toArray, List.length_cons, List.length_nil, Nat.reduceAdd, Nat.reduceSub, Array.replicate_succ, Array.replicate_zero, List.push_toArray, List.append_toArray, List.nil_append, List.cons_append]
  gi_wp2
  refine ⟨trivial, (callsIn_wide.2 (HBT.out _ (HF.out.later HB0.out))).mono ?_⟩
  rintro e w0 ⟨rfl, hbt, hsz, hb0⟩
  have H0 := Lib.hid (show TotAt w A n c p s 0 to 0 (fun _ => False) w0 from by
    rw [S0.out] at hbt hsz
    exact ⟨(hb0.block _ (lt_of_heap Z0.out)).trans Z0.out, hbt, bthen HB0.out hb0, fun _ h => h.elim, by omega⟩)
  clear hbt hsz hb0
  gi_wp2
  refine range_S rfl (by omega) (gf := 81) (lb := #[.pointer (some ⟨w.heap.size + 1, 0, none⟩), .pointer (some ⟨w.heap.size + 1 + 1, 0, none⟩), .pointer (some ⟨w.heap.size + 1 + 2, 0, none⟩), .pointer (some ⟨w.heap.size + 1 + 3, 0, none⟩)]) rfl trivial (enters_of Try.func81 (by kernel_rfl) rfl) (entEnc p (mineE p s 0 to) n) (selL (mineE p s 0 to) n).length (fun _ => rfl)
    (Rd := EntIn (w.heap.size + 1) A n c p s 0 to) (fun k S W => TotAt w A n c p s 0 to k S W) (fun _ _ _ => False)
    (fun k S W W' h hc => h.calm HF.out hc) (fun cd S W W' h hc => h) (fun k S W h => h.inn) (entries_iter _ (w.heap.size + 1) A n c p s 0 to hn hc) H0.out ?round ?done ?stop
  case stop =>
    rintro cd D S W hD hSD h
    exact h.elim
  case done =>
    rintro D S W hD hSD hS hK
    have HS := Lib.hid hS
    have HK := Lib.hid hK
    obtain ⟨d0, d1, d2⟩ := cell1_of9 hS.tot
    have HD3 := Lib.hid (show w.heap.size + 5 ≤ D from hS.own D hSD)
    clear hS hK
    gi_wp2
    refine ⟨by simp, .inl ⟨_, _, rfl, run_takeDeferred HK.out, ?_⟩⟩
    refine ⟨.int .i64 (balF p s 0 to n), by simp [results, Try.results53, go_sem, HSUM.out, balF], ?_⟩
    exact ⟨rfl, below_put9 HS.out.below _ (by have := HD3.out; omega)⟩
  case round =>
    rintro l k S W hk hS hSl hl1 hl2 hSb
    have HS := Lib.hid hS
    have HSB := Lib.hid hSb
    have HSBD := Lib.hid (show -1000000000000 ≤ sumTo (fun j => (p (selN (mineE p s 0 to) n j)).a) k ∧ sumTo (fun j => (p (selN (mineE p s 0 to) n j)).a) k ≤ 1000000000000 from by
      have h1 := sumTo_bd (f := fun j => (p (selN (mineE p s 0 to) n j)).a) (n := k) (lo := -1000000000) (hi := 1000000000) (fun j hj => HBD.out _ (selN_lt (by omega)).1)
      have h2 := selL_le (mineE p s 0 to) n
      omega)
    have HST := Lib.hid (show sumTo (fun j => (p (selN (mineE p s 0 to) n j)).a) (k + 1) = sumTo (fun j => (p (selN (mineE p s 0 to) n j)).a) k + (p (selN (mineE p s 0 to) n k)).a from rfl)
    obtain ⟨a1, a2⟩ := HBD.out _ (selN_lt hk).1
    unfold entEnc
    have HTS := Lib.hid (fun W S (h : TotAt w A n c p s 0 to k S W) => h.set HF.out)
    rw [HST.out] at HTS
    generalize hT : sumTo (fun j => (p (selN (mineE p s 0 to) n j)).a) k = T at *
    have HT := Lib.hid hT
    generalize (p (selN (mineE p s 0 to) n k)).a = a at *
    generalize (p (selN (mineE p s 0 to) n k)).d = d at *
    generalize (p (selN (mineE p s 0 to) n k)).s = t at *
    obtain ⟨b1, b2⟩ := HSBD.out
    have HL := Lib.hid (show ∀ o, Below W.heap.size W (W.alloc o) from fun o => (Below.refl _ _).alloc (Nat.le_refl _) _)
    clear hS hk hSb hT
    gi_wp2
    refine ⟨HoldsS.of_below (HL.out _) (fun b hb => (HSB.out b hb).2), HS.out.later (HL.out _), fun o hI hlo => ?_⟩
    obtain ⟨W2, hW2⟩ : ∃ W2, (W.alloc (.cells #[.int .i64 d, .string t, .int .i64 a] 51)).putObj l (.loop o) = W2 := ⟨_, rfl⟩
    have hx : W2.heap[W.heap.size]? = some (.cells #[.int .i64 d, .string t, .int .i64 a] 51) := by
      rw [← hW2]; exact (World.putObj_heap_other (by omega)).trans (World.alloc_heap_new W _)
    rw [hW2] at hI ⊢
    have HI := Lib.hid (show TotAt w A n c p s 0 to k S W2 from { hI with own := HS.out.own })
    have ht0 := HI.out.tot
    rw [HT.out] at ht0
    obtain ⟨d0, d1, d2⟩ := cell1_of9 ht0
    obtain ⟨x0, x1, x2, xl⟩ := cell3_of hx
    clear hI hlo hW2 ht0 hx
    gi_wp2
    refine ⟨HoldsS.setCell _ _ (fun h => by have h1 : w.heap.size + 5 ≤ w.heap.size := HS.out.own _ h; omega), HTS.out W2 S HI.out⟩
end Go.Proofs.Ytgdlcpocelicmaa
