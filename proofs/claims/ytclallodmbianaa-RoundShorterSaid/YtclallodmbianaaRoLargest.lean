/- The largest round by the code, by contract; no statement is proved here. -/
import Derived.Test.YtclallodmbianaaRoTry
import Derived.Test.YtclallodmbianaaRoClone
namespace Go.Proofs.Ytclallodmbianaa
open Go.ChangeShapes Go.WideShapes Go.ChangeAt Go.RowKit Go.Shelf
attribute [local go_sem] Oper.semAt_some

/-- A row of ints outside a set. -/
def ROut (S : Nat → Prop) (W : World) (base : Nat) (v : Value) (r : List Int) : Prop :=
  ∃ A c, v = .slice A r.length c ∧ r.length ≤ c ∧ c ≤ 9223372036854775807 ∧ (0 < r.length → ∃ g off, A = some ⟨g, off, none⟩ ∧ ¬ S g ∧ base ≤ g ∧ Ints W g off r.length (atL r))
theorem ROut.calm {S : Nat → Prop} {W W' : World} {base : Nat} {v : Value} {r : List Int} (h : ROut S W base v r) (hc : CalmS S W W') : ROut (growS S W W') W' base v r := by
  obtain ⟨A, c, h1, h2, h3, h4⟩ := h
  refine ⟨A, c, h1, h2, h3, fun h0 => ?_⟩
  obtain ⟨g, off, e, hn, hb, hI⟩ := h4 h0
  refine ⟨g, off, e, fun hg => ?_, hb, Nat.lt_of_lt_of_le hI.lt hc.size, fun k hk => (World.cell?_of_block (w := W) (a := ⟨g, off + k, none⟩) (hc.block g hI.lt hn)).trans (hI.v k hk)⟩
  have := hI.lt
  rcases hg with hg | hg
  · exact hn hg
  · omega
/-- What stands while the largest round is looked for. -/
structure LgAt (w : World) (Lb Eb B bd m : Nat) (t0 : Int) (A : Option Addr) (c : Nat) (R : Option Addr) (d : Nat) (L : List (List Int × Int)) (k : Nat) (S : Nat → Prop) (W : World) : Prop where
  day : W.heap[B]? = some (.cells #[.slice A m c, .slice R (m + 1) d, .int .i64 t0] 59)
  ls : ∃ v, W.heap[Lb]? = some (.cells #[v] 24) ∧ ROut S W w.heap.size v (lgL t0 (L.take k)).1
  en : W.heap[Eb]? = some (.cells #[.int .i64 (lgL t0 (L.take k)).2] 3)
  below : Below w.heap.size w W
  own : ∀ b, S b → bd ≤ b
  size : bd ≤ W.heap.size
/-- Where the blocks lie. -/
structure LgBd (w : World) (Lb Eb B bd : Nat) : Prop where
  lb : w.heap.size ≤ Lb ∧ Lb < bd
  eb : w.heap.size ≤ Eb ∧ Eb < bd
  b : w.heap.size ≤ B ∧ B < bd
  ne : Lb ≠ Eb ∧ B ≠ Lb ∧ B ≠ Eb
theorem LgAt.calm {w : World} {Lb Eb B bd m : Nat} {t0 : Int} {A : Option Addr} {c : Nat} {R : Option Addr} {d : Nat} {L : List (List Int × Int)} {k : Nat} {S : Nat → Prop} {W W' : World} (h : LgAt w Lb Eb B bd m t0 A c R d L k S W) (hB : LgBd w Lb Eb B bd) (hc : CalmS S W W') :
    LgAt w Lb Eb B bd m t0 A c R d L k (growS S W W') W' := by
  obtain ⟨v, h1, h2⟩ := h.ls
  have out : ∀ b, b < bd → ¬ S b := fun b hb hs => by have := h.own b hs; omega
  have hs := h.size
  refine ⟨(hc.block _ (lt_of_heap h.day) (out _ hB.b.2)).trans h.day, ⟨v, (hc.block _ (lt_of_heap h1) (out _ hB.lb.2)).trans h1, h2.calm hc⟩, (hc.block _ (lt_of_heap h.en) (out _ hB.eb.2)).trans h.en,
    ⟨hc.os.trans h.below.os, hc.tape.trans h.below.tape, hc.output.trans h.below.output, Nat.le_trans h.below.size hc.size, fun b hb => ?_⟩, fun b hb => ?_, Nat.le_trans hs hc.size⟩
  · have := hB.lb
    exact (hc.block b (Nat.lt_of_lt_of_le hb h.below.size) (out b (by omega))).trans (h.below.block b hb)
  · rcases hb with hb | hb
    · exact h.own b hb
    · omega
/-- Another round is the largest. -/
theorem LgAt.set {w : World} {Lb Eb B bd m : Nat} {t0 : Int} {A : Option Addr} {c : Nat} {R : Option Addr} {d : Nat} {L : List (List Int × Int)} {k : Nat} {S : Nat → Prop} {W W3 : World} {x : List Int × Int} {v : Value} (h : LgAt w Lb Eb B bd m t0 A c R d L k S W) (hB : LgBd w Lb Eb B bd)
    (hS : ∀ b, S b → b < W.heap.size) (hx : L[k]? = some x) (hp : pickF (lgL t0 (L.take k)) x = x) (hb : Below W.heap.size W W3) (hown : W3.ownsRow W.heap.size 3 1 v x.1.length (ints (atL x.1) x.1.length)) :
    HoldsS S W ((W3.setCell ⟨Lb, 0, none⟩ v).setCell ⟨Eb, 0, none⟩ (.int .i64 x.2)) ∧ LgAt w Lb Eb B bd m t0 A c R d L (k + 1) S ((W3.setCell ⟨Lb, 0, none⟩ v).setCell ⟨Eb, 0, none⟩ (.int .i64 x.2)) := by
  obtain ⟨v0, h1, h2⟩ := h.ls
  have hsz : ((W3.setCell ⟨Lb, 0, none⟩ v).setCell ⟨Eb, 0, none⟩ (.int .i64 x.2)).heap.size = W3.heap.size := by simp [World.setCell]
  have key : ∀ b, b ≠ Lb → b ≠ Eb → ((W3.setCell ⟨Lb, 0, none⟩ v).setCell ⟨Eb, 0, none⟩ (.int .i64 x.2)).heap[b]? = W3.heap[b]? := fun b g1 g2 => (heap_ne8 _ (fun e => g2 e.symm)).trans (heap_ne8 _ (fun e => g1 e.symm))
  have hL3 := (hb.block _ (lt_of_heap h1)).trans h1
  have hE3 := (hb.block _ (lt_of_heap h.en)).trans h.en
  have hLS := lgL_step t0 L k x hx
  rw [hp] at hLS
  have hl := lt_of_heap h1
  have he := lt_of_heap h.en
  refine ⟨⟨by rw [hsz]; exact hb.size, fun b hb1 => ?_⟩, ⟨?_, ⟨v, ?_, ?_⟩, ?_, ?_, h.own, by rw [hsz]; exact Nat.le_trans h.size hb.size⟩⟩
  · have := h.own b hb1
    exact (key b (by have := hB.lb; omega) (by have := hB.eb; omega)).trans (hb.block b (hS b hb1))
  · exact (key B hB.ne.2.1 hB.ne.2.2).trans ((hb.block _ (lt_of_heap h.day)).trans h.day)
  · exact (heap_ne8 _ (fun e => hB.ne.1 e.symm)).trans (heap_setCell_at hL3 0 v)
  · rw [hLS]
    obtain ⟨A7, c7, e7, q1, q2, q3, q4⟩ := owns_ints hown
    refine ⟨A7, c7, e7, q1, q2, fun h0 => ?_⟩
    obtain ⟨g, off, e, hI⟩ := q4 h0
    have hg := q3 g off none e
    refine ⟨g, off, e, fun hs => by have := hS g hs; omega, Nat.le_trans h.below.size hg, by rw [hsz]; exact hI.lt, fun j hj => ?_⟩
    exact (World.cell?_of_block (w := W3) (a := ⟨g, off + j, none⟩) (key g (by omega) (by omega))).trans (hI.v j hj)
  · rw [hLS]
    exact heap_setCell_at ((heap_ne8 _ hB.ne.1).trans hE3) 0 _
  · exact ((h.below.trans (hb.mono h.below.size)).setCell (p := ⟨Lb, 0, none⟩) hB.lb.1 _).setCell (p := ⟨Eb, 0, none⟩) hB.eb.1 _
/-- The same round stays the largest. -/
theorem LgAt.keep {w : World} {Lb Eb B bd m : Nat} {t0 : Int} {A : Option Addr} {c : Nat} {R : Option Addr} {d : Nat} {L : List (List Int × Int)} {k : Nat} {S : Nat → Prop} {W : World} {x : List Int × Int} (h : LgAt w Lb Eb B bd m t0 A c R d L k S W)
    (hx : L[k]? = some x) (hp : pickF (lgL t0 (L.take k)) x = lgL t0 (L.take k)) : LgAt w Lb Eb B bd m t0 A c R d L (k + 1) S W := by
  have hLS := lgL_step t0 L k x hx
  rw [hp] at hLS
  exact ⟨h.day, by rw [hLS]; exact h.ls, by rw [hLS]; exact h.en, h.below, h.own, h.size⟩

theorem below_put8 {w W : World} (h : Below w.heap.size w W) {D : Nat} (o : Obj) (hD : w.heap.size ≤ D) : Below w.heap.size w (W.putObj D o) :=
  ⟨h.os, h.tape, h.output, by rw [World.putObj_size]; exact h.size, fun b hb => (World.putObj_heap_other (by omega)).trans (h.block b hb)⟩
/-- A list and an error. -/
def RetL8 (W : World) (r : List Int) (E : Int) (e : Ending) (w' : World) : Prop :=
  ∃ A c, e = .returned (.tuple #[.slice A r.length c, .int .i64 E]) ∧ r.length ≤ c ∧ c ≤ 9223372036854775807 ∧ IHas w' A r.length (atL r) ∧ Below W.heap.size W w'

set_option maxHeartbeats 8000000 in
set_option maxRecDepth 100000 in
theorem Largest_no (A : Option Addr) (m c : Nat) (p : Nat → Sto) (R : Option Addr) (n d : Nat) (q : Nat → List Int) (t : Int) (w : World) (hm : m ≤ c) (hc : c ≤ 9223372036854775807) (hn : n ≤ d) (hd : d ≤ 9223372036854775807) (hm2 : m ≤ 1000000) (hp : StHas w A m p) (hq : LHas w R n q) (h0 : dyE m p n q t ≠ 0) :
    Calls Try.prog 31 #[.slice A m c, .slice R n d, .int .i64 t] w (RetL8 w [] (dyE m p n q t)) := by
  have HN := Lib.hid (newDay_no A m c p R n d q t w hm hc hn hd hm2 hp hq h0)
  generalize dyE m p n q t = E at *
  have h1 : (E != 0) = true := by simpa using h0
  clear hp hq h0
  go_enter Try.func31, Try.ntmps31
  go_wp2_with (go_at_call 69; (refine HN.out.mono ?_); rintro e w1 ⟨rfl, hb1⟩)
  go_ret2
  exact ⟨none, 0, rfl, Nat.le_refl _, by omega, (fun h => absurd h (Nat.lt_irrefl 0)), hb1.alloc hb1.size _⟩

set_option maxHeartbeats 16000000 in
set_option maxRecDepth 100000 in
theorem Largest_ok (A : Option Addr) (m c : Nat) (p : Nat → Sto) (R : Option Addr) (d : Nat) (q : Nat → List Int) (t : Int) (w : World) (hm : m ≤ c) (hc : c ≤ 9223372036854775807) (hn : m + 1 ≤ d) (hd : d ≤ 9223372036854775807) (hp : StHas w A m p) (hq : LHas w R (m + 1) q) (h0 : dyE m p (m + 1) q t = 0) :
    Calls Try.prog 31 #[.slice A m c, .slice R (m + 1) d, .int .i64 t] w (RetL8 w (lgL t (rdsL m p q t)).1 0) := by
  have hdy : dayB m p (m + 1) q = true ∧ btw t 0 1440 = true := by
    unfold dyE at h0
    cases h1 : dayB m p (m + 1) q <;> cases h2 : btw t 0 1440 <;> rw [h1, h2] at h0 <;> simp_all
  have hok := (dayB_ok hdy.1).2
  have ht := btw_iff.1 hdy.2
  have hm8 := hok.le
  have HN := Lib.hid (newDay_ok A m c p R (m + 1) d q t w hm hc hn hd (by omega) hp hq h0)
  have HOK := Lib.hid hok
  have HP := Lib.hid hp
  have HQ := Lib.hid hq
  have HT := Lib.hid ht
  clear hp hq h0 hdy hok ht
  refine (callsIn_wide (n := 9)).1 ?_
  refine callsIn_of_wp_marks Try.func31 rfl trivial ?_ rfl
  simp only [Try.ntmps31, List.size_toArray, List.length_cons, List.length_nil, Nat.reduceAdd, Nat.reduceSub, Array.replicate_succ, Array.replicate_zero, List.push_toArray, List.append_toArray, List.nil_append, List.cons_append]
  gi_wp2
  refine ⟨trivial, (callsIn_wide.2 HN.out).mono ?_⟩
  rintro e w1 ⟨rfl, hb1⟩
  obtain ⟨W2, e2⟩ : ∃ W2, w1.alloc (.cells #[.slice A m c, .slice R (m + 1) d, .int .i64 t] 59) = W2 := ⟨_, rfl⟩
  obtain ⟨W3, e3⟩ : ∃ W3, W2.alloc (.cells #[.slice none 0 0] 24) = W3 := ⟨_, rfl⟩
  obtain ⟨W4, e4⟩ : ∃ W4, W3.alloc (.cells #[.int .i64 t] 3) = W4 := ⟨_, rfl⟩
  have B2 : Below w1.heap.size w1 W2 := by rw [← e2]; exact (Below.refl _ _).alloc (Nat.le_refl _) _
  have B3 : Below W2.heap.size W2 W3 := by rw [← e3]; exact (Below.refl _ _).alloc (Nat.le_refl _) _
  have B4 : Below W3.heap.size W3 W4 := by rw [← e4]; exact (Below.refl _ _).alloc (Nat.le_refl _) _
  have s2 : W2.heap.size = w1.heap.size + 1 := by rw [← e2]; simp
  have s3 : W3.heap.size = W2.heap.size + 1 := by rw [← e3]; simp
  have s4 : W4.heap.size = W3.heap.size + 1 := by rw [← e4]; simp
  have z2 : W2.heap[w1.heap.size]? = some (.cells #[.slice A m c, .slice R (m + 1) d, .int .i64 t] 59) := by rw [← e2]; exact new_at w1 _ _ rfl
  have z3 : W3.heap[W2.heap.size]? = some (.cells #[.slice none 0 0] 24) := by rw [← e3]; exact new_at W2 _ _ rfl
  have z4 : W4.heap[W3.heap.size]? = some (.cells #[.int .i64 t] 3) := by rw [← e4]; exact new_at W3 _ _ rfl
  have y4 := (B4.block _ (lt_of_heap z3)).trans z3
  have x4 := (B4.block _ (Nat.lt_of_lt_of_le (lt_of_heap z2) B3.size)).trans ((B3.block _ (lt_of_heap z2)).trans z2)
  obtain ⟨c0, c1, c2, _, cl⟩ := cells3_8 x4
  have HB4 := Lib.hid (bthen (bthen (bthen hb1 B2) B3) B4)
  have HSZ := Lib.hid (And.intro s2 (And.intro s3 (And.intro s4 hb1.size)))
  have HY4 := Lib.hid y4
  have HZ4 := Lib.hid z4
  have HRD := Lib.hid (rounds_any m c p q t A R d W4 (HP.out.later HB4.out) (HQ.out.later HB4.out))
  clear B2 B3 B4 s2 s3 s4 z2 z3 z4 y4 x4 hb1
  gi_wp2
  refine ⟨trivial, (callsIn_wide.2 HRD.out).mono ?_⟩
  rintro e w5 ⟨rfl, hday, hsz, hb5⟩
  have HBD := Lib.hid (show LgBd w W2.heap.size W3.heap.size W4.heap.size (W4.heap.size + 1) from ⟨by have := HSZ.out; omega, by have := HSZ.out; omega, by have := HSZ.out; omega, by have := HSZ.out; omega⟩)
  have H0 := Lib.hid (show LgAt w W2.heap.size W3.heap.size W4.heap.size (W4.heap.size + 1) m t A c R d (rdsL m p q t) 0 (fun _ => False) w5 from
    ⟨hday.1, ⟨_, (hb5.block _ (lt_of_heap HY4.out)).trans HY4.out, none, 0, rfl, Nat.le_refl _, by omega, fun h => absurd h (Nat.lt_irrefl 0)⟩, (hb5.block _ (lt_of_heap HZ4.out)).trans HZ4.out, bthen HB4.out hb5, fun _ h => h.elim, by omega⟩)
  clear hday hsz hb5 c0 c1 c2 cl HRD HY4 HZ4
  gi_wp2
  refine range_G rfl (by omega) (gf := 94) (lb := #[.pointer (some ⟨W4.heap.size, 0, none⟩)]) rfl trivial (enters_of Try.func94 (by kernel_rfl) rfl) (RdEn (rdsL m p q t)) (rdsL m p q t).length
    (fun k S W vs h => by obtain ⟨x, v, _, e, _⟩ := h; rw [e]; rfl)
    (fun k S S' W vs hs h => by obtain ⟨x, v, h1, h2, B, C, h3, h4, h5, h6, h7⟩ := h; exact ⟨x, v, h1, h2, B, C, h3, h4, h5, fun h0 => by obtain ⟨g, off, q1, q2, q3⟩ := h6 h0; exact ⟨g, off, q1, hs _ q2, q3⟩, h7⟩)
    (Rd := DayAt W4.heap.size m p q t A c R d) (fun k S W => LgAt w W2.heap.size W3.heap.size W4.heap.size (W4.heap.size + 1) m t A c R d (rdsL m p q t) k S W) (fun _ _ _ => False)
    (fun k S W W' h hc => h.calm HBD.out hc) (fun cd S W W' h hc => h) (fun k S W h => ⟨h.day, HP.out.later h.below, HQ.out.later h.below⟩) (rounds_iter _ W4.heap.size m c d p q t A R HOK.out HT.out) H0.out ?round ?done ?stop
  case stop =>
    rintro cd D S W hD hSD h
    exact h.elim
  case done =>
    rintro D S W hD hSD hS hK
    obtain ⟨v0, hv0, C, cc, rfl, g1, g2, g3⟩ := hS.ls
    have HS := Lib.hid hS
    have HK := Lib.hid hK
    have HG := Lib.hid g3
    have HD3 := Lib.hid (show W4.heap.size + 1 ≤ D from hS.own D hSD)
    obtain ⟨d0, d1, d2⟩ := cell1_of8 hv0
    have HTK := Lib.hid (show lgL t ((rdsL m p q t).take (rdsL m p q t).length) = lgL t (rdsL m p q t) from by rw [List.take_length])
    rw [HTK.out] at g1 d0 HG
    clear hS hK hv0 g3
    gi_wp2
    refine ⟨by simp, .inl ⟨_, _, rfl, run_takeDeferred HK.out, ?_⟩⟩
    refine ⟨.tuple #[.slice C (lgL t (rdsL m p q t)).1.length cc, .int .i64 0], by simp [results, Try.results31, go_sem], ?_⟩
    refine ⟨C, cc, rfl, g1, g2, fun h0 => ?_, below_put8 HS.out.below _ (by have := HD3.out; have := HBD.out.lb; omega)⟩
    obtain ⟨g, off, e, hn, hb, hI⟩ := HG.out h0
    refine ⟨g, off, e, by rw [World.putObj_size]; exact hI.lt, fun j hj => ?_⟩
    exact (World.cell?_of_block (w := W) (a := ⟨g, off + j, none⟩) (World.putObj_heap_other (fun e => hn (by subst e; exact hSD)))).trans (hI.v j hj)
  case round =>
    rintro l k S W vs hk hS hen hSl hl1 hl2 ⟨rr, hrr⟩ hSb
    obtain ⟨x, v, hx, rfl, C, cc, rfl, g1, g2, g3, g4⟩ := hen
    have HS := Lib.hid hS
    have HX := Lib.hid hx
    have HRW := Lib.hid (And.intro g3 g4)
    have HSB := Lib.hid hSb
    have HMEM := Lib.hid (tryL_mem HOK.out m 0 t 0 [] (Nat.zero_le _) HT.out.1 (by have := HT.out; omega) (leftN_le 0 m) x (List.mem_of_getElem? hx))
    have hxl : x.1.length ≤ 8 := by
      obtain ⟨⟨r', h1, h2⟩, _⟩ := HMEM.out
      rw [h1, List.nil_append]
      have := leftN_le 0 m
      omega
    have HRR := Lib.hid hrr
    clear hS hx g3 g4 hSb hrr
    gi_wp2
    refine ⟨HoldsS.refl _, HS.out, fun o hI hlo => ?_⟩
    obtain ⟨W6, hW6⟩ : ∃ W6, W.putObj l (.loop o) = W6 := ⟨_, rfl⟩
    have hsz6 : W6.heap.size = W.heap.size := by rw [← hW6]; simp
    have HIH := Lib.hid (show IHas W6 C x.1.length (atL x.1) from fun h0 => by
      obtain ⟨g, off, e, hg, hI'⟩ := HRW.out.1 h0
      by_cases hgl : g = l
      · subst hgl
        have h1 := hI'.v 0 h0
        simp [World.cell?, HRR.out] at h1
      · refine ⟨g, off, e, by rw [hsz6]; exact hI'.lt, fun j hj => ?_⟩
        exact (World.cell?_of_block (w := W) (a := ⟨g, off + j, none⟩) (by rw [← hW6]; exact World.putObj_heap_other (fun e => hgl e))).trans (hI'.v j hj))
    rw [hW6] at hI hlo ⊢
    have hgs : growS S W W6 = S := by
      funext b
      exact propext ⟨fun hg => by rcases hg with hg | hg; exact hg; omega, fun hg => .inl hg⟩
    rw [hgs] at hI
    clear hgs
    have HI := Lib.hid hI
    have HSB6 := Lib.hid (show ∀ b, S b → b < W6.heap.size from fun b hb => by rw [hsz6]; exact (HSB.out b hb).2)
    obtain ⟨v0, hv0, D, dd, rfl, q1, q2, _⟩ := HI.out.ls
    have HV0 := Lib.hid hv0
    obtain ⟨d0, d1, d2⟩ := cell1_of8 hv0
    obtain ⟨y0, y1, y2⟩ := cell1_of8 HI.out.en
    have HPK := Lib.hid (show pickF (lgL t ((rdsL m p q t).take k)) x = if decide ((lgL t ((rdsL m p q t).take k)).1.length < x.1.length) || (decide (x.1.length = (lgL t ((rdsL m p q t).take k)).1.length) && decide (x.2 < (lgL t ((rdsL m p q t).take k)).2)) then x else lgL t ((rdsL m p q t).take k) from rfl)
    have HSET := Lib.hid (fun W9 v' (hp : pickF (lgL t ((rdsL m p q t).take k)) x = x) (hb : Below W6.heap.size W6 W9) (ho : W9.ownsRow W6.heap.size 3 1 v' x.1.length (ints (atL x.1) x.1.length)) => HI.out.set HBD.out HSB6.out HX.out hp hb ho)
    have HKEEP := Lib.hid (fun hp => HI.out.keep HX.out hp)
    have HCL := Lib.hid (fun w h => Clone_any8 C x.1.length cc (atL x.1) w (by omega) h HRW.out.2)
    clear hI hlo hW6 hv0
    generalize lgL t ((rdsL m p q t).take k) = Z at *
    obtain ⟨zr, ze⟩ := Z
    obtain ⟨xr, xe⟩ := x
    simp only at *
    have hne1 : W2.heap.size ≠ W3.heap.size := by have := HSZ.out; omega
    have hne2 : W3.heap.size ≠ W2.heap.size := by have := HSZ.out; omega
    by_cases hlen : zr.length < xr.length
    · have HP1 := Lib.hid (show pickF (zr, ze) (xr, xe) = (xr, xe) from by rw [HPK.out, decide_eq_true hlen]; rfl)
      clear HPK HKEEP
      gi_wp2_with (refine ⟨trivial, ?_⟩; gi_at_call 71; refine (CallsIn.inRound l (callsIn_wide.2 (HCL.out _ HIH.out))).mono ?_; rintro e w9 ⟨v', rfl, ho9, hb9⟩; obtain ⟨A9, c9, rfl, _, _⟩ := owns_form8 ho9; have FIN := Lib.hid (HSET.out w9 _ HP1.out hb9 ho9); obtain ⟨d0, d1, d2⟩ := cell1_of8 ((hb9.block _ d2).trans HV0.out); obtain ⟨y0, y1, y2⟩ := cell1_of8 ((hb9.block _ y2).trans HI.out.en); clear hb9 ho9)
      exact FIN.out
    · by_cases heq : xr.length = zr.length
      · have h1 : ((xr.length : Int) == (zr.length : Int)) = true := by rw [beq_iff_eq]; omega
        by_cases hlt : xe < ze
        · have HP1 := Lib.hid (show pickF (zr, ze) (xr, xe) = (xr, xe) from by rw [HPK.out, decide_eq_false hlen, decide_eq_true heq, decide_eq_true hlt]; rfl)
          clear HPK HKEEP heq
          gi_wp2_with (refine ⟨trivial, ?_⟩; gi_at_call 71; refine (CallsIn.inRound l (callsIn_wide.2 (HCL.out _ HIH.out))).mono ?_; rintro e w9 ⟨v', rfl, ho9, hb9⟩; obtain ⟨A9, c9, rfl, _, _⟩ := owns_form8 ho9; have FIN := Lib.hid (HSET.out w9 _ HP1.out hb9 ho9); obtain ⟨d0, d1, d2⟩ := cell1_of8 ((hb9.block _ d2).trans HV0.out); obtain ⟨y0, y1, y2⟩ := cell1_of8 ((hb9.block _ y2).trans HI.out.en); clear hb9 ho9)
          exact FIN.out
        · have HP1 := Lib.hid (show pickF (zr, ze) (xr, xe) = (zr, ze) from by rw [HPK.out, decide_eq_false hlen, decide_eq_true heq, decide_eq_false hlt]; rfl)
          have FIN := Lib.hid (HKEEP.out HP1.out)
          clear HPK HSET heq
          gi_wp2
          exact ⟨HoldsS.refl _, FIN.out⟩
      · have h1 : ((xr.length : Int) == (zr.length : Int)) = false := beq_eq_false_iff_ne.2 (by omega)
        have HP1 := Lib.hid (show pickF (zr, ze) (xr, xe) = (zr, ze) from by rw [HPK.out, decide_eq_false hlen, decide_eq_false heq]; rfl)
        have FIN := Lib.hid (HKEEP.out HP1.out)
        clear HPK HSET heq
        gi_wp2
        exact ⟨HoldsS.refl _, FIN.out⟩

/-- The best round: its error, its list. -/
def bsE8 (m : Nat) (p : Nat → Sto) (n : Nat) (q : Nat → List Int) (t : Int) : Int := if dyE m p n q t = 0 then (if (lgL t (rdsL m p q t)).1.length < m then 8 else 0) else dyE m p n q t
def bsL8 (m : Nat) (p : Nat → Sto) (n : Nat) (q : Nat → List Int) (t : Int) : List Int := if dyE m p n q t = 0 then (if (lgL t (rdsL m p q t)).1.length < m then [] else (lgL t (rdsL m p q t)).1) else []
set_option maxHeartbeats 8000000 in
theorem Best_any8 (A : Option Addr) (m c : Nat) (p : Nat → Sto) (R : Option Addr) (n d : Nat) (q : Nat → List Int) (t : Int) (w : World) (hm : m ≤ c) (hc : c ≤ 9223372036854775807) (hn : n ≤ d) (hd : d ≤ 9223372036854775807) (hm2 : m ≤ 1000000) (hp : StHas w A m p) (hq : LHas w R n q) :
    Calls Try.prog 29 #[.slice A m c, .slice R n d, .int .i64 t] w (RetL8 w (bsL8 m p n q t) (bsE8 m p n q t)) := by
  by_cases h0 : dyE m p n q t = 0
  · have hdy : dayB m p n q = true := by
      unfold dyE at h0
      cases h1 : dayB m p n q <;> rw [h1] at h0 <;> simp_all
    obtain rfl := (dayB_ok hdy).1
    have HL := Lib.hid (Largest_ok A m c p R d q t w hm hc hn hd hp hq h0)
    have HV := Lib.hid (show bsE8 m p (m + 1) q t = (if (lgL t (rdsL m p q t)).1.length < m then 8 else 0) from by unfold bsE8; rw [if_pos h0])
    have HW := Lib.hid (show bsL8 m p (m + 1) q t = (if (lgL t (rdsL m p q t)).1.length < m then [] else (lgL t (rdsL m p q t)).1) from by unfold bsL8; rw [if_pos h0])
    generalize bsE8 m p (m + 1) q t = E at *
    generalize bsL8 m p (m + 1) q t = Z at *
    generalize (lgL t (rdsL m p q t)).1 = r at *
    clear hp hq h0 hdy
    by_cases hlt : r.length < m
    · rw [if_pos hlt] at HV HW
      go_enter Try.func29, Try.ntmps29
      go_wp2_with (go_at_call 31; (refine HL.out.mono ?_); rintro e w1 ⟨C, cc, rfl, g1, g2, g3, hb1⟩)
      go_ret2
      refine ⟨none, 0, by rw [HV.out, HW.out]; rfl, by rw [HW.out]; exact Nat.le_refl _, by omega, fun h => by rw [HW.out] at h; exact absurd h (Nat.lt_irrefl 0), hb1⟩
    · rw [if_neg hlt] at HV HW
      go_enter Try.func29, Try.ntmps29
      go_wp2_with (go_at_call 31; (refine HL.out.mono ?_); rintro e w1 ⟨C, cc, rfl, g1, g2, g3, hb1⟩)
      go_ret2
      exact ⟨C, cc, by rw [HV.out, HW.out]; rfl, by rw [HW.out]; exact g1, g2, by rw [HW.out]; exact g3, hb1⟩
  · have HL := Lib.hid (Largest_no A m c p R n d q t w hm hc hn hd hm2 hp hq h0)
    have HV := Lib.hid (show bsE8 m p n q t = dyE m p n q t from by unfold bsE8; rw [if_neg h0])
    have HW := Lib.hid (show bsL8 m p n q t = [] from by unfold bsL8; rw [if_neg h0])
    generalize bsE8 m p n q t = E at *
    generalize bsL8 m p n q t = Z at *
    generalize dyE m p n q t = E' at *
    have h1 : (E' != 0) = true := by simpa using h0
    clear hp hq h0
    go_enter Try.func29, Try.ntmps29
    go_wp2_with (go_at_call 31; (refine HL.out.mono ?_); rintro e w1 ⟨C, cc, rfl, g1, g2, g3, hb1⟩)
    go_ret2
    exact ⟨none, 0, by rw [HV.out, HW.out]; rfl, by rw [HW.out]; exact Nat.le_refl _, by omega, fun h => by rw [HW.out] at h; exact absurd h (Nat.lt_irrefl 0), hb1⟩
end Go.Proofs.Ytclallodmbianaa
