/- When a round ends, by the code; no statement is proved here. -/
import Derived.Test.YtclallodmbianaaRoFix
namespace Go.Proofs.Ytclallodmbianaa
open Go.ChangeShapes Go.WideShapes Go.ChangeAt Go.RowKit Go.Shelf
attribute [local go_sem] Oper.semAt_some

theorem rnE_zero {m : Nat} {p : Nat → Sto} {n : Nat} {q : Nat → List Int} {t : Int} {l : Nat → Int} {len : Nat} (h : rnE m p n q t l len = 0) : m + 1 = n ∧ DayOk m p q ∧ (0 ≤ t ∧ t ≤ 1440) ∧ (∀ k, k < len → 1 ≤ l k ∧ l k ≤ (m : Int)) ∧ len ≤ m ∧ ckR m l len = 0 := by
  unfold rnE at h
  cases h1 : dayB m p n q
  · rw [h1] at h; simp at h
  cases h2 : btw t 0 1440
  · rw [h1, h2] at h; simp at h
  rw [h1, h2, if_pos rfl, if_pos rfl] at h
  obtain ⟨h3, h4⟩ := dayB_ok h1
  exact ⟨h3, h4, btw_iff.1 h2, fun k hk => inR_at (ckR_zero h).1 hk, round_le h, h⟩
theorem endR_bd {m : Nat} {p : Nat → Sto} {q : Nat → List Int} (hd : DayOk m p q) {l : Nat → Int} {t : Int} {n : Nat} (h : ∀ k, k < n → 1 ≤ l k ∧ l k ≤ (m : Int)) (ht : 0 ≤ t) {k : Nat} (hk : k < n) : 0 ≤ enK p q l t k ∧ enK p q l t k ≤ t + 2640 * (k + 1) ∧ 0 ≤ atL (q (l k).toNat) 0 ∧ atL (q (l k).toNat) 0 ≤ 600 := by
  have h1 := mnK_bd hd h ht (k + 1) (by omega)
  have h2 := h k hk
  have h3 := hd.rd (l k).toNat 0 (by omega) (Nat.zero_le _)
  have h4 : mnK p q l t (k + 1) = enK p q l t k := rfl
  rw [h4] at h1
  push_cast at h1
  omega

set_option maxHeartbeats 16000000 in
set_option maxRecDepth 100000 in
theorem End_ok (A : Option Addr) (m c : Nat) (p : Nat → Sto) (R : Option Addr) (n d : Nat) (q : Nat → List Int) (t : Int) (C : Option Addr) (len lc : Nat) (l : Nat → Int) (w : World) (hm : m ≤ c) (hc : c ≤ 9223372036854775807) (hn : n ≤ d) (hd : d ≤ 9223372036854775807) (hl : len ≤ lc) (hlc : lc ≤ 9223372036854775807)
    (hp : StHas w A m p) (hq : LHas w R n q) (hr : IHas w C len l) (h0 : rnE m p n q t l len = 0) :
    Calls Try.prog 22 #[.slice A m c, .slice R n d, .int .i64 t, .slice C len lc] w fun e w' => e = .returned (.tuple #[.int .i64 (endR p q l t len), .int .i64 0]) ∧ Below w.heap.size w w' := by
  obtain ⟨rfl, hok, ht, hin, hlm, _⟩ := rnE_zero h0
  have hm8 := hok.le
  obtain ⟨b', off', rfl, _⟩ := hq (by omega)
  obtain ⟨W1, e1⟩ : ∃ W1, w.alloc (.cells #[.slice (some ⟨b', off', none⟩) (m + 1) d] 23) = W1 := ⟨_, rfl⟩
  have B1 : Below w.heap.size w W1 := by rw [← e1]; exact (Below.refl _ _).alloc (Nat.le_refl _) _
  have s1 : W1.heap.size = w.heap.size + 1 := by rw [← e1]; simp
  have z1 : W1.heap[w.heap.size]? = some (.cells #[.slice (some ⟨b', off', none⟩) (m + 1) d] 23) := by rw [← e1]; exact new_at w _ _ rfl
  have HN := Lib.hid (newRun_any A m c p (some ⟨b', off', none⟩) (m + 1) d q t C len lc l W1 hm hc hn hd (by omega) hl hlc (hp.later B1) (hq.later B1) (hr.later B1))
  rw [h0] at HN
  obtain ⟨r0, _, rl⟩ := cell1_of8 z1
  have HP := Lib.hid hp
  have HQ := Lib.hid hq
  have HR := Lib.hid hr
  have HD := Lib.hid hok
  have HT := Lib.hid ht
  have HL := Lib.hid hin
  have HBD := Lib.hid (fun k (hk : k < len) => endR_bd hok hin ht.1 hk)
  have HB1 := Lib.hid (And.intro B1 (And.intro s1 z1))
  clear hp hq hr h0 hok ht hin B1 s1 z1
  refine (callsIn_wide (n := 9)).1 ?_
  refine callsIn_of_wp_marks Try.func22 rfl trivial ?_ rfl
  simp only [Try.ntmps22, List.size_toArray, List.length_cons, List.length_nil, Nat.reduceAdd, Nat.reduceSub, Array.replicate_succ, Array.replicate_zero, List.push_toArray, List.append_toArray, List.nil_append, List.cons_append]
  gi_wp2
  refine ⟨trivial, (callsIn_wide.2 HN.out).mono ?_⟩
  rintro e w2 ⟨⟨A', m', c', R', n', d', t', rfl, hz⟩, hb2⟩
  obtain ⟨rfl, rfl, rfl, rfl, rfl, rfl, rfl⟩ := hz rfl
  obtain ⟨W3, e3⟩ : ∃ W3, w2.alloc (.cells #[.slice A' m' c', .slice (some ⟨b', off', none⟩) (m' + 1) d', .int .i64 t'] 59) = W3 := ⟨_, rfl⟩
  obtain ⟨W4, e4⟩ : ∃ W4, W3.alloc (.cells #[.int .i64 t'] 3) = W4 := ⟨_, rfl⟩
  have B3 : Below w2.heap.size w2 W3 := by rw [← e3]; exact (Below.refl _ _).alloc (Nat.le_refl _) _
  have B4 : Below W3.heap.size W3 W4 := by rw [← e4]; exact (Below.refl _ _).alloc (Nat.le_refl _) _
  have s3 : W3.heap.size = w2.heap.size + 1 := by rw [← e3]; simp
  have s4 : W4.heap.size = W3.heap.size + 1 := by rw [← e4]; simp
  have z3 : W3.heap[w2.heap.size]? = some (.cells #[.slice A' m' c', .slice (some ⟨b', off', none⟩) (m' + 1) d', .int .i64 t'] 59) := by rw [← e3]; exact new_at w2 _ _ rfl
  have z4 : W4.heap[W3.heap.size]? = some (.cells #[.int .i64 t'] 3) := by rw [← e4]; exact new_at W3 _ _ rfl
  have y4 := (B4.block _ (lt_of_heap z3)).trans z3
  have x4 := (B4.block _ (Nat.lt_of_lt_of_le (Nat.lt_of_lt_of_le (lt_of_heap HB1.out.2.2) hb2.size) B3.size)).trans ((B3.block _ (Nat.lt_of_lt_of_le (lt_of_heap HB1.out.2.2) hb2.size)).trans ((hb2.block _ (lt_of_heap HB1.out.2.2)).trans HB1.out.2.2))
  obtain ⟨c0, c1, c2, _, cl⟩ := cells3_8 y4
  have HB4 := Lib.hid (bthen (bthen (bthen HB1.out.1 hb2) B3) B4)
  have HSZ := Lib.hid (And.intro HB1.out.2.1 (And.intro hb2.size (And.intro s3 s4)))
  have HZ := Lib.hid (And.intro x4 z4)
  have HV := Lib.hid (visits_any m' c' p q t' A' (some ⟨b', off', none⟩) d' C len lc l W4 (HP.out.later HB4.out) (HQ.out.later HB4.out) (HR.out.later HB4.out))
  clear B3 B4 s3 s4 z3 z4 y4 x4 hb2 r0 rl hz
  gi_wp2
  refine ⟨trivial, (callsIn_wide.2 HV.out).mono ?_⟩
  rintro e w5 ⟨rfl, hvi, hsz, hb5⟩
  obtain ⟨ents, hents⟩ : ∃ ents : List (Nat × Obj), ents = [(w.heap.size, .cells #[.slice (some ⟨b', off', none⟩) (m' + 1) d'] 23), (W4.heap.size, .cells #[.slice A' m' c', .slice (some ⟨b', off', none⟩) (m' + 1) d', .int .i64 t'] 59), (W4.heap.size + 1, .cells #[.slice C len lc] 24)] := ⟨_, rfl⟩
  have HOK := Lib.hid (show AcOk w (W4.heap.size + 2) ents W3.heap.size from by
    have h2 := HSZ.out
    refine ⟨by omega, by omega, fun x hx => ?_⟩
    rw [hents] at hx
    simp only [List.mem_cons, List.not_mem_nil, or_false] at hx
    rcases hx with rfl | rfl | rfl <;> (dsimp only; omega))
  have HAC := Lib.hid (show AcAt w (W4.heap.size + 2) ents W3.heap.size 3 (.int .i64 (endR p q l t' 0)) (fun _ => False) w5 from by
    have h2 := HSZ.out
    refine ⟨⟨bthen HB4.out hb5, fun _ h => h.elim, by omega, ⟨by omega, fun x hx => ?_⟩, fun x hx => ?_⟩, (hb5.block _ (lt_of_heap HZ.out.2)).trans HZ.out.2⟩
    · rw [hents] at hx
      simp only [List.mem_cons, List.not_mem_nil, or_false] at hx
      rcases hx with rfl | rfl | rfl <;> (dsimp only; omega)
    · rw [hents] at hx
      simp only [List.mem_cons, List.not_mem_nil, or_false] at hx
      rcases hx with rfl | rfl | rfl
      · exact (hb5.block _ (lt_of_heap HZ.out.1)).trans HZ.out.1
      · exact hvi.1.1
      · exact hvi.2.1)
  have HE := Lib.hid (show (w.heap.size, Obj.cells #[.slice (some ⟨b', off', none⟩) (m' + 1) d'] 23) ∈ ents ∧ (W4.heap.size, Obj.cells #[.slice A' m' c', .slice (some ⟨b', off', none⟩) (m' + 1) d', .int .i64 t'] 59) ∈ ents ∧ (W4.heap.size + 1, Obj.cells #[.slice C len lc] 24) ∈ ents from by
    rw [hents]; simp)
  clear hents hvi hsz hb5 c0 c1 c2 cl HV HZ HN
  gi_wp2
  refine range_S rfl (by omega) (gf := 85) (lb := #[.pointer (some ⟨W4.heap.size, 0, none⟩), .pointer (some ⟨W4.heap.size + 1, 0, none⟩)]) rfl trivial (enters_of Try.func85 (by kernel_rfl) rfl) (visEnc p q l t') len (fun _ => rfl)
    (Rd := VisIn W4.heap.size m' p q t' A' c' (some ⟨b', off', none⟩) d' C len lc l) (fun k S W => AcAt w (W4.heap.size + 2) ents W3.heap.size 3 (.int .i64 (endR p q l t' k)) S W) (fun _ _ _ => False)
    (fun k S W W' h hc => h.calm HOK.out hc) (fun cd S W W' h hc => h)
    (fun k S W h => ⟨⟨h.fix.ent _ HE.out.2.1, HP.out.later h.fix.below, HQ.out.later h.fix.below⟩, h.fix.ent _ HE.out.2.2, HR.out.later h.fix.below⟩)
    (visits_iter _ W4.heap.size m' c' d' p q t' A' (some ⟨b', off', none⟩) C len lc l HD.out HT.out HL.out (by omega) hl hlc) HAC.out ?round ?done ?stop
  case stop =>
    rintro cd D S W hD hSD h
    exact h.elim
  case done =>
    rintro D S W hD hSD hX hK
    have HK := Lib.hid hK
    have HX := Lib.hid hX
    have hD2 := Lib.hid (hX.fix.own D hSD)
    obtain ⟨d0, d1, d2⟩ := cell1_of8 hX.acc
    clear hX hK
    gi_wp2
    refine ⟨by simp, .inl ⟨_, _, rfl, run_takeDeferred HK.out, ?_⟩⟩
    exact ⟨.tuple #[.int .i64 (endR p q l t' len), .int .i64 0], by simp [results, Try.results22, go_sem], rfl, below_put8 HX.out.fix.below _ (by have := hD2.out; have := HSZ.out; omega)⟩
  case round =>
    rintro lp k S W hk hX hSl hl1 hl2 hSb
    have HX := Lib.hid hX
    have HSB := Lib.hid hSb
    have HLB := Lib.hid (show ∀ o, Below W.heap.size W (W.alloc o) from fun o => (Below.refl _ _).alloc (Nat.le_refl _) _)
    obtain ⟨g1, g2⟩ := HL.out k hk
    obtain ⟨s, hs⟩ : ∃ s : Nat, l k = (s : Int) := ⟨(l k).toNat, by omega⟩
    have hsn : (l k).toNat = s := by omega
    have HES := Lib.hid (show endR p q l t' (k + 1) = enK p q l t' k + atL (q s) 0 from by show enK p q l t' k + atL (q (l k).toNat) 0 = _; rw [hsn])
    obtain ⟨i1, i2, i3, i4⟩ := HBD.out k hk
    rw [hsn] at i3 i4
    have HSM := Lib.hid (show s ≤ m' from by omega)
    have ht3 := HT.out
    have e0 : IntKind.i64.wrap (enK p q l t' k + atL (q s) 0) = enK p q l t' k + atL (q s) 0 := IntWalk.i64_in _ (by omega)
    unfold visEnc
    rw [hs]
    generalize arK p q l t' k = AR at *
    generalize beK p q l t' k = BE at *
    generalize enK p q l t' k = EN at *
    clear hX hSb g1 g2 hs hsn ht3
    gi_wp2
    refine ⟨HoldsS.of_below (HLB.out _) (fun b hb => (HSB.out b hb).2), HX.out.later (HLB.out _), fun o hI hlo => ?_⟩
    obtain ⟨W5, hW5⟩ : ∃ W5, (W.alloc (.cells #[.int .i64 (s : Int), .int .i64 AR, .int .i64 BE, .int .i64 EN] 64)).putObj lp (.loop o) = W5 := ⟨_, rfl⟩
    have hx : W5.heap[W.heap.size]? = some (.cells #[.int .i64 (s : Int), .int .i64 AR, .int .i64 BE, .int .i64 EN] 64) := by
      rw [← hW5]; exact (World.putObj_heap_other (by omega)).trans (World.alloc_heap_new W _)
    have hsz5 : W5.heap.size = W.heap.size + 1 := by rw [← hW5]; simp
    rw [hW5] at hI hlo ⊢
    have HI := Lib.hid (show AcAt w (W4.heap.size + 2) ents W3.heap.size 3 (.int .i64 (endR p q l t' k)) S W5 from { hI with fix := { hI.fix with own := HX.out.fix.own } })
    have HSB5 := Lib.hid (show ∀ b, S b → b < W5.heap.size from fun b hb => by rw [hsz5]; have := (HSB.out b hb).2; omega)
    obtain ⟨v0, v1, v2, v3⟩ := (cells4_8 hx).1
    have vl := lt_of_heap hx
    obtain ⟨c0, _, cl⟩ := cell1_of8 (HI.out.fix.ent _ HE.out.1)
    obtain ⟨b2', off2', eR, lb', hQ⟩ := (HQ.out.later HI.out.fix.below) (by omega)
    cases eR
    obtain ⟨CC, kk, z0, k1, k2, k3⟩ := hQ s (by have := HSM.out; omega)
    have hlen := HD.out.len s HSM.out
    obtain ⟨b2, o2, rfl, hII⟩ := k3 (by rw [hlen]; omega)
    have z1 := hII.v 0 (by rw [hlen]; omega)
    rw [Nat.add_zero] at z1
    have lb2 := hII.lt
    rw [hlen] at z0 k1
    have hss := HSM.out
    generalize atL (q s) 0 = x at *
    clear hI hlo hW5 hx hsz5 hlen hQ k3 hII
    gi_wp2
    refine wpIn_region_tail (WideF.round lp) 10 (Below.refl _ _) (by kernel_rfl) (by kernel_rfl) (by kernel_rfl) (fun hcell => ?_)
    simp only [List.take_succ_cons, List.take_zero, List.drop_succ_cons, List.drop_zero]
    repeat (go_big_quiet_step (fail))
    refine wpQuiet_nil ?_
    intro w9 hb9
    have HB9 := Lib.hid hb9
    obtain ⟨d0, d1, d2⟩ := cell1_of8 (HI.out.later hb9).acc
    clear hcell hb9 v0 v1 v2 v3 vl c0 cl z0 z1 lb' lb2 e0
    gi_wp2
    refine ⟨(HoldsS.of_below HB9.out HSB5.out).trans ((HI.out.later HB9.out).holds HOK.out _), ?_⟩
    rw [HES.out]
    exact (HI.out.later HB9.out).set HOK.out _
end Go.Proofs.Ytclallodmbianaa
