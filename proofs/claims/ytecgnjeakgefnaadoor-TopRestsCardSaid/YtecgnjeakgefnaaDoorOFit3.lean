/- Misfits, layer 2; no statement is proved here. -/
import Derived.Test.YtecgnjeakgefnaaDoorOFit1
import Derived.Test.YtecgnjeakgefnaaDoorOFirstR
import Derived.Laws.EntriesVeiled
namespace Go.Proofs.YtecgnjeakgefnaaDoor.Outl
open Go.ChangeShapes Go.WideShapes Go.ChangeAt Go.RowKit Go.Shelf
attribute [local go_sem] Oper.semAt_some

/-- The two words. -/
abbrev sOut : Value := .string { data := #[111, 117, 116, 115, 105, 100, 101] }
abbrev sWide : Value := .string { data := #[119, 105, 100, 101] }
/-- The cells of the misfits among the first corners: o says outside, v wide. -/
def mfC (o v : Nat → Bool) : Nat → List Value
  | 0 => []
  | k + 1 => mfC o v k ++ (if o k then [.int .i64 (k : Int), sOut] else if v k then [.int .i64 (k : Int), sWide] else [])
/-- How many they are. -/
def mfN (o v : Nat → Bool) : Nat → Nat
  | 0 => 0
  | k + 1 => mfN o v k + (if o k || v k then 1 else 0)
theorem mfN_le (o v : Nat → Bool) : ∀ k, mfN o v k ≤ k
  | 0 => Nat.le_refl _
  | k + 1 => by have := mfN_le o v k; unfold mfN; split <;> omega
theorem mf_out {o v : Nat → Bool} {k : Nat} (h : o k = true) : mfC o v (k + 1) = mfC o v k ++ [.int .i64 (k : Int), sOut] ∧ mfN o v (k + 1) = mfN o v k + 1 := by
  constructor
  · show mfC o v k ++ _ = _; rw [if_pos h]
  · show mfN o v k + _ = _; rw [h]; rfl
theorem mf_wide {o v : Nat → Bool} {k : Nat} (h : o k = false) (h2 : v k = true) : mfC o v (k + 1) = mfC o v k ++ [.int .i64 (k : Int), sWide] ∧ mfN o v (k + 1) = mfN o v k + 1 := by
  constructor
  · show mfC o v k ++ _ = _; rw [h, h2]; rfl
  · show mfN o v k + _ = _; rw [h, h2]; rfl
theorem mf_none {o v : Nat → Bool} {k : Nat} (h : o k = false) (h2 : v k = false) : mfC o v (k + 1) = mfC o v k ∧ mfN o v (k + 1) = mfN o v k := by
  constructor
  · show mfC o v k ++ _ = _; rw [h, h2]; exact List.append_nil _
  · show mfN o v k + _ = _; rw [h, h2]; rfl

theorem fit_two (w : World) (P Q : Obj) : Below w.heap.size w ((w.alloc P).alloc Q) := ((Below.refl _ _).alloc (Nat.le_refl _) _).alloc (by simp) _
theorem cell4o {w : World} {b : Nat} {v0 v1 v2 v3 : Value} {t : TypeId} (h : w.heap[b]? = some (.cells #[v0, v1, v2, v3] t)) :
    w.cell? ⟨b, 0, none⟩ = some v0 ∧ w.cell? ⟨b, 1, none⟩ = some v1 ∧ w.cell? ⟨b, 2, none⟩ = some v2 ∧ w.cell? ⟨b, 3, none⟩ = some v3 := by
  simp [World.cell?, h]
theorem infoMf : (Tryd.prog.info? 109).map (fun i => (i.zero, i.size, i.bytes)) = some (some (.agg #[.int .i64 0, .string { data := #[] }]), 2, 24) := by kernel_rfl

set_option maxHeartbeats 8000000 in
set_option maxRecDepth 100000 in
theorem Misfits_yes (b off n c b' off' m d : Nat) (p q : Nat → Pt) (L F B : Int) (w : World) (hn : n ≤ c) (hc : c ≤ 9223372036854775807) (hm : m ≤ d) (hd : d ≤ 9223372036854775807) (hp : Pts w b off n p) (hq : Pts w b' off' m q) (hv : vC p n = true) (hw : vC q m = true) (hin : inAll p n = true) (hin2 : inAll q m = true) (h1 : 1 ≤ n) (h64 : n ≤ 64) (m64 : m ≤ 64) (hf : fitV L F B = true) :
    Calls Tryd.prog 33 #[.slice (some ⟨b, off, none⟩) n c, .slice (some ⟨b', off', none⟩) m d, .agg #[.int .i64 L, .int .i64 F, .int .i64 B]] w fun e w' =>
      ∃ v, e = .returned (.tuple #[v, .int .i64 0]) ∧ w'.ownsRow w.heap.size 109 2 v (mfN (fun k => outB p n (q k)) (fun k => wideB p n L F B (q k)) m) (mfC (fun k => outB p n (q k)) (fun k => wideB p n L F B (q k)) m) ∧ Below w.heap.size w w' := by
  obtain ⟨i0, hi0, hz0, hz1, hz2⟩ := info_parts infoMf
  have HP := Lib.hid hp
  have HQ := Lib.hid hq
  have HS1 := Lib.hid (show Has w (some ⟨b, off, none⟩) n p from fun _ => ⟨b, off, rfl, hp⟩)
  have HS2 := Lib.hid (show Has w (some ⟨b', off', none⟩) m q from fun _ => ⟨b', off', rfl, hq⟩)
  have HV := Lib.hid hv
  have HW := Lib.hid hw
  have HF := Lib.hid hf
  have C1 := Lib.hid (fun g x y W hg hP hx => outside_is g b off n c p x y W hg hP hin hx h1 h64 _ rfl)
  have C2 := Lib.hid (fun f g x y W hf' hg hP hx => wide_is f g b off n c p L F B x y W hf' hf hg hP hin hx h1 h64 _ rfl)
  have HI := Lib.hid hin2
  have Z0 := Lib.hid (old_at (new_at w (.cells #[.slice (some ⟨b, off, none⟩) n c] 39) _ rfl) (.cells #[.int .i64 L, .int .i64 F, .int .i64 B] 42))
  have Z1 := Lib.hid (new_at (w.alloc (.cells #[.slice (some ⟨b, off, none⟩) n c] 39)) (.cells #[.int .i64 L, .int .i64 F, .int .i64 B] 42) (w.heap.size + 1) (by simp))
  have HB0 := Lib.hid (fit_two w (.cells #[.slice (some ⟨b, off, none⟩) n c] 39) (.cells #[.int .i64 L, .int .i64 F, .int .i64 B] 42))
  have hmf : ∀ (fn : Fn) (first cap : Array Value) (w : World), (Instr.makeFunc fn first cap).run Tryd.prog w = .ok (.func fn first cap) w := fun _ _ _ _ => rfl
  clear hp hq hv hw hf hin hin2
  go_enter Tryd.func33, Tryd.ntmps33
  go_wp2_with (first
    | (go_at_call 54; with_reducible refine (valid_is _ n c p _ hn hc (HS1.out.later HB0.out) _ HV.out).mono ?_; rintro e w1 ⟨rfl, hb1⟩; have HB1 := Lib.hid (bthen HB0.out hb1); have HC1 := Lib.hid hb1; clear hb1)
    | (go_at_call 54; with_reducible refine (valid_is _ m d q _ hm hd (HS2.out.later HB1.out) _ HW.out).mono ?_; rintro e w2 ⟨rfl, hb2⟩; have HB2 := Lib.hid (bthen HB1.out hb2); have HC2 := Lib.hid (bthen HC1.out hb2); clear hb2; obtain ⟨g0, g1, g2⟩ := cell3_of ((HC2.out.block _ (lt_of_heap Z1.out)).trans Z1.out); have l0 := lt_of_heap ((HC2.out.block _ (lt_of_heap Z1.out)).trans Z1.out))
    | (go_at_call 55; clear g0 g1 g2 l0; refine (validFit_is L F B _ _ HF.out).mono ?_; rintro e w3 ⟨rfl, hb3⟩; have HB3 := Lib.hid (bthen HB2.out hb3); have Z03 := Lib.hid (((bthen HC2.out hb3).block _ (lt_of_heap Z0.out)).trans Z0.out); have Z13 := Lib.hid (((bthen HC2.out hb3).block _ (lt_of_heap Z1.out)).trans Z1.out); clear hb3))
  have HB4' := Lib.hid (HB3.out)
  generalize hW3 : World.alloc w3 _ = W3
  have K0 := Lib.hid (show W3.heap[w3.heap.size]? = some (.cells #[sOut, .func (.func 56) #[] #[.pointer (some ⟨w.heap.size, 0, none⟩)], sWide, .func (.func 58) #[] #[.pointer (some ⟨w.heap.size + 1, 0, none⟩), .pointer (some ⟨w.heap.size, 0, none⟩)]] 99) by rw [← hW3]; exact new_at _ _ _ rfl)
  have HBW := Lib.hid (show Below w.heap.size w W3 by rw [← hW3]; exact HB3.out.alloc HB3.out.size _)
  have ZW0 := Lib.hid (show W3.heap[w.heap.size]? = some (.cells #[.slice (some ⟨b, off, none⟩) n c] 39) by rw [← hW3]; exact old_at Z03.out _)
  have ZW1 := Lib.hid (show W3.heap[w.heap.size + 1]? = some (.cells #[.int .i64 L, .int .i64 F, .int .i64 B] 42) by rw [← hW3]; exact old_at Z13.out _)
  have D1 := Lib.hid (fun x y W (hW : Below W3.heap.size W3 W) hx => C1.out w.heap.size x y W ((hW.block _ (lt_of_heap ZW0.out)).trans ZW0.out) (HP.out.later (bthen HBW.out hW)) hx)
  have D2 := Lib.hid (fun x y W (hW : Below W3.heap.size W3 W) hx => C2.out (w.heap.size + 1) w.heap.size x y W ((hW.block _ (lt_of_heap ZW1.out)).trans ZW1.out) ((hW.block _ (lt_of_heap ZW0.out)).trans ZW0.out) (HP.out.later (bthen HBW.out hW)) hx)
  clear hW3 C1 C2 HB1 HC1 HB2 HC2 HB3 Z03 Z13 Z0 Z1 HB0
  go_loopw [9, 10, 11, 13, 34] (fun v _ _ _ i wr => ∃ k : Nat, k ≤ m ∧ i = .int .i64 (k : Int) ∧ wr.ownsRow W3.heap.size 109 2 v (mfN (fun k => outB p n (q k)) (fun k => wideB p n L F B (q k)) k) (mfC (fun k => outB p n (q k)) (fun k => wideB p n L F B (q k)) k) ∧ Below W3.heap.size W3 wr) (fun _ _ _ _ i _ => m - (intOf i).toNat)
  case atStart => exact ⟨0, Nat.zero_le _, rfl, World.ownsRow_nil _ _ _ _, Below.refl _ _⟩
  case round =>
    obtain ⟨k, hk, rfl, hown, hbr⟩ := hrel
    by_cases hlt : k < m
    · have hx := (HQ.out.later (bthen HBW.out hbr)).x k hlt
      have hy := (HQ.out.later (bthen HBW.out hbr)).y k hlt
      have lb := (HQ.out.later (bthen HBW.out hbr)).lt
      have hX := inAll_at' HI.out hlt
      have A1 := Lib.hid (fun h => mf_out (o := fun k => outB p n (q k)) (v := fun k => wideB p n L F B (q k)) (k := k) h)
      have A2 := Lib.hid (fun h h2 => mf_wide (o := fun k => outB p n (q k)) (v := fun k => wideB p n L F B (q k)) (k := k) h h2)
      have A3 := Lib.hid (fun h h2 => mf_none (o := fun k => outB p n (q k)) (v := fun k => wideB p n L F B (q k)) (k := k) h h2)
      try dsimp only at A1 A2 A3
      generalize hQk : q k = Q at *
      obtain ⟨x, y⟩ := Q
      dsimp only at hx hy
      have HO := Lib.hid hown
      have HB := Lib.hid hbr
      have HX := Lib.hid hX
      clear hown hbr hX hQk
      go_wp2
      have HB3 := Lib.hid (HB.out.alloc HB.out.size (.cells #[.int .i64 x, .int .i64 y] 72))
      have HO3 := Lib.hid (HO.out.alloc (.cells #[.int .i64 x, .int .i64 y] 72))
      have HP3 := Lib.hid (new_at wr (.cells #[.int .i64 x, .int .i64 y] 72) _ rfl)
      go_loopw [9, 13, 41] (fun v _ i w4 => Below W3.heap.size W3 w4 ∧ w4.ownsRow W3.heap.size 109 2 v (mfN (fun k => outB p n (q k)) (fun k => wideB p n L F B (q k)) k) (mfC (fun k => outB p n (q k)) (fun k => wideB p n L F B (q k)) k) ∧ w4.heap[wr.heap.size]? = some (.cells #[.int .i64 x, .int .i64 y] 72) ∧ (i = .int .i64 0 ∨ (i = .int .i64 1 ∧ outB p n (x, y) = false) ∨ (i = .int .i64 2 ∧ outB p n (x, y) = false ∧ wideB p n L F B (x, y) = false))) (fun _ _ i _ => 2 - (intOf i).toNat)
      case atStart => exact ⟨HB3.out, HO3.out, HP3.out, .inl rfl⟩
      case round =>
      obtain ⟨hb4, ho4, hpt, rfl | ⟨rfl, hoo⟩ | ⟨rfl, hoo, hww⟩⟩ := hrel
      all_goals
        have HB4 := Lib.hid hb4
        have HO4 := Lib.hid ho4
        have HPT := Lib.hid hpt
        clear hb4 ho4 hpt
      · have HK := (HB4.out.block _ (lt_of_heap K0.out)).trans K0.out
        obtain ⟨e0, e1, e2, e3⟩ := cell4o HK
        have lK := lt_of_heap HK
        obtain ⟨p0, p1, _, _⟩ := cell2_of HPT.out
        have lp := lt_of_heap HPT.out
        have CC := (fun W hW => D1.out x y W hW HX.out)
        clear HK
        cases hh : outB p n (x, y)
        · rw [hh] at CC
          have CC := Lib.hid CC
          have HH := Lib.hid hh
          clear hh
          go_wp2_with (go_at_call 56; with_reducible refine (CC.out _ (bthen HB4.out ((Below.refl _ _).alloc (Nat.le_refl _) (.cells #[sOut, .func (.func 56) #[] #[.pointer (some ⟨w.heap.size, 0, none⟩)]] 99)))).mono ?_; rintro e w5 ⟨rfl, hb5⟩; have hB5 := Lib.hid (bthen (bthen HB4.out ((Below.refl _ _).alloc (Nat.le_refl _) (.cells #[sOut, .func (.func 56) #[] #[.pointer (some ⟨w.heap.size, 0, none⟩)]] 99))) hb5); have hO5 := Lib.hid (owns_later HO4.out (bthen ((Below.refl _ _).alloc (Nat.le_refl _) (.cells #[sOut, .func (.func 56) #[] #[.pointer (some ⟨w.heap.size, 0, none⟩)]] 99)) hb5)); have hP5 := Lib.hid ((hb5.block _ (lt_of_heap (old_at HPT.out (.cells #[sOut, .func (.func 56) #[] #[.pointer (some ⟨w.heap.size, 0, none⟩)]] 99)))).trans (old_at HPT.out (.cells #[sOut, .func (.func 56) #[] #[.pointer (some ⟨w.heap.size, 0, none⟩)]] 99))); have hK5 := (hb5.block _ (lt_of_heap (new_at wr (.cells #[sOut, .func (.func 56) #[] #[.pointer (some ⟨w.heap.size, 0, none⟩)]] 99) _ rfl))).trans (new_at wr (.cells #[sOut, .func (.func 56) #[] #[.pointer (some ⟨w.heap.size, 0, none⟩)]] 99) _ rfl); clear hb5 p0 p1 lp e0 e1 e2 e3 lK; obtain ⟨g0, g1, _, _⟩ := cell2_of hK5; have l0 := lt_of_heap hK5; clear hK5)
          go_roundw
          case rel => exact ⟨hB5.out, hO5.out, hP5.out, .inr (.inl ⟨rfl, trivial⟩)⟩
          case measure => simp [intOf]
        · rw [hh] at CC
          have CC := Lib.hid CC
          have AX := Lib.hid (A1.out hh)
          clear hh
          go_wp2_with (first
            | (go_at_call 56; with_reducible refine (CC.out _ (bthen HB4.out ((Below.refl _ _).alloc (Nat.le_refl _) (.cells #[sOut, .func (.func 56) #[] #[.pointer (some ⟨w.heap.size, 0, none⟩)]] 99)))).mono ?_; rintro e w5 ⟨rfl, hb5⟩; have hB5 := Lib.hid (bthen (bthen HB4.out ((Below.refl _ _).alloc (Nat.le_refl _) (.cells #[sOut, .func (.func 56) #[] #[.pointer (some ⟨w.heap.size, 0, none⟩)]] 99))) hb5); have hO5 := Lib.hid (owns_later HO4.out (bthen ((Below.refl _ _).alloc (Nat.le_refl _) (.cells #[sOut, .func (.func 56) #[] #[.pointer (some ⟨w.heap.size, 0, none⟩)]] 99)) hb5)); have hP5 := Lib.hid ((hb5.block _ (lt_of_heap (old_at HPT.out (.cells #[sOut, .func (.func 56) #[] #[.pointer (some ⟨w.heap.size, 0, none⟩)]] 99)))).trans (old_at HPT.out (.cells #[sOut, .func (.func 56) #[] #[.pointer (some ⟨w.heap.size, 0, none⟩)]] 99))); have hK5 := (hb5.block _ (lt_of_heap (new_at wr (.cells #[sOut, .func (.func 56) #[] #[.pointer (some ⟨w.heap.size, 0, none⟩)]] 99) _ rfl))).trans (new_at wr (.cells #[sOut, .func (.func 56) #[] #[.pointer (some ⟨w.heap.size, 0, none⟩)]] 99) _ rfl); clear hb5 p0 p1 lp e0 e1 e2 e3 lK; obtain ⟨g0, g1, _, _⟩ := cell2_of hK5; have l0 := lt_of_heap hK5; clear hK5)
            | (at_builtin; refine wpList_append_own _ rfl _ _ 68 rfl W3.heap.size 109 i0 (.agg #[.int .i64 0, .string { data := #[] }]) 2 24 Tryd.underlying68 hi0 hz0 hz1 hz2 rfl (by decide) _ _ _ rfl (hO5.out.alloc _) ⟨w5.heap.size, 0, none⟩ 1 1 [.int .i64 (k : Int), sOut] rfl rfl ?c1 ?c2 ?c3 ?c4 ?c5 ?_))
          case c1 =>
            intro j u hj
            match j, hj with
            | 0, hj => simp at hj; subst hj; simp [Addr.add]
            | 1, hj => simp at hj; subst hj; simp [Addr.add]
          case c2 => intro u hu; simp at hu; rcases hu with rfl | rfl <;> rfl
          case c3 => have := mfN_le (fun k => outB p n (q k)) (fun k => wideB p n L F B (q k)) k; unfold maxLen; omega
          case c4 => have := mfN_le (fun k => outB p n (q k)) (fun k => wideB p n L F B (q k)) k; omega
          case c5 => have := hB5.out.size; simp; omega
          intro v' w6 hown' hgrow _
          have hb6 := (hB5.out.alloc hB5.out.size _).grown hgrow (by have := hB5.out.size; simp; omega) (fun j hj => (hO5.out.lt j hj).1)
          have R := Lib.hid (And.intro hown' hb6)
          clear hown' hgrow hb6
          go_wp2
          go_roundw
          case rel => exact ⟨k + 1, by omega, by go_num, by rw [AX.out.1, AX.out.2]; exact R.out.1, R.out.2⟩
          case measure => simp [intOf]; omega
      · have HK := (HB4.out.block _ (lt_of_heap K0.out)).trans K0.out
        obtain ⟨e0, e1, e2, e3⟩ := cell4o HK
        have lK := lt_of_heap HK
        obtain ⟨p0, p1, _, _⟩ := cell2_of HPT.out
        have lp := lt_of_heap HPT.out
        have CC := (fun W hW => D2.out x y W hW HX.out)
        clear HK
        cases hh : wideB p n L F B (x, y)
        · rw [hh] at CC
          have CC := Lib.hid CC
          have HH := Lib.hid hh
          clear hh
          go_wp2_with (go_at_call 58; with_reducible refine (CC.out _ (bthen HB4.out ((Below.refl _ _).alloc (Nat.le_refl _) (.cells #[sWide, .func (.func 58) #[] #[.pointer (some ⟨w.heap.size + 1, 0, none⟩), .pointer (some ⟨w.heap.size, 0, none⟩)]] 99)))).mono ?_; rintro e w5 ⟨rfl, hb5⟩; have hB5 := Lib.hid (bthen (bthen HB4.out ((Below.refl _ _).alloc (Nat.le_refl _) (.cells #[sWide, .func (.func 58) #[] #[.pointer (some ⟨w.heap.size + 1, 0, none⟩), .pointer (some ⟨w.heap.size, 0, none⟩)]] 99))) hb5); have hO5 := Lib.hid (owns_later HO4.out (bthen ((Below.refl _ _).alloc (Nat.le_refl _) (.cells #[sWide, .func (.func 58) #[] #[.pointer (some ⟨w.heap.size + 1, 0, none⟩), .pointer (some ⟨w.heap.size, 0, none⟩)]] 99)) hb5)); have hP5 := Lib.hid ((hb5.block _ (lt_of_heap (old_at HPT.out (.cells #[sWide, .func (.func 58) #[] #[.pointer (some ⟨w.heap.size + 1, 0, none⟩), .pointer (some ⟨w.heap.size, 0, none⟩)]] 99)))).trans (old_at HPT.out (.cells #[sWide, .func (.func 58) #[] #[.pointer (some ⟨w.heap.size + 1, 0, none⟩), .pointer (some ⟨w.heap.size, 0, none⟩)]] 99))); have hK5 := (hb5.block _ (lt_of_heap (new_at wr (.cells #[sWide, .func (.func 58) #[] #[.pointer (some ⟨w.heap.size + 1, 0, none⟩), .pointer (some ⟨w.heap.size, 0, none⟩)]] 99) _ rfl))).trans (new_at wr (.cells #[sWide, .func (.func 58) #[] #[.pointer (some ⟨w.heap.size + 1, 0, none⟩), .pointer (some ⟨w.heap.size, 0, none⟩)]] 99) _ rfl); clear hb5 p0 p1 lp e0 e1 e2 e3 lK; obtain ⟨g0, g1, _, _⟩ := cell2_of hK5; have l0 := lt_of_heap hK5; clear hK5)
          go_roundw
          case rel => exact ⟨hB5.out, hO5.out, hP5.out, .inr (.inr ⟨rfl, hoo, trivial⟩)⟩
          case measure => simp [intOf]
        · rw [hh] at CC
          have CC := Lib.hid CC
          have AX := Lib.hid (A2.out hoo hh)
          clear hh
          go_wp2_with (first
            | (go_at_call 58; with_reducible refine (CC.out _ (bthen HB4.out ((Below.refl _ _).alloc (Nat.le_refl _) (.cells #[sWide, .func (.func 58) #[] #[.pointer (some ⟨w.heap.size + 1, 0, none⟩), .pointer (some ⟨w.heap.size, 0, none⟩)]] 99)))).mono ?_; rintro e w5 ⟨rfl, hb5⟩; have hB5 := Lib.hid (bthen (bthen HB4.out ((Below.refl _ _).alloc (Nat.le_refl _) (.cells #[sWide, .func (.func 58) #[] #[.pointer (some ⟨w.heap.size + 1, 0, none⟩), .pointer (some ⟨w.heap.size, 0, none⟩)]] 99))) hb5); have hO5 := Lib.hid (owns_later HO4.out (bthen ((Below.refl _ _).alloc (Nat.le_refl _) (.cells #[sWide, .func (.func 58) #[] #[.pointer (some ⟨w.heap.size + 1, 0, none⟩), .pointer (some ⟨w.heap.size, 0, none⟩)]] 99)) hb5)); have hP5 := Lib.hid ((hb5.block _ (lt_of_heap (old_at HPT.out (.cells #[sWide, .func (.func 58) #[] #[.pointer (some ⟨w.heap.size + 1, 0, none⟩), .pointer (some ⟨w.heap.size, 0, none⟩)]] 99)))).trans (old_at HPT.out (.cells #[sWide, .func (.func 58) #[] #[.pointer (some ⟨w.heap.size + 1, 0, none⟩), .pointer (some ⟨w.heap.size, 0, none⟩)]] 99))); have hK5 := (hb5.block _ (lt_of_heap (new_at wr (.cells #[sWide, .func (.func 58) #[] #[.pointer (some ⟨w.heap.size + 1, 0, none⟩), .pointer (some ⟨w.heap.size, 0, none⟩)]] 99) _ rfl))).trans (new_at wr (.cells #[sWide, .func (.func 58) #[] #[.pointer (some ⟨w.heap.size + 1, 0, none⟩), .pointer (some ⟨w.heap.size, 0, none⟩)]] 99) _ rfl); clear hb5 p0 p1 lp e0 e1 e2 e3 lK; obtain ⟨g0, g1, _, _⟩ := cell2_of hK5; have l0 := lt_of_heap hK5; clear hK5)
            | (at_builtin; refine wpList_append_own _ rfl _ _ 68 rfl W3.heap.size 109 i0 (.agg #[.int .i64 0, .string { data := #[] }]) 2 24 Tryd.underlying68 hi0 hz0 hz1 hz2 rfl (by decide) _ _ _ rfl (hO5.out.alloc _) ⟨w5.heap.size, 0, none⟩ 1 1 [.int .i64 (k : Int), sWide] rfl rfl ?c1 ?c2 ?c3 ?c4 ?c5 ?_))
          case c1 =>
            intro j u hj
            match j, hj with
            | 0, hj => simp at hj; subst hj; simp [Addr.add]
            | 1, hj => simp at hj; subst hj; simp [Addr.add]
          case c2 => intro u hu; simp at hu; rcases hu with rfl | rfl <;> rfl
          case c3 => have := mfN_le (fun k => outB p n (q k)) (fun k => wideB p n L F B (q k)) k; unfold maxLen; omega
          case c4 => have := mfN_le (fun k => outB p n (q k)) (fun k => wideB p n L F B (q k)) k; omega
          case c5 => have := hB5.out.size; simp; omega
          intro v' w6 hown' hgrow _
          have hb6 := (hB5.out.alloc hB5.out.size _).grown hgrow (by have := hB5.out.size; simp; omega) (fun j hj => (hO5.out.lt j hj).1)
          have R := Lib.hid (And.intro hown' hb6)
          clear hown' hgrow hb6
          go_wp2
          go_roundw
          case rel => exact ⟨k + 1, by omega, by go_num, by rw [AX.out.1, AX.out.2]; exact R.out.1, R.out.2⟩
          case measure => simp [intOf]; omega
      · have AX := Lib.hid (A3.out hoo hww)
        go_wp2
        go_roundw
        case rel => exact ⟨k + 1, by omega, by go_num, by rw [AX.out.1, AX.out.2]; exact HO4.out, HB4.out⟩
        case measure => simp [intOf]; omega
    · obtain rfl : k = m := by omega
      have R := Lib.hid (And.intro hown hbr)
      clear hown hbr
      go_wp2
      go_ret2
      exact ⟨_, rfl, owns_mono R.out.1 HBW.out.size, bthen HBW.out R.out.2⟩
end Go.Proofs.YtecgnjeakgefnaaDoor.Outl
