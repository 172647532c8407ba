/- The strides of a limb, by contract (both sides); no statement is proved here. -/
import Derived.Test.YtmdfalkkpajbiaaDoorGaRows
namespace Go.Proofs.YtmdfalkkpajbiaaDoor
open Go.ChangeShapes Go.WideShapes Go.ChangeAt Go.RowKit

set_option maxHeartbeats 8000000 in
set_option maxRecDepth 100000 in
theorem strides_own (A : Option Addr) (n c : Nat) (p : Nat → Int × Int) (limb : Int) (w : World) (hn : n ≤ c) (hc : c ≤ 9223372036854775807) (hn2 : n ≤ 10000) (hp : ∀ k, k < n → 0 ≤ (p k).1 ∧ (p k).1 ≤ 1000000000) (hF : FHas w A n p) :
    Calls Tryd.prog 76 #[.slice A n c, .int .i64 limb] w fun e w' => ∃ v, e = .returned v ∧ w'.ownsRow w.heap.size 3 1 v (stL p limb n).length ((stL p limb n).map (Value.int .i64)) ∧ Below w.heap.size w w' := by
  have HF := Lib.hid hF
  have HP := Lib.hid hp
  obtain ⟨i0, hi0, hz0, hz1, hz2⟩ := info_parts infoInt
  clear hF hp
  go_enter Tryd.func76, Tryd.ntmps76
  go_wp2
  go_loopw [5, 6, 7, 9, 12] (fun v b t _ i wr => ∃ k : Nat, k ≤ n ∧ i = .int .i64 (k : Int) ∧ wr.ownsRow w.heap.size 3 1 v (stL p limb k).length ((stL p limb k).map (Value.int .i64)) ∧ b = .bool (stB p limb k) ∧ t = .int .i64 (stT p limb k) ∧ Below w.heap.size w wr) (fun _ _ _ _ i _ => n - (intOf i).toNat)
  case atStart => exact ⟨0, Nat.zero_le _, rfl, World.ownsRow_nil _ _ _ _, rfl, rfl, Below.refl _ _⟩
  case round =>
    obtain ⟨k, hk, rfl, hown, rfl, rfl, hbr⟩ := hrel
    have HO := Lib.hid hown
    have HB := Lib.hid hbr
    by_cases hlt : k < n
    · have hP : ∃ b off, A = some ⟨b, off, none⟩ ∧ FPts wr b off n p := (HF.out.later HB.out) (by omega)
      obtain ⟨bb, off, rfl, hP⟩ := hP
      have x1 := hP.x k hlt
      have x2 := hP.y k hlt
      have x3 := hP.lt
      have hkc : (k : Int) ≤ (c : Int) := by omega
      obtain ⟨t1, t2⟩ := HP.out k hlt
      obtain ⟨s1, s2⟩ := stT_bd (p := p) (limb := limb) (k := k) (fun j hj => HP.out j (by omega))
      have hlen := stL_len p limb k
      have HL : Hid (stL p limb (k + 1) = if (p k).2 = limb then (if stB p limb k then stL p limb k ++ [(p k).1 - stT p limb k] else stL p limb k) else stL p limb k) := Lib.hid rfl
      have HBn : Hid (stB p limb (k + 1) = if (p k).2 = limb then true else stB p limb k) := Lib.hid rfl
      have HT : Hid (stT p limb (k + 1) = if (p k).2 = limb then (p k).1 else stT p limb k) := Lib.hid rfl
      clear hP hown hbr
      generalize stT p limb k = T at *
      generalize stL p limb k = L at *
      generalize (p k).1 = x at *
      generalize (p k).2 = y at *
      have HBA := Lib.hid (show Below w.heap.size w (wr.alloc (.cells #[.int .i64 x, .int .i64 y] 40)) from HB.out.alloc HB.out.size _)
      have Z9 := Lib.hid (new_at wr (.cells #[.int .i64 x, .int .i64 y] 40) _ rfl)
      by_cases he : y = limb
      · have he2 : (y == y) = true := by simp
        rw [if_pos he] at HL HBn HT
        subst he
        cases hb : stB p y k
        · rw [hb, if_neg (by simp)] at HL
          clear hb
          go_wp2
          go_region
          go_wp2
          go_roundw
          case rel => exact ⟨k + 1, by omega, by go_num, by rw [HL.out]; exact HO.out.alloc _, by rw [HBn.out], by rw [HT.out], HBA.out.drew⟩
          case measure => simp [intOf]; omega
        · rw [hb, if_pos rfl] at HL
          clear hb
          have hwrap : IntKind.i64.wrap (x - T) = x - T := IntWalk.i64_in _ (by omega)
          have hsz := HB.out.size
          go_wp2_with (at_builtin; go_loud (refine wpList_append_own _ rfl _ _ 33 rfl w.heap.size 3 i0 (.int .i64 0) 1 8 Tryd.underlying33 hi0 hz0 hz1 hz2 rfl (by decide) _ _ _ rfl ((HO.out.alloc _).alloc _) ⟨wr.heap.size + 1, 0, none⟩ 1 1 [.int .i64 (x - T)] rfl rfl ?c1 ?c2 ?c3 ?c4 ?c5 ?_))
          case c1 =>
            intro j u hj
            match j, hj with
            | 0, hj => simp at hj; subst hj; simp [Addr.add]
          case c2 => intro u hu; simp at hu; subst hu; rfl
          case c3 => unfold maxLen; omega
          case c4 => omega
          case c5 => simp; omega
          intro v' w3 hown' hgrow _
          have hne : u5.ownBlock ≠ some wr.heap.size := fun e => by have := (HO.out.lt _ e).2; omega
          have hz5 := (hgrow.block wr.heap.size (by simp; omega) (fun e => hne e.symm)).trans (((((Below.refl _ _).alloc (Nat.le_refl _) _ : Below (wr.alloc (.cells #[.int .i64 x, .int .i64 y] 40)).heap.size _ _).block _ (lt_of_heap Z9.out))).trans Z9.out)
          have HB3 := Lib.hid ((HBA.out.alloc HBA.out.size _).grown hgrow (by simp; omega) (fun j hj => (HO.out.lt j hj).1))
          rw [← ints_push] at hown'
          have HO3 := Lib.hid hown'
          obtain ⟨d0, d1, d2, d3⟩ := cell2_of hz5
          have d4 := lt_of_heap hz5
          clear hown' hgrow hz5 hne
          go_wp2
          go_region
          go_wp2
          go_roundw
          case rel => exact ⟨k + 1, by omega, by go_num, by rw [HL.out, show (L ++ [x - T]).length = L.length + 1 from by simp]; exact HO3.out, by rw [HBn.out], by rw [HT.out], HB3.out.drew⟩
          case measure => simp [intOf]; omega
      · have he2 : (y == limb) = false := by simp [he]
        rw [if_neg he] at HL HBn HT
        go_wp2
        go_roundw
        case rel => exact ⟨k + 1, by omega, by go_num, by rw [HL.out]; exact HO.out.alloc _, by rw [HBn.out], by rw [HT.out], HBA.out⟩
        case measure => simp [intOf]; omega
    · obtain rfl : k = n := by omega
      go_wp2
      go_ret
      exact ⟨_, rfl, HO.out, HB.out⟩
theorem strides_any (A : Option Addr) (n c : Nat) (p : Nat → Int × Int) (limb : Int) (w : World) (hn : n ≤ c) (hc : c ≤ 9223372036854775807) (hn2 : n ≤ 10000) (hp : ∀ k, k < n → 0 ≤ (p k).1 ∧ (p k).1 ≤ 1000000000) (hF : FHas w A n p) :
    Calls Tryd.prog 76 #[.slice A n c, .int .i64 limb] w (RetInts w (stL p limb n).length (atL (stL p limb n))) :=
  (strides_own A n c p limb w hn hc hn2 hp hF).mono fun e w' ⟨v, he, hown, hb⟩ => by
    subst he
    rw [ints_list] at hown
    obtain ⟨A', c', rfl, h1, h2, h3, h4⟩ := owns_ints hown
    exact ⟨A', c', rfl, h1, h2, h3, h4, hb⟩

set_option maxHeartbeats 8000000 in
set_option maxRecDepth 100000 in
theorem stridesR_own (A : Option Addr) (n c : Nat) (p : Nat → Int × Int) (limb : Int) (w : World) (hn : n ≤ c) (hc : c ≤ 9223372036854775807) (hn2 : n ≤ 10000) (hp : ∀ k, k < n → 0 ≤ (p k).1 ∧ (p k).1 ≤ 1000000000) (hF : FHas w A n p) :
    Calls Tryd.prog 77 #[.slice A n c, .int .i64 limb] w fun e w' => ∃ v, e = .returned v ∧ w'.ownsRow w.heap.size 3 1 v (stL p limb n).length ((stL p limb n).map (Value.int .i64)) ∧ Below w.heap.size w w' := by
  have HF := Lib.hid hF
  have HP := Lib.hid hp
  obtain ⟨i0, hi0, hz0, hz1, hz2⟩ := info_parts infoInt
  clear hF hp
  go_enter Tryd.func77, Tryd.ntmps77
  go_wp2
  go_loopw [5, 6, 7, 9, 12] (fun v t b _ i wr => ∃ k : Nat, k ≤ n ∧ i = .int .i64 (k : Int) ∧ wr.ownsRow w.heap.size 3 1 v (stL p limb k).length ((stL p limb k).map (Value.int .i64)) ∧ b = .bool (stB p limb k) ∧ t = .int .i64 (stT p limb k) ∧ Below w.heap.size w wr) (fun _ _ _ _ i _ => n - (intOf i).toNat)
  case atStart => exact ⟨0, Nat.zero_le _, rfl, World.ownsRow_nil _ _ _ _, rfl, rfl, Below.refl _ _⟩
  case round =>
    obtain ⟨k, hk, rfl, hown, rfl, rfl, hbr⟩ := hrel
    have HO := Lib.hid hown
    have HB := Lib.hid hbr
    by_cases hlt : k < n
    · have hP : ∃ b off, A = some ⟨b, off, none⟩ ∧ FPts wr b off n p := (HF.out.later HB.out) (by omega)
      obtain ⟨bb, off, rfl, hP⟩ := hP
      have x1 := hP.x k hlt
      have x2 := hP.y k hlt
      have x3 := hP.lt
      have hkc : (k : Int) ≤ (c : Int) := by omega
      obtain ⟨t1, t2⟩ := HP.out k hlt
      obtain ⟨s1, s2⟩ := stT_bd (p := p) (limb := limb) (k := k) (fun j hj => HP.out j (by omega))
      have hlen := stL_len p limb k
      have HL : Hid (stL p limb (k + 1) = if (p k).2 = limb then (if stB p limb k then stL p limb k ++ [(p k).1 - stT p limb k] else stL p limb k) else stL p limb k) := Lib.hid rfl
      have HBn : Hid (stB p limb (k + 1) = if (p k).2 = limb then true else stB p limb k) := Lib.hid rfl
      have HT : Hid (stT p limb (k + 1) = if (p k).2 = limb then (p k).1 else stT p limb k) := Lib.hid rfl
      clear hP hown hbr
      generalize stT p limb k = T at *
      generalize stL p limb k = L at *
      generalize (p k).1 = x at *
      generalize (p k).2 = y at *
      have HBA := Lib.hid (show Below w.heap.size w (wr.alloc (.cells #[.int .i64 x, .int .i64 y] 40)) from HB.out.alloc HB.out.size _)
      have Z9 := Lib.hid (new_at wr (.cells #[.int .i64 x, .int .i64 y] 40) _ rfl)
      by_cases he : y = limb
      · have he2 : (y == y) = true := by simp
        rw [if_pos he] at HL HBn HT
        subst he
        cases hb : stB p y k
        · rw [hb, if_neg (by simp)] at HL
          clear hb
          go_wp2
          skip
          go_roundw
          case rel => exact ⟨k + 1, by omega, by go_num, by rw [HL.out]; exact HO.out.alloc _, by rw [HBn.out], by rw [HT.out], HBA.out⟩
          case measure => simp [intOf]; omega
        · rw [hb, if_pos rfl] at HL
          clear hb
          have hwrap : IntKind.i64.wrap (x - T) = x - T := IntWalk.i64_in _ (by omega)
          have hsz := HB.out.size
          go_wp2_with (at_builtin; go_loud (refine wpList_append_own _ rfl _ _ 33 rfl w.heap.size 3 i0 (.int .i64 0) 1 8 Tryd.underlying33 hi0 hz0 hz1 hz2 rfl (by decide) _ _ _ rfl ((HO.out.alloc _).alloc _) ⟨wr.heap.size + 1, 0, none⟩ 1 1 [.int .i64 (x - T)] rfl rfl ?c1 ?c2 ?c3 ?c4 ?c5 ?_))
          case c1 =>
            intro j u hj
            match j, hj with
            | 0, hj => simp at hj; subst hj; simp [Addr.add]
          case c2 => intro u hu; simp at hu; subst hu; rfl
          case c3 => unfold maxLen; omega
          case c4 => omega
          case c5 => simp; omega
          intro v' w3 hown' hgrow _
          have hne : u5.ownBlock ≠ some wr.heap.size := fun e => by have := (HO.out.lt _ e).2; omega
          have hz5 := (hgrow.block wr.heap.size (by simp; omega) (fun e => hne e.symm)).trans (((((Below.refl _ _).alloc (Nat.le_refl _) _ : Below (wr.alloc (.cells #[.int .i64 x, .int .i64 y] 40)).heap.size _ _).block _ (lt_of_heap Z9.out))).trans Z9.out)
          have HB3 := Lib.hid ((HBA.out.alloc HBA.out.size _).grown hgrow (by simp; omega) (fun j hj => (HO.out.lt j hj).1))
          rw [← ints_push] at hown'
          have HO3 := Lib.hid hown'
          obtain ⟨d0, d1, d2, d3⟩ := cell2_of hz5
          have d4 := lt_of_heap hz5
          clear hown' hgrow hz5 hne
          go_wp2
          skip
          go_roundw
          case rel => exact ⟨k + 1, by omega, by go_num, by rw [HL.out, show (L ++ [x - T]).length = L.length + 1 from by simp]; exact HO3.out, by rw [HBn.out], by rw [HT.out], HB3.out⟩
          case measure => simp [intOf]; omega
      · have he2 : (y == limb) = false := by simp [he]
        rw [if_neg he] at HL HBn HT
        go_wp2
        go_roundw
        case rel => exact ⟨k + 1, by omega, by go_num, by rw [HL.out]; exact HO.out.alloc _, by rw [HBn.out], by rw [HT.out], HBA.out⟩
        case measure => simp [intOf]; omega
    · obtain rfl : k = n := by omega
      go_wp2
      go_ret
      exact ⟨_, rfl, HO.out, HB.out⟩
theorem stridesR_any (A : Option Addr) (n c : Nat) (p : Nat → Int × Int) (limb : Int) (w : World) (hn : n ≤ c) (hc : c ≤ 9223372036854775807) (hn2 : n ≤ 10000) (hp : ∀ k, k < n → 0 ≤ (p k).1 ∧ (p k).1 ≤ 1000000000) (hF : FHas w A n p) :
    Calls Tryd.prog 77 #[.slice A n c, .int .i64 limb] w (RetInts w (stL p limb n).length (atL (stL p limb n))) :=
  (stridesR_own A n c p limb w hn hc hn2 hp hF).mono fun e w' ⟨v, he, hown, hb⟩ => by
    subst he
    rw [ints_list] at hown
    obtain ⟨A', c', rfl, h1, h2, h3, h4⟩ := owns_ints hown
    exact ⟨A', c', rfl, h1, h2, h3, h4, hb⟩
end Go.Proofs.YtmdfalkkpajbiaaDoor
