/- The law BarOffcuts, walked; no statement is proved here. -/
import Derived.Test.YtlikipihineppabDoorBOffR
import Derived.Test.YtlikipihineppabDoorBAwake
import Derived.Test.YtlikipihineppabDoorLawBarBounds
namespace Go.Proofs.YtlikipihineppabDoor
open Go.ChangeShapes Go.WideShapes Go.ChangeAt Go.RowKit Go.Shelf

theorem OffcutsR_any (B K : Int) (P A : Option Addr) (R d n c : Nat) (ρ l : Nat → Int) (w : World) (hR : R ≤ 9223372036854775807) (hnil : P = none → d = 0) (hn : n ≤ 9223372036854775807) (hp : IHas w A n l) (hq : IHas w P R ρ) :
    Calls Tryd.prog 17 #[.agg #[.int .i64 B, .int .i64 K], .slice P R d, .slice A n c] w (Ret3 w (if ofN B K l n ρ R then n else 0) (offA K R ρ l) (if ofN B K l n ρ R then R else 0) (offR K R ρ l n) (offE B K l n ρ R)) := by
  unfold ofN offE
  by_cases h1 : (vS B K && vP l n) = true
  · have := OffcutsR_go B K P A R d n c ρ l w hR hnil hn hp hq h1
    rw [h1]
    simpa using this
  · have h1' := Bool.eq_false_iff.2 h1
    rw [h1']
    exact OffcutsR_inv B K P A R d n c _ _ l w hn hp h1'
/-- What the rests give, and what is left. -/
theorem off_facts {B K : Int} {l ρ : Nat → Int} {n R : Nat} (h : ofN B K l n ρ R = true) : n ≤ 16 ∧ R ≤ 64 ∧ offE B K l n ρ R = 0 ∧ (∀ k, k < n → 1 ≤ l k ∧ l k ≤ 10000) ∧ (∀ r, r < R → 0 ≤ ρ r ∧ ρ r ≤ 10000) ∧
    (∀ r, r < R → 0 ≤ offR K R ρ l n r ∧ offR K R ρ l n r + sumTo (fun j => if offA K R ρ l j = (r : Int) then l j else 0) n ≤ ρ r) ∧ (∀ i r, i < n → offA K R ρ l i < 0 → r < R → offR K R ρ l n r < l i) := by
  unfold ofN at h
  rw [Bool.and_eq_true] at h
  obtain ⟨h1, h2⟩ := h
  obtain ⟨hB, hK⟩ := vS_is (Bool.and_eq_true _ _ ▸ h1).1
  obtain ⟨h16, hl⟩ := vP_is (Bool.and_eq_true _ _ ▸ h1).2
  have h3 := h2
  unfold offOk at h3
  rw [Bool.and_eq_true, allTo_iff] at h3
  have hρ : ∀ r, r < R → 0 ≤ ρ r ∧ ρ r ≤ 10000 := fun r hr => btw_iff.1 (h3.2 r hr)
  refine ⟨h16, of_decide_eq_true h3.1, ?_, hl, hρ, offR_bd hl hK.1 hρ n (Nat.le_refl _), fun i r hi ha hr => off_none hl hK.1 hρ hi ha hr⟩
  unfold offE
  rw [h1, h2]
  rfl
theorem off_bad {B K : Int} {l ρ : Nat → Int} {n R : Nat} (h : ofN B K l n ρ R = false) : offE B K l n ρ R = 1 ∨ offE B K l n ρ R = 7 := by
  unfold ofN at h
  unfold offE
  cases h1 : (vS B K && vP l n)
  · exact .inl rfl
  · rw [h1, Bool.true_and] at h
    rw [h]
    exact .inr rfl

set_option maxHeartbeats 16000000 in
set_option maxRecDepth 100000 in
theorem lawBarOffcuts_any (B K : Int) (P : Option Addr) (R d : Nat) (ρ : Nat → Int) (hR : R ≤ d) (hd : d ≤ 9223372036854775807) (A : Option Addr) (n c : Nat) (l : Nat → Int) (hn : n ≤ c) (hc : c ≤ 9223372036854775807) (w : World) (hq : IHas w P R ρ) (hnil : P = none → d = 0) (hp : IHas w A n l) (hE : EnvB w) :
    Calls Tryd.prog 4 #[.agg #[.int .i64 B, .int .i64 K], .slice P R d, .slice A n c] w fun e w' => e = .returned (.bool true) ∧ Below w.heap.size w w' := by
  have HB0 := Lib.hid (show Below w.heap.size w ((w.alloc (.cells #[.int .i64 B, .int .i64 K] 23)).alloc (.cells #[.slice P R d, .slice A n c] 24)) from ((Below.refl _ _).alloc (Nat.le_refl _) _).alloc (by simp) _)
  obtain ⟨z0, z1⟩ := cells2 w (.cells #[.int .i64 B, .int .i64 K] 23) (.cells #[.slice P R d, .slice A n c] 24)
  have Z0 := Lib.hid z0
  have HLO := Lib.hid (long2 (w.heap.size + 1) P A R d n c ((w.alloc (.cells #[.int .i64 B, .int .i64 K] 23)).alloc (.cells #[.slice P R d, .slice A n c] 24)) (by simp only [World.cell?, z1]; rfl) (by simp only [World.cell?, z1]; rfl))
  have HE := Lib.hid hE
  have HP := Lib.hid hp
  have HQ := Lib.hid hq
  have H1 := Lib.hid (fun w hp hq => Offcuts_any B K P A R d n c ρ l w hR hd hn hc hp hq)
  have H2 := Lib.hid (fun w hp hq => OffcutsR_any B K P A R d n c ρ l w (by omega) hnil (by omega) hp hq)
  have H7 := Lib.hid (fun w hE => awake3_any w hE)
  have HFA := Lib.hid (fun h => off_facts (B := B) (K := K) (l := l) (ρ := ρ) (n := n) (R := R) h)
  have HFB := Lib.hid (fun h => off_bad (B := B) (K := K) (l := l) (ρ := ρ) (n := n) (R := R) h)
  generalize offE B K l n ρ R = E at *
  generalize offR K R ρ l n = S at *
  generalize offA K R ρ l = a at *
  clear hp hq hE hnil z0 z1
  by_cases h : (decide (R ≤ 100) && decide (n ≤ 100)) = true
  · rw [h] at HLO
    clear h
    cases hok : ofN B K l n ρ R
    · rw [hok] at H1 H2
      have hEE := HFB.out hok
      clear hok HFA HFB
      have hE0 : (E == 0) = false := by
        rw [beq_eq_false_iff_ne]
        omega
      have hE1 : ¬ E = 0 := by omega
      clear hEE
      go_enter Tryd.func4, Tryd.ntmps4
      go_wp2_with fail
      refine HLO.out.mono ?_
      rintro e w1 ⟨rfl, hb1⟩
      have HB := Lib.hid (bthen HB0.out hb1)
      have Z := Lib.hid ((hb1.block _ (lt_of_heap Z0.out)).trans Z0.out)
      obtain ⟨c0, c1, f0, f1⟩ := cell2_of Z.out
      have l0 := lt_of_heap Z.out
      clear hb1
      go_wp2_with fail
      refine (H1.out _ (HP.out.later HB.out) (HQ.out.later HB.out)).mono ?_
      rintro e w2 ⟨A2, c2, D2, d2, rfl, n2, m2, n2', m2', hi2, hj2, hb2⟩
      have HB := Lib.hid (bthen HB.out hb2)
      have Z := Lib.hid ((hb2.block _ (lt_of_heap Z.out)).trans Z.out)
      clear c0 c1 f0 f1 l0 hb2 hi2 hj2
      obtain ⟨c0, c1, f0, f1⟩ := cell2_of Z.out
      have l0 := lt_of_heap Z.out
      go_wp2_with fail
      refine (H2.out _ (HP.out.later HB.out) (HQ.out.later HB.out)).mono ?_
      rintro e w3 ⟨A3, c3, D3, d3, rfl, n3, m3, n3', m3', hi3, hj3, hb3⟩
      have HB := Lib.hid (bthen HB.out hb3)
      clear c0 c1 f0 f1 l0 hb3 hi3 hj3
      go_wp2_with fail
      refine (SameInts_yes A2 A3 0 c2 c3 a _ n2 m2 (fun h => absurd h (Nat.lt_irrefl 0)) (fun h => absurd h (Nat.lt_irrefl 0))).mono ?_
      rintro e w4 ⟨rfl, hb4⟩
      have HB := Lib.hid (bthen HB.out hb4)
      clear hb4
      go_wp2_with fail
      refine (SameInts_yes D2 D3 0 d2 d3 S _ n2' m2' (fun h => absurd h (Nat.lt_irrefl 0)) (fun h => absurd h (Nat.lt_irrefl 0))).mono ?_
      rintro e w5 ⟨rfl, hb5⟩
      have HB := Lib.hid (bthen HB.out hb5)
      clear hb5
      go_wp2_with fail
      refine (H7.out _ (HE.out.later HB.out)).mono ?_
      rintro e w6 ⟨rfl, hb6⟩
      go_wp2
      go_ret
      exact ⟨rfl, bthen HB.out hb6⟩
    · rw [hok, if_pos rfl, if_pos rfl] at H1 H2
      obtain ⟨h16, h64, hEE, hl, hρ, hS, hno⟩ := HFA.out hok
      subst hEE
      have HL := Lib.hid hl
      have HRH := Lib.hid hρ
      have HS := Lib.hid hS
      have HNO := Lib.hid hno
      clear hok HFA HFB hl hρ hS hno
      go_enter Tryd.func4, Tryd.ntmps4
      go_wp2_with fail
      refine HLO.out.mono ?_
      rintro e w1 ⟨rfl, hb1⟩
      have HB := Lib.hid (bthen HB0.out hb1)
      have Z := Lib.hid ((hb1.block _ (lt_of_heap Z0.out)).trans Z0.out)
      obtain ⟨c0, c1, f0, f1⟩ := cell2_of Z.out
      have l0 := lt_of_heap Z.out
      clear hb1
      go_wp2_with fail
      refine (H1.out _ (HP.out.later HB.out) (HQ.out.later HB.out)).mono ?_
      rintro e w2 ⟨A2, c2, D2, d2, rfl, n2, m2, n2', m2', hi2, hj2, hb2⟩
      have HB := Lib.hid (bthen HB.out hb2)
      have Z := Lib.hid ((hb2.block _ (lt_of_heap Z.out)).trans Z.out)
      have HI := Lib.hid hi2
      have HJ := Lib.hid hj2
      clear c0 c1 f0 f1 l0 hb2 hi2 hj2
      obtain ⟨c0, c1, f0, f1⟩ := cell2_of Z.out
      have l0 := lt_of_heap Z.out
      go_wp2_with fail
      refine (H2.out _ (HP.out.later HB.out) (HQ.out.later HB.out)).mono ?_
      rintro e w3 ⟨A3, c3, D3, d3, rfl, n3, m3, n3', m3', hi3, hj3, hb3⟩
      have HB := Lib.hid (bthen HB.out hb3)
      have HI := Lib.hid (HI.out.later hb3)
      have HJ := Lib.hid (HJ.out.later hb3)
      have HI3 := Lib.hid hi3
      have HJ3 := Lib.hid hj3
      clear c0 c1 f0 f1 l0 hb3 hi3 hj3 Z
      go_wp2_with fail
      refine (SameInts_yes A2 A3 n c2 c3 a _ n2 m2 HI.out HI3.out).mono ?_
      rintro e w4 ⟨rfl, hb4⟩
      have HB := Lib.hid (bthen HB.out hb4)
      have HI := Lib.hid (HI.out.later hb4)
      have HJ := Lib.hid (HJ.out.later hb4)
      have HJ3 := Lib.hid (HJ3.out.later hb4)
      clear hb4 HI3
      go_wp2_with fail
      refine (SameInts_yes D2 D3 R d2 d3 S _ n2' m2' HJ.out HJ3.out).mono ?_
      rintro e w5 ⟨rfl, hb5⟩
      have HB := Lib.hid (bthen HB.out hb5)
      have HI := Lib.hid (HI.out.later hb5)
      have HJ := Lib.hid (HJ.out.later hb5)
      have HP5 := Lib.hid (HP.out.later HB.out)
      have HQ5 := Lib.hid (HQ.out.later HB.out)
      clear hb5 HJ3 H1 H2
      go_wp2
      go_loopw [13, 14, 15, 16, 62] (fun _ _ _ _ i wr => ∃ k : Nat, k ≤ R ∧ i = .int .i64 (k : Int) ∧ Below w5.heap.size w5 wr) (fun _ _ _ _ i _ => R - (intOf i).toNat)
      case atStart => exact ⟨0, Nat.zero_le _, rfl, Below.refl _ _⟩
      case round =>
        obtain ⟨k, hk, rfl, hbr⟩ := hrel
        have HBR := Lib.hid hbr
        clear hbr
        by_cases hlt : k < R
        · have HSS := Lib.hid (fun j => show sumTo (fun j => if a j = (k : Int) then l j else 0) (j + 1) = sumTo (fun j => if a j = (k : Int) then l j else 0) j + (if a j = (k : Int) then l j else 0) from rfl)
          have HSB := Lib.hid (fun j (hj : j ≤ n) => sumTo_bd (f := fun j => if a j = (k : Int) then l j else 0) (n := j) (lo := 0) (hi := 10000) (fun i hi => by have := HL.out i (by omega); split <;> omega))
          have HS0 := Lib.hid (show sumTo (fun j => if a j = (k : Int) then l j else 0) 0 = 0 from rfl)
          have HSk := Lib.hid (HS.out k hlt)
          have HRk := Lib.hid (HRH.out k hlt)
          obtain ⟨T, hT⟩ : ∃ T, T = sumTo (fun j => if a j = (k : Int) then l j else 0) := ⟨_, rfl⟩
          rw [← hT] at HSS HSB HS0 HSk
          clear hT
          go_wp2
          go_loopw [14, 15, 16, 67] (fun s _ _ i wr2 => ∃ j : Nat, j ≤ n ∧ i = .int .i64 (j : Int) ∧ s = .int .i64 (T j) ∧ wr2 = wr) (fun _ _ _ i _ => n - (intOf i).toNat)
          case atStart => exact ⟨0, Nat.zero_le _, rfl, by rw [HS0.out], rfl⟩
          case round =>
            obtain ⟨j, hj, rfl, rfl, rfl⟩ := hrel
            obtain ⟨t0, t1⟩ := HSB.out j hj
            by_cases hjl : j < n
            · obtain ⟨b1, o1, rfl, hP⟩ := (HP5.out.later HBR.out) (by omega)
              obtain ⟨b2, o2, rfl, hI⟩ := (HI.out.later HBR.out) (by omega)
              have hx := hP.v j hjl
              have hy := hI.v j hjl
              obtain ⟨x0, x1⟩ := HL.out j hjl
              have HSj := Lib.hid (HSS.out j)
              clear hP hI
              generalize T j = s at *
              generalize l j = x at *
              generalize a j = y at *
              have s0 : 0 ≤ s := by omega
              have s1 : s ≤ 1000000 := by omega
              clear t0 t1
              by_cases he : y = (k : Int)
              · subst he
                rw [if_pos rfl] at HSj
                go_wp2
                go_roundw
                case rel => exact ⟨j + 1, by omega, by go_num, by rw [HSj.out]; first | done | go_num, by first | rfl | trivial⟩
                case measure => simp [intOf]; omega
              · have he2 : (y == (k : Int)) = false := by simpa using he
                rw [if_neg he] at HSj
                go_wp2
                go_roundw
                case rel => exact ⟨j + 1, by omega, by go_num, by rw [HSj.out, Int.add_zero], by first | rfl | trivial⟩
                case measure => simp [intOf]; omega
            · obtain rfl : n = j := by omega
              obtain ⟨b1, o1, rfl, hQ⟩ := (HQ5.out.later HBR.out) (by omega)
              obtain ⟨b2, o2, rfl, hJ⟩ := (HJ.out.later HBR.out) (by omega)
              have hx := hQ.v k hlt
              have hy := hJ.v k hlt
              obtain ⟨s0, s1⟩ := HSk.out
              obtain ⟨r0, r1⟩ := HRk.out
              clear hQ hJ
              generalize T n = s at *
              generalize S k = y at *
              generalize ρ k = x at *
              have u0 : 0 ≤ s := by omega
              have u1 : s ≤ 1000000 := by omega
              have u2 : y ≤ 10000 := by omega
              have u3 : ¬ x < s + y := by omega
              clear t0 t1
              go_wp2
              go_region
              go_wp2
              go_roundw
              case rel => exact ⟨k + 1, by omega, by go_num, HBR.out.drew⟩
              case measure => simp [intOf]; omega
        · obtain rfl : R = k := by omega
          go_wp2
          go_loopw [17, 18, 20, 96] (fun _ _ _ i wr2 => ∃ j : Nat, j ≤ n ∧ i = .int .i64 (j : Int) ∧ wr2 = wr) (fun _ _ _ i _ => n - (intOf i).toNat)
          case atStart => exact ⟨0, Nat.zero_le _, rfl, rfl⟩
          case round =>
            obtain ⟨j, hj, rfl, rfl⟩ := hrel
            by_cases hjl : j < n
            · obtain ⟨b1, o1, rfl, hP⟩ := (HP5.out.later HBR.out) (by omega)
              obtain ⟨b2, o2, rfl, hI⟩ := (HI.out.later HBR.out) (by omega)
              have hx := hP.v j hjl
              have hy := hI.v j hjl
              have HNj := Lib.hid (fun r h hr => HNO.out j r hjl h hr)
              clear hP hI
              generalize l j = x at *
              generalize a j = y at *
              go_wp2
              go_loopw [20, 103] (fun _ i wr3 => ∃ r : Nat, r ≤ R ∧ i = .int .i64 (r : Int) ∧ wr3 = wr) (fun _ i _ => R - (intOf i).toNat)
              case atStart => exact ⟨0, Nat.zero_le _, rfl, rfl⟩
              case round =>
                obtain ⟨r, hr, rfl, rfl⟩ := hrel
                by_cases hrl : r < R
                · obtain ⟨b3, o3, rfl, hJ⟩ := (HJ.out.later HBR.out) (by omega)
                  have hz := hJ.v r hrl
                  have HNr := Lib.hid (fun h => HNj.out r h hrl)
                  clear hJ
                  generalize S r = z at *
                  by_cases h0 : y < 0
                  · have h1 := HNr.out h0
                    have h2 : ¬ x ≤ z := by omega
                    go_wp2
                    go_roundw
                    case rel => exact ⟨r + 1, by omega, by go_num, by first | rfl | trivial⟩
                    case measure => simp [intOf]; omega
                  · go_wp2
                    go_roundw
                    case rel => exact ⟨r + 1, by omega, by go_num, by first | rfl | trivial⟩
                    case measure => simp [intOf]; omega
                · obtain rfl : R = r := by omega
                  go_wp2
                  go_roundw
                  case rel => exact ⟨j + 1, by omega, by go_num, by first | rfl | trivial⟩
                  case measure => simp [intOf]; omega
            · obtain rfl : n = j := by omega
              have HB9 := Lib.hid (bthen HB.out HBR.out)
              go_wp2_with (go_at_call 8; refine (H7.out _ (HE.out.later HB9.out)).mono ?_; rintro e w9 ⟨rfl, hb9⟩)
              go_ret
              exact ⟨rfl, bthen HB9.out hb9⟩
  · rw [Bool.eq_false_iff.2 h] at HLO
    go_enter Tryd.func4, Tryd.ntmps4
    go_wp2_with fail
    refine HLO.out.mono ?_
    rintro e w1 ⟨rfl, hb1⟩
    have HB := Lib.hid (bthen HB0.out hb1)
    go_wp2_with fail
    refine (H7.out _ (HE.out.later HB.out)).mono ?_
    rintro e w2 ⟨rfl, hb2⟩
    go_wp2
    go_ret
    exact ⟨rfl, bthen HB.out hb2⟩
end Go.Proofs.YtlikipihineppabDoor
