/- RoundShorter, walked; no statement is proved here. -/
import Derived.Test.YtclallodmbianaaRoShR
import Derived.Test.YtclallodmbianaaRoSame
namespace Go.Proofs.Ytclallodmbianaa
open Go.ChangeShapes Go.WideShapes Go.ChangeAt Go.RowKit

set_option maxHeartbeats 8000000 in
set_option maxRecDepth 100000 in
theorem Shorter_no8 (R : Option Addr) (n d : Nat) (q : Nat → List Int) (w : World) (hn : n ≤ d) (hd : d ≤ 9223372036854775807) (hq : LHas w R n q) (hb : roadsB n q = false) :
    Calls Try.prog 45 #[.slice R n d] w fun e w' => e = .returned (.tuple #[.slice none 0 0, .int .i64 1]) ∧ Below w.heap.size w w' := by
  have HV := Lib.hid (validRoads_any R n d q w hn hd hq)
  rw [hb] at HV
  clear hq hb
  go_enter Try.func45, Try.ntmps45
  go_wp2_with (go_at_call 57; (refine HV.out.mono ?_); rintro e w1 ⟨rfl, hb1⟩)
  go_ret2
  exact ⟨rfl, hb1⟩
set_option maxHeartbeats 8000000 in
set_option maxRecDepth 100000 in
theorem ShorterR_no8 (R : Option Addr) (n d : Nat) (q : Nat → List Int) (w : World) (hn : n ≤ d) (hd : d ≤ 9223372036854775807) (hn2 : n ≤ 1000000) (hq : LHas w R n q) (hb : roadsB n q = false) :
    Calls Try.prog 46 #[.slice R n d] w fun e w' => e = .returned (.tuple #[.slice none 0 0, .int .i64 1]) ∧ Below w.heap.size w w' := by
  have hpl := placed_any R n d q ((n : Int) - 1) w hn hd (by omega) (by omega) hq
  rw [show (n : Int) - 1 + 1 = (n : Int) by omega, decide_eq_true rfl, Bool.true_and, hb] at hpl
  have HV := Lib.hid hpl
  have hw2 : IntKind.i64.wrap ((n : Int) - 1) = (n : Int) - 1 := IntWalk.i64_in _ (by omega)
  clear hq hb hpl
  go_enter Try.func46, Try.ntmps46
  go_wp2_with (go_at_call 61; (refine HV.out.mono ?_); rintro e w1 ⟨rfl, hb1⟩)
  go_ret2
  exact ⟨rfl, hb1⟩
theorem eqI_iff {p q : Nat → Int} {n : Nat} : eqI p q n = true ↔ ∀ k, k < n → p k = q k := by
  unfold eqI
  rw [allTo_iff]
  exact ⟨fun h k hk => of_decide_eq_true (h k hk), fun h k hk => decide_eq_true (h k hk)⟩
theorem eqR_iff {p q : Nat → List Int} {m n : Nat} : eqR p q m n = true ↔ ∀ i, i < n → ∀ k, k < m → atL (p i) k = atL (q i) k := by
  unfold eqR
  rw [allTo_iff]
  exact ⟨fun h i hi => eqI_iff.1 (h i hi), fun h i hi => eqI_iff.2 (h i hi)⟩
/-- Roads are direct just where making them shorter changes nothing. -/
theorem dir_same {n : Nat} {q : Nat → List Int} (hb : roadsB n q = true) : dirB n q = eqR (tabL (fwN (tabQ q) n) n) q n n := by
  obtain ⟨m, rfl⟩ : ∃ m, n = m + 1 := ⟨n - 1, by
    have := hb
    unfold roadsB at this
    rw [Bool.and_eq_true, btw_iff] at this
    omega⟩
  have hok := tabQ_ok (roads_ok hb)
  unfold dirB
  rw [hb, Bool.true_and, Bool.eq_iff_iff, eqR_iff]
  constructor
  · intro h i hi k hk
    rw [tabL_at hk]
    exact (fwN_uniq (n := m + 1) (S := tabQ q) hok (fun i k j hi hk hj => triN_at h hi hj hk) (fun _ _ _ _ => Int.le_refl _) (fun _ _ h => h) i k hi hk).symm
  · intro h
    refine allTo_iff.2 fun i hi => allTo_iff.2 fun b hb => allTo_iff.2 fun k hk => decide_eq_true ?_
    have h1 := fwN_tri hok (m + 1) (Nat.le_refl _) i k b hi hk hb
    have e1 := h i hi k hk
    have e2 := h i hi b hb
    have e3 := h b hb k hk
    rw [tabL_at hk] at e1 e3
    rw [tabL_at hb] at e2
    omega

set_option maxHeartbeats 16000000 in
set_option maxRecDepth 100000 in
theorem lawRoundShorter_any (R : Option Addr) (n d : Nat) (q : Nat → List Int) (hn : n ≤ d) (hd : d ≤ 9223372036854775807) (w : World) (hq : LHas w R n q) :
    Calls Try.prog 11 #[.slice R n d] w fun e w' => e = .returned (.bool true) ∧ Below w.heap.size w w' := by
  have HQ := Lib.hid hq
  have HF := Lib.hid (fit_any8 none 0 0 R n d q w (Nat.le_refl _) (by omega) hn hd hq)
  have HAW := Lib.hid (fun w => awake8_any w)
  clear hq
  cases hf : fitB8 0 n q
  · rw [hf] at HF
    clear hf
    go_enter Try.func11, Try.ntmps11
    go_wp2_with (first
      | (go_at_call 13; (refine HF.out.mono ?_); rintro e w1 ⟨rfl, hb1⟩; have HB1 := Lib.hid hb1; clear hb1)
      | (go_at_call 14; (refine (HAW.out _).mono ?_); rintro e w2 ⟨rfl, hb2⟩))
    go_ret
    exact ⟨rfl, bthen HB1.out hb2⟩
  obtain ⟨_, _, hn20⟩ := fitB8_is hf
  rw [hf] at HF
  clear hf
  have C3 := Lib.hid (fun w hq => Direct_any R n d q w hn hd hq)
  have C4 := Lib.hid (fun w hq => DirectR_any8 R n d q w hn hd (by omega) hq)
  cases hb : roadsB n q
  · have C1 := Lib.hid (fun w hq => Shorter_no8 R n d q w hn hd hq hb)
    have C2 := Lib.hid (fun w hq => ShorterR_no8 R n d q w hn hd (by omega) hq hb)
    have C5 := Lib.hid (fun w => show Calls Try.prog 47 #[.slice none 0 0, .slice none 0 0] w fun e w' => e = .returned (.bool true) ∧ Below w.heap.size w w' from SameRoads_eq8 none none 0 0 0 (fun _ => []) (fun _ => []) w (Nat.le_refl _) (by omega) (fun h => absurd h (Nat.lt_irrefl 0)) (fun h => absurd h (Nat.lt_irrefl 0)) (fun k hk => absurd hk (Nat.not_lt_zero k)) (fun k hk => absurd hk (Nat.not_lt_zero k)))
    clear hb
    generalize dirB n q = DB at *
    go_enter Try.func11, Try.ntmps11
    go_wp2_with (first
      | (go_at_call 13; (refine HF.out.mono ?_); rintro e w1 ⟨rfl, hb1⟩; have HB1 := Lib.hid hb1; clear hb1)
      | (go_at_call 45; (refine (C1.out _ (HQ.out.later HB1.out)).mono ?_); rintro e w2 ⟨rfl, hb2⟩; have HB2 := Lib.hid (bthen HB1.out hb2); clear hb2)
      | (go_at_call 46; (refine (C2.out _ (HQ.out.later HB2.out)).mono ?_); rintro e w3 ⟨rfl, hb3⟩; have HB3 := Lib.hid (bthen HB2.out hb3); clear hb3)
      | (go_at_call 44; (refine (C3.out _ (HQ.out.later HB3.out)).mono ?_); rintro e w4 ⟨rfl, hb4⟩; have HB4 := Lib.hid (bthen HB3.out hb4); clear hb4)
      | (go_at_call 47; (refine (C5.out _).mono ?_); rintro e w5 ⟨rfl, hb5⟩; have HB5 := Lib.hid (bthen HB4.out hb5); clear hb5)
      | (go_at_call 48; (refine (C4.out _ (HQ.out.later HB5.out)).mono ?_); rintro e w6 ⟨rfl, hb6⟩; have HB6 := Lib.hid (bthen HB5.out hb6); clear hb6)
      | (go_at_call 14; (refine (HAW.out _).mono ?_); rintro e w9 ⟨rfl, hb9⟩))
    go_ret
    exact ⟨rfl, bthen HB6.out hb9⟩
  have C1 := Lib.hid (fun w hq => Shorter_yes8 R n d q w hn hd hq hb)
  have C2 := Lib.hid (fun w hq => ShorterR_yes8 R n d q w hn hd hq hb)
  have HDS := Lib.hid (dir_same hb)
  have hn9 : 1 ≤ n ∧ n ≤ 9 := by
    have := hb
    unfold roadsB at this
    rw [Bool.and_eq_true, btw_iff] at this
    omega
  have HQL := Lib.hid (show ∀ k, k < n → (q k).length = n from by
    obtain ⟨m, rfl⟩ : ∃ m, n = m + 1 := ⟨n - 1, by omega⟩
    exact fun k hk => (roads_ok hb).len k (by omega))
  have HOK := Lib.hid (show TabOk n (fwN (tabQ q) n) from by
    obtain ⟨m, rfl⟩ : ∃ m, n = m + 1 := ⟨n - 1, by omega⟩
    exact fwN_ok (tabQ_ok (roads_ok hb)) _ (Nat.le_refl _))
  have HLE := Lib.hid (show ∀ i k, i < n → k < n → fwN (tabQ q) n i k ≤ atL (q i) k ∧ atL (q i) k ≤ 600 from by
    obtain ⟨m, rfl⟩ : ∃ m, n = m + 1 := ⟨n - 1, by omega⟩
    exact fun i k hi hk => ⟨fwN_le (T := tabQ q) _ i k hi hk, ((roads_ok hb).rd i k (by omega) (by omega)).2⟩)
  have HTD := Lib.hid (show dirB n (tabL (fwN (tabQ q) n) n) = true from by
    unfold dirB
    rw [roads_tab hn9 HOK.out (fun i k hi hk => Int.le_trans (HLE.out i k hi hk).1 (HLE.out i k hi hk).2), Bool.true_and]
    obtain ⟨m, rfl⟩ : ∃ m, n = m + 1 := ⟨n - 1, by omega⟩
    exact dir_tri (fwN_tri (tabQ_ok (roads_ok hb)) _ (Nat.le_refl _)))
  generalize fwN (tabQ q) n = F at *
  have HEQ := Lib.hid (show eqR (tabL F n) (tabL F n) n n = true from eqR_iff.2 fun _ _ _ _ => rfl)
  have C5 := Lib.hid (fun A B c d w h1 h2 hp hq => SameRoads_eq8 A B n c d (tabL F n) (tabL F n) w h1 h2 hp hq (fun _ _ => tabL_len _ _ _) (fun _ _ => tabL_len _ _ _))
  rw [HEQ.out] at C5
  have C6 := Lib.hid (fun A c w h1 h2 hp hq => SameRoads_eq8 A R n c d (tabL F n) q w h1 h2 hp hq (fun _ _ => tabL_len _ _ _) HQL.out)
  rw [← HDS.out] at C6
  have C7 := Lib.hid (fun A c w h1 h2 hp => Direct_any A n c (tabL F n) w h1 h2 hp)
  rw [HTD.out] at C7
  clear hb HDS HTD HEQ
  generalize dirB n q = DB at *
  go_enter Try.func11, Try.ntmps11
  go_wp2_with (first
    | (go_at_call 13; (refine HF.out.mono ?_); rintro e w1 ⟨rfl, hb1⟩; have HB1 := Lib.hid hb1; clear hb1)
    | (go_at_call 45; (refine (C1.out _ (HQ.out.later HB1.out)).mono ?_); rintro e w2 ⟨ga, ca, cca, GA, rfl, a1, a2, hta⟩; have HA2 := Lib.hid hta; have HB2 := Lib.hid (bthen HB1.out hta.below); clear hta)
    | (go_at_call 46; (refine (C2.out _ (HQ.out.later HB2.out)).mono ?_); rintro e w3 ⟨gb, cb, ccb, GB, rfl, b1, b2, htb⟩; have HT3 := Lib.hid htb; have HA3 := Lib.hid (HA2.out.later htb.below); have HB3 := Lib.hid (bthen HB2.out htb.below); clear htb)
    | (go_at_call 44; (with_reducible refine (C3.out _ (HQ.out.later HB3.out)).mono ?_); rintro e w4 ⟨rfl, hb4⟩; have HT4 := Lib.hid (HT3.out.later hb4); have HA4 := Lib.hid (HA3.out.later hb4); have HB4 := Lib.hid (bthen HB3.out hb4); clear hb4)
    | (go_at_call 47; (with_reducible refine (C5.out _ _ _ _ _ a1 a2 HA4.out.has HT4.out.has).mono ?_); rintro e w5 ⟨rfl, hb5⟩; have HA5 := Lib.hid (HA4.out.later hb5); have HB5 := Lib.hid (bthen HB4.out hb5); clear hb5)
    | (go_at_call 48; (refine (C4.out _ (HQ.out.later HB5.out)).mono ?_); rintro e w6 ⟨rfl, hb6⟩; have HA6 := Lib.hid (HA5.out.later hb6); have HB6 := Lib.hid (bthen HB5.out hb6); clear hb6))
  go_loopw [8, 9, 10, 11, 48] (fun _ _ _ _ iv wr => ∃ i : Nat, i ≤ n ∧ iv = .int .i64 (i : Int) ∧ TabAt w1 wr ga n cca GA F ∧ Below w.heap.size w wr) (fun _ _ _ _ iv _ => n - (intOf iv).toNat)
  case atStart => exact ⟨0, Nat.zero_le _, rfl, HA6.out, HB6.out⟩
  case round =>
    obtain ⟨i, hi, rfl, hta, hbr⟩ := hrel
    have HAR := Lib.hid (And.intro hta hbr)
    by_cases hlti : i < n
    · obtain ⟨b0, o0, rfl, l0, hQ⟩ := (HQ.out.later hbr) (by omega)
      obtain ⟨BI, ci, z0, z1, z2, z3⟩ := hQ i hlti
      have hlen := HQL.out i hlti
      obtain ⟨bi, oi, rfl, hI⟩ := z3 (by rw [hlen]; omega)
      rw [hlen] at z0 z1 hI
      have HI := Lib.hid hI
      clear hQ z3 hlen hta hbr hI
      obtain ⟨wo, rfl⟩ : ∃ wo, wo = wr := ⟨_, rfl⟩
      go_wp2
      go_loopw [10, 11, 55] (fun _ _ kv wr => ∃ k : Nat, k ≤ n ∧ kv = .int .i64 (k : Int) ∧ Below wo.heap.size wo wr) (fun _ _ kv _ => n - (intOf kv).toNat)
      case atStart => exact ⟨0, Nat.zero_le _, rfl, Below.refl _ _⟩
      case round =>
        clear z0 l0
        obtain ⟨k, hk, rfl, hbk⟩ := hrel
        have HK := Lib.hid hbk
        by_cases hltk : k < n
        · have hta := HAR.out.1.later hbk
          have hgo := hta.hi
          obtain ⟨y0, y1, y2⟩ := hta.out i hlti
          have x1 := (hta.cell hlti hltk).1
          have l1 := (hta.cell hlti hltk).2.2
          have x2 := (HI.out.later hbk).v k hltk
          have l2 := (HI.out.later hbk).lt
          have hle := (HLE.out i k hlti hltk).1
          have hle2 := (HLE.out i k hlti hltk).2
          have hnn := HOK.out.2 i k hlti hltk
          generalize F i k = X at *
          generalize atL (q i) k = Y at *
          clear hta hbk
          go_wp2
          go_roundw
          case rel => exact ⟨k + 1, by omega, by go_num, HK.out⟩
          case measure => simp [intOf]; omega
        · obtain rfl : k = n := by omega
          clear hbk
          go_wp2
          go_roundw
          case rel => exact ⟨i + 1, by omega, by go_num, HAR.out.1.later HK.out, bthen HAR.out.2 HK.out⟩
          case measure => simp [intOf]; omega
    · obtain rfl : i = n := by omega
      clear hta hbr
      go_wp2_with (first
        | (go_at_call 44; (with_reducible refine (C7.out _ _ _ a1 a2 HAR.out.1.has).mono ?_); rintro e w7 ⟨rfl, hb7⟩; have HA7 := Lib.hid (HAR.out.1.later hb7); have HB7 := Lib.hid (bthen HAR.out.2 hb7); clear hb7)
        | (go_at_call 47; (with_reducible refine (C6.out _ _ _ a1 a2 HA7.out.has (HQ.out.later HB7.out)).mono ?_); rintro e w8 ⟨rfl, hb8⟩; have HB8 := Lib.hid (bthen HB7.out hb8); clear hb8)
        | (go_at_call 14; (refine (HAW.out _).mono ?_); rintro e w9 ⟨rfl, hb9⟩))
      go_ret
      exact ⟨rfl, bthen HB8.out hb9⟩
end Go.Proofs.Ytclallodmbianaa
