/- CareAdds, walked; no statement is proved here. -/
import Derived.Test.YtcifmmdfjglbnaaDoorCaAddM
import Derived.Test.YtcifmmdfjglbnaaDoorCaAwake
namespace Go.Proofs.YtcifmmdfjglbnaaDoor
open Go.ChangeShapes Go.WideShapes Go.ChangeAt Go.RowKit

set_option maxHeartbeats 16000000 in
set_option maxRecDepth 100000 in
theorem lawCareAdds_any (A : Option Addr) (n c : Nat) (p : Nat → Ru) (hn : n ≤ c) (hc : c ≤ 9223372036854775807) (hnil : A = none → c = 0) (nm : ByteArray) (ad fr to ft jb : Int) (rp : ByteArray) (j u d f b : Int) (w : World) (hp : RHas w A n p) (hE : EnvW w) :
    Calls Tryd.prog 10 #[.slice A n c, .agg #[.string nm, .int .i64 ad, .int .i64 fr, .int .i64 to, .int .i64 ft, .int .i64 jb, .string rp], .agg #[.int .i64 j, .int .i64 u], .int .i64 d, .int .i64 f, .int .i64 b] w fun e w' => e = .returned (.bool true) ∧ Below w.heap.size w w' := by
  obtain ⟨W0, hW0⟩ : ∃ W0, (w.alloc (.cells #[.string nm, .int .i64 ad, .int .i64 fr, .int .i64 to, .int .i64 ft, .int .i64 jb, .string rp] 54)).alloc (.cells #[.int .i64 j, .int .i64 u] 24) = W0 := ⟨_, rfl⟩
  have Z := Lib.hid (show W0.heap[w.heap.size]? = some (.cells #[.string nm, .int .i64 ad, .int .i64 fr, .int .i64 to, .int .i64 ft, .int .i64 jb, .string rp] 54) from by rw [← hW0]; exact alloc_old6 _ (new_at w _ _ rfl))
  have Z2 := Lib.hid (show W0.heap[w.heap.size + 1]? = some (.cells #[.int .i64 j, .int .i64 u] 24) from by rw [← hW0]; exact alloc_at6 _ _ (World.size_alloc _ _))
  have HB0 := Lib.hid (show Below w.heap.size w W0 from by rw [← hW0]; exact ((Below.refl _ _).alloc (Nat.le_refl _) _).alloc (by simp) _)
  have HP := Lib.hid (hp.later HB0.out)
  have HE := Lib.hid (hE.later HB0.out)
  have HAW := Lib.hid (fun w hE => awake6_any w hE)
  obtain ⟨c0, c1, c2, c3, c4, c5, c6, l0⟩ := cell7_of Z.out
  obtain ⟨e0, e1, m0⟩ := cell2_6 Z2.out
  have HFT := Lib.hid (fit_any6 A n c p W0 (by omega) HP.out)
  have HFU := Lib.hid (fun A w hp => fit_any6 A 1 1 (fun _ => ⟨nm, ad, fr, to, ft, jb, rp⟩) w (by omega) hp)
  clear hp hE
  cases hf : fitR p n
  · rw [hf] at HFT
    go_enter Tryd.func10, Tryd.ntmps10
    go_wp2_with (first
      | (go_at_call 15; ((with_reducible refine HFT.out.mono ?_); rintro e w1 ⟨rfl, hb1⟩); have HB1 := Lib.hid hb1; clear hb1; clear c0 c1 c2 c3 c4 c5 c6 l0 e0 e1 m0; obtain ⟨c0, c1, c2, c3, c4, c5, c6, l0⟩ := cell7_of ((HB1.out.block _ (lt_of_heap Z.out)).trans Z.out); obtain ⟨e0, e1, m0⟩ := cell2_6 ((HB1.out.block _ (lt_of_heap Z2.out)).trans Z2.out); clear HFU; have HBA := Lib.hid (HB1.out.alloc HB1.out.size (.cells #[.string nm, .int .i64 ad, .int .i64 fr, .int .i64 to, .int .i64 ft, .int .i64 jb, .string rp] 54)))
      | (go_at_call 16; (refine (HAW.out _ (HE.out.later HB1.out)).mono ?_); rintro e w9 ⟨rfl, hb9⟩; have HB9 := Lib.hid (bthen HB1.out hb9); clear hb9))
    go_ret
    exact ⟨rfl, bthen HB0.out HB9.out⟩
  rw [hf] at HFT
  obtain ⟨hsz, hnn⟩ := fitR_is hf
  clear hf
  cases hfu : fitR (fun _ => ⟨nm, ad, fr, to, ft, jb, rp⟩) 1
  · rw [hfu] at HFU
    go_enter Tryd.func10, Tryd.ntmps10
    go_wp2_with (first
      | (go_at_call 15; ((with_reducible refine HFT.out.mono ?_); rintro e w1 ⟨rfl, hb1⟩); have HB1 := Lib.hid hb1; clear hb1; clear c0 c1 c2 c3 c4 c5 c6 l0 e0 e1 m0; obtain ⟨c0, c1, c2, c3, c4, c5, c6, l0⟩ := cell7_of ((HB1.out.block _ (lt_of_heap Z.out)).trans Z.out); obtain ⟨e0, e1, m0⟩ := cell2_6 ((HB1.out.block _ (lt_of_heap Z2.out)).trans Z2.out); have HBA := Lib.hid (HB1.out.alloc HB1.out.size (.cells #[.string nm, .int .i64 ad, .int .i64 fr, .int .i64 to, .int .i64 ft, .int .i64 jb, .string rp] 54)))
      | (go_at_call 15; ((with_reducible refine (HFU.out _ _ (one_hasR (x := ⟨nm, ad, fr, to, ft, jb, rp⟩) (new_at w1 _ _ rfl))).mono ?_); rintro e w2 ⟨rfl, hb2⟩); have HB2 := Lib.hid (bthen HBA.out hb2); clear hb2; clear c0 c1 c2 c3 c4 c5 c6 l0 e0 e1 m0; obtain ⟨c0, c1, c2, c3, c4, c5, c6, l0⟩ := cell7_of ((HB2.out.block _ (lt_of_heap Z.out)).trans Z.out); obtain ⟨e0, e1, m0⟩ := cell2_6 ((HB2.out.block _ (lt_of_heap Z2.out)).trans Z2.out))
      | (go_at_call 16; (refine (HAW.out _ (HE.out.later HB2.out)).mono ?_); rintro e w9 ⟨rfl, hb9⟩; have HB9 := Lib.hid (bthen HB2.out hb9); clear hb9))
    go_ret
    exact ⟨rfl, bthen HB0.out HB9.out⟩
  rw [hfu] at HFU
  have hnm : nm.size ≤ 100 := ((fitR_is hfu).1 0 (by omega)).1
  clear hfu
  have hs1 : ∀ k, k < n → (p k).nm.size ≤ 100000000 := fun k hk => by have := (hsz k hk).1; omega
  have hs2 : ∀ k, k < n + 1 → (catR p n (fun _ => ⟨nm, ad, fr, to, ft, jb, rp⟩) k).nm.size ≤ 100000000 := fun k hk => by
    rcases Nat.lt_or_ge k n with h | h
    · rw [catR_lo h]; exact hs1 k h
    · obtain rfl : k = n := by omega
      rw [show catR p k (fun _ => ⟨nm, ad, fr, to, ft, jb, rp⟩) k = ⟨nm, ad, fr, to, ft, jb, rp⟩ from catR_hi p (fun _ => ⟨nm, ad, fr, to, ft, jb, rp⟩) k 0]
      show nm.size ≤ 100000000
      omega
  have HAD := Lib.hid (fun w hp => Added_any A n c p nm ad fr to ft jb rp w hn hc hp hs1 (by omega))
  have HAR := Lib.hid (fun w hp => AddedR_any A n c p nm ad fr to ft jb rp w hn (by omega) hnil hp hs1 (by omega))
  have HN := Lib.hid (show adN p n ⟨nm, ad, fr, to, ft, jb, rp⟩ = if adE p n ⟨nm, ad, fr, to, ft, jb, rp⟩ = 0 then n + 1 else 0 from rfl)
  by_cases h0 : adE p n ⟨nm, ad, fr, to, ft, jb, rp⟩ = 0
  case neg =>
    rw [if_neg h0] at HN
    rw [HN.out] at HAD HAR
    generalize adE p n ⟨nm, ad, fr, to, ft, jb, rp⟩ = E at *
    generalize catR p n (fun _ => ⟨nm, ad, fr, to, ft, jb, rp⟩) = q at *
    have h0b : (E == 0) = false := by simpa using h0
    have h0c : (E != 0) = true := by simpa using h0
    have h0d : (E != E) = false := by simp
    clear HN hs1 hs2 hsz
    go_enter Tryd.func10, Tryd.ntmps10
    go_wp2_with (first
      | (go_at_call 15; ((with_reducible refine HFT.out.mono ?_); rintro e w1 ⟨rfl, hb1⟩); have HB1 := Lib.hid hb1; clear hb1; clear c0 c1 c2 c3 c4 c5 c6 l0 e0 e1 m0; obtain ⟨c0, c1, c2, c3, c4, c5, c6, l0⟩ := cell7_of ((HB1.out.block _ (lt_of_heap Z.out)).trans Z.out); obtain ⟨e0, e1, m0⟩ := cell2_6 ((HB1.out.block _ (lt_of_heap Z2.out)).trans Z2.out); have HBA := Lib.hid (HB1.out.alloc HB1.out.size (.cells #[.string nm, .int .i64 ad, .int .i64 fr, .int .i64 to, .int .i64 ft, .int .i64 jb, .string rp] 54)))
      | (go_at_call 15; ((with_reducible refine (HFU.out _ _ (one_hasR (x := ⟨nm, ad, fr, to, ft, jb, rp⟩) (new_at w1 _ _ rfl))).mono ?_); rintro e w2 ⟨rfl, hb2⟩); have HB2 := Lib.hid (bthen HBA.out hb2); clear hb2; clear c0 c1 c2 c3 c4 c5 c6 l0 e0 e1 m0; obtain ⟨c0, c1, c2, c3, c4, c5, c6, l0⟩ := cell7_of ((HB2.out.block _ (lt_of_heap Z.out)).trans Z.out); obtain ⟨e0, e1, m0⟩ := cell2_6 ((HB2.out.block _ (lt_of_heap Z2.out)).trans Z2.out))
      | (go_at_call 41; (refine (HAD.out _ (HP.out.later HB2.out)).mono ?_); rintro e w3 ⟨A3, d3, rfl, p1, p2, p3, hb3⟩; have HI3 := Lib.hid p3; have HB3 := Lib.hid (bthen HB2.out hb3); clear hb3 p3; clear c0 c1 c2 c3 c4 c5 c6 l0 e0 e1 m0; obtain ⟨c0, c1, c2, c3, c4, c5, c6, l0⟩ := cell7_of ((HB3.out.block _ (lt_of_heap Z.out)).trans Z.out); obtain ⟨e0, e1, m0⟩ := cell2_6 ((HB3.out.block _ (lt_of_heap Z2.out)).trans Z2.out))
      | (go_at_call 42; (refine (HAR.out _ (HP.out.later HB3.out)).mono ?_); rintro e w4 ⟨A4, d4, rfl, p4, p5, p6, hb4⟩; have HI3 := Lib.hid (HI3.out.later hb4); have HI4 := Lib.hid p6; have HB4 := Lib.hid (bthen HB3.out hb4); clear hb4 p6; clear c0 c1 c2 c3 c4 c5 c6 l0 e0 e1 m0; obtain ⟨c0, c1, c2, c3, c4, c5, c6, l0⟩ := cell7_of ((HB4.out.block _ (lt_of_heap Z.out)).trans Z.out); obtain ⟨e0, e1, m0⟩ := cell2_6 ((HB4.out.block _ (lt_of_heap Z2.out)).trans Z2.out))
      | (go_at_call 43; (refine (SameRules_yes A3 A4 _ d3 d4 _ _ p1 p2 HI3.out HI4.out).mono ?_); rintro e w5 ⟨rfl, hb5⟩; have HI3 := Lib.hid (HI3.out.later hb5); have HB5 := Lib.hid (bthen HB4.out hb5); clear hb5; clear c0 c1 c2 c3 c4 c5 c6 l0 e0 e1 m0; obtain ⟨c0, c1, c2, c3, c4, c5, c6, l0⟩ := cell7_of ((HB5.out.block _ (lt_of_heap Z.out)).trans Z.out); obtain ⟨e0, e1, m0⟩ := cell2_6 ((HB5.out.block _ (lt_of_heap Z2.out)).trans Z2.out))
      | (go_at_call 16; (refine (HAW.out _ (HE.out.later HB5.out)).mono ?_); rintro e w9 ⟨rfl, hb9⟩; have HB9 := Lib.hid (bthen HB5.out hb9); clear hb9))
    go_ret
    exact ⟨rfl, bthen HB0.out HB9.out⟩
  rw [if_pos h0] at HN
  rw [HN.out] at HAD HAR
  rw [h0] at HAD HAR
  have HL1 := Lib.hid (fun w hp => Allowed_any A n c p j u d f b w hn hc hp hs1)
  have HL2 := Lib.hid (fun A c w hn hc hp => Allowed_any A (n + 1) c (catR p n (fun _ => ⟨nm, ad, fr, to, ft, jb, rp⟩)) j u d f b w hn hc hp hs2)
  rw [added_ae h0] at HL2
  have HVR := Lib.hid (fun A c w hn hc hp => ValidRules_any A (n + 1) c (catR p n (fun _ => ⟨nm, ad, fr, to, ft, jb, rp⟩)) w hn hc hp hs2)
  rw [added_valid h0] at HVR
  have HLE := Lib.hid (fun (hr : rp.size = 0) => added_less (j := j) (u := u) (d := d) (f := f) (b := b) h0 hr)
  generalize aeE p n j u d f b = E at *
  generalize aeV p n j u d f b = V1 at *
  generalize aeV (catR p n (fun _ => ⟨nm, ad, fr, to, ft, jb, rp⟩)) (n + 1) j u d f b = V2 at *
  generalize catR p n (fun _ => ⟨nm, ad, fr, to, ft, jb, rp⟩) = q at *
  have b1 : (E == E) = true := by simp
  clear HN hs1 hs2 hsz h0
  by_cases hr : rp.size = 0
  · have s1 := str_none6 hr
    have hle := HLE.out hr
    clear HLE hr
    cases V1
    · cases V2
      · clear hle
        go_enter Tryd.func10, Tryd.ntmps10
        go_wp2_with (first
          | (go_at_call 15; ((with_reducible refine HFT.out.mono ?_); rintro e w1 ⟨rfl, hb1⟩); have HB1 := Lib.hid hb1; clear hb1; clear c0 c1 c2 c3 c4 c5 c6 l0 e0 e1 m0; obtain ⟨c0, c1, c2, c3, c4, c5, c6, l0⟩ := cell7_of ((HB1.out.block _ (lt_of_heap Z.out)).trans Z.out); obtain ⟨e0, e1, m0⟩ := cell2_6 ((HB1.out.block _ (lt_of_heap Z2.out)).trans Z2.out); have HBA := Lib.hid (HB1.out.alloc HB1.out.size (.cells #[.string nm, .int .i64 ad, .int .i64 fr, .int .i64 to, .int .i64 ft, .int .i64 jb, .string rp] 54)))
          | (go_at_call 15; ((with_reducible refine (HFU.out _ _ (one_hasR (x := ⟨nm, ad, fr, to, ft, jb, rp⟩) (new_at w1 _ _ rfl))).mono ?_); rintro e w2 ⟨rfl, hb2⟩); have HB2 := Lib.hid (bthen HBA.out hb2); clear hb2; clear c0 c1 c2 c3 c4 c5 c6 l0 e0 e1 m0; obtain ⟨c0, c1, c2, c3, c4, c5, c6, l0⟩ := cell7_of ((HB2.out.block _ (lt_of_heap Z.out)).trans Z.out); obtain ⟨e0, e1, m0⟩ := cell2_6 ((HB2.out.block _ (lt_of_heap Z2.out)).trans Z2.out))
          | (go_at_call 41; (refine (HAD.out _ (HP.out.later HB2.out)).mono ?_); rintro e w3 ⟨A3, d3, rfl, p1, p2, p3, hb3⟩; have HI3 := Lib.hid p3; have HB3 := Lib.hid (bthen HB2.out hb3); clear hb3 p3; clear c0 c1 c2 c3 c4 c5 c6 l0 e0 e1 m0; obtain ⟨c0, c1, c2, c3, c4, c5, c6, l0⟩ := cell7_of ((HB3.out.block _ (lt_of_heap Z.out)).trans Z.out); obtain ⟨e0, e1, m0⟩ := cell2_6 ((HB3.out.block _ (lt_of_heap Z2.out)).trans Z2.out))
          | (go_at_call 42; (refine (HAR.out _ (HP.out.later HB3.out)).mono ?_); rintro e w4 ⟨A4, d4, rfl, p4, p5, p6, hb4⟩; have HI3 := Lib.hid (HI3.out.later hb4); have HI4 := Lib.hid p6; have HB4 := Lib.hid (bthen HB3.out hb4); clear hb4 p6; clear c0 c1 c2 c3 c4 c5 c6 l0 e0 e1 m0; obtain ⟨c0, c1, c2, c3, c4, c5, c6, l0⟩ := cell7_of ((HB4.out.block _ (lt_of_heap Z.out)).trans Z.out); obtain ⟨e0, e1, m0⟩ := cell2_6 ((HB4.out.block _ (lt_of_heap Z2.out)).trans Z2.out))
          | (go_at_call 43; (refine (SameRules_yes A3 A4 _ d3 d4 _ _ p1 p2 HI3.out HI4.out).mono ?_); rintro e w5 ⟨rfl, hb5⟩; have HI3 := Lib.hid (HI3.out.later hb5); have HB5 := Lib.hid (bthen HB4.out hb5); clear hb5; clear c0 c1 c2 c3 c4 c5 c6 l0 e0 e1 m0; obtain ⟨c0, c1, c2, c3, c4, c5, c6, l0⟩ := cell7_of ((HB5.out.block _ (lt_of_heap Z.out)).trans Z.out); obtain ⟨e0, e1, m0⟩ := cell2_6 ((HB5.out.block _ (lt_of_heap Z2.out)).trans Z2.out))
          | (go_at_call 30; ((with_reducible refine (HL1.out _ (HP.out.later HB5.out)).mono ?_); rintro e w6 ⟨rfl, hb6⟩); have HI3 := Lib.hid (HI3.out.later hb6); have HB6 := Lib.hid (bthen HB5.out hb6); clear hb6; clear c0 c1 c2 c3 c4 c5 c6 l0 e0 e1 m0; obtain ⟨c0, c1, c2, c3, c4, c5, c6, l0⟩ := cell7_of ((HB6.out.block _ (lt_of_heap Z.out)).trans Z.out); obtain ⟨e0, e1, m0⟩ := cell2_6 ((HB6.out.block _ (lt_of_heap Z2.out)).trans Z2.out))
          | (go_at_call 30; ((with_reducible refine (HL2.out A3 d3 _ p1 p2 HI3.out).mono ?_); rintro e w7 ⟨rfl, hb7⟩); have HI3 := Lib.hid (HI3.out.later hb7); have HB7 := Lib.hid (bthen HB6.out hb7); clear hb7; clear c0 c1 c2 c3 c4 c5 c6 l0 e0 e1 m0; obtain ⟨c0, c1, c2, c3, c4, c5, c6, l0⟩ := cell7_of ((HB7.out.block _ (lt_of_heap Z.out)).trans Z.out); obtain ⟨e0, e1, m0⟩ := cell2_6 ((HB7.out.block _ (lt_of_heap Z2.out)).trans Z2.out))
          | (go_at_call 19; (refine (HVR.out A3 d3 _ p1 p2 HI3.out).mono ?_); rintro e w8 ⟨rfl, hb8⟩; have HB8 := Lib.hid (bthen HB7.out hb8); clear hb8; clear c0 c1 c2 c3 c4 c5 c6 l0 e0 e1 m0; obtain ⟨c0, c1, c2, c3, c4, c5, c6, l0⟩ := cell7_of ((HB8.out.block _ (lt_of_heap Z.out)).trans Z.out); obtain ⟨e0, e1, m0⟩ := cell2_6 ((HB8.out.block _ (lt_of_heap Z2.out)).trans Z2.out))
          | (go_at_call 16; (refine (HAW.out _ (HE.out.later HB8.out)).mono ?_); rintro e w9 ⟨rfl, hb9⟩; have HB9 := Lib.hid (bthen HB8.out hb9); clear hb9))
        go_ret
        exact ⟨rfl, bthen HB0.out HB9.out⟩
      · cases hle rfl
    · clear hle
      go_enter Tryd.func10, Tryd.ntmps10
      go_wp2_with (first
        | (go_at_call 15; ((with_reducible refine HFT.out.mono ?_); rintro e w1 ⟨rfl, hb1⟩); have HB1 := Lib.hid hb1; clear hb1; clear c0 c1 c2 c3 c4 c5 c6 l0 e0 e1 m0; obtain ⟨c0, c1, c2, c3, c4, c5, c6, l0⟩ := cell7_of ((HB1.out.block _ (lt_of_heap Z.out)).trans Z.out); obtain ⟨e0, e1, m0⟩ := cell2_6 ((HB1.out.block _ (lt_of_heap Z2.out)).trans Z2.out); have HBA := Lib.hid (HB1.out.alloc HB1.out.size (.cells #[.string nm, .int .i64 ad, .int .i64 fr, .int .i64 to, .int .i64 ft, .int .i64 jb, .string rp] 54)))
        | (go_at_call 15; ((with_reducible refine (HFU.out _ _ (one_hasR (x := ⟨nm, ad, fr, to, ft, jb, rp⟩) (new_at w1 _ _ rfl))).mono ?_); rintro e w2 ⟨rfl, hb2⟩); have HB2 := Lib.hid (bthen HBA.out hb2); clear hb2; clear c0 c1 c2 c3 c4 c5 c6 l0 e0 e1 m0; obtain ⟨c0, c1, c2, c3, c4, c5, c6, l0⟩ := cell7_of ((HB2.out.block _ (lt_of_heap Z.out)).trans Z.out); obtain ⟨e0, e1, m0⟩ := cell2_6 ((HB2.out.block _ (lt_of_heap Z2.out)).trans Z2.out))
        | (go_at_call 41; (refine (HAD.out _ (HP.out.later HB2.out)).mono ?_); rintro e w3 ⟨A3, d3, rfl, p1, p2, p3, hb3⟩; have HI3 := Lib.hid p3; have HB3 := Lib.hid (bthen HB2.out hb3); clear hb3 p3; clear c0 c1 c2 c3 c4 c5 c6 l0 e0 e1 m0; obtain ⟨c0, c1, c2, c3, c4, c5, c6, l0⟩ := cell7_of ((HB3.out.block _ (lt_of_heap Z.out)).trans Z.out); obtain ⟨e0, e1, m0⟩ := cell2_6 ((HB3.out.block _ (lt_of_heap Z2.out)).trans Z2.out))
        | (go_at_call 42; (refine (HAR.out _ (HP.out.later HB3.out)).mono ?_); rintro e w4 ⟨A4, d4, rfl, p4, p5, p6, hb4⟩; have HI3 := Lib.hid (HI3.out.later hb4); have HI4 := Lib.hid p6; have HB4 := Lib.hid (bthen HB3.out hb4); clear hb4 p6; clear c0 c1 c2 c3 c4 c5 c6 l0 e0 e1 m0; obtain ⟨c0, c1, c2, c3, c4, c5, c6, l0⟩ := cell7_of ((HB4.out.block _ (lt_of_heap Z.out)).trans Z.out); obtain ⟨e0, e1, m0⟩ := cell2_6 ((HB4.out.block _ (lt_of_heap Z2.out)).trans Z2.out))
        | (go_at_call 43; (refine (SameRules_yes A3 A4 _ d3 d4 _ _ p1 p2 HI3.out HI4.out).mono ?_); rintro e w5 ⟨rfl, hb5⟩; have HI3 := Lib.hid (HI3.out.later hb5); have HB5 := Lib.hid (bthen HB4.out hb5); clear hb5; clear c0 c1 c2 c3 c4 c5 c6 l0 e0 e1 m0; obtain ⟨c0, c1, c2, c3, c4, c5, c6, l0⟩ := cell7_of ((HB5.out.block _ (lt_of_heap Z.out)).trans Z.out); obtain ⟨e0, e1, m0⟩ := cell2_6 ((HB5.out.block _ (lt_of_heap Z2.out)).trans Z2.out))
        | (go_at_call 30; ((with_reducible refine (HL1.out _ (HP.out.later HB5.out)).mono ?_); rintro e w6 ⟨rfl, hb6⟩); have HI3 := Lib.hid (HI3.out.later hb6); have HB6 := Lib.hid (bthen HB5.out hb6); clear hb6; clear c0 c1 c2 c3 c4 c5 c6 l0 e0 e1 m0; obtain ⟨c0, c1, c2, c3, c4, c5, c6, l0⟩ := cell7_of ((HB6.out.block _ (lt_of_heap Z.out)).trans Z.out); obtain ⟨e0, e1, m0⟩ := cell2_6 ((HB6.out.block _ (lt_of_heap Z2.out)).trans Z2.out))
        | (go_at_call 30; ((with_reducible refine (HL2.out A3 d3 _ p1 p2 HI3.out).mono ?_); rintro e w7 ⟨rfl, hb7⟩); have HI3 := Lib.hid (HI3.out.later hb7); have HB7 := Lib.hid (bthen HB6.out hb7); clear hb7; clear c0 c1 c2 c3 c4 c5 c6 l0 e0 e1 m0; obtain ⟨c0, c1, c2, c3, c4, c5, c6, l0⟩ := cell7_of ((HB7.out.block _ (lt_of_heap Z.out)).trans Z.out); obtain ⟨e0, e1, m0⟩ := cell2_6 ((HB7.out.block _ (lt_of_heap Z2.out)).trans Z2.out))
        | (go_at_call 19; (refine (HVR.out A3 d3 _ p1 p2 HI3.out).mono ?_); rintro e w8 ⟨rfl, hb8⟩; have HB8 := Lib.hid (bthen HB7.out hb8); clear hb8; clear c0 c1 c2 c3 c4 c5 c6 l0 e0 e1 m0; obtain ⟨c0, c1, c2, c3, c4, c5, c6, l0⟩ := cell7_of ((HB8.out.block _ (lt_of_heap Z.out)).trans Z.out); obtain ⟨e0, e1, m0⟩ := cell2_6 ((HB8.out.block _ (lt_of_heap Z2.out)).trans Z2.out))
        | (go_at_call 16; (refine (HAW.out _ (HE.out.later HB8.out)).mono ?_); rintro e w9 ⟨rfl, hb9⟩; have HB9 := Lib.hid (bthen HB8.out hb9); clear hb9))
      go_ret
      exact ⟨rfl, bthen HB0.out HB9.out⟩
  · obtain ⟨s1, s2, s3⟩ := str_some6 hr
    clear HLE hr
    go_enter Tryd.func10, Tryd.ntmps10
    go_wp2_with (first
      | (go_at_call 15; ((with_reducible refine HFT.out.mono ?_); rintro e w1 ⟨rfl, hb1⟩); have HB1 := Lib.hid hb1; clear hb1; clear c0 c1 c2 c3 c4 c5 c6 l0 e0 e1 m0; obtain ⟨c0, c1, c2, c3, c4, c5, c6, l0⟩ := cell7_of ((HB1.out.block _ (lt_of_heap Z.out)).trans Z.out); obtain ⟨e0, e1, m0⟩ := cell2_6 ((HB1.out.block _ (lt_of_heap Z2.out)).trans Z2.out); have HBA := Lib.hid (HB1.out.alloc HB1.out.size (.cells #[.string nm, .int .i64 ad, .int .i64 fr, .int .i64 to, .int .i64 ft, .int .i64 jb, .string rp] 54)))
      | (go_at_call 15; ((with_reducible refine (HFU.out _ _ (one_hasR (x := ⟨nm, ad, fr, to, ft, jb, rp⟩) (new_at w1 _ _ rfl))).mono ?_); rintro e w2 ⟨rfl, hb2⟩); have HB2 := Lib.hid (bthen HBA.out hb2); clear hb2; clear c0 c1 c2 c3 c4 c5 c6 l0 e0 e1 m0; obtain ⟨c0, c1, c2, c3, c4, c5, c6, l0⟩ := cell7_of ((HB2.out.block _ (lt_of_heap Z.out)).trans Z.out); obtain ⟨e0, e1, m0⟩ := cell2_6 ((HB2.out.block _ (lt_of_heap Z2.out)).trans Z2.out))
      | (go_at_call 41; (refine (HAD.out _ (HP.out.later HB2.out)).mono ?_); rintro e w3 ⟨A3, d3, rfl, p1, p2, p3, hb3⟩; have HI3 := Lib.hid p3; have HB3 := Lib.hid (bthen HB2.out hb3); clear hb3 p3; clear c0 c1 c2 c3 c4 c5 c6 l0 e0 e1 m0; obtain ⟨c0, c1, c2, c3, c4, c5, c6, l0⟩ := cell7_of ((HB3.out.block _ (lt_of_heap Z.out)).trans Z.out); obtain ⟨e0, e1, m0⟩ := cell2_6 ((HB3.out.block _ (lt_of_heap Z2.out)).trans Z2.out))
      | (go_at_call 42; (refine (HAR.out _ (HP.out.later HB3.out)).mono ?_); rintro e w4 ⟨A4, d4, rfl, p4, p5, p6, hb4⟩; have HI3 := Lib.hid (HI3.out.later hb4); have HI4 := Lib.hid p6; have HB4 := Lib.hid (bthen HB3.out hb4); clear hb4 p6; clear c0 c1 c2 c3 c4 c5 c6 l0 e0 e1 m0; obtain ⟨c0, c1, c2, c3, c4, c5, c6, l0⟩ := cell7_of ((HB4.out.block _ (lt_of_heap Z.out)).trans Z.out); obtain ⟨e0, e1, m0⟩ := cell2_6 ((HB4.out.block _ (lt_of_heap Z2.out)).trans Z2.out))
      | (go_at_call 43; (refine (SameRules_yes A3 A4 _ d3 d4 _ _ p1 p2 HI3.out HI4.out).mono ?_); rintro e w5 ⟨rfl, hb5⟩; have HI3 := Lib.hid (HI3.out.later hb5); have HB5 := Lib.hid (bthen HB4.out hb5); clear hb5; clear c0 c1 c2 c3 c4 c5 c6 l0 e0 e1 m0; obtain ⟨c0, c1, c2, c3, c4, c5, c6, l0⟩ := cell7_of ((HB5.out.block _ (lt_of_heap Z.out)).trans Z.out); obtain ⟨e0, e1, m0⟩ := cell2_6 ((HB5.out.block _ (lt_of_heap Z2.out)).trans Z2.out))
      | (go_at_call 30; ((with_reducible refine (HL1.out _ (HP.out.later HB5.out)).mono ?_); rintro e w6 ⟨rfl, hb6⟩); have HI3 := Lib.hid (HI3.out.later hb6); have HB6 := Lib.hid (bthen HB5.out hb6); clear hb6; clear c0 c1 c2 c3 c4 c5 c6 l0 e0 e1 m0; obtain ⟨c0, c1, c2, c3, c4, c5, c6, l0⟩ := cell7_of ((HB6.out.block _ (lt_of_heap Z.out)).trans Z.out); obtain ⟨e0, e1, m0⟩ := cell2_6 ((HB6.out.block _ (lt_of_heap Z2.out)).trans Z2.out))
      | (go_at_call 30; ((with_reducible refine (HL2.out A3 d3 _ p1 p2 HI3.out).mono ?_); rintro e w7 ⟨rfl, hb7⟩); have HI3 := Lib.hid (HI3.out.later hb7); have HB7 := Lib.hid (bthen HB6.out hb7); clear hb7; clear c0 c1 c2 c3 c4 c5 c6 l0 e0 e1 m0; obtain ⟨c0, c1, c2, c3, c4, c5, c6, l0⟩ := cell7_of ((HB7.out.block _ (lt_of_heap Z.out)).trans Z.out); obtain ⟨e0, e1, m0⟩ := cell2_6 ((HB7.out.block _ (lt_of_heap Z2.out)).trans Z2.out))
      | (go_at_call 19; (refine (HVR.out A3 d3 _ p1 p2 HI3.out).mono ?_); rintro e w8 ⟨rfl, hb8⟩; have HB8 := Lib.hid (bthen HB7.out hb8); clear hb8; clear c0 c1 c2 c3 c4 c5 c6 l0 e0 e1 m0; obtain ⟨c0, c1, c2, c3, c4, c5, c6, l0⟩ := cell7_of ((HB8.out.block _ (lt_of_heap Z.out)).trans Z.out); obtain ⟨e0, e1, m0⟩ := cell2_6 ((HB8.out.block _ (lt_of_heap Z2.out)).trans Z2.out))
      | (go_at_call 16; (refine (HAW.out _ (HE.out.later HB8.out)).mono ?_); rintro e w9 ⟨rfl, hb9⟩; have HB9 := Lib.hid (bthen HB8.out hb9); clear hb9))
    go_ret
    exact ⟨rfl, bthen HB0.out HB9.out⟩
end Go.Proofs.YtcifmmdfjglbnaaDoor
