/- The classes that blocks tell apart, and whether blocks are good, by contract (the reference's side); no statement is proved here. -/
import Derived.Test.YtmdfalkkpajbiaaDoorGaClass
import Derived.Test.YtmdfalkkpajbiaaDoorGaNumbR2
namespace Go.Proofs.YtmdfalkkpajbiaaDoor
open Go.ChangeShapes Go.WideShapes Go.ChangeAt Go.RowKit Go.Shelf
attribute [local go_sem] Oper.semAt_some

set_option maxHeartbeats 16000000 in
set_option maxRecDepth 100000 in
theorem classesR_any (q : Nat) (A : Option Addr) (n c : Nat) (b : Nat → Int) (G : Option Addr) (m d : Nat) (g : Nat → Int) (w : World) (hq12 : q ≤ 12) (_hn : n ≤ c) (_hc : c ≤ 9223372036854775807) (hm : m ≤ d) (_hd : d ≤ 9223372036854775807) (hp : IHas w A n b) (hq : IHas w G m g) (hlt : ∀ j, j < n → 0 ≤ b j ∧ b j < 4096) (hg : ∀ k, k < m → 0 ≤ g k ∧ g k < (n : Int)) (hm1 : m ≤ 10000) :
    Calls Tryd.prog 98 #[.int .i64 (q : Int), .slice A n c, .slice G m d] w (RetLists w (clA q b g m)) := by
  have HP := Lib.hid hp
  have HQ := Lib.hid hq
  have HLT := Lib.hid (And.intro hlt hg)
  have HNU := Lib.hid (fun j (hj : j ≤ m) => nuF_lt hlt (k := j) (fun i hi => hg i (by omega)))
  have HN := Lib.hid (fun k (hk : k ≤ m) w hp hq => numbR_any A n c b G k d g w (by omega) hlt (fun j hj => hg j (by omega)) hp hq)
  have hpw : 2 ^ q ≤ 2 ^ 12 := Nat.pow_le_pow_right (by omega) hq12
  have hpw0 : 0 < 2 ^ q := Nat.two_pow_pos q
  clear hp hq hlt hg
  go_enter Tryd.func98, Tryd.ntmps98
  go_wp2
  go_loopw [7, 8, 9, 12] (fun v _ _ i wr => ∃ k : Nat, k ≤ m ∧ i = .int .i64 (k : Int) ∧ Lists5 wr w.heap.size v (clL b g k) ∧ Below w.heap.size w wr) (fun _ _ _ i _ => m - (intOf i).toNat)
  case atStart => exact ⟨0, Nat.zero_le _, rfl, Lists5.nil _ _, Below.refl _ _⟩
  case round =>
    obtain ⟨k, hk, rfl, ⟨xs, hrow, hin⟩, hbr⟩ := hrel
    have HROW := Lib.hid hrow
    have HINN := Lib.hid hin
    have HBR := Lib.hid hbr
    obtain ⟨AA0, NN0, CC0, hvv⟩ := isSlice hrow
    subst hvv
    clear hrow hin hbr
    by_cases hltk : k < m
    · obtain ⟨g1, g2⟩ := HLT.out.2 k hltk
      obtain ⟨z0, hzk⟩ : ∃ z : Nat, g k = (z : Int) := ⟨(g k).toNat, by omega⟩
      rw [hzk] at g1 g2
      obtain ⟨b1, b2⟩ := HLT.out.1 z0 (by omega)
      obtain ⟨z, hz⟩ : ∃ z : Nat, b z0 = (z : Int) := ⟨(b z0).toNat, by omega⟩
      obtain ⟨bG, oG, rfl, hG⟩ := HQ.out (by omega)
      obtain ⟨bA, oA, rfl, hA⟩ := HP.out (by omega)
      have hx := (hG.later HBR.out).v k hltk
      have hy := (hA.later HBR.out).v z0 (by omega)
      have hAl := hA.lt
      have HGk := Lib.hid (fun W (hb : Below w.heap.size w W) => show IHas W (some ⟨bG, oG, none⟩) k g from fun _ => ⟨bG, oG, rfl, (hG.later hb).less (by omega)⟩)
      have hcut := andNot5 z (nuF b g k) (by omega) (by have := HNU.out k hk; omega)
      have HFX := Lib.hid (show firF b g k = cut5 z (nuF b g k) from by
        unfold firF
        rw [hzk, show ((z0 : Int)).toNat = z0 from rfl, hz, show ((z : Int)).toNat = z from rfl])
      have hfl : cut5 z (nuF b g k) < 4096 := by have := cut5_le z (nuF b g k); omega
      have HM := Lib.hid (fun w => membersR_any (cut5 z (nuF b g k)) hfl w)
      have HCL := Lib.hid (show clL b g (k + 1) = clL b g k ++ [mb (firF b g k)] from rfl)
      have HNk := Lib.hid (HN.out k hk)
      have hzn : z0 < n := by omega
      rw [hzk] at hx
      rw [hz] at hy
      rw [HFX.out] at HCL
      have hlsn : (clL b g k).length ≤ 100000 := by rw [clL_len]; omega
      have hkd : k ≤ d := by omega
      have HOB := Lib.hid (show ∀ g, (Value.slice AA0 NN0 CC0).ownBlock = some g → w.heap.size ≤ g ∧ g < wr.heap.size from fun g e => HROW.out.lt g e)
      clear hG hA hzk hz g1 g2 b1 b2 hfl HFX
      generalize nuF b g k = st at *
      generalize cut5 z st = fx at *
      generalize clL b g k = ls at *
      go_wp2
      refine region_own (fun a a' w' => ∃ (v' u17 u18 u19 u20 u21 u22 u23 u24 u25 u26 u27 u28 u29 : Value), a' = (((((((((((((((a.put (some 17) u17).put (some 18) u18).put (some 19) u19).put (some 20) u20).put (some 21) u21).put (some 22) u22).put (some 23) u23).put (some 24) u24).put (some 25) u25).put (some 26) u26).put (some 27) u27).put (some 28) u28).put (some 29) u29).put (some 30) v').put (some 7) v') ∧ Lists5 w' w.heap.size v' (clL b g (k + 1)) ∧ Below w.heap.size w w') ?after ?reg
      case reg =>
        go_region_held_law (fun W' => W'.cell? ⟨bA, oA + z0, none⟩ = some (.int .i64 (z : Int)) ∧ bA < W'.heap.size) (first | exact ⟨hy, Nat.lt_of_lt_of_le hAl HBR.out.size⟩ | exact ⟨(HB6.out.cell (p := ⟨bA, oA + z0, none⟩) (Nat.lt_of_lt_of_le hAl HBR.out.size)).trans hy, Nat.lt_of_lt_of_le (Nat.lt_of_lt_of_le hAl HBR.out.size) HB6.out.size⟩ | exact ⟨(HB8.out.cell (p := ⟨bA, oA + z0, none⟩) (Nat.lt_of_lt_of_le hAl HBR.out.size)).trans hy, Nat.lt_of_lt_of_le (Nat.lt_of_lt_of_le hAl HBR.out.size) HB8.out.size⟩ | exact ⟨((HB8.out.alloc HB8.out.size _).cell (p := ⟨bA, oA + z0, none⟩) (Nat.lt_of_lt_of_le hAl HBR.out.size)).trans hy, Nat.lt_of_lt_of_le (Nat.lt_of_lt_of_le hAl HBR.out.size) (HB8.out.alloc HB8.out.size _).size⟩ | exact HC9.out)
          (first
            | (go_at_call 91; refine (HNk.out _ (HP.out.later (bthen HBR.out (below_drawn (Below.refl _ _)))) (HGk.out _ (bthen HBR.out (below_drawn (Below.refl _ _))))).mono ?_; rintro e w6 ⟨rfl, hb6⟩; have HB6 := Lib.hid (bthen (below_drawn (Below.refl _ wr)) hb6); clear hb6)
            | (go_at_call 124; refine (HM.out _).mono ?_; rintro e w8 ⟨A7, c7, rfl, q1, q2, q3, q4, hb8⟩; have HB8 := Lib.hid (bthen HB6.out hb8); have HIN := Lib.hid (inner_of (W := w6) (W' := w8) (base := w.heap.size) (ob := (Value.slice AA0 NN0 CC0).ownBlock) (l := mb fx) (bthen HBR.out HB6.out).size (fun g e => Nat.lt_of_lt_of_le (HOB.out g e).2 HB6.out.size) rfl q1 q2 q3 q4); clear q1 q2 q3 q4 hb8)
            | (refine step_push rfl _ _ rfl w.heap.size (Value.slice AA0 NN0 CC0) ls.length xs rfl (owns_later HROW.out HB8.out) rfl rfl (bthen HBR.out HB8.out).size hlsn ?_; intro v9 w9 hown9 hgrow9 hloc9; have HW9 := Lib.hid (And.intro hown9 (And.intro hgrow9 hloc9)); have HC9 := Lib.hid (show w9.cell? ⟨bA, oA + z0, none⟩ = some (.int .i64 (z : Int)) ∧ bA < w9.heap.size from ⟨(World.cell?_of_block (w := w8.alloc _) (a := ⟨bA, oA + z0, none⟩) (hgrow9.block bA (Nat.lt_of_lt_of_le (Nat.lt_of_lt_of_le hAl HBR.out.size) (HB8.out.alloc HB8.out.size _).size) (fun e => by have := (HOB.out bA e.symm).1; omega))).trans (((HB8.out.alloc HB8.out.size _).cell (p := ⟨bA, oA + z0, none⟩) (Nat.lt_of_lt_of_le hAl HBR.out.size)).trans hy), Nat.lt_of_lt_of_le (Nat.lt_of_lt_of_le (Nat.lt_of_lt_of_le hAl HBR.out.size) (HB8.out.alloc HB8.out.size _).size) hgrow9.size⟩); clear hown9 hgrow9 hloc9))
        have HFIN := Lib.hid (show Lists5 w9 w.heap.size v9 (clL b g (k + 1)) ∧ Below w.heap.size w w9 from by
          have hal := fun (o : Obj) => (show Below w8.heap.size w8 (w8.alloc o) from (Below.refl _ _).alloc (Nat.le_refl _) o)
          have hB := fun (o : Obj) => (show Below w.heap.size w (w8.alloc o) from bthen HBR.out (HB8.out.alloc HB8.out.size o))
          refine ⟨?_, (hB _).grown HW9.out.2.1 (hB _).size (fun j hj => (HOB.out j hj).1)⟩
          rw [HCL.out]
          exact Lists5.more (owns_later HROW.out (HB8.out.alloc HB8.out.size _)) (fun j l hj => by obtain ⟨u, r1, r2⟩ := HINN.out j l hj; exact ⟨u, r1, r2.later (HB8.out.alloc HB8.out.size _)⟩) (HIN.out.later (hal _)) HW9.out.1 HW9.out.2.1 HW9.out.2.2)
        show ∃ (v' u17 u18 u19 u20 u21 u22 u23 u24 u25 u26 u27 u28 u29 : Value), _ ∧ _
        try simp only [Act.put, List.setIfInBounds_toArray, List.set_cons_zero, List.set_cons_succ]
        exact ⟨_, _, _, _, _, _, _, _, _, _, _, _, _, _, rfl, HFIN.out⟩
      case after =>
        rintro a' w' ⟨v', u17, u18, u19, u20, u21, u22, u23, u24, u25, u26, u27, u28, u29, rfl, hf⟩
        have HFIN := Lib.hid hf
        clear hf
        try simp only [Act.put, List.setIfInBounds_toArray, List.set_cons_zero, List.set_cons_succ]
        go_wp2
        go_roundw
        case rel => exact ⟨k + 1, by omega, by go_num, HFIN.out.1, HFIN.out.2⟩
        case measure => simp [intOf]; omega
    · obtain rfl : k = m := by omega
      obtain ⟨E, hE⟩ : ∃ E : Nat, E = 2 ^ q := ⟨_, rfl⟩
      have hst := HNU.out k (Nat.le_refl _)
      have hcut := andNot5 (2 ^ q - 1) (nuF b g k) (by omega) (by omega)
      have HCA := Lib.hid (show clA q b g k = clL b g k ++ [mb (nevF q b g k)] from rfl)
      have HNV : Hid (nevF q b g k = cut5 (2 ^ q - 1) (nuF b g k)) := Lib.hid rfl
      have hnl : cut5 (2 ^ q - 1) (nuF b g k) < 4096 := by have := cut5_le (2 ^ q - 1) (nuF b g k); omega
      rw [HNV.out] at HCA
      rw [← hE] at hpw hpw0 hcut HCA hnl
      rw [show ((E - 1 : Nat) : Int) = (E : Int) - 1 by omega] at hcut
      have e0 : (2 : Int) ^ q = (E : Int) := by rw [hE]; push_cast; rfl
      have e1 : min q 64 = q := by omega
      have e2 : ¬ (q : Int) < 0 := by omega
      have e3 : IntKind.i64.wrap (E : Int) = (E : Int) := IntWalk.i64_in _ (by omega)
      have e4 : IntKind.i64.wrap ((E : Int) - 1) = (E : Int) - 1 := IntWalk.i64_in _ (by omega)
      have e5 : IntKind.i64.wrap ((2 : Int) ^ q) = (E : Int) := by rw [e0]; exact e3
      have HM := Lib.hid (fun w => membersR_any (cut5 (E - 1) (nuF b g k)) hnl w)
      have HNk := Lib.hid (HN.out k (Nat.le_refl _))
      have hlsn : (clL b g k).length ≤ 100000 := by rw [clL_len]; omega
      have HOB := Lib.hid (show ∀ g, (Value.slice AA0 NN0 CC0).ownBlock = some g → w.heap.size ≤ g ∧ g < wr.heap.size from fun g e => HROW.out.lt g e)
      clear hE hst hnl HNV hltk
      generalize nuF b g k = st at *
      generalize cut5 (E - 1) st = fx at *
      generalize clL b g k = ls at *
      go_wp2
      refine region_own (fun a a' w' => ∃ (v' u32 u33 u34 u35 u36 u37 u38 u39 u40 u41 : Value), a' = ((((((((((((a.put (some 32) u32).put (some 33) u33).put (some 34) u34).put (some 35) u35).put (some 36) u36).put (some 37) u37).put (some 38) u38).put (some 39) u39).put (some 40) u40).put (some 41) u41).put (some 42) v').put (some 6) v') ∧ Lists5 w' w.heap.size v' (clA q b g k) ∧ Below w.heap.size w w') ?after ?reg
      case reg =>
        go_region_held_law (fun W' => 0 ≤ W'.heap.size) (exact Nat.zero_le _)
          (first
            | (go_at_call 91; refine (HNk.out _ (HP.out.later (bthen HBR.out (below_drawn (Below.refl _ _)))) (HQ.out.later (bthen HBR.out (below_drawn (Below.refl _ _))))).mono ?_; rintro e w6 ⟨rfl, hb6⟩; have HB6 := Lib.hid (bthen (below_drawn (Below.refl _ wr)) hb6); clear hb6)
            | (go_at_call 124; refine (HM.out _).mono ?_; rintro e w8 ⟨A7, c7, rfl, q1, q2, q3, q4, hb8⟩; have HB8 := Lib.hid (bthen HB6.out hb8); have HIN := Lib.hid (inner_of (W := w6) (W' := w8) (base := w.heap.size) (ob := (Value.slice AA0 NN0 CC0).ownBlock) (l := mb fx) (bthen HBR.out HB6.out).size (fun g e => Nat.lt_of_lt_of_le (HOB.out g e).2 HB6.out.size) rfl q1 q2 q3 q4); clear q1 q2 q3 q4 hb8)
            | (refine step_push rfl _ _ rfl w.heap.size (Value.slice AA0 NN0 CC0) ls.length xs rfl (owns_later HROW.out HB8.out) rfl rfl (bthen HBR.out HB8.out).size hlsn ?_; intro v9 w9 hown9 hgrow9 hloc9; have HW9 := Lib.hid (And.intro hown9 (And.intro hgrow9 hloc9)); have HC9 := Lib.hid (show Below w.heap.size w w9 from (show Below w.heap.size w (w8.alloc _) from bthen HBR.out (HB8.out.alloc HB8.out.size _)).grown hgrow9 (bthen HBR.out (HB8.out.alloc HB8.out.size _)).size (fun j hj => (HOB.out j hj).1)); clear hown9 hgrow9 hloc9))
        have HFIN := Lib.hid (show Lists5 w9 w.heap.size v9 (clA q b g k) from by
          have hal := fun (o : Obj) => (show Below w8.heap.size w8 (w8.alloc o) from (Below.refl _ _).alloc (Nat.le_refl _) o)
          rw [HCA.out]
          exact Lists5.more (owns_later HROW.out (HB8.out.alloc HB8.out.size _)) (fun j l hj => by obtain ⟨u, r1, r2⟩ := HINN.out j l hj; exact ⟨u, r1, r2.later (HB8.out.alloc HB8.out.size _)⟩) (HIN.out.later (hal _)) HW9.out.1 HW9.out.2.1 HW9.out.2.2)
        show ∃ (v' u32 u33 u34 u35 u36 u37 u38 u39 u40 u41 : Value), _ ∧ _
        try simp only [Act.put, List.setIfInBounds_toArray, List.set_cons_zero, List.set_cons_succ]
        exact ⟨_, _, _, _, _, _, _, _, _, _, _, rfl, HFIN.out, HC9.out⟩
      case after =>
        rintro a' w' ⟨v', u32, u33, u34, u35, u36, u37, u38, u39, u40, u41, rfl, hf, hb'⟩
        try simp only [Act.put, List.setIfInBounds_toArray, List.set_cons_zero, List.set_cons_succ]
        obtain ⟨A9, c9, hv9, r1, r2, r3, r4⟩ := hf.has
        subst hv9
        have HR := Lib.hid (And.intro r1 (And.intro r2 (And.intro r4 hb')))
        clear r1 r2 r3 r4 hf hb'
        go_wp2
        go_ret
        exact ⟨A9, c9, rfl, HR.out.1, HR.out.2.1, HR.out.2.2.1, HR.out.2.2.2⟩
end Go.Proofs.YtmdfalkkpajbiaaDoor
