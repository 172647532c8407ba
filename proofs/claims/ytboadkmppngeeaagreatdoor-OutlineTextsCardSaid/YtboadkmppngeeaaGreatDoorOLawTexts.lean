/- Both Parses at any text, and the walk of OutlineTexts; no statement is proved here. -/
import Derived.Test.YtboadkmppngeeaaGreatDoorOText5
namespace Go.Proofs.YtboadkmppngeeaaGreatDoor
open Go.ChangeShapes Go.WideShapes Go.ChangeAt Go.RowKit

theorem has_congr {w : World} {A : Option Addr} {n : Nat} {p q : Nat → Pt} (h : ∀ k, k < n → p k = q k) (hp : Has w A n p) : Has w A n q := by
  intro hn
  obtain ⟨b, off, rfl, hP⟩ := hp hn
  exact ⟨b, off, rfl, hP.lt, fun k hk => by rw [← h k hk]; exact hP.x k hk, fun k hk => by rw [← h k hk]; exact hP.y k hk⟩

/-- What both Parses give: the same list, the same error. -/
def ListRet (W : World) (E : Int) (N : Nat) (q : Nat → Pt) (e : Ending) (w' : World) : Prop :=
  ∃ A c, e = .returned (.tuple #[.slice A N c, .int .i64 E]) ∧ N ≤ c ∧ c ≤ 9223372036854775807 ∧ Has w' A N q ∧ Below W.heap.size W w'
def ParsesIs (s : ByteArray) (E : Int) (N : Nat) (q : Nat → Pt) : Prop :=
  (∀ w, EnvO w → Calls Tryz.prog 6 #[.string s] w (ListRet w E N q)) ∧ (∀ w, EnvO w → Calls Tryz.prog 7 #[.string s] w (ListRet w E N q))

set_option maxHeartbeats 1000000 in
set_option maxRecDepth 100000 in
theorem parsesO_long (s : ByteArray) (hs : 65536 < s.size) : ParsesIs s 3 0 (fun _ => (0, 0)) := by
  have hl : (65536 : Int) < (s.size : Int) := by omega
  constructor
  · intro w _
    go_enter Tryz.func6, Tryz.ntmps6
    go_wp2
    go_ret2
    exact ⟨none, 0, rfl, Nat.le_refl _, by omega, fun h => absurd h (by omega), Below.refl _ _⟩
  · intro w _
    go_enter Tryz.func7, Tryz.ntmps7
    go_wp2
    go_ret2
    exact ⟨none, 0, rfl, Nat.le_refl _, by omega, fun h => absurd h (by omega), Below.refl _ _⟩

theorem words_of (q : Nat → Pt) {m : Nat} (h : 0 < m) : cntW (ofB q m) = m ∧ ∀ k, k < m → wLt (ofB q m) k = ptL (q k) := by
  obtain ⟨h1, h2⟩ := of_words q h
  refine ⟨by unfold cntW; rw [h1]; omega, fun k hk => ?_⟩
  unfold wLt wAt wdsW
  rw [h1, h2, ptsB_at q m k hk]
  rfl
theorem bytes_of {s : ByteArray} {l : List UInt8} (h : s.data.toList = l) : s = ⟨l.toArray⟩ := by
  apply ByteArray.ext
  simp [← h]

theorem reads_eq (s : ByteArray) : cdB (wLt s) (cntW s) s.data.toList = rfB (wLt s) (cntW s) s.data.toList ∧ (cdB (wLt s) (cntW s) s.data.toList = true → vC (fun k => wPt (wLt s k)) (cntW s) = true ∧ s.data.toList = ofL (fun k => wPt (wLt s k)) (cntW s) ∧ ∀ k, k < cntW s → wPt (wLt s k) = rPt (wLt s k)) := by
  refine read_eq (fun q m hv hs => ?_) (fun h0 => ⟨0, Nat.succ_pos _, ?_⟩)
  · have e : s = ofB q m := bytes_of hs
    obtain ⟨h3, _⟩ := vC_parts hv
    rw [e]
    exact words_of q (by omega)
  · have hz : (wAt s 0).size ≤ 0 := Nat.le_trans (wAt_le s 0) (by
      have : s.data.toList.length = s.size := rfl
      rw [h0] at this
      simp at this; omega)
    have hz' : (wLt s 0).length = (wAt s 0).size := rfl
    have : wLt s 0 = [] := List.length_eq_zero_iff.1 (by omega)
    rw [this]
    decide

theorem parsesO (s : ByteArray) (hs : s.size ≤ 1000) : ∃ E N q, ParsesIs s E N q := by
  obtain ⟨h1, h2⟩ := reads_eq s
  cases hb : cdB (wLt s) (cntW s) s.data.toList
  · rw [hb] at h1
    refine ⟨2, 0, fun _ => (0, 0), fun w hE => (parse_any s w hs hE).mono fun e w' h => ?_, fun w hE => (refParseO_any s w hs hE).mono fun e w' h => ?_⟩
    · rw [hb] at h
      rcases h with ⟨h, _⟩ | ⟨_, rfl, hb⟩
      · cases h
      · exact ⟨none, 0, rfl, Nat.le_refl _, by omega, fun h => absurd h (by omega), hb⟩
    · rw [← h1] at h
      rcases h with ⟨h, _⟩ | ⟨_, rfl, hb⟩
      · cases h
      · exact ⟨none, 0, rfl, Nat.le_refl _, by omega, fun h => absurd h (by omega), hb⟩
  · rw [hb] at h1
    obtain ⟨_, _, he⟩ := h2 hb
    refine ⟨0, cntW s, fun k => wPt (wLt s k), fun w hE => (parse_any s w hs hE).mono fun e w' h => ?_, fun w hE => (refParseO_any s w hs hE).mono fun e w' h => ?_⟩
    · rw [hb] at h
      rcases h with ⟨_, A, c, rfl, g1, g2, g3, g4⟩ | ⟨h, _⟩
      · exact ⟨A, c, rfl, g1, g2, g3, g4⟩
      · cases h
    · rw [← h1] at h
      rcases h with ⟨_, A, c, rfl, g1, g2, g3, g4⟩ | ⟨h, _⟩
      · exact ⟨A, c, rfl, g1, g2, has_congr (fun k hk => (he k hk).symm) g3, g4⟩
      · cases h

/-- What is written is read back. -/
theorem parseO_back (p : Nat → Pt) (n : Nat) (hv : vC p n = true) (w : World) (hE : EnvO w) : Calls Tryz.prog 6 #[.string (fmtOB p n)] w (ListRet w 0 n p) := by
  obtain ⟨h3, h64, hin, _⟩ := vC_parts hv
  have e : fmtOB p n = ofB p n := by unfold fmtOB fmtO; rw [hv]; rfl
  obtain ⟨hw1, hw2⟩ := words_of p (show 0 < n by omega)
  have hz := ofB_size h64 hin (Nat.le_refl n)
  have ho : ∀ k, k < n → wOk (wLt (ofB p n) k) = true ∧ wPt (wLt (ofB p n) k) = p k := fun k hk => by
    rw [hw2 k hk]
    have := pt_ok (inAll_at' hin hk)
    exact ⟨this.1, this.2.1⟩
  have hb : cdB (wLt (ofB p n)) (cntW (ofB p n)) (ofB p n).data.toList = true := by
    unfold cdB fmtO
    rw [hw1, allTo_iff.2 fun k hk => (ho k hk).1, vC_congr (q := p) fun k hk => (ho k hk).2, ofL_congr (q := p) fun k hk => (ho k hk).2, hv, if_pos rfl]
    exact decide_eq_true rfl
  rw [e]
  refine (parse_any (ofB p n) w (by omega) hE).mono fun e w' h => ?_
  rw [hb, hw1] at h
  rcases h with ⟨_, A, c, rfl, g1, g2, g3, g4⟩ | ⟨h, _⟩
  · exact ⟨A, c, rfl, g1, g2, has_congr (fun k hk => (ho k hk).2) g3, g4⟩
  · cases h

theorem sameB_refl (n : Nat) (p : Nat → Pt) : sameB n n p p = true := by
  unfold sameB
  rw [decide_eq_true rfl, Bool.true_and]
  exact allTo_iff.2 fun k _ => decide_eq_true rfl
theorem Same_list (A B : Option Addr) (n c d : Nat) (p : Nat → Pt) (w : World) (hn : n ≤ c) (hc : c ≤ 9223372036854775807) (hm : n ≤ d) (hd : d ≤ 9223372036854775807) (hp : Has w A n p) (hq : Has w B n p) :
    Calls Tryz.prog 10 #[.slice A n c, .slice B n d] w fun e w' => e = .returned (.bool true) ∧ Below w.heap.size w w' := by
  have := Same_any A B n c n d p p w hn hc hm hd hp hq
  rw [sameB_refl] at this
  exact this
theorem below_new {w : World} (o : Obj) : Below w.heap.size w (w.alloc o) := (Below.refl _ _).alloc (Nat.le_refl _) o

set_option maxHeartbeats 4000000 in
set_option maxRecDepth 100000 in
theorem lawTextsO_long (A : Option Addr) (n c : Nat) (p : Nat → Pt) (hn : n ≤ c) (hc : c ≤ 9223372036854775807) (s : ByteArray) (w : World) (_ : Has w A n p) (hs : shortB n = false) (_ : EnvO w) :
    Calls Tryz.prog 3 #[.slice A n c, .string s] w fun e w' => e = .returned (.bool true) ∧ Below w.heap.size w w' := by
  have HS := Lib.hid hs
  clear hs
  have H0 := Lib.hid (new_at w (.cells #[.slice A n c] 22) _ rfl)
  have HB0 := Lib.hid (below_new (w := w) (.cells #[.slice A n c] 22))
  have H0c := Lib.hid (show (w.alloc (.cells #[.slice A n c] 22)).cell? ⟨w.heap.size, 0, none⟩ = some (.slice A n c) from by simp only [World.cell?, H0.out]; rfl)
  go_enter Tryz.func3, Tryz.ntmps3
  go_wp2_with fail
  refine (Short1 _ A n c _ (by omega) H0c.out _ HS.out).mono ?_
  rintro e w1 ⟨rfl, hb1⟩
  have HB := Lib.hid (bthen HB0.out hb1)
  clear hb1 H0 H0c HB0
  go_wp2_with fail
  refine (awake2_any _).mono ?_
  rintro e w2 ⟨rfl, hb2⟩
  go_wp2
  go_ret
  exact ⟨rfl, bthen HB.out hb2⟩

set_option maxHeartbeats 4000000 in
set_option maxRecDepth 100000 in
theorem lawTextsO_mid (A : Option Addr) (n c : Nat) (p : Nat → Pt) (hn : n ≤ c) (hc : c ≤ 9223372036854775807) (s : ByteArray) (w : World) (_ : Has w A n p) (hs : shortB n = true) (h1 : 1000 < s.size) (h2 : s.size ≤ 65536) (_ : EnvO w) :
    Calls Tryz.prog 3 #[.slice A n c, .string s] w fun e w' => e = .returned (.bool true) ∧ Below w.heap.size w w' := by
  have HS := Lib.hid hs
  have g1 : (1000 : Int) < (s.size : Int) := by omega
  have g2 : (s.size : Int) ≤ 65536 := by omega
  clear hs
  have H0 := Lib.hid (new_at w (.cells #[.slice A n c] 22) _ rfl)
  have HB0 := Lib.hid (below_new (w := w) (.cells #[.slice A n c] 22))
  have H0c := Lib.hid (show (w.alloc (.cells #[.slice A n c] 22)).cell? ⟨w.heap.size, 0, none⟩ = some (.slice A n c) from by simp only [World.cell?, H0.out]; rfl)
  go_enter Tryz.func3, Tryz.ntmps3
  go_wp2_with fail
  refine (Short1 _ A n c _ (by omega) H0c.out _ HS.out).mono ?_
  rintro e w1 ⟨rfl, hb1⟩
  have HB := Lib.hid (bthen HB0.out hb1)
  clear hb1 H0 H0c HB0
  go_wp2_with fail
  refine (awake2_any _).mono ?_
  rintro e w2 ⟨rfl, hb2⟩
  go_wp2
  go_ret
  exact ⟨rfl, bthen HB.out hb2⟩

set_option maxHeartbeats 4000000 in
set_option maxRecDepth 100000 in
theorem lawTextsO_low (A : Option Addr) (n c : Nat) (p : Nat → Pt) (hn : n ≤ c) (hc : c ≤ 9223372036854775807) (s : ByteArray) (w : World) (hp : Has w A n p) (hs : shortB n = true) (h1 : s.size ≤ 1000) (E : Int) (N : Nat) (q : Nat → Pt) (hP : ParsesIs s E N q) (hE : EnvO w) :
    Calls Tryz.prog 3 #[.slice A n c, .string s] w fun e w' => e = .returned (.bool true) ∧ Below w.heap.size w w' := by
  have HS := Lib.hid hs
  have HP := Lib.hid hP
  have HE := Lib.hid hE
  have HL := Lib.hid hp
  have HF := Lib.hid (fun w hp h => formatO_any A n c p w hn hc hp h)
  have HG := Lib.hid (fun w hp h => refFormatO_any A n c p w hn hc hp h)
  have HV := Lib.hid (fun w hp => validR_any A n c p w hn hc hp)
  have HK := Lib.hid (fun (hv : vC p n = true) w h => parseO_back p n hv w h)
  have g1 : ¬ (1000 : Int) < (s.size : Int) := by omega
  clear hs hE hp hP
  generalize fmtOB p n = F at *
  generalize vC p n = V at *
  have H0 := Lib.hid (new_at w (.cells #[.slice A n c] 22) _ rfl)
  have HB0 := Lib.hid (below_new (w := w) (.cells #[.slice A n c] 22))
  have H0c := Lib.hid (show (w.alloc (.cells #[.slice A n c] 22)).cell? ⟨w.heap.size, 0, none⟩ = some (.slice A n c) from by simp only [World.cell?, H0.out]; rfl)
  go_enter Tryz.func3, Tryz.ntmps3
  go_wp2_with fail
  refine (Short1 _ A n c _ (by omega) H0c.out _ HS.out).mono ?_
  rintro e w1 ⟨rfl, hb1⟩
  have HB := Lib.hid (bthen HB0.out hb1)
  clear hb1 H0 H0c HB0
  go_wp2_with fail
  refine (HP.out.1 _ (HE.out.later HB.out)).mono ?_
  rintro e w2 ⟨A2, c2, rfl, a1, a2, a3, hb2⟩
  have HB := Lib.hid (bthen HB.out hb2)
  have HA := Lib.hid a3
  clear hb2 a3
  go_wp2_with fail
  refine (HP.out.2 _ (HE.out.later HB.out)).mono ?_
  rintro e w3 ⟨A3, c3, rfl, b1, b2, b3, hb3⟩
  have HB := Lib.hid (bthen HB.out hb3)
  have HA := Lib.hid (HA.out.later hb3)
  have HD := Lib.hid b3
  clear hb3 b3
  go_wp2_with fail
  refine (HF.out _ (HL.out.later HB.out) (HE.out.later HB.out)).mono ?_
  rintro e w4 ⟨rfl, hb4⟩
  have HB := Lib.hid (bthen HB.out hb4)
  have HA := Lib.hid (HA.out.later hb4)
  have HD := Lib.hid (HD.out.later hb4)
  clear hb4
  go_wp2_with fail
  refine (HG.out _ (HL.out.later HB.out) (HE.out.later HB.out)).mono ?_
  rintro e w5 ⟨rfl, hb5⟩
  have HB := Lib.hid (bthen HB.out hb5)
  have HA := Lib.hid (HA.out.later hb5)
  have HD := Lib.hid (HD.out.later hb5)
  clear hb5
  go_wp2_with fail
  refine (Same_list A2 A3 N c2 c3 q _ a1 a2 b1 b2 HA.out HD.out).mono ?_
  rintro e w6 ⟨rfl, hb6⟩
  have HB := Lib.hid (bthen HB.out hb6)
  clear hb6 HA HD
  go_wp2_with fail
  refine (HV.out _ (HL.out.later HB.out)).mono ?_
  rintro e w7 ⟨rfl, hb7⟩
  have HB := Lib.hid (bthen HB.out hb7)
  clear hb7
  cases V
  · go_wp2_with fail
    refine (awake2_any _).mono ?_
    rintro e w8 ⟨rfl, hb8⟩
    go_wp2
    go_ret
    exact ⟨rfl, bthen HB.out hb8⟩
  · go_wp2_with fail
    refine (HF.out _ (HL.out.later HB.out) (HE.out.later HB.out)).mono ?_
    rintro e w8 ⟨rfl, hb8⟩
    have HB := Lib.hid (bthen HB.out hb8)
    clear hb8
    go_wp2_with fail
    refine (HK.out (by first | rfl | trivial) _ (HE.out.later HB.out)).mono ?_
    rintro e w9 ⟨A9, c9, rfl, d1, d2, d3, hb9⟩
    have HB := Lib.hid (bthen HB.out hb9)
    have HA := Lib.hid d3
    clear hb9 d3
    go_wp2_with fail
    refine (Same_list A9 A n c9 c p _ d1 d2 hn hc HA.out (HL.out.later HB.out)).mono ?_
    rintro e w10 ⟨rfl, hb10⟩
    have HB := Lib.hid (bthen HB.out hb10)
    clear hb10
    go_wp2_with fail
    refine (awake2_any _).mono ?_
    rintro e w11 ⟨rfl, hb11⟩
    go_wp2
    go_ret
    exact ⟨rfl, bthen HB.out hb11⟩

set_option maxHeartbeats 4000000 in
set_option maxRecDepth 100000 in
theorem lawTextsO_high (A : Option Addr) (n c : Nat) (p : Nat → Pt) (hn : n ≤ c) (hc : c ≤ 9223372036854775807) (s : ByteArray) (w : World) (hp : Has w A n p) (hs : shortB n = true) (h1 : 65536 < s.size) (E : Int) (N : Nat) (q : Nat → Pt) (hP : ParsesIs s E N q) (hE : EnvO w) :
    Calls Tryz.prog 3 #[.slice A n c, .string s] w fun e w' => e = .returned (.bool true) ∧ Below w.heap.size w w' := by
  have HS := Lib.hid hs
  have HP := Lib.hid hP
  have HE := Lib.hid hE
  have HL := Lib.hid hp
  have HF := Lib.hid (fun w hp h => formatO_any A n c p w hn hc hp h)
  have HG := Lib.hid (fun w hp h => refFormatO_any A n c p w hn hc hp h)
  have HV := Lib.hid (fun w hp => validR_any A n c p w hn hc hp)
  have HK := Lib.hid (fun (hv : vC p n = true) w h => parseO_back p n hv w h)
  have g1 : (1000 : Int) < (s.size : Int) := by omega
  have g2 : ¬ (s.size : Int) ≤ 65536 := by omega
  clear hs hE hp hP
  generalize fmtOB p n = F at *
  generalize vC p n = V at *
  have H0 := Lib.hid (new_at w (.cells #[.slice A n c] 22) _ rfl)
  have HB0 := Lib.hid (below_new (w := w) (.cells #[.slice A n c] 22))
  have H0c := Lib.hid (show (w.alloc (.cells #[.slice A n c] 22)).cell? ⟨w.heap.size, 0, none⟩ = some (.slice A n c) from by simp only [World.cell?, H0.out]; rfl)
  go_enter Tryz.func3, Tryz.ntmps3
  go_wp2_with fail
  refine (Short1 _ A n c _ (by omega) H0c.out _ HS.out).mono ?_
  rintro e w1 ⟨rfl, hb1⟩
  have HB := Lib.hid (bthen HB0.out hb1)
  clear hb1 H0 H0c HB0
  go_wp2_with fail
  refine (HP.out.1 _ (HE.out.later HB.out)).mono ?_
  rintro e w2 ⟨A2, c2, rfl, a1, a2, a3, hb2⟩
  have HB := Lib.hid (bthen HB.out hb2)
  have HA := Lib.hid a3
  clear hb2 a3
  go_wp2_with fail
  refine (HP.out.2 _ (HE.out.later HB.out)).mono ?_
  rintro e w3 ⟨A3, c3, rfl, b1, b2, b3, hb3⟩
  have HB := Lib.hid (bthen HB.out hb3)
  have HA := Lib.hid (HA.out.later hb3)
  have HD := Lib.hid b3
  clear hb3 b3
  go_wp2_with fail
  refine (HF.out _ (HL.out.later HB.out) (HE.out.later HB.out)).mono ?_
  rintro e w4 ⟨rfl, hb4⟩
  have HB := Lib.hid (bthen HB.out hb4)
  have HA := Lib.hid (HA.out.later hb4)
  have HD := Lib.hid (HD.out.later hb4)
  clear hb4
  go_wp2_with fail
  refine (HG.out _ (HL.out.later HB.out) (HE.out.later HB.out)).mono ?_
  rintro e w5 ⟨rfl, hb5⟩
  have HB := Lib.hid (bthen HB.out hb5)
  have HA := Lib.hid (HA.out.later hb5)
  have HD := Lib.hid (HD.out.later hb5)
  clear hb5
  go_wp2_with fail
  refine (Same_list A2 A3 N c2 c3 q _ a1 a2 b1 b2 HA.out HD.out).mono ?_
  rintro e w6 ⟨rfl, hb6⟩
  have HB := Lib.hid (bthen HB.out hb6)
  clear hb6 HA HD
  go_wp2_with fail
  refine (HV.out _ (HL.out.later HB.out)).mono ?_
  rintro e w7 ⟨rfl, hb7⟩
  have HB := Lib.hid (bthen HB.out hb7)
  clear hb7
  cases V
  · go_wp2_with fail
    refine (awake2_any _).mono ?_
    rintro e w8 ⟨rfl, hb8⟩
    go_wp2
    go_ret
    exact ⟨rfl, bthen HB.out hb8⟩
  · go_wp2_with fail
    refine (HF.out _ (HL.out.later HB.out) (HE.out.later HB.out)).mono ?_
    rintro e w8 ⟨rfl, hb8⟩
    have HB := Lib.hid (bthen HB.out hb8)
    clear hb8
    go_wp2_with fail
    refine (HK.out (by first | rfl | trivial) _ (HE.out.later HB.out)).mono ?_
    rintro e w9 ⟨A9, c9, rfl, d1, d2, d3, hb9⟩
    have HB := Lib.hid (bthen HB.out hb9)
    have HA := Lib.hid d3
    clear hb9 d3
    go_wp2_with fail
    refine (Same_list A9 A n c9 c p _ d1 d2 hn hc HA.out (HL.out.later HB.out)).mono ?_
    rintro e w10 ⟨rfl, hb10⟩
    have HB := Lib.hid (bthen HB.out hb10)
    clear hb10
    go_wp2_with fail
    refine (awake2_any _).mono ?_
    rintro e w11 ⟨rfl, hb11⟩
    go_wp2
    go_ret
    exact ⟨rfl, bthen HB.out hb11⟩

theorem lawTextsO_any (A : Option Addr) (n c : Nat) (p : Nat → Pt) (hn : n ≤ c) (hc : c ≤ 9223372036854775807) (s : ByteArray) (w : World) (hp : Has w A n p) (hE : EnvO w) :
    Calls Tryz.prog 3 #[.slice A n c, .string s] w fun e w' => e = .returned (.bool true) ∧ Below w.heap.size w w' := by
  cases hs : shortB n
  · exact lawTextsO_long A n c p hn hc s w hp hs hE
  · by_cases h1 : s.size ≤ 1000
    · obtain ⟨E, N, q, hP⟩ := parsesO s h1
      exact lawTextsO_low A n c p hn hc s w hp hs h1 E N q hP hE
    · by_cases h2 : s.size ≤ 65536
      · exact lawTextsO_mid A n c p hn hc s w hp hs (by omega) h2 hE
      · exact lawTextsO_high A n c p hn hc s w hp hs (by omega) _ _ _ (parsesO_long s (by omega)) hE
end Go.Proofs.YtboadkmppngeeaaGreatDoor
