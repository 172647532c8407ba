/- Contracts of faults; no statement is proved here. -/
import Derived.Test.YtecgnjeakgefnaaDoorTrim
import Derived.OwnWalk
import Derived.Deep.DeepCutAuto
namespace Go.Proofs.YtecgnjeakgefnaaDoor.Hoofs
open Go.ChangeShapes Go.WideShapes Go.ChangeAt Go.RowKit

/-- The names of the faults. -/
def nm : Nat → ByteArray
  | 0 => { data := #[98, 97, 99, 107] }
  | 1 => { data := #[102, 111, 114, 119, 97, 114, 100] }
  | 2 => { data := #[105, 110, 119, 97, 114, 100] }
  | 3 => { data := #[111, 117, 116, 119, 97, 114, 100] }
  | _ => { data := #[115, 104, 111, 114, 116] }

def bit5 (b0 b1 b2 b3 b4 : Bool) : Nat → Bool
  | 0 => b0 | 1 => b1 | 2 => b2 | 3 => b3 | _ => b4

/-- The names of the first k faults that are found. -/
def fl (bt : Nat → Bool) : Nat → List ByteArray
  | 0 => []
  | k + 1 => if bt k then fl bt k ++ [nm k] else fl bt k

theorem fl_hit {bt : Nat → Bool} {k : Nat} (h : bt k = true) : fl bt (k + 1) = fl bt k ++ [nm k] := by simp [fl, h]
theorem fl_miss {bt : Nat → Bool} {k : Nat} (h : bt k = false) : fl bt (k + 1) = fl bt k := by simp [fl, h]
theorem fl_le (bt : Nat → Bool) : ∀ k, (fl bt k).length ≤ k
  | 0 => by simp [fl]
  | k + 1 => by
    have := fl_le bt k
    cases h : bt k
    · rw [fl_miss h]; omega
    · rw [fl_hit h]; simp; omega

theorem infoStr : (Tryd.prog.info? 9).map (fun i => (i.zero, i.size, i.bytes)) = some (some (.string { data := #[] }), 1, 16) := by kernel_rfl

theorem owns_slice {w : World} {base : Nat} {e : TypeId} {size : Nat} {v : Value} {n : Nat} {xs : List Value} (h : w.ownsRow base e size v n xs) : ∃ p cp, v = .slice p n cp := by
  rcases h.2 with ⟨rfl, rfl⟩ | ⟨g, cap, cur, rfl, _⟩
  · exact ⟨none, 0, rfl⟩
  · exact ⟨_, _, rfl⟩

theorem owns_mono {w : World} {base base' : Nat} {e : TypeId} {size : Nat} {v : Value} {n : Nat} {xs : List Value} (h : w.ownsRow base e size v n xs) (hb : base' ≤ base) : w.ownsRow base' e size v n xs := by
  refine ⟨h.1, ?_⟩
  rcases h.2 with h2 | ⟨g, cap, cur, h3, h4, h5⟩
  · exact .inl h2
  · exact .inr ⟨g, cap, cur, h3, Nat.le_trans hb h4, h5⟩

/-- Rows in memory that stood stay. -/
theorem owns_later {w w' : World} {base : Nat} {e : TypeId} {size : Nat} {v : Value} {n : Nat} {xs : List Value} (h : w.ownsRow base e size v n xs) (hb : Below w.heap.size w w') : w'.ownsRow base e size v n xs := by
  refine ⟨h.1, ?_⟩
  rcases h.2 with h2 | ⟨g, cap, cur, h3, h4, h5, h6⟩
  · exact .inl h2
  · refine .inr ⟨g, cap, cur, h3, h4, ?_, h6⟩
    have hlt : g < w.heap.size := by
      rcases Nat.lt_or_ge g w.heap.size with h' | h'
      · exact h'
      · rw [Array.getElem?_eq_none h'] at h5; cases h5
    rw [hb.block g hlt, h5]

def strs (ss : List ByteArray) : List Value := ss.map Value.string

/-- A list of words in new memory is returned. -/
def RetWords (W : World) (ss : List ByteArray) (e : Ending) (w' : World) : Prop :=
  ∃ p cp, e = .returned (.slice p ss.length cp) ∧ w'.ownsRow W.heap.size 9 1 (.slice p ss.length cp) ss.length (strs ss) ∧ Below W.heap.size W w'

theorem retWords {W w' : World} {v : Value} {ss : List ByteArray} (h : w'.ownsRow W.heap.size 9 1 v ss.length (strs ss)) (hb : Below W.heap.size W w') : RetWords W ss (.returned v) w' := by
  obtain ⟨p, cp, rfl⟩ := owns_slice h
  exact ⟨p, cp, rfl, h, hb⟩

theorem idx5 (b0 b1 b2 b3 b4 : Bool) (k : Nat) (hk : k < 5) : ∀ w, (Instr.index 132 (.agg #[.string { data := #[98, 97, 99, 107] }, .bool b0, .string { data := #[102, 111, 114, 119, 97, 114, 100] }, .bool b1, .string { data := #[105, 110, 119, 97, 114, 100] }, .bool b2, .string { data := #[111, 117, 116, 119, 97, 114, 100] }, .bool b3, .string { data := #[115, 104, 111, 114, 116] }, .bool b4]) (.int .i64 (k : Int))).run Tryd.prog w = .ok (.agg #[.string (nm k), .bool (bit5 b0 b1 b2 b3 b4 k)]) w := by
  intro w
  rcases (show k = 0 ∨ k = 1 ∨ k = 2 ∨ k = 3 ∨ k = 4 by omega) with rfl | rfl | rfl | rfl | rfl <;> kernel_rfl

set_option maxHeartbeats 1000000 in
set_option maxRecDepth 100000 in
theorem faults_bits (a b c d lo hi si le : Int) (b0 b1 b2 b3 b4 : Bool) (w : World) (hv : vH a b c d = true) (hB : vB lo hi si le = true)
    (h0 : decide (1000 * b < lo * a) = b0) (h1 : decide (hi * a < 1000 * b) = b1) (h2 : decide (si < d - c) = b2) (h3 : decide (si < -(d - c)) = b3) (h4 : le4 le le le le a b c d = !b4) :
    Calls Tryd.prog 63 #[.agg #[.int .i64 a, .int .i64 b, .int .i64 c, .int .i64 d], .agg #[.int .i64 lo, .int .i64 hi, .int .i64 si, .int .i64 le]] w (RetWords w (fl (bit5 b0 b1 b2 b3 b4) 5)) := by
  obtain ⟨⟨a1, a2⟩, ⟨b1', b2'⟩, ⟨c1, c2⟩, ⟨d1, d2⟩⟩ := in4_iff.1 hv
  obtain ⟨⟨l1, l2⟩, ⟨u1, u2⟩, ⟨s1, s2⟩, ⟨e1, e2⟩⟩ := vB_iff.1 hB
  obtain ⟨m1, m2⟩ := mul_bd (show 0 ≤ lo by omega) l2 a1 a2
  obtain ⟨m3, m4⟩ := mul_bd (show 0 ≤ hi by omega) u2 a1 a2
  have H4 := Lib.hid h4
  have ix := idx5 b0 b1 b2 b3 b4
  have IX := Lib.hid ix
  clear h4 hv hB ix
  obtain ⟨i0, hi0, hz0, hz1, hz2⟩ := info_parts infoStr
  go_enter Tryd.func63, Tryd.ntmps63
  go_wp2
  refine wp_region_after (by kernel_rfl) (by kernel_rfl) (fun hcell => ?_)
  repeat (go_big_quiet_step (fail))
  refine wpQuiet_nil ?_
  intro w1 hb1
  obtain ⟨hc1, hf1⟩ := bcell hb1
  go_wp2
  refine wp_region_from hb1 (by kernel_rfl) (by kernel_rfl) (fun hcell => ?_)
  repeat (go_big_quiet_step ((first
    | with_reducible exact After.call _ (allOf_any _ _)
    | with_reducible exact After.call _ (within_is _ _ _ _ _ _ _ _ _ _ H4.out))))
  refine wpQuiet_nil ?_
  intro w2 hb2
  have hb2' := bthen (by go_grown : Below w.heap.size w _) hb2
  go_wp2
  go_loopw [9, 55] (fun v i wr => ∃ k : Nat, k ≤ 5 ∧ i = .int .i64 k ∧ wr.ownsRow w.heap.size 9 1 v (fl (bit5 b0 b1 b2 b3 b4) k).length (strs (fl (bit5 b0 b1 b2 b3 b4) k)) ∧ Below w.heap.size w wr) (fun _ i _ => 5 - (intOf i).toNat)
  case atStart => exact ⟨0, by omega, rfl, World.ownsRow_nil _ _ _ _, hb2'⟩
  case round =>
    clear hb2' hb2 hb1 hc1 hf1 h0 h1 h2 h3
    obtain ⟨k, hk, rfl, hown, hbr⟩ := hrel
    by_cases hlt : k < 5
    · have hi := IX.out k hlt
      have hle := fl_le (bit5 b0 b1 b2 b3 b4) k
      cases hbt : bit5 b0 b1 b2 b3 b4 k
      · go_wp2
        go_roundw
        case rel => exact ⟨k + 1, by omega, by go_num, by rw [fl_miss hbt]; exact hown.alloc _, hbr.alloc hbr.size _⟩
        case measure => simp [intOf]; omega
      · go_wp2_with (at_builtin; refine wpList_append_own _ rfl _ _ 82 rfl w.heap.size 9 i0 (.string { data := #[] }) 1 16 Tryd.underlying82 hi0 hz0 hz1 hz2 rfl (by decide) _ _ _ rfl ((hown.alloc _).alloc _) ⟨wr.heap.size + 1, 0, none⟩ 1 1 [.string (nm k)] rfl rfl ?c1 ?c2 ?c3 ?c4 ?c5 ?_)
        case c1 =>
          intro j u hj
          match j, hj with
          | 0, hj => simp at hj; subst hj; simp [Addr.add]
        case c2 => intro u hu; simp at hu; subst hu; rfl
        case c3 => unfold maxLen; omega
        case c4 => omega
        case c5 => have := hbr.size; simp; omega
        intro v' w3 hown' hgrow _
        have hb3 := ((hbr.alloc hbr.size _).alloc (by have := hbr.size; simp; omega) _).grown hgrow (by have := hbr.size; simp; omega) (fun j hj => (hown.lt j hj).1)
        have R := Lib.hid (And.intro hown' hb3)
        clear hown' hgrow hb3
        go_wp2
        go_roundw
        case rel => exact ⟨k + 1, by omega, by go_num, by have := R.out.1; rw [fl_hit hbt]; simpa [strs] using this, R.out.2⟩
        case measure => simp [intOf]; omega
    · obtain rfl : k = 5 := by omega
      go_wp2
      go_ret
      exact retWords hown hbr
end Go.Proofs.YtecgnjeakgefnaaDoor.Hoofs

/- Contracts of Faults and Keeps, the code's and the document's, and of SameWords; no statement is proved here. -/
namespace Go.Proofs.YtecgnjeakgefnaaDoor.Hoofs
open Go.ChangeShapes Go.WideShapes Go.ChangeAt Go.RowKit

/-- The names of what four walls do not keep of bounds. -/
def fX (a b c d lo hi si le : Int) : List ByteArray :=
  fl (bit5 (decide (1000 * b < lo * a)) (decide (hi * a < 1000 * b)) (decide (si < d - c)) (decide (si < -(d - c))) (!(le4 le le le le a b c d))) 5

theorem fX_le (a b c d lo hi si le : Int) : (fX a b c d lo hi si le).length ≤ 5 := fl_le _ 5

theorem faults_is (a b c d lo hi si le : Int) (w : World) (hv : vH a b c d = true) (hB : vB lo hi si le = true) (ss : List ByteArray) (hs : fX a b c d lo hi si le = ss) :
    Calls Tryd.prog 63 #[.agg #[.int .i64 a, .int .i64 b, .int .i64 c, .int .i64 d], .agg #[.int .i64 lo, .int .i64 hi, .int .i64 si, .int .i64 le]] w (RetWords w ss) := by
  subst hs
  exact faults_bits a b c d lo hi si le _ _ _ _ _ w hv hB rfl rfl rfl rfl (by simp)

/-- What Faults gives: an error, and the names. -/
def fsE (a b c d lo hi si le : Int) : Int := if vH a b c d = true ∧ vB lo hi si le = true then 0 else 1
def fsX (a b c d lo hi si le : Int) : List ByteArray := if vH a b c d = true ∧ vB lo hi si le = true then fX a b c d lo hi si le else []

theorem fsX_le (a b c d lo hi si le : Int) : (fsX a b c d lo hi si le).length ≤ 5 := by
  unfold fsX; split
  · exact fX_le _ _ _ _ _ _ _ _
  · simp

/-- A list of words in new memory and an error are returned. -/
def RetFaults (W : World) (ss : List ByteArray) (E : Int) (e : Ending) (w' : World) : Prop :=
  ∃ p cp, e = .returned (.tuple #[.slice p ss.length cp, .int .i64 E]) ∧ w'.ownsRow W.heap.size 9 1 (.slice p ss.length cp) ss.length (strs ss) ∧ Below W.heap.size W w'

set_option maxHeartbeats 1000000 in
set_option maxRecDepth 100000 in
theorem Faults_bad1 (a b c d lo hi si le : Int) (w : World) (h1 : vH a b c d = false) :
    Calls Tryd.prog 41 #[.agg #[.int .i64 a, .int .i64 b, .int .i64 c, .int .i64 d], .agg #[.int .i64 lo, .int .i64 hi, .int .i64 si, .int .i64 le]] w (RetFaults w [] 1) := by
  have H1 := Lib.hid h1
  clear h1
  go_enter Tryd.func41, Tryd.ntmps41
  go_wp2_with fail
  refine (validHoof_is _ _ _ _ _ false H1.out).mono ?_
  rintro e w1 ⟨rfl, hb1⟩
  obtain ⟨hc1, hf1⟩ := bcell hb1
  have hz1 : w.heap.size + 2 ≤ w1.heap.size := by have := hb1.size; simp at this; omega
  have dd1_0 : w.heap.size < w1.heap.size := by omega
  have dd1_1 : w.heap.size + 1 < w1.heap.size := by omega
  clear hz1
  go_wp2
  go_ret2
  exact ⟨none, 0, rfl, World.ownsRow_nil _ _ _ _, bthen (by go_grown) hb1⟩

set_option maxHeartbeats 1000000 in
set_option maxRecDepth 100000 in
theorem Faults_bad2 (a b c d lo hi si le : Int) (w : World) (h1 : vH a b c d = true) (h2 : vB lo hi si le = false) :
    Calls Tryd.prog 41 #[.agg #[.int .i64 a, .int .i64 b, .int .i64 c, .int .i64 d], .agg #[.int .i64 lo, .int .i64 hi, .int .i64 si, .int .i64 le]] w (RetFaults w [] 1) := by
  have H1 := Lib.hid h1
  have H2 := Lib.hid h2
  clear h1 h2
  go_enter Tryd.func41, Tryd.ntmps41
  go_wp2_with fail
  refine (validHoof_is _ _ _ _ _ true H1.out).mono ?_
  rintro e w1 ⟨rfl, hb1⟩
  obtain ⟨hc1, hf1⟩ := bcell hb1
  have hz1 : w.heap.size + 2 ≤ w1.heap.size := by have := hb1.size; simp at this; omega
  have dd1_0 : w.heap.size < w1.heap.size := by omega
  have dd1_1 : w.heap.size + 1 < w1.heap.size := by omega
  clear hz1
  go_wp2_with fail
  refine (validBounds_is _ _ _ _ _ false H2.out).mono ?_
  rintro e w2 ⟨rfl, hb2⟩
  replace hb2 := bthen hb1 hb2
  clear hb1 hc1 hf1 dd1_0 dd1_1
  obtain ⟨hc2, hf2⟩ := bcell hb2
  have hz2 : w.heap.size + 2 ≤ w2.heap.size := by have := hb2.size; simp at this; omega
  have dd2_0 : w.heap.size < w2.heap.size := by omega
  have dd2_1 : w.heap.size + 1 < w2.heap.size := by omega
  clear hz2
  go_wp2
  go_ret2
  exact ⟨none, 0, rfl, World.ownsRow_nil _ _ _ _, bthen (by go_grown) hb2⟩

set_option maxHeartbeats 1000000 in
set_option maxRecDepth 100000 in
theorem Faults_ok (a b c d lo hi si le : Int) (w : World) (h1 : vH a b c d = true) (h2 : vB lo hi si le = true) (ss : List ByteArray) (hs : fX a b c d lo hi si le = ss) :
    Calls Tryd.prog 41 #[.agg #[.int .i64 a, .int .i64 b, .int .i64 c, .int .i64 d], .agg #[.int .i64 lo, .int .i64 hi, .int .i64 si, .int .i64 le]] w (RetFaults w ss 0) := by
  have H1 := Lib.hid h1
  have H2 := Lib.hid h2
  have HS := Lib.hid hs
  clear h1 h2 hs
  go_enter Tryd.func41, Tryd.ntmps41
  go_wp2_with fail
  refine (validHoof_is _ _ _ _ _ true H1.out).mono ?_
  rintro e w1 ⟨rfl, hb1⟩
  obtain ⟨hc1, hf1⟩ := bcell hb1
  have hz1 : w.heap.size + 2 ≤ w1.heap.size := by have := hb1.size; simp at this; omega
  have dd1_0 : w.heap.size < w1.heap.size := by omega
  have dd1_1 : w.heap.size + 1 < w1.heap.size := by omega
  clear hz1
  go_wp2_with fail
  refine (validBounds_is _ _ _ _ _ true H2.out).mono ?_
  rintro e w2 ⟨rfl, hb2⟩
  replace hb2 := bthen hb1 hb2
  clear hb1 hc1 hf1 dd1_0 dd1_1
  obtain ⟨hc2, hf2⟩ := bcell hb2
  have hz2 : w.heap.size + 2 ≤ w2.heap.size := by have := hb2.size; simp at this; omega
  have dd2_0 : w.heap.size < w2.heap.size := by omega
  have dd2_1 : w.heap.size + 1 < w2.heap.size := by omega
  clear hz2
  go_wp2
  refine wp_region_from_tail 3 hb2 (by kernel_rfl) (by kernel_rfl) (fun hcell => ?_)
  simp only [List.take_succ_cons, List.take_zero, List.drop_succ_cons, List.drop_zero]
  repeat (go_big_quiet_step ((first
    | with_reducible exact After.call _ (wallsOf_any _ _ _ _ _))))
  refine wpQuiet_nil ?_
  intro w3 hb3
  clear hc2 hf2
  obtain ⟨hc3, hf3⟩ := bcell hb3
  go_wp2_with fail
  refine (faults_is _ _ _ _ _ _ _ _ _ H1.out H2.out _ HS.out).mono ?_
  rintro e w4 ⟨p, cp, rfl, hown, hb4⟩
  have hz := bthen hb3 hb4
  have hz3 := hb3.size
  go_wp2
  go_ret2
  exact ⟨p, cp, rfl, owns_mono hown (by simp at hz3; omega), bthen (by go_grown) hz⟩

theorem Faults_is (a b c d lo hi si le : Int) (w : World) (ss : List ByteArray) (E : Int) (hs : fsX a b c d lo hi si le = ss) (hE : fsE a b c d lo hi si le = E) :
    Calls Tryd.prog 41 #[.agg #[.int .i64 a, .int .i64 b, .int .i64 c, .int .i64 d], .agg #[.int .i64 lo, .int .i64 hi, .int .i64 si, .int .i64 le]] w (RetFaults w ss E) := by
  subst hs; subst hE
  unfold fsX fsE
  cases h1 : vH a b c d
  · simpa using Faults_bad1 a b c d lo hi si le w h1
  cases h2 : vB lo hi si le
  · simpa using Faults_bad2 a b c d lo hi si le w h1 h2
  · simpa using Faults_ok a b c d lo hi si le w h1 h2 _ rfl

/-- What Keeps gives. -/
def kB (a b c d lo hi si le : Int) : Bool := vH a b c d && vB lo hi si le && (fX a b c d lo hi si le).isEmpty

set_option maxHeartbeats 1000000 in
set_option maxRecDepth 100000 in
theorem keeps_bad (a b c d lo hi si le : Int) (w : World) (hs : fsX a b c d lo hi si le = []) (he : fsE a b c d lo hi si le = 1) :
    Calls Tryd.prog 15 #[.agg #[.int .i64 a, .int .i64 b, .int .i64 c, .int .i64 d], .agg #[.int .i64 lo, .int .i64 hi, .int .i64 si, .int .i64 le]] w fun e w' => e = .returned (.tuple #[.bool false, .int .i64 1]) ∧ Below w.heap.size w w' := by
  have HS := Lib.hid hs
  have HE := Lib.hid he
  clear hs he
  go_enter Tryd.func15, Tryd.ntmps15
  go_wp2_with fail
  refine (Faults_is _ _ _ _ _ _ _ _ _ _ _ HS.out HE.out).mono ?_
  rintro e w1 ⟨p, cp, rfl, _, hb1⟩
  go_wp2
  go_ret2
  exact ⟨rfl, bthen (by go_grown) hb1⟩

set_option maxHeartbeats 1000000 in
set_option maxRecDepth 100000 in
theorem keeps_none (a b c d lo hi si le : Int) (w : World) (hs : fsX a b c d lo hi si le = []) (he : fsE a b c d lo hi si le = 0) :
    Calls Tryd.prog 15 #[.agg #[.int .i64 a, .int .i64 b, .int .i64 c, .int .i64 d], .agg #[.int .i64 lo, .int .i64 hi, .int .i64 si, .int .i64 le]] w fun e w' => e = .returned (.tuple #[.bool true, .int .i64 0]) ∧ Below w.heap.size w w' := by
  have HS := Lib.hid hs
  have HE := Lib.hid he
  clear hs he
  go_enter Tryd.func15, Tryd.ntmps15
  go_wp2_with fail
  refine (Faults_is _ _ _ _ _ _ _ _ _ _ _ HS.out HE.out).mono ?_
  rintro e w1 ⟨p, cp, rfl, _, hb1⟩
  go_wp2
  go_ret2
  exact ⟨rfl, bthen (by go_grown) hb1⟩

set_option maxHeartbeats 1000000 in
set_option maxRecDepth 100000 in
theorem keeps_some (a b c d lo hi si le : Int) (w : World) (x : ByteArray) (ss : List ByteArray) (hs : fsX a b c d lo hi si le = x :: ss) (he : fsE a b c d lo hi si le = 0) :
    Calls Tryd.prog 15 #[.agg #[.int .i64 a, .int .i64 b, .int .i64 c, .int .i64 d], .agg #[.int .i64 lo, .int .i64 hi, .int .i64 si, .int .i64 le]] w fun e w' => e = .returned (.tuple #[.bool false, .int .i64 0]) ∧ Below w.heap.size w w' := by
  have hl : ss.length ≤ 4 := by
    have := fsX_le a b c d lo hi si le
    rw [hs] at this
    simpa using this
  have hne : ((ss.length : Int) + 1 == 0) = false := by simp; omega
  have hne' : ¬ ((ss.length : Int) + 1 = 0) := by omega
  have HS := Lib.hid hs
  have HE := Lib.hid he
  clear hs he
  go_enter Tryd.func15, Tryd.ntmps15
  go_wp2_with fail
  refine (Faults_is _ _ _ _ _ _ _ _ _ _ _ HS.out HE.out).mono ?_
  rintro e w1 ⟨p, cp, rfl, _, hb1⟩
  go_wp2
  go_ret2
  exact ⟨rfl, bthen (by go_grown) hb1⟩

theorem keeps_is (a b c d lo hi si le : Int) (w : World) (r : Bool) (E : Int) (hr : kB a b c d lo hi si le = r) (hE : fsE a b c d lo hi si le = E) :
    Calls Tryd.prog 15 #[.agg #[.int .i64 a, .int .i64 b, .int .i64 c, .int .i64 d], .agg #[.int .i64 lo, .int .i64 hi, .int .i64 si, .int .i64 le]] w fun e w' => e = .returned (.tuple #[.bool r, .int .i64 E]) ∧ Below w.heap.size w w' := by
  subst hr; subst hE
  by_cases h : vH a b c d = true ∧ vB lo hi si le = true
  · have e0 : fsE a b c d lo hi si le = 0 := by simp [fsE, h]
    have e1 : fsX a b c d lo hi si le = fX a b c d lo hi si le := by simp [fsX, h]
    rw [e0]
    cases hx : fX a b c d lo hi si le with
    | nil =>
      rw [show kB a b c d lo hi si le = true by simp [kB, h, hx]]
      exact keeps_none a b c d lo hi si le w (e1.trans hx) e0
    | cons x ss =>
      rw [show kB a b c d lo hi si le = false by simp [kB, hx]]
      exact keeps_some a b c d lo hi si le w x ss (e1.trans hx) e0
  · have e0 : fsE a b c d lo hi si le = 1 := by simp only [fsE, if_neg h]
    have e1 : fsX a b c d lo hi si le = [] := by simp only [fsX, if_neg h]
    rw [e0, show kB a b c d lo hi si le = false by
      cases hk : kB a b c d lo hi si le
      · rfl
      · simp only [kB, Bool.and_eq_true] at hk; exact absurd hk.1 h]
    exact keeps_bad a b c d lo hi si le w e1 e0

end Go.Proofs.YtecgnjeakgefnaaDoor.Hoofs
