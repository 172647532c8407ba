/- OEnv: What the functions on an outline's text ask of the world, and the contracts of the library's functions there; no statement is proved here. -/
import Derived.Test.YtmnaginofingoaaGreatDoorOText2
import Derived.Test.YtmnaginofingoaaGreatDoorShelf
import Derived.Lib.LaidTab
import Derived.Lib.SmallJoins
import Derived.Lib.IndexBytes
namespace Go.Proofs.YtmnaginofingoaaGreatDoor.Outl
open Go.ChangeShapes Go.WideShapes Go.ChangeAt Go.RowKit

theorem below_grow (w : World) (q : Nat) (os : Array Obj) : Below w.heap.size w (Go.Sort.grow (w.drewN q) os) :=
  ⟨rfl, rfl, rfl, by simp [Go.Sort.grow], fun k hk => by
    show (w.heap ++ os)[k]? = w.heap[k]?
    rw [Array.getElem?_append_left hk]⟩

theorem var_later {P : Program} {w w' : World} {n : String} {cs : Array Value} (h : w.var? P n = some cs) (hb : Below w.heap.size w w') : w'.var? P n = some cs := by
  unfold World.var? at h ⊢
  cases hg : P.globalNamed n with
  | none => rw [hg] at h; cases h
  | some g =>
    rw [hg] at h
    simp only [Option.bind_some] at h ⊢
    have hlt : g < w.heap.size := by
      rcases Nat.lt_or_ge g w.heap.size with h' | h'
      · exact h'
      · rw [Array.getElem?_eq_none h'] at h; cases h
    rw [hb.block g hlt]
    exact h

/-- What the functions on texts ask of the world. -/
structure EnvO (w : World) : Prop where
  pow : Lib.TabIs Tryz.prog w "internal/strconv.uint64pow10" .u64 Lib.pow10Tab
  syn : ∃ tp p, w.var? Tryz.prog "strconv.ErrSyntax" = some #[.iface tp p]
  ran : ∃ tp p, w.var? Tryz.prog "strconv.ErrRange" = some #[.iface tp p]
  max : ∃ m, w.cell? ⟨0, 0, none⟩ = some (.int .i64 m)
  low : 0 < w.heap.size

theorem EnvO.later {w w' : World} (h : EnvO w) (hb : Below w.heap.size w w') : EnvO w' :=
  ⟨var_later h.pow hb, h.syn.imp fun _ h => h.imp fun _ h => var_later h hb, h.ran.imp fun _ h => h.imp fun _ h => var_later h hb,
    h.max.imp fun _ e => (hb.cell (p := ⟨0, 0, none⟩) h.low).trans e, Nat.lt_of_lt_of_le h.low hb.size⟩

theorem itoas : Itoas EnvO :=
  ⟨fun _ _ h hb => h.later hb, fun n w h0 h1 hE => (Tryz.strconv_Itoa n (by omega) (by omega) w hE.pow).mono fun _ _ ⟨he, _, _, hw⟩ => ⟨he, by rw [hw]; exact below_grow _ _ _⟩⟩
theorem joined : Joined :=
  ⟨fun bk o c xs sep w hcells hbk hN hcap hlen => Tryz.strings_Join bk o c xs sep w hcells hbk hN hcap hlen⟩

theorem below_drewN (w : World) (q : Nat) : Below w.heap.size w (w.drewN q) := ⟨rfl, rfl, rfl, Nat.le_refl _, fun _ _ => rfl⟩

theorem str_eq {a b : ByteArray} (h : a = b) : (a.toList == b.toList) = true := by subst h; simp
theorem str_ne {a b : ByteArray} (h : a ≠ b) : (a.toList == b.toList) = false := by
  rw [ByteArray.toList_eq, ByteArray.toList_eq]
  exact beq_eq_false_iff_ne.2 (fun e => h (ByteArray.ext (Array.toList_inj.1 e)))

/-! A word that is cut at its comma. -/
theorem cut_any (x : ByteArray) (w : World) (hx : x.size ≤ 1000) (hE : EnvO w) (h : 0 ≤ cutI x.data.toList) :
    Calls Tryz.prog 41 #[.string x, .string ⟨#[44]⟩] w fun e w' => e = .returned (.tuple #[.string ⟨(wdA x.data.toList).toArray⟩, .string ⟨(wdB x.data.toList).toArray⟩, .bool true]) ∧ Below w.heap.size w w' := by
  obtain ⟨m, hm⟩ := hE.max
  have e : Lib.cut x.data.toList [44] = (wdA x.data.toList, wdB x.data.toList, true) := by
    unfold Lib.cut wdA wdB
    have h' : 0 ≤ Lib.index x.data.toList [44] := h
    rw [if_pos h']
    rfl
  refine (Tryz.strings_Cut x ⟨#[44]⟩ m w (by omega) hm).mono ?_
  rintro e' w' ⟨rfl, q, rfl⟩
  rw [show (ByteArray.mk #[44]).data.toList = [44] from rfl, e]
  exact ⟨rfl, below_drewN _ _⟩
theorem cut_none (x : ByteArray) (w : World) (hx : x.size ≤ 1000) (hE : EnvO w) (h : ¬ 0 ≤ cutI x.data.toList) :
    Calls Tryz.prog 41 #[.string x, .string ⟨#[44]⟩] w fun e w' => e = .returned (.tuple #[.string x, .string ⟨#[]⟩, .bool false]) ∧ Below w.heap.size w w' := by
  obtain ⟨m, hm⟩ := hE.max
  have e : Lib.cut x.data.toList [44] = (x.data.toList, [], false) := by
    unfold Lib.cut
    have h' : ¬ 0 ≤ Lib.index x.data.toList [44] := h
    rw [if_neg h']
  refine (Tryz.strings_Cut x ⟨#[44]⟩ m w (by omega) hm).mono ?_
  rintro e' w' ⟨rfl, q, rfl⟩
  rw [show (ByteArray.mk #[44]).data.toList = [44] from rfl, e]
  exact ⟨rfl, below_drewN _ _⟩

theorem index_lt (c : UInt8) : ∀ s : List UInt8, Lib.index s [c] < (s.length : Int)
  | [] => by simp [Lib.index]
  | b :: l => by
    have := index_lt c l
    unfold Lib.index
    simp only [List.length_cons]
    split
    · omega
    · split <;> omega
theorem cutI_lt (x : List UInt8) : cutI x < (x.length : Int) := index_lt 44 x
theorem wdA_len (x : List UInt8) : (wdA x).length ≤ x.length := by unfold wdA; simp; omega
theorem wdB_len (x : List UInt8) : (wdB x).length ≤ x.length := by unfold wdB; simp

/-! Numbers. -/
theorem atoi_ok (x : ByteArray) (w : World) (hx : x.size ≤ 1000) (h1 : atOk x.data.toList = true) :
    Calls Tryz.prog 42 #[.string x] w fun e w' => e = .returned (.tuple #[.int .i64 (atV x.data.toList), .nilIface]) ∧ Below w.heap.size w w' := by
  rcases h : Lib.atoiAll x.data.toList with v | _ | _
  · refine (Tryz.strconv_Atoi_ok x (by omega) v h w).mono ?_
    rintro e w' ⟨rfl, hw⟩
    refine ⟨by simp [atV, h], ?_⟩
    rcases hw with rfl | ⟨t, rfl⟩
    · exact Below.refl _ _
    · exact Joins.below_bytesWorld _ _ _ _ (Nat.le_refl _)
  · simp [atOk, h] at h1
  · simp [atOk, h] at h1
theorem atoi_bad (x : ByteArray) (w : World) (hx : x.size ≤ 1000) (h1 : atOk x.data.toList = false) (hE : EnvO w) :
    Calls Tryz.prog 42 #[.string x] w fun e w' => ∃ tp p, e = .returned (.tuple #[.int .i64 (atV x.data.toList), .iface tp p]) ∧ Below w.heap.size w w' := by
  obtain ⟨tp, p, hv⟩ := hE.syn
  obtain ⟨tq, q, hr⟩ := hE.ran
  rcases h : Lib.atoiAll x.data.toList with v | _ | _
  · simp [atOk, h] at h1
  · refine (Tryz.strconv_Atoi_syntax_var x (by omega) h tp p w hv).mono ?_
    rintro e w' ⟨N, rfl, _, _, hb⟩
    exact ⟨_, _, by simp [atV, h]; exact ⟨rfl, rfl⟩, hb⟩
  · refine (Tryz.strconv_Atoi_range_var x (by omega) h tq q w hr).mono ?_
    rintro e w' ⟨N, rfl, _, _, hb⟩
    exact ⟨_, _, by simp [atV, h]; exact ⟨rfl, rfl⟩, hb⟩
theorem atoi_any (x : ByteArray) (w : World) (hx : x.size ≤ 1000) (hE : EnvO w) :
    Calls Tryz.prog 42 #[.string x] w fun e w' => ∃ er, e = .returned (.tuple #[.int .i64 (atV x.data.toList), er]) ∧ Below w.heap.size w w' := by
  cases h : atOk x.data.toList
  · exact (atoi_bad x w hx h hE).mono fun _ _ ⟨_, _, he, hb⟩ => ⟨_, he, hb⟩
  · exact (atoi_ok x w hx h).mono fun _ _ ⟨he, hb⟩ => ⟨_, he, hb⟩

/-! A text's words. -/
def cntW (s : ByteArray) : Nat := Lib.countB s ⟨#[32]⟩ + 1
def wdsW (s : ByteArray) : List ByteArray := Lib.splitB ⟨#[32]⟩ 0 (Lib.countB s ⟨#[32]⟩) s
def wAt (s : ByteArray) (k : Nat) : ByteArray := ((wdsW s)[k]?).getD ⟨#[]⟩
def wLt (s : ByteArray) (k : Nat) : List UInt8 := (wAt s k).data.toList
theorem wds_len (s : ByteArray) : (wdsW s).length = cntW s := Lib.splitB_all ⟨#[32]⟩ (by decide) 0 _ s rfl

theorem piece_le (sep : List UInt8) : ∀ (k : Nat) (s : List UInt8) (x : List UInt8), x ∈ Lib.splitK sep 0 k s → x.length ≤ s.length
  | 0, s, x, h => by simp [Lib.splitK] at h; simp [h]
  | k + 1, s, x, h => by
    unfold Lib.splitK at h
    split at h
    · simp at h; simp [h]
    · rcases List.mem_cons.1 h with h | h
      · subst h; simp; omega
      · have := piece_le sep k _ x h
        simp at this; omega
theorem wAt_le (s : ByteArray) (k : Nat) : (wAt s k).size ≤ s.size := by
  unfold wAt
  cases h : (wdsW s)[k]? with
  | none => exact Nat.zero_le _
  | some x =>
    have hm : x ∈ wdsW s := List.mem_of_getElem? h
    have h1 : x.data.toList ∈ (wdsW s).map (·.data.toList) := List.mem_map.2 ⟨x, hm, rfl⟩
    unfold wdsW at h1
    rw [Lib.splitB_data] at h1
    exact piece_le _ _ _ _ h1

theorem split_any (s : ByteArray) (w : World) (hs : s.size ≤ 1000) (hE : EnvO w) :
    Calls Tryz.prog 15 #[.string s, .string ⟨#[32]⟩] w fun e w' => e = .returned (.slice (some ⟨w.heap.size, 0, none⟩) (cntW s) (cntW s)) ∧ Below w.heap.size w w' ∧ w.heap.size < w'.heap.size ∧ ∀ k, k < cntW s → w'.cell? ⟨w.heap.size, 0 + k, none⟩ = some (.string (wAt s k)) := by
  obtain ⟨m, hm⟩ := hE.max
  refine (Tryz.strings_Split s ⟨#[32]⟩ m w (by omega) hm (by decide)).mono ?_
  rintro e w' ⟨rfl, rfl⟩
  refine ⟨rfl, by go_grown, by simp, fun k hk => ?_⟩
  have hl := wds_len s
  have hx : (wdsW s)[k]? = some (wAt s k) := by
    unfold wAt
    rw [List.getElem?_eq_getElem (by omega)]; rfl
  have hh := new_at w (.cells ((wdsW s).map Value.string).toArray 9) _ rfl
  show (World.alloc w (.cells ((wdsW s).map Value.string).toArray 9)).cell? _ = _
  simp only [World.cell?, hh]
  simp [hx]
theorem cntW_le (s : ByteArray) : cntW s ≤ s.size + 1 := by
  have : ∀ (c : UInt8) (f : Nat) (l : List UInt8), Lib.countFrom [c] f l ≤ l.length := by
    intro c f
    induction f with
    | zero => intro l; simp [Lib.countFrom]
    | succ f ih =>
      intro l
      unfold Lib.countFrom
      split
      · omega
      · rename_i h
        have h1 := ih (l.drop ((Lib.index l [c]).toNat + 1))
        have h2 := index_lt c l
        have h3 := Lib.index_ge l [c]
        simp at h h1
        have h1 : Lib.countFrom [c] f (l.drop ((Lib.index l [c]).toNat + [c].length)) ≤ l.length - ((Lib.index l [c]).toNat + 1) := h1
        omega
  have h := this 32 (s.data.toList.length + 1) s.data.toList
  unfold cntW
  have e : s.data.toList.length = s.size := rfl
  have : Lib.countB s ⟨#[32]⟩ ≤ s.data.toList.length := h
  omega
end Go.Proofs.YtmnaginofingoaaGreatDoor.Outl

/- OText3: The contracts of the readers of a corner and of a number; no statement is proved here. -/
namespace Go.Proofs.YtmnaginofingoaaGreatDoor.Outl
open Go.ChangeShapes Go.WideShapes Go.ChangeAt Go.RowKit

def bA (x : ByteArray) : ByteArray := ⟨(wdA x.data.toList).toArray⟩
def bB (x : ByteArray) : ByteArray := ⟨(wdB x.data.toList).toArray⟩
theorem bA_le (x : ByteArray) : (bA x).size ≤ x.size := wdA_len x.data.toList
theorem bB_le (x : ByteArray) : (bB x).size ≤ x.size := wdB_len x.data.toList
theorem bA_data (x : ByteArray) : (bA x).data.toList = wdA x.data.toList := rfl
theorem bB_data (x : ByteArray) : (bB x).data.toList = wdB x.data.toList := rfl

set_option maxHeartbeats 2000000 in
set_option maxRecDepth 100000 in
theorem parsePoint_no (x : ByteArray) (w : World) (hx : x.size ≤ 1000) (hE : EnvO w) (h : ¬ 0 ≤ cutI x.data.toList) :
    Calls Tryz.prog 16 #[.string x] w fun e w' => e = .returned (.tuple #[.agg #[.int .i64 0, .int .i64 0], .bool false]) ∧ Below w.heap.size w w' := by
  have HX := Lib.hid hx
  have HC := Lib.hid h
  have HE := Lib.hid hE
  clear hx h hE
  have Z0 := Lib.hid (new_at w (.cells #[.int .i64 0, .int .i64 0] 51) _ rfl)
  go_enter Tryz.func16, Tryz.ntmps16
  go_wp2_with (go_at_call 41; refine (cut_none x _ HX.out (HE.out.later (by go_grown)) HC.out).mono ?_; rintro e w1 ⟨rfl, hb1⟩; have q1 := (hb1.block _ (lt_of_heap Z0.out)).trans Z0.out; obtain ⟨d0, d1, f0, f1⟩ := cell2_of q1; have l0 := lt_of_heap q1; have Q1 := Lib.hid q1; have HZ := Lib.hid (bthen (by go_grown : Below w.heap.size w _) hb1); clear q1 hb1)
  refine bodyPost_ret (v := .tuple #[.agg #[.int .i64 0, .int .i64 0], .bool false]) (by
    have h8 := heap_setCell_at (heap_setCell_at Q1.out 0 (.int .i64 0)) 1 (.int .i64 0)
    obtain ⟨e0, e1, _, _⟩ := cell2_of (v0 := .int .i64 0) (v1 := .int .i64 0) h8
    simp [results, Tryz.results16, go_sem, e0, e1]) rfl ⟨rfl, ?_⟩
  exact (HZ.out.setCell (p := ⟨w.heap.size, 0, none⟩) (Nat.le_refl _) _).setCell (p := ⟨w.heap.size, 1, none⟩) (Nat.le_refl _) _

set_option maxHeartbeats 4000000 in
set_option maxRecDepth 100000 in
theorem parsePoint_cut (x xa xb : ByteArray) (va vb : Int) (ra rb : Bool) (w : World) (hx : x.size ≤ 1000) (hE : EnvO w)
    (hcut : ∀ w, EnvO w → Calls Tryz.prog 41 #[.string x, .string ⟨#[44]⟩] w fun e w' => e = .returned (.tuple #[.string xa, .string xb, .bool true]) ∧ Below w.heap.size w w')
    (hA : ∀ w, EnvO w → Calls Tryz.prog 42 #[.string xa] w fun e w' => ∃ er, (ra = true → er = .nilIface) ∧ (ra = false → ∃ tp p, er = .iface tp p) ∧ e = .returned (.tuple #[.int .i64 va, er]) ∧ Below w.heap.size w w')
    (hB : ∀ w, EnvO w → Calls Tryz.prog 42 #[.string xb] w fun e w' => ∃ er, (rb = true → er = .nilIface) ∧ (rb = false → ∃ tp p, er = .iface tp p) ∧ e = .returned (.tuple #[.int .i64 vb, er]) ∧ Below w.heap.size w w') :
    Calls Tryz.prog 16 #[.string x] w fun e w' => e = .returned (.tuple #[.agg #[.int .i64 (if ra && rb then va else 0), .int .i64 (if ra && rb then vb else 0)], .bool (ra && rb)]) ∧ Below w.heap.size w w' := by
  have HCUT := Lib.hid hcut
  have HA := Lib.hid hA
  have HB := Lib.hid hB
  have HE := Lib.hid hE
  clear hx hcut hA hB hE
  have Z0 := Lib.hid (new_at w (.cells #[.int .i64 0, .int .i64 0] 51) _ rfl)
  go_enter Tryz.func16, Tryz.ntmps16
  go_wp2_with fail
  refine (HCUT.out _ (HE.out.later (by go_grown))).mono ?_
  rintro e w1 ⟨rfl, hb1⟩
  have hz1 := bthen (by go_grown : Below w.heap.size w _) hb1
  go_wp2_with fail
  refine (HA.out _ (HE.out.later hz1)).mono ?_
  rintro e w2 ⟨ea, ha1, ha2, rfl, hb2⟩
  have hz2 := bthen hz1 hb2
  have hb12 := bthen hb1 hb2
  go_wp2_with fail
  refine (HB.out _ (HE.out.later hz2)).mono ?_
  rintro e w3 ⟨eb, hb1', hb2', rfl, hb3⟩
  have hz3 := bthen hz2 hb3
  have hb13 := bthen hb12 hb3
  have q1 := (hb13.block _ (lt_of_heap Z0.out)).trans Z0.out
  obtain ⟨d0, d1, f0, f1⟩ := cell2_of q1
  have Q1 := Lib.hid q1
  have HZ := Lib.hid hz3
  clear q1 hz1 hz2 hz3 hb12 hb13 hb1 hb2 hb3
  have hlt := lt_of_heap Q1.out
  cases ra
  · obtain ⟨tp, p, rfl⟩ := ha2 rfl
    go_wp2
    refine bodyPost_ret (v := .tuple #[.agg #[.int .i64 0, .int .i64 0], .bool false]) (by
      have h8 := heap_setCell_at (heap_setCell_at Q1.out 0 (.int .i64 0)) 1 (.int .i64 0)
      obtain ⟨e0, e1, _, _⟩ := cell2_of (v0 := .int .i64 0) (v1 := .int .i64 0) h8
      simp [results, Tryz.results16, go_sem, e0, e1]) rfl ⟨rfl, ?_⟩
    exact (HZ.out.setCell (p := ⟨w.heap.size, 0, none⟩) (Nat.le_refl _) _).setCell (p := ⟨w.heap.size, 1, none⟩) (Nat.le_refl _) _
  · obtain rfl := ha1 rfl
    cases rb
    · obtain ⟨tp, p, rfl⟩ := hb2' rfl
      go_wp2
      refine bodyPost_ret (v := .tuple #[.agg #[.int .i64 0, .int .i64 0], .bool false]) (by
        have h8 := heap_setCell_at (heap_setCell_at Q1.out 0 (.int .i64 0)) 1 (.int .i64 0)
        obtain ⟨e0, e1, _, _⟩ := cell2_of (v0 := .int .i64 0) (v1 := .int .i64 0) h8
        simp [results, Tryz.results16, go_sem, e0, e1]) rfl ⟨rfl, ?_⟩
      exact (HZ.out.setCell (p := ⟨w.heap.size, 0, none⟩) (Nat.le_refl _) _).setCell (p := ⟨w.heap.size, 1, none⟩) (Nat.le_refl _) _
    · obtain rfl := hb1' rfl
      go_wp2
      refine bodyPost_ret (v := .tuple #[.agg #[.int .i64 va, .int .i64 vb], .bool true]) (by
        have h8 := heap_setCell_at (heap_setCell_at Q1.out 0 (.int .i64 va)) 1 (.int .i64 vb)
        obtain ⟨e0, e1, _, _⟩ := cell2_of (v0 := .int .i64 va) (v1 := .int .i64 vb) h8
        simp [results, Tryz.results16, go_sem, e0, e1]) rfl ⟨rfl, ?_⟩
      exact (HZ.out.setCell (p := ⟨w.heap.size, 0, none⟩) (Nat.le_refl _) _).setCell (p := ⟨w.heap.size, 1, none⟩) (Nat.le_refl _) _

theorem atoi_both (x : ByteArray) (w : World) (hx : x.size ≤ 1000) (hE : EnvO w) :
    Calls Tryz.prog 42 #[.string x] w fun e w' => ∃ er, (atOk x.data.toList = true → er = .nilIface) ∧ (atOk x.data.toList = false → ∃ tp p, er = .iface tp p) ∧ e = .returned (.tuple #[.int .i64 (atV x.data.toList), er]) ∧ Below w.heap.size w w' := by
  cases h : atOk x.data.toList
  · exact (atoi_bad x w hx h hE).mono fun _ _ ⟨tp, p, he, hb⟩ => ⟨_, fun h => (by cases h), fun _ => ⟨tp, p, rfl⟩, he, hb⟩
  · exact (atoi_ok x w hx h).mono fun _ _ ⟨he, hb⟩ => ⟨_, fun _ => rfl, fun h => (by cases h), he, hb⟩

/-- **The reader of a corner.** -/
theorem parsePoint_any (x : ByteArray) (w : World) (hx : x.size ≤ 1000) (hE : EnvO w) :
    Calls Tryz.prog 16 #[.string x] w fun e w' => e = .returned (.tuple #[.agg #[.int .i64 (if wOk x.data.toList then (wPt x.data.toList).1 else 0), .int .i64 (if wOk x.data.toList then (wPt x.data.toList).2 else 0)], .bool (wOk x.data.toList)]) ∧ Below w.heap.size w w' := by
  by_cases h : 0 ≤ cutI x.data.toList
  · have e : wOk x.data.toList = (atOk (wdA x.data.toList) && atOk (wdB x.data.toList)) := by unfold wOk; rw [decide_eq_true h]; rfl
    rw [e]
    exact parsePoint_cut x (bA x) (bB x) _ _ _ _ w hx hE (fun w hE => cut_any x w hx hE h) (fun w hE => atoi_both (bA x) w (Nat.le_trans (bA_le x) hx) hE) (fun w hE => atoi_both (bB x) w (Nat.le_trans (bB_le x) hx) hE)
  · have e : wOk x.data.toList = false := by unfold wOk; rw [decide_eq_false h]; rfl
    rw [e]
    exact parsePoint_no x w hx hE h

end Go.Proofs.YtmnaginofingoaaGreatDoor.Outl

/- OText4: The contract of the code's Parse of an outline; no statement is proved here. -/
namespace Go.Proofs.YtmnaginofingoaaGreatDoor.Outl
open Go.ChangeShapes Go.WideShapes Go.ChangeAt Go.RowKit

/-- What is written, in bytes. -/
def fmtOB (p : Nat → Pt) (n : Nat) : ByteArray := ⟨(fmtO p n).toArray⟩

theorem formatO_any (A : Option Addr) (n c : Nat) (p : Nat → Pt) (w : World) (hn : n ≤ c) (hc : c ≤ 9223372036854775807) (hp : Has w A n p) (hE : EnvO w) :
    Calls Tryz.prog 7 #[.slice A n c] w fun e w' => e = .returned (.string (fmtOB p n)) ∧ Below w.heap.size w w' := by
  cases hv : vC p n
  · have e : fmtOB p n = ⟨#[]⟩ := by unfold fmtOB fmtO; rw [hv]; rfl
    rw [e]
    exact formatO_bad A n c p w hn hc hp hv
  · have e : fmtOB p n = ofB p n := by unfold fmtOB fmtO; rw [hv]; rfl
    obtain ⟨h3, _⟩ := vC_parts hv
    obtain ⟨b, off, rfl, hP⟩ := hp (by omega)
    rw [e]
    exact formatO_ok itoas joined b off n c p w hn hc hP hv (by omega) hE
/-- What a reader gives: the list, or nothing. -/
def ParseRet (W : World) (r : Bool) (n : Nat) (q : Nat → Pt) (e : Ending) (w' : World) : Prop :=
  (r = true ∧ ∃ A c, e = .returned (.tuple #[.slice A n c, .int .i64 0]) ∧ n ≤ c ∧ c ≤ 9223372036854775807 ∧ Has w' A n q ∧ Below W.heap.size W w') ∨
  (r = false ∧ e = .returned (.tuple #[.slice none 0 0, .int .i64 2]) ∧ Below W.heap.size W w')

set_option maxHeartbeats 8000000 in
set_option maxRecDepth 100000 in
/-- **Parse.** -/
theorem parse_any (s : ByteArray) (w : World) (hs : s.size ≤ 1000) (hE : EnvO w) :
    Calls Tryz.prog 6 #[.string s] w (ParseRet w (cdB (wLt s) (cntW s) s.data.toList) (cntW s) (fun k => wPt (wLt s k))) := by
  have HE := Lib.hid hE
  have HS := Lib.hid hs
  have HSP := Lib.hid (fun w h => split_any s w hs h)
  have HPP := Lib.hid (fun k w h => parsePoint_any (wAt s k) w (Nat.le_trans (wAt_le s k) hs) h)
  have hnn := Nat.le_trans (cntW_le s) (Nat.succ_le_succ hs)
  have hn0 : 0 < cntW s := Nat.succ_pos _
  obtain ⟨q, hq⟩ : ∃ q : Nat → Pt, q = fun k => wPt (wLt s k) := ⟨_, rfl⟩
  have HFL := Lib.hid (fun k => show flatP q (k + 1) = flatP q k ++ [.int .i64 (wPt (wLt s k)).1, .int .i64 (wPt (wLt s k)).2] from by subst hq; rfl)
  have HBAD := Lib.hid (fun k (hk : k < cntW s) (h : wOk (wLt s k) = false) => show cdB (wLt s) (cntW s) s.data.toList = false from by unfold cdB; rw [allTo_false hk h]; rfl)
  have HEND := Lib.hid (fun (h : ∀ j, j < cntW s → wOk (wLt s j) = true) => show cdB (wLt s) (cntW s) s.data.toList = decide (fmtOB q (cntW s) = s) from by
    unfold cdB
    rw [allTo_iff.2 h, Bool.true_and, hq]
    rw [decide_eq_decide]
    constructor
    · intro e; apply ByteArray.ext; apply Array.toList_inj.1; exact e
    · intro e; exact congrArg (fun b => b.data.toList) e)
  rw [← hq]
  have hl1 : ¬ (65536 : Int) < (s.size : Int) := by omega
  clear hq hE hs
  generalize cdB (wLt s) (cntW s) s.data.toList = r at *
  obtain ⟨n, hn⟩ : ∃ n, cntW s = n := ⟨_, rfl⟩
  rw [hn] at HSP hnn hn0 HBAD HEND ⊢
  obtain ⟨i0, hi0, hz0, hz1, hz2⟩ := info_parts infoPt
  clear hn
  go_enter Tryz.func6, Tryz.ntmps6
  go_wp2_with (go_at_call 15; refine (HSP.out _ HE.out).mono ?_; rintro e w1 ⟨rfl, hb1, hlt1, hcw⟩)
  have HB1 := Lib.hid hb1
  have HC1 := Lib.hid hcw
  have HE1 := Lib.hid (HE.out.later hb1)
  clear hb1 hcw
  go_loopw [4, 6, 7, 8, 15] (fun v _ _ _ i wr => ∃ k : Nat, k ≤ n ∧ i = .int .i64 (k : Int) ∧ wr.ownsRow w1.heap.size 51 2 v k (flatP q k) ∧ Below w1.heap.size w1 wr ∧ ∀ j, j < k → wOk (wLt s j) = true) (fun _ _ _ _ i _ => n - (intOf i).toNat)
  case atStart => exact ⟨0, Nat.zero_le _, rfl, World.ownsRow_nil _ _ _ _, Below.refl _ _, fun j hj => absurd hj (by omega)⟩
  case round =>
    obtain ⟨k, hk, rfl, hown, hbr, hall⟩ := hrel
    have HB := Lib.hid hbr
    have HA := Lib.hid hall
    clear hall
    by_cases hlt : k < n
    · have hw0 := (hbr.cell (p := ⟨w.heap.size, 0 + k, none⟩) hlt1).trans (HC1.out k hlt)
      rw [Nat.zero_add] at hw0
      have lw : w.heap.size < wr.heap.size := Nat.lt_of_lt_of_le hlt1 hbr.size
      have hpp := HPP.out k
      have hfl := HFL.out k
      have hbad := HBAD.out k hlt
      have hstep := fun (h : wOk (wLt s k) = true) j (hj : j < k + 1) => (if e : j = k then (by subst e; exact h) else HA.out j (by omega) : wOk (wLt s j) = true)
      rw [show (wAt s k).data.toList = wLt s k from rfl] at hpp
      have HST := Lib.hid hstep
      have HBD := Lib.hid hbad
      have HF := Lib.hid hfl
      clear hstep hbad hfl
      generalize wAt s k = x at *
      generalize wPt (wLt s k) = P at *
      obtain ⟨X, Y⟩ := P
      dsimp only at hpp HF
      cases hok : wOk (wLt s k)
      · rw [hok] at hpp HBD
        simp only [Bool.false_eq_true, if_false] at hpp
        have HPK := Lib.hid hpp
        clear hpp hok
        go_wp2_with (go_at_call 16; refine (HPK.out _ (HE1.out.later HB.out)).mono ?_; rintro e w5 ⟨rfl, hb5⟩)
        go_ret2
        refine .inr ⟨HBD.out (by first | rfl | trivial), rfl, ?_⟩
        exact (bthen (bthen HB1.out HB.out) hb5).alloc (by have := HB1.out.size; have := HB.out.size; have := hb5.size; omega) _
      · rw [hok] at hpp HST
        simp only [if_true] at hpp
        have HPK := Lib.hid hpp
        clear hpp hok
        go_wp2_with (first
          | (go_at_call 16; refine (HPK.out _ (HE1.out.later HB.out)).mono ?_; rintro e w5 ⟨rfl, hb5⟩)
          | (at_builtin; go_loud (refine wpList_append_own _ rfl _ _ 22 rfl w1.heap.size 51 i0 (.agg #[.int .i64 0, .int .i64 0]) 2 16 Tryz.underlying22 hi0 hz0 hz1 hz2 rfl (by decide) _ _ _ rfl (((owns_later hown hb5).alloc _).alloc _) ⟨w5.heap.size + 1, 0, none⟩ 1 1 [.int .i64 X, .int .i64 Y] rfl rfl ?c1 ?c2 ?c3 ?c4 ?c5 ?_)))
        case c1 =>
          intro j u hj
          match j, hj with
          | 0, hj => simp at hj; subst hj; simp [Addr.add]
          | 1, hj => simp at hj; subst hj; simp [Addr.add]
        case c2 => intro u hu; simp at hu; rcases hu with rfl | rfl <;> rfl
        case c3 => unfold maxLen; omega
        case c4 => omega
        case c5 => have := HB.out.size; have := hb5.size; simp; omega
        intro v' w6 hown' hgrow _
        have hs := HB.out.size
        have hs5 := hb5.size
        have hb6 := (((bthen HB.out hb5).alloc (by omega) _).alloc (by simp; omega) _).grown hgrow (by simp; omega) (fun j hj => (hown.lt j hj).1)
        have R := Lib.hid (And.intro hown' hb6)
        clear hown' hgrow hb6
        go_wp2
        go_roundw
        case rel => exact ⟨k + 1, by omega, by go_num, by rw [HF.out]; exact R.out.1, R.out.2, HST.out (by first | rfl | trivial)⟩
        case measure => simp [intOf]; omega
    · obtain rfl : k = n := by omega
      obtain ⟨A, c, rfl, hkc, hcm, hhas⟩ := owns_has hown
      have hend := HEND.out HA.out
      have HFO := Lib.hid (formatO_any A k c q wr hkc hcm hhas (HE1.out.later hbr))
      have HZ := Lib.hid (bthen HB1.out hbr)
      have HH := Lib.hid hhas
      clear hhas hown hbr
      generalize fmtOB q k = F at *
      by_cases hF : F = s
      · have hst := str_eq hF
        rw [decide_eq_true hF] at hend
        clear hF
        go_wp2_with (go_at_call 7; refine HFO.out.mono ?_; rintro e w7 ⟨rfl, hb7⟩)
        go_ret2
        exact .inl ⟨hend, A, c, rfl, hkc, hcm, HH.out.later hb7, bthen HZ.out hb7⟩
      · have hst := str_ne hF
        rw [decide_eq_false hF] at hend
        clear hF
        go_wp2_with (go_at_call 7; refine HFO.out.mono ?_; rintro e w7 ⟨rfl, hb7⟩)
        go_ret2
        exact .inr ⟨hend, rfl, bthen HZ.out hb7⟩
end Go.Proofs.YtmnaginofingoaaGreatDoor.Outl

/- OText5: The contract of the document's Parse of an outline; no statement is proved here. -/
namespace Go.Proofs.YtmnaginofingoaaGreatDoor.Outl
open Go.ChangeShapes Go.WideShapes Go.ChangeAt Go.RowKit

theorem bA_ext (x : ByteArray) : bA x = x.extract 0 (cutI x.data.toList).toNat := by
  apply ByteArray.ext
  apply Array.toList_inj.1
  show wdA x.data.toList = _
  simp [wdA, ByteArray.data_extract]
theorem bB_ext (x : ByteArray) : bB x = x.extract ((cutI x.data.toList).toNat + 1) x.size := by
  apply ByteArray.ext
  apply Array.toList_inj.1
  show wdB x.data.toList = _
  have e : x.size = x.data.toList.length := rfl
  simp [wdB, ByteArray.data_extract, List.extract]
  rw [List.take_of_length_le (by rw [List.length_drop, e]; exact Nat.le_refl _)]

theorem After.callO {P : Program} {f : FuncId} {args : Array Value} {v : Value} {W : World} (x : After W) (hE : EnvO W)
    (h : EnvO x.val → Calls P f args x.val fun e w' => e = .returned v ∧ Below x.val.heap.size x.val w') : Calls P f args x.val fun e w'' => e = .returned v ∧ ∃ y : After W, w'' = y.val :=
  After.call x (h (hE.later x.property))

end Go.Proofs.YtmnaginofingoaaGreatDoor.Outl
