/- What the functions on an outline's text ask of the world, and the contracts of the library's functions there; no statement is proved here. -/
import Derived.Test.YtboadkmppngeeaaGreatDoorOText2
import Derived.Test.YtboadkmppngeeaaGreatDoorShelf
import Derived.Lib.LaidTab
import Derived.Lib.SmallJoins
import Derived.Lib.IndexBytes
namespace Go.Proofs.YtboadkmppngeeaaGreatDoor
open Go.ChangeShapes Go.WideShapes Go.ChangeAt Go.RowKit

theorem below_grow (w : World) (q : Nat) (os : Array Obj) : Below w.heap.size w (Go.Sort.grow (w.drewN q) os) :=
  ⟨rfl, rfl, rfl, by simp [Go.Sort.grow], fun k hk => by
    show (w.heap ++ os)[k]? = w.heap[k]?
    rw [Array.getElem?_append_left hk]⟩

theorem var_later {P : Program} {w w' : World} {n : String} {cs : Array Value} (h : w.var? P n = some cs) (hb : Below w.heap.size w w') : w'.var? P n = some cs := by
  unfold World.var? at h ⊢
  cases hg : P.globalNamed n with
  | none => rw [hg] at h; cases h
  | some g =>
    rw [hg] at h
    simp only [Option.bind_some] at h ⊢
    have hlt : g < w.heap.size := by
      rcases Nat.lt_or_ge g w.heap.size with h' | h'
      · exact h'
      · rw [Array.getElem?_eq_none h'] at h; cases h
    rw [hb.block g hlt]
    exact h

/-- What the functions on texts ask of the world. -/
structure EnvO (w : World) : Prop where
  pow : Lib.TabIs Tryz.prog w "internal/strconv.uint64pow10" .u64 Lib.pow10Tab
  syn : ∃ tp p, w.var? Tryz.prog "strconv.ErrSyntax" = some #[.iface tp p]
  ran : ∃ tp p, w.var? Tryz.prog "strconv.ErrRange" = some #[.iface tp p]
  max : ∃ m, w.cell? ⟨0, 0, none⟩ = some (.int .i64 m)
  low : 0 < w.heap.size

theorem EnvO.later {w w' : World} (h : EnvO w) (hb : Below w.heap.size w w') : EnvO w' :=
  ⟨var_later h.pow hb, h.syn.imp fun _ h => h.imp fun _ h => var_later h hb, h.ran.imp fun _ h => h.imp fun _ h => var_later h hb,
    h.max.imp fun _ e => (hb.cell (p := ⟨0, 0, none⟩) h.low).trans e, Nat.lt_of_lt_of_le h.low hb.size⟩

theorem itoas : Itoas EnvO :=
  ⟨fun _ _ h hb => h.later hb, fun n w h0 h1 hE => (Tryz.strconv_Itoa n (by omega) (by omega) w hE.pow).mono fun _ _ ⟨he, _, _, hw⟩ => ⟨he, by rw [hw]; exact below_grow _ _ _⟩⟩
theorem joined : Joined :=
  ⟨fun bk o c xs sep w hcells hbk hN hcap hlen => Tryz.strings_Join bk o c xs sep w hcells hbk hN hcap hlen⟩

theorem below_drewN (w : World) (q : Nat) : Below w.heap.size w (w.drewN q) := ⟨rfl, rfl, rfl, Nat.le_refl _, fun _ _ => rfl⟩

theorem str_eq {a b : ByteArray} (h : a = b) : (a.toList == b.toList) = true := by subst h; simp
theorem str_ne {a b : ByteArray} (h : a ≠ b) : (a.toList == b.toList) = false := by
  rw [ByteArray.toList_eq, ByteArray.toList_eq]
  exact beq_eq_false_iff_ne.2 (fun e => h (ByteArray.ext (Array.toList_inj.1 e)))

/-! A word that is cut at its comma. -/
theorem cut_any (x : ByteArray) (w : World) (hx : x.size ≤ 1000) (hE : EnvO w) (h : 0 ≤ cutI x.data.toList) :
    Calls Tryz.prog 34 #[.string x, .string ⟨#[44]⟩] w fun e w' => e = .returned (.tuple #[.string ⟨(wdA x.data.toList).toArray⟩, .string ⟨(wdB x.data.toList).toArray⟩, .bool true]) ∧ Below w.heap.size w w' := by
  obtain ⟨m, hm⟩ := hE.max
  have e : Lib.cut x.data.toList [44] = (wdA x.data.toList, wdB x.data.toList, true) := by
    unfold Lib.cut wdA wdB
    have h' : 0 ≤ Lib.index x.data.toList [44] := h
    rw [if_pos h']
    rfl
  refine (Tryz.strings_Cut x ⟨#[44]⟩ m w (by omega) hm).mono ?_
  rintro e' w' ⟨rfl, q, rfl⟩
  rw [show (ByteArray.mk #[44]).data.toList = [44] from rfl, e]
  exact ⟨rfl, below_drewN _ _⟩
theorem cut_none (x : ByteArray) (w : World) (hx : x.size ≤ 1000) (hE : EnvO w) (h : ¬ 0 ≤ cutI x.data.toList) :
    Calls Tryz.prog 34 #[.string x, .string ⟨#[44]⟩] w fun e w' => e = .returned (.tuple #[.string x, .string ⟨#[]⟩, .bool false]) ∧ Below w.heap.size w w' := by
  obtain ⟨m, hm⟩ := hE.max
  have e : Lib.cut x.data.toList [44] = (x.data.toList, [], false) := by
    unfold Lib.cut
    have h' : ¬ 0 ≤ Lib.index x.data.toList [44] := h
    rw [if_neg h']
  refine (Tryz.strings_Cut x ⟨#[44]⟩ m w (by omega) hm).mono ?_
  rintro e' w' ⟨rfl, q, rfl⟩
  rw [show (ByteArray.mk #[44]).data.toList = [44] from rfl, e]
  exact ⟨rfl, below_drewN _ _⟩

theorem comma_at (x : ByteArray) (w : World) :
    Calls Tryz.prog 18 #[.string x, .int .u8 44] w fun e w' => e = .returned (.int .i64 (cutI x.data.toList)) ∧ Below w.heap.size w w' :=
  (Tryz.strings_IndexByte x 44 w).mono fun _ _ ⟨he, hw⟩ => ⟨by rw [he]; unfold cutI; rw [Lib.index_one]; rfl, by rw [hw]; exact Below.refl _ _⟩

theorem index_lt (c : UInt8) : ∀ s : List UInt8, Lib.index s [c] < (s.length : Int)
  | [] => by simp [Lib.index]
  | b :: l => by
    have := index_lt c l
    unfold Lib.index
    simp only [List.length_cons]
    split
    · omega
    · split <;> omega
theorem cutI_lt (x : List UInt8) : cutI x < (x.length : Int) := index_lt 44 x
theorem wdA_len (x : List UInt8) : (wdA x).length ≤ x.length := by unfold wdA; simp; omega
theorem wdB_len (x : List UInt8) : (wdB x).length ≤ x.length := by unfold wdB; simp

/-! Numbers. -/
theorem atoi_ok (x : ByteArray) (w : World) (hx : x.size ≤ 1000) (h1 : atOk x.data.toList = true) :
    Calls Tryz.prog 35 #[.string x] w fun e w' => e = .returned (.tuple #[.int .i64 (atV x.data.toList), .nilIface]) ∧ Below w.heap.size w w' := by
  rcases h : Lib.atoiAll x.data.toList with v | _ | _
  · refine (Tryz.strconv_Atoi_ok x (by omega) v h w).mono ?_
    rintro e w' ⟨rfl, hw⟩
    refine ⟨by simp [atV, h], ?_⟩
    rcases hw with rfl | ⟨t, rfl⟩
    · exact Below.refl _ _
    · exact Joins.below_bytesWorld _ _ _ _ (Nat.le_refl _)
  · simp [atOk, h] at h1
  · simp [atOk, h] at h1
theorem atoi_bad (x : ByteArray) (w : World) (hx : x.size ≤ 1000) (h1 : atOk x.data.toList = false) (hE : EnvO w) :
    Calls Tryz.prog 35 #[.string x] w fun e w' => ∃ tp p, e = .returned (.tuple #[.int .i64 (atV x.data.toList), .iface tp p]) ∧ Below w.heap.size w w' := by
  obtain ⟨tp, p, hv⟩ := hE.syn
  obtain ⟨tq, q, hr⟩ := hE.ran
  rcases h : Lib.atoiAll x.data.toList with v | _ | _
  · simp [atOk, h] at h1
  · refine (Tryz.strconv_Atoi_syntax_var x (by omega) h tp p w hv).mono ?_
    rintro e w' ⟨N, rfl, _, _, hb⟩
    exact ⟨_, _, by simp [atV, h]; exact ⟨rfl, rfl⟩, hb⟩
  · refine (Tryz.strconv_Atoi_range_var x (by omega) h tq q w hr).mono ?_
    rintro e w' ⟨N, rfl, _, _, hb⟩
    exact ⟨_, _, by simp [atV, h]; exact ⟨rfl, rfl⟩, hb⟩
theorem atoi_any (x : ByteArray) (w : World) (hx : x.size ≤ 1000) (hE : EnvO w) :
    Calls Tryz.prog 35 #[.string x] w fun e w' => ∃ er, e = .returned (.tuple #[.int .i64 (atV x.data.toList), er]) ∧ Below w.heap.size w w' := by
  cases h : atOk x.data.toList
  · exact (atoi_bad x w hx h hE).mono fun _ _ ⟨_, _, he, hb⟩ => ⟨_, he, hb⟩
  · exact (atoi_ok x w hx h).mono fun _ _ ⟨he, hb⟩ => ⟨_, he, hb⟩

/-! A text's words. -/
def cntW (s : ByteArray) : Nat := Lib.countB s ⟨#[32]⟩ + 1
def wdsW (s : ByteArray) : List ByteArray := Lib.splitB ⟨#[32]⟩ 0 (Lib.countB s ⟨#[32]⟩) s
def wAt (s : ByteArray) (k : Nat) : ByteArray := ((wdsW s)[k]?).getD ⟨#[]⟩
def wLt (s : ByteArray) (k : Nat) : List UInt8 := (wAt s k).data.toList
theorem wds_len (s : ByteArray) : (wdsW s).length = cntW s := Lib.splitB_all ⟨#[32]⟩ (by decide) 0 _ s rfl

theorem piece_le (sep : List UInt8) : ∀ (k : Nat) (s : List UInt8) (x : List UInt8), x ∈ Lib.splitK sep 0 k s → x.length ≤ s.length
  | 0, s, x, h => by simp [Lib.splitK] at h; simp [h]
  | k + 1, s, x, h => by
    unfold Lib.splitK at h
    split at h
    · simp at h; simp [h]
    · rcases List.mem_cons.1 h with h | h
      · subst h; simp; omega
      · have := piece_le sep k _ x h
        simp at this; omega
theorem wAt_le (s : ByteArray) (k : Nat) : (wAt s k).size ≤ s.size := by
  unfold wAt
  cases h : (wdsW s)[k]? with
  | none => exact Nat.zero_le _
  | some x =>
    have hm : x ∈ wdsW s := List.mem_of_getElem? h
    have h1 : x.data.toList ∈ (wdsW s).map (·.data.toList) := List.mem_map.2 ⟨x, hm, rfl⟩
    unfold wdsW at h1
    rw [Lib.splitB_data] at h1
    exact piece_le _ _ _ _ h1

theorem split_any (s : ByteArray) (w : World) (hs : s.size ≤ 1000) (hE : EnvO w) :
    Calls Tryz.prog 16 #[.string s, .string ⟨#[32]⟩] w fun e w' => e = .returned (.slice (some ⟨w.heap.size, 0, none⟩) (cntW s) (cntW s)) ∧ Below w.heap.size w w' ∧ w.heap.size < w'.heap.size ∧ ∀ k, k < cntW s → w'.cell? ⟨w.heap.size, 0 + k, none⟩ = some (.string (wAt s k)) := by
  obtain ⟨m, hm⟩ := hE.max
  refine (Tryz.strings_Split s ⟨#[32]⟩ m w (by omega) hm (by decide)).mono ?_
  rintro e w' ⟨rfl, rfl⟩
  refine ⟨rfl, by go_grown, by simp, fun k hk => ?_⟩
  have hl := wds_len s
  have hx : (wdsW s)[k]? = some (wAt s k) := by
    unfold wAt
    rw [List.getElem?_eq_getElem (by omega)]; rfl
  have hh := new_at w (.cells ((wdsW s).map Value.string).toArray 9) _ rfl
  show (World.alloc w (.cells ((wdsW s).map Value.string).toArray 9)).cell? _ = _
  simp only [World.cell?, hh]
  simp [hx]
theorem cntW_le (s : ByteArray) : cntW s ≤ s.size + 1 := by
  have : ∀ (c : UInt8) (f : Nat) (l : List UInt8), Lib.countFrom [c] f l ≤ l.length := by
    intro c f
    induction f with
    | zero => intro l; simp [Lib.countFrom]
    | succ f ih =>
      intro l
      unfold Lib.countFrom
      split
      · omega
      · rename_i h
        have h1 := ih (l.drop ((Lib.index l [c]).toNat + 1))
        have h2 := index_lt c l
        have h3 := Lib.index_ge l [c]
        simp at h h1
        have h1 : Lib.countFrom [c] f (l.drop ((Lib.index l [c]).toNat + [c].length)) ≤ l.length - ((Lib.index l [c]).toNat + 1) := h1
        omega
  have h := this 32 (s.data.toList.length + 1) s.data.toList
  unfold cntW
  have e : s.data.toList.length = s.size := rfl
  have : Lib.countB s ⟨#[32]⟩ ≤ s.data.toList.length := h
  omega
end Go.Proofs.YtboadkmppngeeaaGreatDoor
