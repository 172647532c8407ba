/- Names of orders, and the jobs that they forbid (the code's side), by contract; no statement is proved here. -/
import Derived.Test.YtcifmmdfjglbnaaDoorCaThose
namespace Go.Proofs.YtcifmmdfjglbnaaDoor
open Go.ChangeShapes Go.WideShapes Go.ChangeAt Go.RowKit

theorem infoStr6 : (Tryd.prog.info? 9).map (fun i => (i.zero, i.size, i.bytes)) = some (some (.string ⟨#[]⟩), 1, 16) := by kernel_rfl
def stL (q : Nat → ByteArray) : Nat → List Value
  | 0 => []
  | k + 1 => stL q k ++ [.string (q k)]
theorem stL_len (q : Nat → ByteArray) : ∀ n, (stL q n).length = n
  | 0 => rfl
  | n + 1 => by simp [stL, stL_len q n]
theorem stL_get (q : Nat → ByteArray) : ∀ n k, k < n → (stL q n)[k]? = some (.string (q k))
  | 0, k, h => by omega
  | n + 1, k, h => by
    show (stL q n ++ [.string (q n)])[k]? = _
    by_cases e : k = n
    · subst e
      rw [List.getElem?_append_right (by rw [stL_len]; omega), stL_len]
      simp
    · rw [List.getElem?_append_left (by rw [stL_len]; omega)]
      exact stL_get q n k (by omega)
/-- A slice of texts. -/
def SHas (w : World) (A : Option Addr) (n : Nat) (q : Nat → ByteArray) : Prop := 0 < n → ∃ b off, A = some ⟨b, off, none⟩ ∧ b < w.heap.size ∧ ∀ k, k < n → w.cell? ⟨b, off + k, none⟩ = some (.string (q k))
theorem SHas.later {w W : World} {A : Option Addr} {n : Nat} {q : Nat → ByteArray} (h : SHas w A n q) (hb : Below w.heap.size w W) : SHas W A n q := fun hn => by
  obtain ⟨b, off, e, hl, hk⟩ := h hn
  exact ⟨b, off, e, Nat.lt_of_lt_of_le hl hb.size, fun k hlt => (hb.cell (p := ⟨b, off + k, none⟩) hl).trans (hk k hlt)⟩
theorem SHas.less {w : World} {A : Option Addr} {n m : Nat} {q : Nat → ByteArray} (h : SHas w A n q) (hm : m ≤ n) : SHas w A m q := fun h0 => by
  obtain ⟨b, off, e, hl, hk⟩ := h (by omega)
  exact ⟨b, off, e, hl, fun k hlt => hk k (by omega)⟩
theorem SHas.congr {w : World} {A : Option Addr} {n : Nat} {q r : Nat → ByteArray} (h : SHas w A n q) (he : ∀ k, k < n → q k = r k) : SHas w A n r := fun hn => by
  obtain ⟨b, off, e, hl, hk⟩ := h hn
  exact ⟨b, off, e, hl, fun k hlt => by rw [← he k hlt]; exact hk k hlt⟩
theorem owns_strs {w : World} {base : Nat} {v : Value} {n : Nat} {q : Nat → ByteArray} (h : w.ownsRow base 9 1 v n (stL q n)) :
    ∃ A c, v = .slice A n c ∧ n ≤ c ∧ c ≤ 9223372036854775807 ∧ (∀ g o s, A = some ⟨g, o, s⟩ → base ≤ g) ∧ SHas w A n q := by
  rcases h.2 with ⟨rfl, rfl⟩ | ⟨g, cap, cur, rfl, hg, h5, h6, h7, h8, h9⟩
  · exact ⟨none, 0, rfl, Nat.le_refl _, by omega, (fun _ _ _ h => by cases h), fun h => absurd h (by omega)⟩
  · refine ⟨_, cap, rfl, h6, by unfold maxLen at h7; omega, (fun _ _ _ h => by cases h; exact hg), fun _ => ⟨g, 0, rfl, lt_of_heap h5, fun k hk => ?_⟩⟩
    have h1 := stL_get q n k hk
    rw [← h9, List.getElem?_take, if_pos (by omega)] at h1
    have h2 : cur[k]? = some (.string (q k)) := by simpa using h1
    simp [World.cell?, h5, h2]
/-- One text more at the end of a list of one's own: what append does. -/
theorem pushS6 {base : Nat} {W : World} {v : Value} {k : Nat} {q : Nat → ByteArray} (ty : TypeId) (hown : W.ownsRow base 9 1 v k (stL q k)) (hk : k ≤ 100000) (x : ByteArray) (hx : q k = x) (hbase : base ≤ W.heap.size) (g : Nat)
    (hc : W.heap[g]? = some (.cells #[.string x] 9)) :
    ∃ v' w', (Builtin.append_ #[30, 30] ty #[v, .slice (some ⟨g, 0, none⟩) 1 1]).run Tryd.prog W = .ok v' w' ∧ w'.ownsRow base 9 1 v' (k + 1) (stL q (k + 1)) ∧ W.grownBy w' v.ownBlock := by
  obtain ⟨i0, hi0, hz0, hz1, hz2⟩ := info_parts infoStr6
  obtain ⟨v', w', r1, r2, r3, r4, r5⟩ := run_append_own_at (P := Tryd.prog) (w := W) base 30 ty 9 i0 (.string ⟨#[]⟩) 1 16 Tryd.underlying30 hi0 hz0 hz1 hz2 rfl (by decide) v k (stL q k) hown ⟨g, 0, none⟩ 1 1 [.string x] rfl (fun j u hj => by
    have e : (⟨g, 0, none⟩ : Addr).add j = ⟨g, j, none⟩ := by unfold Addr.add; split <;> simp_all
    rw [e]
    simp only [World.cell?, hc]
    simpa using hj) (by intro u hu; simp at hu; subst hu; rfl) (by unfold maxLen; omega) (by omega) hbase
  refine ⟨v', w', r1, ?_, r3⟩
  have e : stL q (k + 1) = stL q k ++ [.string x] := by rw [← hx]; rfl
  rw [e]; exact r2
def RetSt (W : World) (m : Nat) (q : Nat → ByteArray) (e : Ending) (w' : World) : Prop :=
  ∃ A c, e = .returned (.slice A m c) ∧ m ≤ c ∧ c ≤ 9223372036854775807 ∧ SHas w' A m q ∧ Below W.heap.size W w'
def RetStE (W : World) (m : Nat) (q : Nat → ByteArray) (E : Int) (e : Ending) (w' : World) : Prop :=
  ∃ A c, e = .returned (.tuple #[.slice A m c, .int .i64 E]) ∧ m ≤ c ∧ c ≤ 9223372036854775807 ∧ SHas w' A m q ∧ Below W.heap.size W w'

set_option maxHeartbeats 8000000 in
set_option maxRecDepth 100000 in
theorem names_any (A : Option Addr) (n c : Nat) (p : Nat → Ru) (w : World) (hn : n ≤ c) (_hc : c ≤ 9223372036854775807) (hn2 : n ≤ 1000) (hp : RHas w A n p) :
    Calls Tryd.prog 65 #[.slice A n c] w (RetSt w n (fun k => (p k).nm)) := by
  have HP := Lib.hid hp
  clear hp
  go_enter Tryd.func65, Tryd.ntmps65
  go_wp2
  go_loopw [3, 5, 8] (fun v _ i wr => ∃ k : Nat, k ≤ n ∧ i = .int .i64 (k : Int) ∧ wr.ownsRow w.heap.size 9 1 v k (stL (fun k => (p k).nm) k) ∧ Below w.heap.size w wr) (fun _ _ i _ => n - (intOf i).toNat)
  case atStart => exact ⟨0, Nat.zero_le _, rfl, World.ownsRow_nil _ _ _ _, Below.refl _ _⟩
  case round =>
    obtain ⟨k, hk, rfl, ho, hb⟩ := hrel
    have HW := Lib.hid ho
    have HB := Lib.hid hb
    clear ho hb
    by_cases hlt : k < n
    · obtain ⟨b, off, rfl, lb, x0, x1, x2, x3, x4, x5, x6⟩ := (HP.out.later HB.out).at_ hlt
      have HX := Lib.hid (show (fun k => (p k).nm) k = (p k).nm from rfl)
      generalize (p k).nm = nm at *
      generalize (p k).ad = ad at *
      generalize (p k).fr = fr at *
      generalize (p k).to = to at *
      generalize (p k).ft = ft at *
      generalize (p k).jb = jb at *
      generalize (p k).rp = rp at *
      obtain ⟨c0, c1, c2, c3, c4, c5, c6, l0⟩ := cell7_of (new_at wr (.cells #[.string nm, .int .i64 ad, .int .i64 fr, .int .i64 to, .int .i64 ft, .int .i64 jb, .string rp] 54) _ rfl)
      have HAL := Lib.hid (bthen (show Below wr.heap.size wr (wr.alloc (.cells #[.string nm, .int .i64 ad, .int .i64 fr, .int .i64 to, .int .i64 ft, .int .i64 jb, .string rp] 54)) from (Below.refl _ _).alloc (Nat.le_refl _) _) ((Below.refl _ _).alloc (Nat.le_refl _) (.cells #[.string nm] 9)))
      obtain ⟨v', w', run, O', G'⟩ := pushS6 30 (owns_later HW.out HAL.out) (by omega) nm HX.out (by have h1 := HB.out.size; have h3 := HAL.out.size; omega) (wr.heap.size + 1) (alloc_at6 _ _ (World.size_alloc _ _))
      have RUN := Lib.hid run
      have HO' := Lib.hid O'
      have HB' := Lib.hid (show Below w.heap.size w w' from by
        have h3 := bthen HB.out HAL.out
        exact h3.grown G' h3.size (fun j hj => (HW.out.lt j hj).1))
      clear lb run O' G'
      go_wp2_with (at_builtin; go_loud (refine Lib.wpList_append_run _ rfl _ _ _ _ rfl _ _ rfl rfl _ _ RUN.out ?_))
      go_roundw
      case rel => exact ⟨k + 1, by omega, by go_num, HO'.out, HB'.out⟩
      case measure => simp [intOf]; omega
    · obtain rfl : k = n := by omega
      obtain ⟨A', c', rfl, q1, q2, _, q4⟩ := owns_strs HW.out
      have HQ := Lib.hid q4
      clear q4
      go_wp2
      go_ret
      exact ⟨A', c', rfl, q1, q2, HQ.out, HB.out⟩

/-- The jobs of the first orders. -/
def orN (q : Nat → Ru) : Nat → Nat
  | 0 => 0
  | k + 1 => orN q k ||| (q k).jb.toNat
theorem orN_le {q : Nat → Ru} : ∀ {n : Nat}, (∀ k, k < n → (q k).jb ≤ 15) → orN q n ≤ 15
  | 0, _ => by simp [orN]
  | n + 1, h => by
    have h1 := orN_le (q := q) (n := n) (fun k hk => h k (by omega))
    have h2 := h n (by omega)
    have : orN q n ||| (q n).jb.toNat < 2 ^ 4 := Nat.or_lt_two_pow (by omega) (by omega)
    show orN q n ||| (q n).jb.toNat ≤ 15
    omega
/-- The jobs that are forbidden. -/
def fbN (p : Nat → Ru) (n : Nat) (d f : Int) : Nat := orN (selR p (fun k => fbB p n d f 15 (p k)) n) (sl6 (fun k => fbB p n d f 15 (p k)) n).length

set_option maxHeartbeats 8000000 in
set_option maxRecDepth 100000 in
theorem forbidden_any (g n : Nat) (p : Nat → Ru) (d f : Int) (w : World) (hv : vR p n = true) (hf : 0 ≤ f ∧ f ≤ 3) (ho : OrdR w g n p) :
    Calls Tryd.prog 70 #[.pointer (some ⟨g, 0, none⟩), .int .i64 d, .int .i64 f] w fun e w' => e = .returned (.int .i64 (fbN p n d f : Nat)) ∧ Below w.heap.size w w' := by
  have HO := Lib.hid ho
  have H1 := Lib.hid (forbids_any g d f 15 w)
  have H2 := Lib.hid (fun C0 C1 C2 B B' w ho hi => thoseFb_any g n p d f 15 C0 C1 C2 B B' w hv hf (by omega) ho hi)
  have HLE := Lib.hid (show (sl6 (fun k => fbB p n d f 15 (p k)) n).length ≤ 100 from by have h1 := sl6_le (fun k => fbB p n d f 15 (p k)) n; have h2 := vR_len hv; omega)
  have HJ := Lib.hid (show ∀ j, j < (sl6 (fun k => fbB p n d f 15 (p k)) n).length → 1 ≤ (selR p (fun k => fbB p n d f 15 (p k)) n j).jb ∧ (selR p (fun k => fbB p n d f 15 (p k)) n j).jb ≤ 15 from fun j hj => (rule_ok hv (sn6_lt hj).1).2.2.2)
  have HV := Lib.hid (show fbN p n d f = orN (selR p (fun k => fbB p n d f 15 (p k)) n) (sl6 (fun k => fbB p n d f 15 (p k)) n).length from rfl)
  generalize fbN p n d f = V at *
  generalize selR p (fun k => fbB p n d f 15 (p k)) n = q at *
  generalize (sl6 (fun k => fbB p n d f 15 (p k)) n).length = N at *
  clear ho hv
  go_enter Tryd.func70, Tryd.ntmps70
  go_wp2_with fail
  refine H1.out.mono ?_
  rintro e w1 ⟨C0, C1, C2, B, B', rfl, hi1, hb1⟩
  have HI1 := Lib.hid hi1
  have HB1 := Lib.hid hb1
  clear hi1 hb1
  go_wp2_with fail
  refine (H2.out C0 C1 C2 B B' _ (HO.out.later HB1.out) HI1.out).mono ?_
  rintro e w2 ⟨A2, c2, rfl, q1, q2, q3, hb2⟩
  have HQ := Lib.hid q3
  have HB2 := Lib.hid (bthen HB1.out hb2)
  clear q3 hb2 H1 H2
  go_wp2
  go_loopw [7, 9, 17] (fun v _ i wr => ∃ k : Nat, k ≤ N ∧ i = .int .i64 (k : Int) ∧ v = .int .i64 (orN q k : Nat) ∧ Below w2.heap.size w2 wr) (fun _ _ i _ => N - (intOf i).toNat)
  case atStart => exact ⟨0, Nat.zero_le _, rfl, rfl, Below.refl _ _⟩
  case round =>
    obtain ⟨k, hk, rfl, rfl, hb⟩ := hrel
    have HB := Lib.hid hb
    clear hb
    have hle := HLE.out
    by_cases hlt : k < N
    · obtain ⟨b, off, rfl, lb, x0, x1, x2, x3, x4, x5, x6⟩ := (HQ.out.later HB.out).at_ hlt
      obtain ⟨j1, j2⟩ := HJ.out k hlt
      have HOR := Lib.hid (orN_le (q := q) (n := k) (fun j hj => (HJ.out j (by omega)).2))
      have HST := Lib.hid (show orN q (k + 1) = orN q k ||| (q k).jb.toNat from rfl)
      have HAL := Lib.hid (show ∀ o, Below wr.heap.size wr (wr.alloc o) from fun o => (Below.refl _ _).alloc (Nat.le_refl _) _)
      generalize (q k).nm = nm at *
      generalize (q k).ad = ad at *
      generalize (q k).fr = fr at *
      generalize (q k).to = to at *
      generalize (q k).ft = ft at *
      generalize (q k).jb = jb at *
      generalize (q k).rp = rp at *
      generalize orN q k = T at *
      have hT := HOR.out
      have e1 := Lib.hid (or_int6 (a := (T : Int)) (b := jb) (by omega) (by omega) (by omega) j2)
      obtain ⟨c0, c1, c2, c3, c4, c5, c6, l0⟩ := cell7_of (new_at wr (.cells #[.string nm, .int .i64 ad, .int .i64 fr, .int .i64 to, .int .i64 ft, .int .i64 jb, .string rp] 54) _ rfl)
      clear lb
      go_wp2
      go_roundw
      case rel => exact ⟨k + 1, by omega, by go_num, by rw [HST.out, e1.out]; rfl, bthen HB.out (HAL.out _)⟩
      case measure => simp [intOf]; omega
    · obtain rfl : k = N := by omega
      go_wp2
      go_ret
      exact ⟨int_of (by rw [HV.out]), bthen HB2.out HB.out⟩
end Go.Proofs.YtcifmmdfjglbnaaDoor
