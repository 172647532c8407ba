/- OText1: The document's Format of an outline, given a contract of Itoa; no statement is proved here. -/
import Derived.Test.YtmnaginofingoaaGreatDoorOTextRead
import Derived.Test.YtmnaginofingoaaGreatDoorOLawValid
import Derived.Test.YtmnaginofingoaaGreatDoorOFirstR
import Derived.Test.YtmnaginofingoaaGreatDoorTail
import Derived.Laws.Concat
namespace Go.Proofs.YtmnaginofingoaaGreatDoor.Outl
open Go.ChangeShapes Go.WideShapes Go.ChangeAt Go.RowKit

/-- What is asked of the world, and Itoa's contract in such a world. -/
structure Itoas (E : World → Prop) : Prop where
  later : ∀ w w', E w → Below w.heap.size w w' → E w'
  itoa : ∀ (n : Int) (w : World), -10000 ≤ n → n ≤ 10000 → E w → Calls Tryz.prog 18 #[.int .i64 n] w fun e w' => e = .returned (.string (numB n)) ∧ Below w.heap.size w w'

theorem After.callI {E : World → Prop} (hI : Itoas E) {W : World} (x : After W) (hE : E W) (n : Int) (h0 : -10000 ≤ n) (h1 : n ≤ 10000) :
    Calls Tryz.prog 18 #[.int .i64 n] x.val fun e w'' => e = .returned (.string (numB n)) ∧ ∃ y : After W, w'' = y.val :=
  After.call x (hI.itoa n x.val h0 h1 (hI.later _ _ hE x.property))

theorem numB_size {n : Int} (h0 : -10000 ≤ n) (h1 : n ≤ 10000) : (numB n).size ≤ 6 := by
  have := itoa_len (n := n) (by omega)
  simpa [numB, ByteArray.size] using this
theorem ofB_size {p : Nat → Pt} {n k : Nat} (h64 : n ≤ 64) (hin : inAll p n = true) (hk : k ≤ n) : (ofB p k).size ≤ 896 := by
  have := ofL_len (p := p) (n := k) fun j hj => inAll_at' hin (by omega)
  have e : (ofB p k).size = (ofL p k).length := by simp [ofB, ByteArray.size]
  omega
theorem ofB_one (p : Nat → Pt) : ofB p 0 ++ (numB (p 0).1 ++ ⟨#[44]⟩ ++ numB (p 0).2) = ofB p 1 := by
  apply ByteArray.ext
  have e : ofL p 0 = [] := rfl
  simp [numB, ofB, e, ofL_one, ptL, ByteArray.data_append]
theorem ofB_succ (p : Nat → Pt) {k : Nat} (h : 0 < k) : ofB p k ++ ⟨#[32]⟩ ++ (numB (p k).1 ++ ⟨#[44]⟩ ++ numB (p k).2) = ofB p (k + 1) := by
  apply ByteArray.ext
  simp [numB, ofB, ofL_succ p h, ptL, ByteArray.data_append]

end Go.Proofs.YtmnaginofingoaaGreatDoor.Outl

/- OText2: The code's Format of an outline, given contracts of Itoa and of Join; no statement is proved here. -/
namespace Go.Proofs.YtmnaginofingoaaGreatDoor.Outl
open Go.ChangeShapes Go.WideShapes Go.ChangeAt Go.RowKit

def strs (ss : List ByteArray) : List Value := ss.map Value.string
theorem infoStr : (Tryz.prog.info? 9).map (fun i => (i.zero, i.size, i.bytes)) = some (some (.string { data := #[] }), 1, 16) := by kernel_rfl

/-- Join's contract. -/
structure Joined : Prop where
  join : ∀ (bk o c : Nat) (xs : List ByteArray) (sep : ByteArray) (w : World), (∀ (j : Nat) x, xs[j]? = some x → w.cell? ⟨bk, o + j, none⟩ = some (.string x)) → bk < w.heap.size → xs.length ≤ 140737488355328 → xs.length ≤ c → (Lib.join (xs.map (·.data.toList)) sep.data.toList).length ≤ 140737488355328 →
    Calls Tryz.prog 19 #[.slice (some ⟨bk, o, none⟩) xs.length c, .string sep] w fun e w' => e = .returned (.string ⟨(Lib.join (xs.map (·.data.toList)) sep.data.toList).toArray⟩) ∧ Below w.heap.size w w'

theorem str_owned {w : World} {base : Nat} {v : Value} {n : Nat} {ss : List ByteArray} (h : w.ownsRow base 9 1 v n (strs ss)) (hn : n = ss.length) (h0 : 0 < n) :
    ∃ g cp, v = .slice (some ⟨g, 0, none⟩) n cp ∧ n ≤ cp ∧ g < w.heap.size ∧ ∀ (j : Nat) x, ss[j]? = some x → w.cell? ⟨g, 0 + j, none⟩ = some (.string x) := by
  rcases h.2 with ⟨h1, h2⟩ | ⟨g, cap, cur, rfl, h4, h5, h6, h7, h8, h9⟩
  · omega
  · refine ⟨g, cap, rfl, h6, lt_of_heap h5, fun j x hx => ?_⟩
    have hj : j < ss.length := (List.getElem?_eq_some_iff.1 hx).1
    have := congrArg (fun l => l[j]?) h9
    simp only [List.getElem?_take, strs, List.getElem?_map, hx, Option.map_some] at this
    rw [if_pos (by omega)] at this
    simp only [World.cell?, h5]
    simpa using this

theorem ptB_sum (p : Pt) : numB p.1 ++ ⟨#[44]⟩ ++ numB p.2 = ptB p := by
  apply ByteArray.ext
  simp [numB, ptB, ptL, ByteArray.data_append]

set_option maxHeartbeats 4000000 in
set_option maxRecDepth 100000 in
theorem formatO_bad (A : Option Addr) (n c : Nat) (p : Nat → Pt) (w : World) (hn : n ≤ c) (hc : c ≤ 9223372036854775807) (hp : Has w A n p) (hv : vC p n = false) :
    Calls Tryz.prog 7 #[.slice A n c] w fun e w' => e = .returned (.string ⟨#[]⟩) ∧ Below w.heap.size w w' := by
  have HV := Lib.hid hv
  have HP := Lib.hid hp
  clear hv hp
  go_enter Tryz.func7, Tryz.ntmps7
  go_wp2_with (go_at_call 17; refine (valid_is _ n c p _ hn hc HP.out _ HV.out).mono ?_; rintro e w1 ⟨rfl, hb1⟩)
  go_ret
  exact ⟨rfl, hb1⟩

set_option maxHeartbeats 8000000 in
set_option maxRecDepth 100000 in
theorem formatO_ok {E : World → Prop} (hI : Itoas E) (hJ : Joined) (b off n c : Nat) (p : Nat → Pt) (w : World) (hn : n ≤ c) (hc : c ≤ 9223372036854775807) (hp : Pts w b off n p) (hv : vC p n = true) (h0 : 0 < n) (hE : E w) :
    Calls Tryz.prog 7 #[.slice (some ⟨b, off, none⟩) n c] w fun e w' => e = .returned (.string (ofB p n)) ∧ Below w.heap.size w w' := by
  obtain ⟨_, h64, hin, _⟩ := vC_parts hv
  have HV := Lib.hid hv
  have HP := Lib.hid hp
  have HN := Lib.hid hin
  have HE := Lib.hid hE
  have HI := Lib.hid hI
  have HJ := Lib.hid hJ
  clear hv hp hin hE hI hJ
  obtain ⟨i0, hi0, hz0, hz1, hz2⟩ := info_parts infoStr
  go_enter Tryz.func7, Tryz.ntmps7
  go_wp2_with (go_at_call 17; refine (valid_is _ n c p _ hn hc (fun _ => ⟨b, off, rfl, HP.out⟩) _ HV.out).mono ?_; rintro e w1 ⟨rfl, hb1⟩)
  have HB1 := Lib.hid hb1
  clear hb1
  go_loopw [3, 5, 11] (fun v _ i wr => ∃ k : Nat, k ≤ n ∧ i = .int .i64 (k : Int) ∧ wr.ownsRow w.heap.size 9 1 v k (strs (ptsB p k)) ∧ Below w.heap.size w wr) (fun _ _ i _ => n - (intOf i).toNat)
  case atStart => exact ⟨0, Nat.zero_le _, rfl, World.ownsRow_nil _ _ _ _, HB1.out⟩
  case round =>
    obtain ⟨k, hk, rfl, hown, hbr⟩ := hrel
    by_cases hlt : k < n
    · have hx := (HP.out.later hbr).x k hlt
      have hy := (HP.out.later hbr).y k hlt
      have lb := (HP.out.later hbr).lt
      obtain ⟨q1, q2, q3, q4⟩ := inAll_at' HN.out hlt
      have HS := Lib.hid (show strs (ptsB p (k + 1)) = strs (ptsB p k) ++ [.string (numB (p k).1 ++ ⟨#[44]⟩ ++ numB (p k).2)] from by rw [ptB_sum]; simp [strs, ptsB])
      generalize strs (ptsB p k) = T at *
      generalize p k = P at *
      obtain ⟨x, y⟩ := P
      dsimp only at hx hy q1 q2 q3 q4 HS
      have z1 := numB_size q1 q2
      have z2 := numB_size q3 q4
      have s1 : ¬ 9223372036854775807 < (numB x).size + 1 := by omega
      have s2 : ¬ 9223372036854775807 ≤ (numB x).size := by omega
      have s3 : ¬ 9223372036854775807 < (numB x).size + 1 + (numB y).size := by omega
      have HB := Lib.hid hbr
      have Q := Lib.hid (And.intro (And.intro q1 q2) (And.intro q3 q4))
      have HZ := Lib.hid (new_at wr (.cells #[.int .i64 x, .int .i64 y] 51) _ rfl)
      have HB9 := Lib.hid (hbr.alloc hbr.size (.cells #[.int .i64 x, .int .i64 y] 51))
      have HO := Lib.hid (hown.alloc (.cells #[.int .i64 x, .int .i64 y] 51))
      have HE9 := Lib.hid (HI.out.later _ _ HE.out HB9.out)
      clear hbr q1 q2 q3 q4 z1 z2 hown
      go_wp2
      generalize wr.alloc (.cells #[.int .i64 x, .int .i64 y] 51) = W9 at *
      obtain ⟨p0, p1, f0, f1⟩ := cell2_of HZ.out
      have lp := lt_of_heap HZ.out
      refine wp_region_from_tail1 8 (.tmp 3) rfl (fun _ _ _ _ h => h) (Below.refl _ _) (by kernel_rfl) (by kernel_rfl) (fun hcell => ?_)
      simp only [List.take_succ_cons, List.take_zero, List.drop_succ_cons, List.drop_zero]
      repeat (go_big_quiet_step ((first
        | with_reducible exact After.callI HI.out _ HE9.out _ Q.out.1.1 Q.out.1.2
        | with_reducible exact After.callI HI.out _ HE9.out _ Q.out.2.1 Q.out.2.2)))
      refine wpQuiet_nil ?_
      intro w3 hb3
      have hown3 := owns_later HO.out hb3
      go_wp2_with (at_builtin; go_loud (refine wpList_append_own _ rfl _ _ 48 rfl w.heap.size 9 i0 (.string { data := #[] }) 1 16 Tryz.underlying48 hi0 hz0 hz1 hz2 rfl (by decide) _ _ _ rfl (hown3.alloc _) ⟨w3.heap.size, 0, none⟩ 1 1 [.string (numB x ++ ⟨#[44]⟩ ++ numB y)] rfl rfl ?c1 ?c2 ?c3 ?c4 ?c5 ?_))
      case c1 =>
        intro j u hj
        match j, hj with
        | 0, hj => simp at hj; subst hj; simp [Addr.add]
      case c2 => intro u hu; simp at hu; subst hu; rfl
      case c3 => unfold maxLen; omega
      case c4 => omega
      case c5 => have := HB9.out.size; have := hb3.size; simp; omega
      intro v' w6 hown' hgrow _
      have hs := HB9.out.size
      have hs5 := hb3.size
      have hb6 := ((bthen HB9.out hb3).alloc (by omega) _).grown hgrow (by simp; omega) (fun j hj => (hown3.lt j hj).1)
      have R := Lib.hid (And.intro hown' hb6)
      clear hown' hgrow hb6
      go_wp2
      go_roundw
      case rel => exact ⟨k + 1, by omega, by go_num, by rw [HS.out]; exact R.out.1, R.out.2⟩
      case measure => simp [intOf]; omega
    · obtain rfl : k = n := by omega
      have hl := ptsB_len p k
      obtain ⟨g, cp, rfl, hcp, hg, hcl⟩ := str_owned hown hl.symm h0
      have hlen : (ofL p k).length ≤ 14 * k := ofL_len fun j hj => inAll_at' HN.out hj
      have HJ' := Lib.hid (HJ.out.join g 0 cp (ptsB p k) ⟨#[32]⟩ wr hcl hg (by omega) (by omega) (by rw [ptsB_data]; exact Nat.le_trans (show (ofL p k).length ≤ 14 * k from hlen) (by omega)))
      rw [hl, ptsB_data] at HJ'
      clear hcl hcp
      go_wp2_with (go_at_call 19; refine HJ'.out.mono ?_; rintro e w7 ⟨rfl, hb7⟩)
      go_ret
      exact ⟨rfl, bthen hbr hb7⟩
end Go.Proofs.YtmnaginofingoaaGreatDoor.Outl
