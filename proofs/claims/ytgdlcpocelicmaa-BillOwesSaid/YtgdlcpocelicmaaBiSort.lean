/- A sort of few by a method value, by contract; no statement is proved here. -/
import Derived.Test.YtgdlcpocelicmaaBiIns
import Derived.Test.YtgdlcpocelicmaaBiShare
import Derived.Shelf.RegionOpenPlain
namespace Go.Proofs.Ytgdlcpocelicmaa
open Go.ChangeShapes Go.WideShapes Go.ChangeAt Go.RowKit Go.Shelf Go.Sort

theorem below_grow9 (w : World) (q : Nat) (os : Array Obj) : Below w.heap.size w (grow (w.drewN q) os) :=
  ⟨rfl, rfl, rfl, by simp [grow, World.drewN], fun k hk => by
    show (w.heap ++ os)[k]? = _
    rw [Array.getElem?_append_left hk]⟩
theorem ints_congr9 {p q : Nat → Int} : ∀ {n : Nat}, (∀ t, t < n → p t = q t) → ints p n = ints q n
  | 0, _ => rfl
  | n + 1, h => by
    show ints p n ++ [.int .i64 (p n)] = ints q n ++ [.int .i64 (q n)]
    rw [ints_congr9 fun t ht => h t (by omega), h n (by omega)]
/-- A number of the third list, read and set. -/
theorem Own3.set_c {base : Nat} {w0 W : World} {B : Nat} {t : TypeId} {a b c : Value} {ka kb kc : Nat} {p q s : Nat → Int} (h : Own3 base w0 W B t a b c ka kb kc p q s) {j : Nat} (hj : j < kc) :
    ∃ g d, c = .slice (some ⟨g, 0, none⟩) kc d ∧ base ≤ g ∧ g < W.heap.size ∧ (∀ i, i < kc → W.cell? ⟨g, i, none⟩ = some (.int .i64 (s i)) ∧ W.frozen? ⟨g, i, none⟩ = false) ∧ ∀ x, Own3 base w0 (W.setCell ⟨g, j, none⟩ (.int .i64 x)) B t a b c ka kb kc p q (upd9 s j x) := by
  rcases h.rc.2 with ⟨h1, h2⟩ | ⟨g, cap, cur, h1, hg, h5, h6, h7, h8, h9⟩
  · omega
  · have hob : c.ownBlock = some g := by rw [h1]; rfl
    refine ⟨g, cap, h1, hg, lt_of_heap h5, fun i hi => ?_, fun x => ⟨(heap_ne9 _ (by have := h.lt; omega)).trans h.box, h.lt, h.low, by have := h.size; simpa [World.setCell] using this, owns_other9 h.ra (h.ac.symm _ hob) _, owns_other9 h.rb (h.bc.symm _ hob) _, ?_, h.ab, h.ac, h.bc, below_set9 h.below (by have := h.low; have := h.lt; omega) _⟩⟩
    · have hc := ints_get s kc i hi
      rw [← h9, List.getElem?_take, if_pos (by omega)] at hc
      have hc2 : cur[i]? = some (.int .i64 (s i)) := by simpa using hc
      exact ⟨by simp [World.cell?, h5, hc2], by simp [World.frozen?, h5]⟩
    · refine ⟨by rw [ints_length]; omega, .inr ⟨g, cap, cur.setIfInBounds j (.int .i64 x), h1, hg, heap_at9 h5 _ _, h6, h7, by simpa using h8, ?_⟩⟩
      rw [Array.toList_setIfInBounds, List.take_set, h9]
      exact ints_upd9 s x hj
/-- Two neighbours of the third list change places. -/
theorem Own3.swap_c {base : Nat} {w0 W : World} {B : Nat} {t : TypeId} {a b : Value} {g d : Nat} {ka kb kc : Nat} {p q : Nat → Int} {s : Nat → Nat} (h : Own3 base w0 W B t a b (.slice (some ⟨g, 0, none⟩) kc d) ka kb kc p q (fun t => (s t : Int))) {j : Nat} (hj : j + 1 < kc) :
    W.cell? ⟨g, j, none⟩ = some (.int .i64 (s j : Int)) ∧ W.cell? ⟨g, j + 1, none⟩ = some (.int .i64 (s (j + 1) : Int)) ∧ W.frozen? ⟨g, j, none⟩ = false ∧ W.frozen? ⟨g, j + 1, none⟩ = false ∧ g < W.heap.size ∧ base ≤ g ∧
      Own3 base w0 ((W.setCell ⟨g, j + 1, none⟩ (.int .i64 (s j : Int))).setCell ⟨g, j, none⟩ (.int .i64 (s (j + 1) : Int))) B t a b (.slice (some ⟨g, 0, none⟩) kc d) ka kb kc p q (fun t => (swp9 s j t : Int)) := by
  obtain ⟨g', d', e, h1, h2, h3, h4⟩ := h.set_c (j := j + 1) hj
  injection e with e _ e2
  injection e with e
  injection e with e
  subst e; subst e2
  obtain ⟨g'', d'', e', _, _, _, h6⟩ := (h4 (s j : Int)).set_c (j := j) (by omega)
  injection e' with e' _ e2'
  injection e' with e'
  injection e' with e'
  subst e'; subst e2'
  have h7 := h6 (s (j + 1) : Int)
  have e : upd9 (upd9 (fun t => (s t : Int)) (j + 1) (s j : Int)) j (s (j + 1) : Int) = fun t => (swp9 s j t : Int) := by
    funext t
    unfold upd9 swp9
    by_cases e1 : t = j
    · simp [e1]
    · by_cases e2 : t = j + 1
      · simp [e2]
      · simp [e1, e2]
  rw [e] at h7
  exact ⟨(h3 j (by omega)).1, (h3 (j + 1) hj).1, (h3 j (by omega)).2, (h3 (j + 1) hj).2, h2, h1, h7⟩

/-- The comparison, as a call in a world of the sort's. -/
theorem cmpB9 {base : Nat} {w0 W : World} {B : Nat} {a c : Value} {A2 : Option Addr} {d2 n : Nat} {q r s : Nat → Int} {i j : Nat} (h : Own3 base w0 W B 63 a (.slice A2 n d2) c n n n q r s) (hi : i < n) (hj : j < n) :
    Calls Try.prog 47 #[.pointer (some ⟨B, 0, none⟩), .int .i64 (i : Int), .int .i64 (j : Int)] W fun e w' => e = .returned (.int .i64 (cfS r i j)) ∧ Below W.heap.size W w' :=
  (compare_is9 B A2 n d2 r W i j hi hj (has_of9 h.rb).1 h.cells.2.1).mono fun e w' ⟨he, x, os, hw⟩ => ⟨he, by rw [hw]; exact below_grow9 _ _ _⟩

set_option maxHeartbeats 4000000 in
set_option maxRecDepth 100000 in
theorem ins_any9 {base : Nat} {w0 W : World} {B : Nat} {a : Value} {A2 : Option Addr} {d2 g d n : Nat} {q r : Nat → Int} (p : Nat → Nat) (hn : n ≤ 100) (hb : Bij9 n p) (h : Own3 base w0 W B 63 a (.slice A2 n d2) (.slice (some ⟨g, 0, none⟩) n d) n n n q r (fun t => (p t : Int))) (hn1 : 1 ≤ n) :
    Calls Try.prog 91 #[.slice (some ⟨g, 0, none⟩) n d, .int .i64 0, .int .i64 (n : Int), .func (.func 47) #[.pointer (some ⟨B, 0, none⟩)] #[]] W fun e w' =>
      e = .returned (.tuple #[]) ∧ Own3 base w0 w' B 63 a (.slice A2 n d2) (.slice (some ⟨g, 0, none⟩) n d) n n n q r (fun t => (out9 r (n - 1) p t : Int)) := by
  have HO0 := Lib.hid h
  have HBJ := Lib.hid hb
  clear h hb
  go_enter Try.func91, Try.ntmps91
  go_wp2
  go_loopw [8] (fun i wr => ∃ k : Nat, k + 1 ≤ n ∧ i = .int .i64 ((k + 1 : Nat) : Int) ∧ Own3 base w0 wr B 63 a (.slice A2 n d2) (.slice (some ⟨g, 0, none⟩) n d) n n n q r (fun t => (out9 r k p t : Int))) (fun i _ => n - (intOf i).toNat)
  case atStart => exact ⟨0, hn1, by go_num, HO0.out⟩
  case round =>
    obtain ⟨k, hk, rfl, hO⟩ := hrel
    have HO := Lib.hid hO
    clear hO HO0
    by_cases hlt : k + 1 < n
    · go_wp2
      go_loopw [9] (fun jv wr2 => ∃ (j : Nat) (pj : Nat → Nat), jv = .int .i64 (j : Int) ∧ j ≤ k + 1 ∧ Bij9 n pj ∧ inn9 r j pj = out9 r (k + 1) p ∧ Own3 base w0 wr2 B 63 a (.slice A2 n d2) (.slice (some ⟨g, 0, none⟩) n d) n n n q r (fun t => (pj t : Int))) (fun jv _ => (intOf jv).toNat)
      case atStart => exact ⟨k + 1, _, rfl, Nat.le_refl _, HBJ.out.out r (by omega), rfl, HO.out⟩
      case round =>
        obtain ⟨j, pj, rfl, hj, hbj, hin, hO⟩ := hrel
        have HOj := Lib.hid hO
        have HB := Lib.hid hbj
        have HIN := Lib.hid hin
        clear hO hbj hin
        have hk100 : k + 1 < 100 := by omega
        rcases j with _ | j
        · have g1 : decide ((0 : Int) > 0) = false := by decide
          have HR := Lib.hid (show Own3 base w0 wr B 63 a (.slice A2 n d2) (.slice (some ⟨g, 0, none⟩) n d) n n n q r (fun t => (out9 r (k + 1) p t : Int)) from by rw [← HIN.out]; exact HOj.out)
          go_wp2
          refine wp_region_after (by kernel_rfl) (by kernel_rfl) (fun hcell => ?_)
          repeat (go_big_quiet_step (fail))
          refine wpQuiet_nil ?_
          intro w3 hb3
          have HR3 := Lib.hid (HR.out.later hb3)
          clear hb3 hcell
          go_wp2
          go_roundw
          case rel => exact ⟨k + 1, by omega, by go_num, HR3.out⟩
          case measure => simp [intOf]; omega
        · obtain ⟨c0, c1, f0, f1, lg, hgb, hsw⟩ := HOj.out.swap_c (j := j) (by omega)
          have HSW := Lib.hid hsw
          have HC := Lib.hid (fun W (hO : Own3 base w0 W B 63 a (.slice A2 n d2) (.slice (some ⟨g, 0, none⟩) n d) n n n q r (fun t => (pj t : Int))) => cmpB9 (n := n) (i := pj (j + 1)) (j := pj j) hO (HB.out.lt _ (by omega)) (HB.out.lt _ (by omega)))
          have hcf := cfS_lt r (pj (j + 1)) (pj j)
          have e1 : ((j : Int) + 1).toNat = j + 1 := by omega
          have g1 : decide ((j : Int) + 1 > 0) = true := decide_eq_true (by omega)
          have g2 : (0 : Int) < (j : Int) + 1 := by omega
          have hj1 : j + 1 < n := by omega
          clear hsw
          cases hbf : befS r (pj (j + 1)) (pj j)
          · have HR := Lib.hid (show pj = out9 r (k + 1) p from by rw [← HIN.out]; unfold inn9; rw [if_neg (by rw [hbf]; simp)])
            rw [hbf] at hcf
            have v1 : ¬ cfS r (pj (j + 1)) (pj j) < 0 := of_decide_eq_false hcf
            generalize cfS r (pj (j + 1)) (pj j) = V at *
            clear hbf HSW
            generalize pj (j + 1) = x1 at *
            generalize pj j = x0 at *
            go_wp2
            refine wp_region_after (by kernel_rfl) (by kernel_rfl) (fun hcell => ?_)
            repeat (go_big_quiet_step ((exact After.callP9 (H := fun w => Own3 base w0 w B 63 a (.slice A2 n d2) (.slice (some ⟨g, 0, none⟩) n d) n n n q r (fun t => (pj t : Int))) _ HOj.out (fun _ _ h hb => h.later hb) (fun w h => HC.out w h))))
            refine wpQuiet_nil ?_
            intro w3 hb3
            have HR3 := Lib.hid (HOj.out.later hb3)
            rw [HR.out] at HR3
            clear hb3 hcell
            go_wp2
            go_roundw
            case rel => exact ⟨k + 1, by omega, by go_num, HR3.out⟩
            case measure => simp [intOf]; omega
          · have HR := Lib.hid (show inn9 r j (swp9 pj j) = out9 r (k + 1) p from by rw [← HIN.out]; rw [inn9, if_pos hbf])
            rw [hbf] at hcf
            have v1 : cfS r (pj (j + 1)) (pj j) < 0 := of_decide_eq_true hcf
            have HBS := Lib.hid (HB.out.swp hj1)
            generalize cfS r (pj (j + 1)) (pj j) = V at *
            clear hbf
            generalize pj (j + 1) = x1 at *
            generalize pj j = x0 at *
            go_wp2
            refine wp_region_after (by kernel_rfl) (by kernel_rfl) (fun hcell => ?_)
            repeat (go_big_quiet_step ((exact After.callP9 (H := fun w => Own3 base w0 w B 63 a (.slice A2 n d2) (.slice (some ⟨g, 0, none⟩) n d) n n n q r (fun t => (pj t : Int))) _ HOj.out (fun _ _ h hb => h.later hb) (fun w h => HC.out w h))))
            refine wpQuiet_nil ?_
            intro w3 hb3
            have HR3 := Lib.hid (HOj.out.later hb3)
            clear hb3 hcell c0 c1 f0 f1 lg
            obtain ⟨c0, c1, f0, f1, lg, _, hsw3⟩ := HR3.out.swap_c (j := j) hj1
            have HSW3 := Lib.hid (hsw3.later (below_drew9 (Below.refl _ _)))
            clear hsw3
            generalize pj (j + 1) = y1 at *
            generalize pj j = y0 at *
            have mixed : Try.prog.follows .mixedOrders = true := by kernel_rfl
            go_wp2
            go_big_region_o
            clear c0 c1 f0 f1
            generalize ((w3.setCell ⟨g, j + 1, none⟩ (.int .i64 (y0 : Int))).setCell ⟨g, j, none⟩ (.int .i64 (y1 : Int))).drew = w4 at *
            go_wp2
            go_roundw
            case rel => exact ⟨j, _, by go_num, by omega, HBS.out, HR.out, HSW3.out⟩
            case measure => simp [intOf]
    · obtain rfl : k + 1 = n := by omega
      go_wp2
      go_end0
      exact ⟨rfl, HO.out⟩

set_option maxHeartbeats 4000000 in
set_option maxRecDepth 100000 in
theorem pdq_any9 {base : Nat} {w0 W : World} {B : Nat} {a : Value} {A2 : Option Addr} {d2 g d n : Nat} {q r : Nat → Int} (lim : Int) (hn : n ≤ 12) (h : Own3 base w0 W B 63 a (.slice A2 n d2) (.slice (some ⟨g, 0, none⟩) n d) n n n q r (fun t => (t : Int))) (hn1 : 1 ≤ n) :
    Calls Try.prog 71 #[.slice (some ⟨g, 0, none⟩) n d, .int .i64 0, .int .i64 (n : Int), .int .i64 lim, .func (.func 47) #[.pointer (some ⟨B, 0, none⟩)] #[]] W fun e w' =>
      e = .returned (.tuple #[]) ∧ Own3 base w0 w' B 63 a (.slice A2 n d2) (.slice (some ⟨g, 0, none⟩) n d) n n n q r (fun t => ((ordN r (n - 1) t : Nat) : Int)) := by
  have HI := Lib.hid (ins_any9 (fun t => t) (by omega) (Bij9.id n) h hn1)
  have HE := Lib.hid (show ∀ w', Own3 base w0 w' B 63 a (.slice A2 n d2) (.slice (some ⟨g, 0, none⟩) n d) n n n q r (fun t => (out9 r (n - 1) (fun t => t) t : Int)) → Own3 base w0 w' B 63 a (.slice A2 n d2) (.slice (some ⟨g, 0, none⟩) n d) n n n q r (fun t => ((ordN r (n - 1) t : Nat) : Int)) from fun w' h => by
    obtain ⟨m, rfl⟩ : ∃ m, n = m + 1 := ⟨n - 1, by omega⟩
    have e : ints (fun t => (out9 r (m + 1 - 1) (fun t => t) t : Int)) (m + 1) = ints (fun t => ((ordN r (m + 1 - 1) t : Nat) : Int)) (m + 1) := ints_congr9 fun t ht => by
      show (out9 r m (fun t => t) t : Int) = _
      rw [out_ord r m ht]; rfl
    exact { h with rc := by have := h.rc; rw [e] at this; exact this })
  have h12 : (n : Int) ≤ 12 := by omega
  clear h
  go_enter Try.func71, Try.ntmps71
  go_wp2
  refine wp_loop_rounds 1 ?_
  rw [rounds_succ]
  go_wp2_with (go_at_call 91; (refine HI.out.mono ?_); rintro e w1 ⟨rfl, hO⟩)
  (try simp only [Exit.inBlock, Exit.then]); refine bodyPost_ret (results_none rfl _ _ _) rfl ?_
  exact ⟨rfl, HE.out _ hO⟩

set_option maxHeartbeats 4000000 in
set_option maxRecDepth 100000 in
theorem sort_any9 {n : Nat} {r : Nat → Int} (hn : n ≤ 12) (hn1 : 1 ≤ n) : SortsS n r := by
  intro base w0 W B a b c q h hc
  obtain ⟨A2, d2, rfl, _⟩ := owns_ints h.rb
  obtain ⟨g, d, rfl, _⟩ := h.set_c (j := 0) (by omega)
  have HP := Lib.hid (fun lim => pdq_any9 lim hn h hn1)
  have HL := Lib.hid (fun w => Try.bits_Len (n : Int) w (by omega) (by omega))
  have wr9 : IntKind.u64.wrap (n : Int) = n := by simp [IntKind.wrap, IntKind.bits, IntKind.signed]; omega
  clear h hc
  go_enter Try.func46, Try.ntmps46
  go_wp2_with (first
    | (go_at_call 72; (refine (HL.out _).mono ?_); rintro e w1 ⟨rfl, rfl⟩)
    | (go_at_call 71; (refine (HP.out _).mono ?_); rintro e w2 ⟨rfl, hO⟩))
  go_end0
  exact ⟨rfl, hO⟩
end Go.Proofs.Ytgdlcpocelicmaa
