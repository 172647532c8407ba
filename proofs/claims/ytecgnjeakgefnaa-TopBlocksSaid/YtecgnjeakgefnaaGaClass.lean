/- The classes that blocks tell apart, by contract (the code's side); no statement is proved here. -/
import Derived.Test.YtecgnjeakgefnaaGaCls
import Derived.Deep.RegionHeldLaw
import Derived.RegionIn
namespace Go.Proofs.Ytecgnjeakgefnaa
open Go.ChangeShapes Go.WideShapes Go.ChangeAt Go.RowKit Go.Shelf
attribute [local go_sem] Oper.semAt_some

theorem below_drawn {n : Nat} {w W : World} (h : Below n w W) : Below n w W.drew := ⟨h.os, h.tape, h.output, h.size, h.block⟩
theorem isSlice {w : World} {base : Nat} {e : TypeId} {s : Nat} {v : Value} {n : Nat} {xs : List Value} (h : w.ownsRow base e s v n xs) : ∃ A N C, v = .slice A N C := by
  rcases h.2 with ⟨h1, _⟩ | ⟨g, cap, cur, h3, _⟩
  · exact ⟨_, _, _, h1⟩
  · exact ⟨_, _, _, h3⟩
theorem outS_new {S : Nat → Prop} {W : World} {A : Option Addr} {n c : Nat} {l : List Int} (hS : ∀ b, S b → b < W.heap.size) (h : ∀ g o s, A = some ⟨g, o, s⟩ → W.heap.size ≤ g) : OutS S (.slice A n c) l := fun _ b hb e => by
  cases A with
  | none => cases e
  | some a =>
    have h1 := h a.block a.off a.spot rfl
    have h2 := hS b hb
    injection e with e
    omega
/-- One list more at the end of a row of lists, in a round. -/
theorem opIn_append {l m : Nat} {o : Oper} {a : Act} {W4 : World} {u : Value} {t : TypeId} {K : Act → World → Prop} {Q : Exit → Act → World → Prop} (s x : Operand)
    (hop : o.op = .call { callee := .builtin .append, args := #[s, x], argTypes := #[27, 27] }) (base : Nat) (v : Value) (n : Nat) (xs : List Value) (hs : a.eval s = v) (hown : W4.ownsRow base 22 1 v n xs)
    (hx : a.eval x = .slice (some ⟨W4.heap.size, 0, none⟩) 1 1) (hu : u.oneCell' = true) (hbase : base ≤ W4.heap.size) (hn : n ≤ 100000)
    (hK : ∀ v' w', w'.ownsRow base 22 1 v' (n + 1) (xs ++ [u]) → (W4.alloc (.cells #[u] t)).grownBy w' v.ownBlock → (v'.ownBlock = v.ownBlock ∨ v'.ownBlock = some (W4.alloc (.cells #[u] t)).heap.size) → K (a.put o.dst v') w') :
    o.wpIn (Fence.wide.inRound l) m Try.prog a (W4.alloc (.cells #[u] t)) K Q := by
  obtain ⟨i0, hi0, hz0, hz1, hz2⟩ := info_parts infoInts
  obtain ⟨v', w', hrun, r1, r2, _, r4⟩ := run_append_own_at (P := Try.prog) (w := W4.alloc (.cells #[u] t)) base 27 o.type 22 i0 (.slice none 0 0) 1 24 Try.underlying27 hi0 hz0 hz1 hz2 rfl (by decide) v n xs (hown.alloc _) ⟨W4.heap.size, 0, none⟩ 1 1 [u] rfl (cell_one_new _ _ _) (by intro u' hu'; simp at hu'; subst hu'; exact hu) (by unfold maxLen; omega) (by omega) (by simp; omega)
  unfold Oper.wpIn
  refine ⟨fun f _ => trivial, ?_⟩
  rw [Oper.semAt_eq _ _ _ (fun c h => by rw [hop] at h; cases h)]
  simp [execOp, hop, resolve, invoke, builtin, hs, hx, hrun, Result.andThen, Oper.uponIn]
  exact hK v' w' r1 r2 r4
/-- The same outside of a round, as a step of a region that draws its order. -/
theorem step_push {ops : Array Oper} {o : Oper} {a : Act} {W4 : World} {u : Value} {t : TypeId} {K : Act → World → Prop} {Q : Exit → Act → World → Prop} {E : Prop} (hg : o.guard = none) (s x : Operand)
    (hop : o.op = .call { callee := .builtin .append, args := #[s, x], argTypes := #[27, 27] }) (base : Nat) (v : Value) (n : Nat) (xs : List Value) (hs : a.eval s = v) (hown : W4.ownsRow base 22 1 v n xs)
    (hx : a.eval x = .slice (some ⟨W4.heap.size, 0, none⟩) 1 1) (hu : u.oneCell' = true) (hbase : base ≤ W4.heap.size) (hn : n ≤ 100000)
    (hK : ∀ v' w', w'.ownsRow base 22 1 v' (n + 1) (xs ++ [u]) → (W4.alloc (.cells #[u] t)).grownBy w' v.ownBlock → (v'.ownBlock = v.ownBlock ∨ v'.ownBlock = some (W4.alloc (.cells #[u] t)).heap.size) → K (a.put o.dst v') w') :
    if Region.wanted o (yielded ops a.tmps) = true then Oper.wp Try.prog o a (W4.alloc (.cells #[u] t)) K Q else E := by
  obtain ⟨i0, hi0, hz0, hz1, hz2⟩ := info_parts infoInts
  have hw : Region.wanted o (yielded ops a.tmps) = true := by simp [Region.wanted, hg]
  rw [if_pos hw]
  obtain ⟨v', w', hrun, r1, r2, _, r4⟩ := run_append_own_at (P := Try.prog) (w := W4.alloc (.cells #[u] t)) base 27 o.type 22 i0 (.slice none 0 0) 1 24 Try.underlying27 hi0 hz0 hz1 hz2 rfl (by decide) v n xs (hown.alloc _) ⟨W4.heap.size, 0, none⟩ 1 1 [u] rfl (cell_one_new _ _ _) (by intro u' hu'; simp at hu'; subst hu'; exact hu) (by unfold maxLen; omega) (by omega) (by simp; omega)
  unfold Oper.wp
  simp [execOp, hop, resolve, invoke, builtin, hs, hx, hrun, Result.andThen, Oper.upon]
  exact hK v' w' r1 r2 r4

theorem cls_keep {base : Nat} {S : Nat → Prop} {W W4 w5 : World} {v u : Value} {xs : List Value} {ls : List (List Int)} {o2 : Obj} {C o : Nat} (h : ClsV base S W v xs ls) (hb : Below W.heap.size W W4) (hg : (W4.alloc o2).grownBy w5 v.ownBlock) (hC : C < W.heap.size) (hc : W.cell? ⟨C, o, none⟩ = some u) (hbase : C < base := by omega) : w5.cell? ⟨C, o, none⟩ = some u := by
  have hb2 : Below W.heap.size W (W4.alloc o2) := hb.alloc hb.size o2
  refine (World.cell?_of_block (w := W) ((hg.block C (Nat.lt_of_lt_of_le hC hb2.size) (fun e => ?_)).trans (hb2.block C hC))).trans hc
  have := (h.row.lt C e.symm).1
  omega
theorem ClsV.weaken {base : Nat} {S T : Nat → Prop} {W : World} {v : Value} {xs : List Value} {ls : List (List Int)} (h : ClsV base S W v xs ls) (hT : ∀ b, T b → S b) : ClsV base T W v xs ls :=
  ⟨h.row, fun b hb => h.out b (hT b hb), fun j l hj => by obtain ⟨u, q1, q2, q3⟩ := h.inn j l hj; exact ⟨u, q1, q2, fun hn b hb => q3 hn b (hT b hb)⟩⟩
/-- A post-condition of a region that ends as it should. -/
def normR (QQ : Act → World → Prop) : Exit → Act → World → Prop
  | .normal, a, w => QQ a w
  | _, _, _ => False
/-- A region with a post-condition of its own, told by the frame at its beginning. -/
theorem region_own {P : Program} {c : Code} {Q : Exit → Act → World → Prop} {a : Act} {w : World} (QQ : Act → Act → World → Prop) (hi : ∀ a' w', QQ a a' w' → Q .normal a' w') (h : c.wp P (normR (QQ a)) a w) : c.wp P Q a w :=
  Code.wp_mono (fun e a' w' h => by
    cases e <;> first | exact hi _ _ h | exact (h : False).elim) h
/-- The classes of the first k blocks; all classes. -/
def clL (b g : Nat → Int) : Nat → List (List Int)
  | 0 => []
  | k + 1 => clL b g k ++ [mb (firF b g k)]
def nevF (r : Nat) (b g : Nat → Int) (m : Nat) : Nat := cut5 (2 ^ r - 1) (nuF b g m)
def clA (r : Nat) (b g : Nat → Int) (m : Nat) : List (List Int) := clL b g m ++ [mb (nevF r b g m)]
theorem clL_len (b g : Nat → Int) : ∀ k, (clL b g k).length = k
  | 0 => rfl
  | k + 1 => by show (clL b g k ++ [mb (firF b g k)]).length = k + 1; simp [clL_len b g k]
/-- What Classes gives, and its error. -/
def csV (r : Int) (b : Nat → Int) (n : Nat) (g : Nat → Int) (m : Nat) : List (List Int) := if ckB r b n true g m = 0 then clA r.toNat b g m else []
def RetLE (W : World) (ls : List (List Int)) (E : Int) (e : Ending) (w' : World) : Prop :=
  ∃ A c, e = .returned (.tuple #[.slice A ls.length c, .int .i64 E]) ∧ ls.length ≤ c ∧ c ≤ 9223372036854775807 ∧ LHas w' A ls.length (fun k => ls.getD k []) ∧ Below W.heap.size W w'
set_option maxHeartbeats 16000000 in
set_option maxRecDepth 100000 in
theorem Classes_yes (r : Int) (A : Option Addr) (n c : Nat) (b : Nat → Int) (G : Option Addr) (m d : Nat) (g : Nat → Int) (w : World) (hn : n ≤ c) (hc : c ≤ 9223372036854775807) (hm : m ≤ d) (hd : d ≤ 9223372036854775807) (hp : IHas w A n b) (hq : IHas w G m g) (h0 : ckB r b n true g m = 0) (hm1 : m ≤ 10000) :
    Calls Try.prog 6 #[.int .i64 r, .slice A n c, .slice G m d] w (RetLE w (clA r.toNat b g m) 0) := by
  have HP := Lib.hid hp
  have HQ := Lib.hid hq
  have H2 := Lib.hid (checkedBlocks_any r A n c b true G m d g w hn hc hm hd hp hq)
  rw [h0] at H2
  obtain ⟨hv, hx8, hg, hx9⟩ := ckB_zero h0
  clear hx8 hx9
  have hlt := vB_lt hv
  have HLT := Lib.hid (And.intro hlt hg)
  have HNU := Lib.hid (fun j (hj : j ≤ m) => nuF_lt hlt (k := j) (fun i hi => hg i (by omega)))
  have HF := Lib.hid (fun w hp hq => firsts_any A n c b G m d g w hp hq)
  have H3 := Lib.hid (fun w hp hq => numb_any A n c b G m d g w (by omega) hlt hg hp hq)
  have hr := vB_is hv
  obtain ⟨⟨hr1, hr2⟩, hx8, hx9⟩ := hr
  clear hx8 hx9
  obtain ⟨q, rfl⟩ : ∃ q : Nat, r = (q : Int) := ⟨r.toNat, by omega⟩
  rw [show ((q : Int)).toNat = q from rfl]
  have hpw : 2 ^ q ≤ 2 ^ 12 := Nat.pow_le_pow_right (by omega) (by omega)
  have H4 := Lib.hid (fun w => everywhere_any q (by omega) w)
  have HCUT := Lib.hid (andNot5 (2 ^ q - 1) (nuF b g m) (by omega) (by have := HNU.out m (Nat.le_refl _); omega))
  have HNV := Lib.hid (show nevF q b g m = cut5 (2 ^ q - 1) (nuF b g m) from rfl)
  have HNL := Lib.hid (show nevF q b g m < 4096 from by
    have := cut5_le (2 ^ q - 1) (nuF b g m)
    unfold nevF
    omega)
  have H5 := Lib.hid (fun w => members_any (nevF q b g m) HNL.out w)
  have HCA := Lib.hid (show clA q b g m = clL b g m ++ [mb (nevF q b g m)] from rfl)
  have HB0 := Lib.hid (Below.refl w.heap.size w)
  clear hp hq h0 hv hg hlt hr1
  refine (callsIn_wide (n := 9)).1 ?_
  refine callsIn_of_wp_marks Try.func6 rfl trivial ?_ rfl
  simp only [Try.ntmps6, List.size_toArray, List.length_cons, List.length_nil, Nat.reduceAdd, Nat.reduceSub, Array.replicate_succ, Array.replicate_zero, List.push_toArray, List.append_toArray, List.nil_append, List.cons_append]
  gi_wp2_with (first
    | (refine ⟨trivial, ?_⟩; gi_at_call 13; refine (callsIn_wide.2 H2.out).mono ?_; rintro e w2 ⟨rfl, hb2⟩; have HB2 := Lib.hid hb2; have HBC := Lib.hid (show Below w2.heap.size w2 (w2.alloc (.cells #[.slice none 0 0] 27)) from (Below.refl _ _).alloc (Nat.le_refl _) _); have ZC := Lib.hid (new_at w2 (.cells #[.slice none 0 0] 27) _ rfl); have SC := Lib.hid (show (w2.alloc (.cells #[.slice none 0 0] 27)).heap.size = w2.heap.size + 1 from by simp); clear hb2)
    | (refine ⟨trivial, ?_⟩; gi_at_call 16; refine (callsIn_wide.2 (HF.out _ (HP.out.later (bthen HB2.out HBC.out)) (HQ.out.later (bthen HB2.out HBC.out)))).mono ?_; rintro e w3 ⟨rfl, hfi, hsz, hb3⟩; have HB3 := Lib.hid (bthen (bthen HB2.out HBC.out) hb3); have HI3 := Lib.hid (And.intro hfi hsz); have U := Lib.hid ((hb3.block _ (lt_of_heap ZC.out)).trans ZC.out); clear hfi hsz hb3))
  obtain ⟨C, hC⟩ : ∃ C, C = w2.heap.size := ⟨_, rfl⟩
  have HWC := Lib.hid (show w.heap.size ≤ C from by rw [hC]; exact HB2.out.size)
  rw [SC.out] at HI3
  rw [← hC] at HI3 U
  try rw [SC.out]
  try rw [← hC]
  clear hC
  obtain ⟨ents, hents⟩ : ∃ ents : List (Nat × Obj), ents = [(C + 1, .cells #[.slice A n c] 22), (C + 1 + 1, .cells #[.slice G m d] 22)] := ⟨_, rfl⟩
  have HE := Lib.hid (show (C + 1, Obj.cells #[.slice A n c] 22) ∈ ents ∧ (C + 1 + 1, Obj.cells #[.slice G m d] 22) ∈ ents from by rw [hents]; simp)
  have HX3 := Lib.hid (show ClsAt w C ents (clL b g 0) (fun _ => False) w3 from by
    have h1 := HI3.out.2
    have h3 := HWC.out
    refine ⟨⟨HB3.out, fun _ h => h.elim, by omega, ⟨by omega, fun x hx => ?_⟩, fun x hx => ?_⟩, ⟨h3, fun x hx => ?_⟩, _, [], U.out, ⟨World.ownsRow_nil _ _ _ _, fun _ h => h.elim, fun j (l : List Int) hj => by simp [clL] at hj⟩⟩
    · rw [hents] at hx
      simp only [List.mem_cons, List.not_mem_nil, or_false] at hx
      rcases hx with rfl | rfl <;> (dsimp only; omega)
    · rw [hents] at hx
      simp only [List.mem_cons, List.not_mem_nil, or_false] at hx
      rcases hx with rfl | rfl
      · exact HI3.out.1.1
      · exact HI3.out.1.2.1
    · rw [hents] at hx
      simp only [List.mem_cons, List.not_mem_nil, or_false] at hx
      rcases hx with rfl | rfl <;> (dsimp only; omega))
  clear hents
  refine range_S rfl (by omega) (gf := 40) (lb := #[.pointer (some ⟨C + 1 + 1, 0, none⟩), .pointer (some ⟨C + 1, 0, none⟩)]) rfl trivial (enters_of Try.func40 (by kernel_rfl) rfl) (firEnc b g) m (fun _ => rfl)
    (Rd := FirIn (C + 1) A n c b G m d g) (fun j S W => ClsAt w C ents (clL b g j) S W) (fun _ _ _ => False)
    (fun j S W W' h hc => h.calm hc) (fun _ _ _ _ h _ => h) (fun j S W h => ⟨h.1.ent _ HE.out.1, h.1.ent _ HE.out.2, HP.out.later h.1.below, HQ.out.later h.1.below⟩) (firsts_iter _ (C + 1) A n c b G m d g (by omega) HLT.out.1 HLT.out.2) HX3.out ?round ?done ?stop
  case stop =>
    intro _ D S W _ _ h
    exact h.elim
  case done =>
    rintro D S W hD hSD hX hK
    obtain ⟨hfx, hwc, v0, xs, hC0, hV0⟩ := hX
    have HK := Lib.hid hK
    have HX := Lib.hid hfx
    have HV0 := Lib.hid hV0
    have HC0 := Lib.hid hC0
    have hD2 := hfx.own D hSD
    have HSD := Lib.hid hSD
    have HSB := Lib.hid (show C + 3 ≤ W.heap.size from hfx.size)
    obtain ⟨c0, _⟩ := cell1_of5 hC0
    have l0 := lt_of_heap hC0
    have hcut := HCUT.out
    rw [← HNV.out] at hcut
    obtain ⟨AA0, NN0, CC0, hvv⟩ := isSlice hV0.row
    subst hvv
    clear hfx hwc hC0 hV0 hK
    gi_wp2_with (first
      | (refine ⟨trivial, ?_⟩; gi_at_call 18; refine (callsIn_wide.2 (H4.out _)).mono ?_; rintro e w4 ⟨rfl, hb4⟩; have HB4 := Lib.hid hb4; clear hb4)
      | (refine ⟨trivial, ?_⟩; gi_at_call 19; refine (callsIn_wide.2 (H3.out _ (HP.out.later (bthen HX.out.below HB4.out)) (HQ.out.later (bthen HX.out.below HB4.out)))).mono ?_; rintro e w5 ⟨rfl, hb5⟩; have HB5 := Lib.hid (bthen HB4.out hb5); have c5 := (HB5.out.cell (p := ⟨C, 0, none⟩) l0).trans c0; have l5 := Nat.lt_of_lt_of_le l0 HB5.out.size; clear hb5 c0 l0))
    have HB5' := HB5.out
    have HBW := Lib.hid (bthen HX.out.below HB5.out)
    have HV5 := Lib.hid (HV0.out.later HB5.out)
    have HK5 := Lib.hid ((HB5.out.block _ (lt_of_heap HK.out)).trans HK.out)
    have HSL := Lib.hid (show D < W.heap.size from lt_of_heap HK.out)
    have HB35 := Lib.hid (show C + 3 ≤ w5.heap.size from Nat.le_trans HSB.out HB5.out.size)
    have HOB := Lib.hid (show ∀ g, (Value.slice AA0 NN0 CC0).ownBlock = some g → g < w5.heap.size from fun g e => (HV5.out.row.lt g e).2)
    have hlsn : (clL b g m).length ≤ 100000 := by rw [clL_len]; omega
    clear HB5'
    generalize nevF q b g m = fx at *
    generalize clL b g m = ls at *
    gi_wp2
    refine wpIn_wide.2 ?_
    refine region_own (fun a a' w' => ∃ (v' u36 u37 u38 u39 : Value), a' = ((((((a.put (some 36) u36).put (some 37) u37).put (some 38) u38).put (some 39) u39).put (some 40) v').put (some 6) v').put (some 7) (.int .i64 0) ∧ (∃ xs', ClsV (C + 3) (fun b => b = D) w' v' xs' (ls ++ [mb fx])) ∧ Below w.heap.size w w' ∧ w'.heap[D]? = some (.deferred (some []))) ?after ?reg
    case reg =>
      go_region_held_law (fun W' => W'.cell? ⟨C, 0, none⟩ = some (Value.slice AA0 NN0 CC0) ∧ C < W'.heap.size) (first | exact ⟨c5, l5⟩ | exact ⟨(HB6.out.cell (p := ⟨C, 0, none⟩) l5).trans c5, Nat.lt_of_lt_of_le l5 HB6.out.size⟩ | exact ⟨((HB6.out.alloc HB6.out.size _).cell (p := ⟨C, 0, none⟩) l5).trans c5, Nat.lt_of_lt_of_le l5 (HB6.out.alloc HB6.out.size _).size⟩ | exact ⟨HC7.out, HL7.out⟩)
        (first
          | (go_at_call 17; refine (H5.out _).mono ?_; rintro e w6 ⟨A7, c7, rfl, q1, q2, q3, q4, hb6⟩; have HB6 := Lib.hid (bthen (below_drawn (Below.refl _ w5)) hb6); have HIN := Lib.hid (inner_of (W := w5) (W' := w6) (base := C + 3) (ob := (Value.slice AA0 NN0 CC0).ownBlock) (l := mb fx) HB35.out HOB.out rfl q1 q2 q3 q4); have HFR := Lib.hid (outS_new (S := fun b => b < w5.heap.size) (n := (mb fx).length) (c := c7) (l := mb fx) (fun _ h => h) q3); clear q1 q2 q3 q4 hb6)
          | (refine step_push rfl _ _ rfl (C + 3) (Value.slice AA0 NN0 CC0) ls.length xs rfl (owns_later HV5.out.row HB6.out) rfl rfl (Nat.le_trans HB35.out HB6.out.size) hlsn ?_; intro v7 w7 hown7 hgrow7 hloc7; have HW7 := Lib.hid (And.intro hown7 (And.intro hgrow7 hloc7)); have HC7 := Lib.hid (cls_keep (o := 0) HV5.out HB6.out hgrow7 l5 c5); have HL7 := Lib.hid (Nat.lt_of_lt_of_le l5 (Nat.le_trans (HB6.out.alloc HB6.out.size _).size hgrow7.size)); clear hown7 hgrow7 hloc7))
      show ∃ (v' u36 u37 u38 u39 : Value), _ ∧ _
      have HFI := Lib.hid (show (∃ xs', ClsV (C + 3) (fun b => b = D) w7 v7 xs' (ls ++ [mb fx])) ∧ Below w.heap.size w w7 ∧ w7.heap[D]? = some (.deferred (some [])) from by
        have h1 : ClsV (C + 3) (fun b => b = D) w5 (Value.slice AA0 NN0 CC0) xs ls := HV5.out.weaken (fun b h => by rw [h]; exact HSD.out)
        have hDs : ∀ b, b = D → b < w5.heap.size := fun b h => by rw [h]; exact Nat.lt_of_lt_of_le HSL.out HB5.out.size
        have hal := fun (o : Obj) => (show Below w6.heap.size w6 (w6.alloc o) from (Below.refl _ _).alloc (Nat.le_refl _) o)
        refine ⟨⟨_, (h1.later (HB6.out.alloc HB6.out.size _)).more (HIN.out.later (hal _)) (fun hn b hb => HFR.out hn b (hDs b hb)) HW7.out.1 HW7.out.2.1 HW7.out.2.2 (fun b h => Nat.lt_of_lt_of_le (hDs b h) (HB6.out.alloc HB6.out.size _).size)⟩, ?_⟩
        have hB := fun (o : Obj) => (show Below w.heap.size w (w6.alloc o) from bthen HBW.out (HB6.out.alloc HB6.out.size o))
        refine ⟨(hB _).grown HW7.out.2.1 (hB _).size (fun j hj => ?_), (HW7.out.2.1.block D (Nat.lt_of_lt_of_le (lt_of_heap HK5.out) (HB6.out.alloc HB6.out.size _).size) (fun e => HV5.out.out D HSD.out e.symm)).trans (((HB6.out.alloc HB6.out.size _).block D (lt_of_heap HK5.out)).trans HK5.out)⟩
        have h2 := (HV5.out.row.lt j hj).1
        have h3 := HWC.out
        omega)
      try simp only [Act.put, List.setIfInBounds_toArray, List.set_cons_zero, List.set_cons_succ]
      exact ⟨_, _, _, _, _, rfl, HFI.out⟩
    case after =>
      rintro a' w' ⟨v', u36, u37, u38, u39, rfl, ⟨xs', hV⟩, hb', hKD⟩
      try simp only [Act.put, List.setIfInBounds_toArray, List.set_cons_zero, List.set_cons_succ]
      have HB' := Lib.hid hb'
      have HKD := Lib.hid hKD
      obtain ⟨A9, c9, hv9, r1, r2, _, r4⟩ := (hV.calm (CalmS.putObj w' (.deferred none) (l := D) rfl)).lists.has
      subst hv9
      have HR := Lib.hid (And.intro r1 (And.intro r2 r4))
      clear hV hb' hKD r1 r2 r4
      gi_wp2
      refine ⟨by simp, .inl ⟨_, _, rfl, run_takeDeferred HKD.out, ?_⟩⟩
      refine ⟨.tuple #[.slice A9 (ls ++ [mb fx]).length c9, .int .i64 0], by simp [results, Try.results6, go_sem], ?_⟩
      rw [HCA.out]
      exact ⟨A9, c9, rfl, HR.out.1, HR.out.2.1, HR.out.2.2, below_put5 HB'.out _ (by have := HWC.out; omega)⟩
  case round =>
    rintro l j S W hj hX hSl hl1 hl2 hSb
    have HX := Lib.hid hX
    have HSB := Lib.hid hSb
    clear hX hSb
    dsimp only [firEnc]
    gi_wp2
    refine ⟨HoldsS.refl _, HX.out, fun o hI hlo => ?_⟩
    obtain ⟨W2, hW2⟩ : ∃ W2, W.putObj l (.loop o) = W2 := ⟨_, rfl⟩
    have hs2 : W2.heap.size = W.heap.size := by rw [← hW2]; simp
    rw [hW2] at hI hlo ⊢
    rw [growS_same (by rw [hs2])] at hI
    have HSB2 := Lib.hid (show ∀ b, S b → b < W2.heap.size from fun b' hb' => by have := (HSB.out b' hb').2; omega)
    obtain ⟨hfx, hwc, v0, xs, hC0, hV0⟩ := hI
    have HX2 := Lib.hid (And.intro hfx hwc)
    have HV0 := Lib.hid hV0
    have HC0 := Lib.hid hC0
    have HBASE := Lib.hid (show C + 3 ≤ W2.heap.size from hfx.size)
    have HOB := Lib.hid (show ∀ g, v0.ownBlock = some g → g < W2.heap.size from fun g e => (hV0.row.lt g e).2)
    obtain ⟨AA0, NN0, CC0, hvv0⟩ := isSlice hV0.row
    subst hvv0
    obtain ⟨hC0c, _⟩ := cell1_of5 hC0
    have hCl := lt_of_heap hC0
    have hC0 := hC0c
    have hlsn : (clL b g j).length ≤ 100000 := by rw [clL_len]; omega
    clear hlo hW2 HX HSB hl1 hl2 hSl hs2 hfx hwc hV0 hC0c
    have HFB := Lib.hid (show firF b g j < 4096 from by
      have h1 := HLT.out.2 j hj
      have h2 := HLT.out.1 (g j).toNat (by omega)
      have h3 := cut5_le (b (g j).toNat).toNat (nuF b g j)
      unfold firF
      omega)
    have HM := Lib.hid (fun w => members_any (firF b g j) HFB.out w)
    have HCL := Lib.hid (show clL b g (j + 1) = clL b g j ++ [mb (firF b g j)] from rfl)
    generalize firF b g j = fx at *
    generalize clL b g j = ls at *
    have HFIN := Lib.hid (fun (W6 : World) (h : HoldsS S W2 W6 ∧ ClsAt w C ents (ls ++ [mb fx]) S W6) => show HoldsS S W2 W6 ∧ ClsAt w C ents (clL b g (j + 1)) S W6 from by rw [HCL.out]; exact h)
    gi_wp2
    refine wpIn_region_any (by kernel_rfl) ?_
    try (change wpAnyIn _ _ _ _ _ _ _ _ _ (World.drew _))
    refine wpAnyIn_ready (rs := [0, 1]) (by kernel_rfl) (by simp) ?_
    refine AllReadyIn.cons rfl (fun K hK => ?_) (AllReadyIn.cons rfl (fun K hK => ?_) AllReadyIn.nil)
    · go_simp
      refine hK _ _ ?_
      clear hK K
      try simp only [Act.put, List.setIfInBounds_toArray, List.set_cons_zero, List.set_cons_succ]
      refine wpAnyIn_ready (rs := [1]) (by kernel_rfl) (by simp) ?_
      refine AllReadyIn.cons rfl (fun K hK => ?_) AllReadyIn.nil
      · go_simp
        refine hK _ _ ?_
        clear hK K
        try simp only [Act.put, List.setIfInBounds_toArray, List.set_cons_zero, List.set_cons_succ]
        refine wpAnyIn_ready (rs := [2]) (by kernel_rfl) (by simp) ?_
        refine AllReadyIn.cons rfl (fun K hK => ?_) AllReadyIn.nil
        · go_simp
          refine ⟨trivial, ?_⟩
          refine (CallsIn.inRound l (callsIn_wide.2 (HM.out _))).mono ?_
          rintro e w4 ⟨A7, c7, rfl, q1, q2, q3, q4, hb4⟩
          have HB4 := Lib.hid (bthen (below_drawn (Below.refl _ W2)) hb4)
          have hC4 := (HB4.out.cell (p := ⟨C, 0, none⟩) hCl).trans hC0
          have hCl4 := Nat.lt_of_lt_of_le hCl HB4.out.size
          have HIN := Lib.hid (inner_of (W := W2) (W' := w4) (base := C + 3) (ob := (Value.slice AA0 NN0 CC0).ownBlock) (l := mb fx) HBASE.out HOB.out rfl q1 q2 q3 q4)
          have HFR := Lib.hid (outS_new (n := (mb fx).length) (c := c7) (l := mb fx) HSB2.out q3)
          clear q1 q2 q3 q4 hb4
          refine hK _ _ ?_
          clear hK K
          try simp only [Act.put, List.setIfInBounds_toArray, List.set_cons_zero, List.set_cons_succ]
          refine wpAnyIn_ready (rs := [3]) (by kernel_rfl) (by simp) ?_
          refine AllReadyIn.cons rfl (fun K hK => ?_) AllReadyIn.nil
          · go_simp
            refine hK _ _ ?_
            clear hK K
            try simp only [Act.put, List.setIfInBounds_toArray, List.set_cons_zero, List.set_cons_succ]
            refine wpAnyIn_ready (rs := [4]) (by kernel_rfl) (by simp) ?_
            refine AllReadyIn.cons rfl (fun K hK => ?_) AllReadyIn.nil
            · rw [if_pos (by rfl)]
              refine opIn_append _ _ rfl (C + 3) (.slice AA0 NN0 CC0) ls.length xs rfl (owns_later HV0.out.row HB4.out) rfl rfl (Nat.le_trans HBASE.out HB4.out.size) hlsn ?_
              intro v5 w5 hown5 hgrow5 hloc5
              have HP5 := Lib.hid (ClsAt.more HX2.out.1 HX2.out.2 HC0.out HV0.out HSB2.out HB4.out HIN.out HFR.out hown5 hgrow5 hloc5)
              obtain ⟨g5, f5⟩ := cell1_of5 HP5.out.1
              have hCl5 := lt_of_heap HP5.out.1
              obtain ⟨AA, NN, CC, hvv⟩ := isSlice hown5
              subst hvv
              clear hown5 hgrow5 hloc5
              refine hK _ _ ?_
              clear hK K
              try simp only [Act.put, List.setIfInBounds_toArray]
              refine wpAnyIn_ready (rs := [5]) (by kernel_rfl) (by simp) ?_
              refine AllReadyIn.cons rfl (fun K hK => ?_) AllReadyIn.nil
              · go_simp
                refine hK _ _ ?_
                clear hK K
                try simp only [Act.put, List.setIfInBounds_toArray]
                refine wpAnyIn_done (by kernel_rfl) ?_ _
                exact HFIN.out _ HP5.out.2
    · go_simp
      refine hK _ _ ?_
      clear hK K
      try simp only [Act.put, List.setIfInBounds_toArray, List.set_cons_zero, List.set_cons_succ]
      refine wpAnyIn_ready (rs := [0, 2]) (by kernel_rfl) (by simp) ?_
      refine AllReadyIn.cons rfl (fun K hK => ?_) (AllReadyIn.cons rfl (fun K hK => ?_) AllReadyIn.nil)
      · go_simp
        refine hK _ _ ?_
        clear hK K
        try simp only [Act.put, List.setIfInBounds_toArray, List.set_cons_zero, List.set_cons_succ]
        refine wpAnyIn_ready (rs := [2]) (by kernel_rfl) (by simp) ?_
        refine AllReadyIn.cons rfl (fun K hK => ?_) AllReadyIn.nil
        · go_simp
          refine ⟨trivial, ?_⟩
          refine (CallsIn.inRound l (callsIn_wide.2 (HM.out _))).mono ?_
          rintro e w4 ⟨A7, c7, rfl, q1, q2, q3, q4, hb4⟩
          have HB4 := Lib.hid (bthen (below_drawn (Below.refl _ W2)) hb4)
          have hC4 := (HB4.out.cell (p := ⟨C, 0, none⟩) hCl).trans hC0
          have hCl4 := Nat.lt_of_lt_of_le hCl HB4.out.size
          have HIN := Lib.hid (inner_of (W := W2) (W' := w4) (base := C + 3) (ob := (Value.slice AA0 NN0 CC0).ownBlock) (l := mb fx) HBASE.out HOB.out rfl q1 q2 q3 q4)
          have HFR := Lib.hid (outS_new (n := (mb fx).length) (c := c7) (l := mb fx) HSB2.out q3)
          clear q1 q2 q3 q4 hb4
          refine hK _ _ ?_
          clear hK K
          try simp only [Act.put, List.setIfInBounds_toArray, List.set_cons_zero, List.set_cons_succ]
          refine wpAnyIn_ready (rs := [3]) (by kernel_rfl) (by simp) ?_
          refine AllReadyIn.cons rfl (fun K hK => ?_) AllReadyIn.nil
          · go_simp
            refine hK _ _ ?_
            clear hK K
            try simp only [Act.put, List.setIfInBounds_toArray, List.set_cons_zero, List.set_cons_succ]
            refine wpAnyIn_ready (rs := [4]) (by kernel_rfl) (by simp) ?_
            refine AllReadyIn.cons rfl (fun K hK => ?_) AllReadyIn.nil
            · rw [if_pos (by rfl)]
              refine opIn_append _ _ rfl (C + 3) (.slice AA0 NN0 CC0) ls.length xs rfl (owns_later HV0.out.row HB4.out) rfl rfl (Nat.le_trans HBASE.out HB4.out.size) hlsn ?_
              intro v5 w5 hown5 hgrow5 hloc5
              have HP5 := Lib.hid (ClsAt.more HX2.out.1 HX2.out.2 HC0.out HV0.out HSB2.out HB4.out HIN.out HFR.out hown5 hgrow5 hloc5)
              obtain ⟨g5, f5⟩ := cell1_of5 HP5.out.1
              have hCl5 := lt_of_heap HP5.out.1
              obtain ⟨AA, NN, CC, hvv⟩ := isSlice hown5
              subst hvv
              clear hown5 hgrow5 hloc5
              refine hK _ _ ?_
              clear hK K
              try simp only [Act.put, List.setIfInBounds_toArray]
              refine wpAnyIn_ready (rs := [5]) (by kernel_rfl) (by simp) ?_
              refine AllReadyIn.cons rfl (fun K hK => ?_) AllReadyIn.nil
              · go_simp
                refine hK _ _ ?_
                clear hK K
                try simp only [Act.put, List.setIfInBounds_toArray]
                refine wpAnyIn_done (by kernel_rfl) ?_ _
                exact HFIN.out _ HP5.out.2
      · go_simp
        refine ⟨trivial, ?_⟩
        refine (CallsIn.inRound l (callsIn_wide.2 (HM.out _))).mono ?_
        rintro e w4 ⟨A7, c7, rfl, q1, q2, q3, q4, hb4⟩
        have HB4 := Lib.hid (bthen (below_drawn (Below.refl _ W2)) hb4)
        have hC4 := (HB4.out.cell (p := ⟨C, 0, none⟩) hCl).trans hC0
        have hCl4 := Nat.lt_of_lt_of_le hCl HB4.out.size
        have HIN := Lib.hid (inner_of (W := W2) (W' := w4) (base := C + 3) (ob := (Value.slice AA0 NN0 CC0).ownBlock) (l := mb fx) HBASE.out HOB.out rfl q1 q2 q3 q4)
        have HFR := Lib.hid (outS_new (n := (mb fx).length) (c := c7) (l := mb fx) HSB2.out q3)
        clear q1 q2 q3 q4 hb4
        refine hK _ _ ?_
        clear hK K
        try simp only [Act.put, List.setIfInBounds_toArray, List.set_cons_zero, List.set_cons_succ]
        refine wpAnyIn_ready (rs := [0, 3]) (by kernel_rfl) (by simp) ?_
        refine AllReadyIn.cons rfl (fun K hK => ?_) (AllReadyIn.cons rfl (fun K hK => ?_) AllReadyIn.nil)
        · go_simp
          refine hK _ _ ?_
          clear hK K
          try simp only [Act.put, List.setIfInBounds_toArray, List.set_cons_zero, List.set_cons_succ]
          refine wpAnyIn_ready (rs := [3]) (by kernel_rfl) (by simp) ?_
          refine AllReadyIn.cons rfl (fun K hK => ?_) AllReadyIn.nil
          · go_simp
            refine hK _ _ ?_
            clear hK K
            try simp only [Act.put, List.setIfInBounds_toArray, List.set_cons_zero, List.set_cons_succ]
            refine wpAnyIn_ready (rs := [4]) (by kernel_rfl) (by simp) ?_
            refine AllReadyIn.cons rfl (fun K hK => ?_) AllReadyIn.nil
            · rw [if_pos (by rfl)]
              refine opIn_append _ _ rfl (C + 3) (.slice AA0 NN0 CC0) ls.length xs rfl (owns_later HV0.out.row HB4.out) rfl rfl (Nat.le_trans HBASE.out HB4.out.size) hlsn ?_
              intro v5 w5 hown5 hgrow5 hloc5
              have HP5 := Lib.hid (ClsAt.more HX2.out.1 HX2.out.2 HC0.out HV0.out HSB2.out HB4.out HIN.out HFR.out hown5 hgrow5 hloc5)
              obtain ⟨g5, f5⟩ := cell1_of5 HP5.out.1
              have hCl5 := lt_of_heap HP5.out.1
              obtain ⟨AA, NN, CC, hvv⟩ := isSlice hown5
              subst hvv
              clear hown5 hgrow5 hloc5
              refine hK _ _ ?_
              clear hK K
              try simp only [Act.put, List.setIfInBounds_toArray]
              refine wpAnyIn_ready (rs := [5]) (by kernel_rfl) (by simp) ?_
              refine AllReadyIn.cons rfl (fun K hK => ?_) AllReadyIn.nil
              · go_simp
                refine hK _ _ ?_
                clear hK K
                try simp only [Act.put, List.setIfInBounds_toArray]
                refine wpAnyIn_done (by kernel_rfl) ?_ _
                exact HFIN.out _ HP5.out.2
        · go_simp
          refine hK _ _ ?_
          clear hK K
          try simp only [Act.put, List.setIfInBounds_toArray, List.set_cons_zero, List.set_cons_succ]
          refine wpAnyIn_ready (rs := [0]) (by kernel_rfl) (by simp) ?_
          refine AllReadyIn.cons rfl (fun K hK => ?_) AllReadyIn.nil
          · go_simp
            refine hK _ _ ?_
            clear hK K
            try simp only [Act.put, List.setIfInBounds_toArray, List.set_cons_zero, List.set_cons_succ]
            refine wpAnyIn_ready (rs := [4]) (by kernel_rfl) (by simp) ?_
            refine AllReadyIn.cons rfl (fun K hK => ?_) AllReadyIn.nil
            · rw [if_pos (by rfl)]
              refine opIn_append _ _ rfl (C + 3) (.slice AA0 NN0 CC0) ls.length xs rfl (owns_later HV0.out.row HB4.out) rfl rfl (Nat.le_trans HBASE.out HB4.out.size) hlsn ?_
              intro v5 w5 hown5 hgrow5 hloc5
              have HP5 := Lib.hid (ClsAt.more HX2.out.1 HX2.out.2 HC0.out HV0.out HSB2.out HB4.out HIN.out HFR.out hown5 hgrow5 hloc5)
              obtain ⟨g5, f5⟩ := cell1_of5 HP5.out.1
              have hCl5 := lt_of_heap HP5.out.1
              obtain ⟨AA, NN, CC, hvv⟩ := isSlice hown5
              subst hvv
              clear hown5 hgrow5 hloc5
              refine hK _ _ ?_
              clear hK K
              try simp only [Act.put, List.setIfInBounds_toArray]
              refine wpAnyIn_ready (rs := [5]) (by kernel_rfl) (by simp) ?_
              refine AllReadyIn.cons rfl (fun K hK => ?_) AllReadyIn.nil
              · go_simp
                refine hK _ _ ?_
                clear hK K
                try simp only [Act.put, List.setIfInBounds_toArray]
                refine wpAnyIn_done (by kernel_rfl) ?_ _
                exact HFIN.out _ HP5.out.2
end Go.Proofs.Ytecgnjeakgefnaa
