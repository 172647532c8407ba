/- A region with some new variables in it whose places in the order are open: its other operations read or call, and a tail follows. No statement is proved here. -/
import Derived.Test.YtecgnjeakgefnaaDoorORange
namespace Go.Proofs.YtecgnjeakgefnaaDoor.Outl
open Go.ChangeShapes Go.WideShapes Go.ChangeAt Go.RowKit

/-- The worlds in which all that stood in 'W' is as it was, and of which E holds. -/
def Aft (W : World) (E : World → Prop) : Type := { w : World // Below W.heap.size W w ∧ E w }

def Kept (E : World → Prop) : Prop := ∀ x y, E x → Below x.heap.size x y → E y

theorem Aft.call {P : Program} {f : FuncId} {args : Array Value} {v : Value} {W : World} {E : World → Prop} (hE : Kept E) (x : Aft W E)
    (h : Calls P f args x.val fun e w' => e = .returned v ∧ Below x.val.heap.size x.val w') : Calls P f args x.val fun e w'' => e = .returned v ∧ ∃ y : Aft W E, w'' = y.val :=
  h.mono fun _ w' ⟨he, hb⟩ => ⟨he, ⟨w', bthen x.property.1 hb, hE _ _ x.property.2 hb⟩, rfl⟩
theorem Aft.below {W : World} {E : World → Prop} (x : Aft W E) : Below W.heap.size W x.val := x.property.1

def putAll (a : Act) : List (Nat × Value) → Act
  | [] => a
  | p :: ps => putAll (a.put (some p.1) p.2) ps
def setAll (l : Array Bool) : List Nat → Array Bool
  | [] => l
  | i :: is => setAll (l.setIfInBounds i true) is

theorem setAll_size (is : List Nat) : ∀ (l : Array Bool), (setAll l is).size = l.size := by
  induction is with
  | nil => intro l; rfl
  | cons i is ih => intro l; rw [setAll, ih]; simp
theorem setAll_out {j : Nat} {b : Bool} (is : List Nat) : ∀ (l : Array Bool), j ∉ is → (setAll l is).getD j b = l.getD j b := by
  induction is with
  | nil => intro l _; rfl
  | cons i is ih =>
    intro l h
    simp only [List.mem_cons, not_or] at h
    rw [setAll, ih _ h.2, getD_set_ne b (Ne.symm h.1)]
theorem getD_set_eq {l : Array Bool} {i : Nat} {b : Bool} (h : i < l.size) : (l.setIfInBounds i true).getD i b = true := by simp [h]
theorem setAll_in {j : Nat} {b : Bool} (is : List Nat) : ∀ (l : Array Bool), (j ∈ is ∨ l.getD j b = true) → j < l.size → (setAll l is).getD j b = true := by
  induction is with
  | nil => intro l h _; simpa [setAll] using h
  | cons i is ih =>
    intro l h hj
    refine ih _ ?_ (by simpa using hj)
    by_cases e : i = j
    · subst e; exact .inr (getD_set_eq hj)
    · rcases h with h | h
      · simp only [List.mem_cons] at h
        rcases h with h | h
        · exact absurd h.symm e
        · exact .inl h
      · exact .inr (by rw [getD_set_ne b e]; exact h)
theorem setAll_set {i : Nat} (is : List Nat) : ∀ (l : Array Bool), setAll (l.setIfInBounds i true) is = (setAll l is).setIfInBounds i true := by
  induction is with
  | nil => intro l; rfl
  | cons j is ih =>
    intro l
    rw [setAll, setAll, ← ih]
    by_cases e : i = j
    · rw [e]
    · rw [Array.setIfInBounds_comm _ _ e]
theorem setAll_snoc (is : List Nat) (i : Nat) : ∀ (l : Array Bool), setAll l (is ++ [i]) = (setAll l is).setIfInBounds i true := by
  induction is with
  | nil => intro l; rfl
  | cons j is ih => intro l; exact ih _
theorem setAll_same {is js : List Nat} (h : ∀ i, i ∈ is ↔ i ∈ js) (l : Array Bool) : setAll l is = setAll l js := by
  refine Array.ext (by rw [setAll_size, setAll_size]) fun k h1 h2 => ?_
  have e : (setAll l is).getD k false = (setAll l js).getD k false := by
    rw [setAll_size] at h1
    by_cases hk : k ∈ is
    · rw [setAll_in is l (.inl hk) h1, setAll_in js l (.inl ((h k).1 hk)) h1]
    · rw [setAll_out is l hk, setAll_out js l (fun g => hk ((h k).2 g))]
  simpa [h1, h2] using e

theorem putAll_put {d : Nat} {v : Value} (ps : List (Nat × Value)) : ∀ (a : Act), (∀ p ∈ ps, p.1 ≠ d) → putAll (a.put (some d) v) ps = (putAll a ps).put (some d) v := by
  induction ps with
  | nil => intro a _; rfl
  | cons p ps ih =>
    intro a h
    rw [putAll, putAll, ← ih _ fun q hq => h q (by simp [hq])]
    rw [Act.put_comm a _ _ (fun x hx => by
      have := h p (by simp)
      cases hx
      simpa using fun e => this e)]
theorem putAll_snoc (ps : List (Nat × Value)) (p : Nat × Value) : ∀ (a : Act), putAll a (ps ++ [p]) = (putAll a ps).put (some p.1) p.2 := by
  induction ps with
  | nil => intro a; rfl
  | cons q ps ih => intro a; exact ih _

section
variable {F : Fence} {fm : Nat} {P : Program} {ops : Array Oper} {md : Region.Mode}

/-- What the frame at the end holds where the operation writes. -/
def valOf (afin : Act) (o : Oper) : Value := match o.dst with | some d => afin.tmps.getD d undef | none => undef

/-- The first n operations in whatever order, each with the value that the frame at the end has of it. -/
def headW (P : Program) (md : Region.Mode) (ops : Array Oper) (C : World → Prop) (n m g : Nat) (afin : Act) : Nat → Array Bool → Act → Prop
  | 0, listed, a => a = afin ∧ Region.seqB md ops g (n + m) (setAll listed (List.range' n m)) = true ∧ (List.range n).all (fun i => listed.getD i false) = true
  | f + 1, listed, a => (∃ i ∈ Region.ready md ops listed, i < n) ∧
      ∀ i ∈ Region.ready md ops listed, i < n → ∃ o, ops[i]? = some o ∧ YieldsIn P ops C o (valOf afin o) a ∧ headW P md ops C n m g afin f (listed.setIfInBounds i true) (a.put o.dst (valOf afin o))

/-- What is asked of the operations that make the variables, and of the tail. -/
def newsB (md : Region.Mode) (ops : Array Oper) (n m : Nat) : Bool :=
  ((List.range' n m).all fun j => match ops[j]? with
   | some al => al.after.isEmpty && al.guard.isNone && al.dst.isSome && (match al.op with | .defer _ => false | _ => true) && (List.range n).all fun i => match ops[i]? with | some o => o.apart ops al && al.apart ops o && (o.after.all fun e => decide (e.on < n)) | none => false
   | none => false) && ((List.range (n + m)).all fun i => (List.range' (i + 1) (n + m - i)).any fun j => Region.waitsFor md ops j i) && decide (n + m < ops.size) &&
  ((List.range' (n + m + 1) (ops.size - (n + m + 1))).all fun j => Region.waitsFor md ops j (j - 1))

theorem yieldsIn_put {C : World → Prop} {oi oj : Oper} {v : Value} {a : Act} (hap : oi.apart ops oj = true) (hsi : ∀ cs b, oi.op ≠ .select cs b) (hy : YieldsIn P ops C oi v a) (u : Value) : YieldsIn P ops C oi v (a.put oj.dst u) := by
  obtain ⟨_, _, h3⟩ := Oper.apart_spec hap
  exact hy.of_same (execOp_put oi hsi a oj.dst u h3) (wanted_put oi a oj.dst u h3)
theorem yieldsIn_unput {C : World → Prop} {oi oj : Oper} {v u : Value} {a : Act} (hap : oi.apart ops oj = true) (hsj : ∀ cs b, oj.op ≠ .select cs b) (hy : YieldsIn P ops C oj u (a.put oi.dst v)) : YieldsIn P ops C oj u a := by
  obtain ⟨h1, _, _⟩ := Oper.apart_spec hap
  exact hy.of_same (execOp_put oj hsj a oi.dst v h1).symm (wanted_put oj a oi.dst v h1).symm

theorem wpOpIn_of_yieldsIn (hF : WideF F) (hnd : noDefer ops.toList = true) {C : World → Prop} {i : Nat} {o : Oper} {v : Value} {a : Act} {w : World} {K : Act → World → Prop} {Q : Exit → Act → World → Prop} (hi : ops[i]? = some o) (hy : YieldsIn P ops C o v a) (hC : C w)
    (h : ∀ w', C w' → K (a.put o.dst v) w') : wpOpIn F fm P ops Q i K a w :=
  wpOpIn_of_qOp hF hnd (K := fun a' => a' = a.put o.dst v) hC (fun _ w' hw' e => e ▸ h w' hw') (hy.qOp hi rfl)

/-- One of the new variables: where its pointer goes, where it lies, what it holds. -/
structure Born where
  op : Nat
  dst : Nat
  at_ : Nat
  ty : TypeId
  zs : Array Value

def Born.puts (l : List Born) : List (Nat × Value) := l.map fun x => (x.dst, .pointer (some ⟨x.at_, 0, none⟩))
/-- They lie there. -/
def Lie (B : Nat) (l : List Born) (w : World) : Prop := ∀ x ∈ l, B ≤ x.at_ ∧ x.at_ < w.heap.size ∧ w.heap[x.at_]? = some (.cells x.zs x.ty)
theorem Lie.kept (B : Nat) (l : List Born) : Kept (Lie B l) := fun x y h hb z hz => by
  obtain ⟨h1, h2, h3⟩ := h z hz
  exact ⟨h1, Nat.lt_of_lt_of_le h2 hb.size, (hb.block _ h2).trans h3⟩

/-- What is listed waits for nobody that is not. -/
def Closed (md : Region.Mode) (ops : Array Oper) (L : Array Bool) : Prop := ∀ (j : Nat) (o : Oper), ops[j]? = some o → L.getD j false = true → ∀ e ∈ o.after, Region.binds md e = true → L.getD e.on false = true

theorem Closed.set {L : Array Bool} {j : Nat} (h : Closed md ops L) (hj : j ∈ Region.ready md ops L) : Closed md ops (L.setIfInBounds j true) := by
  intro k o hk hl e he hb
  obtain ⟨_, o', ho', hall⟩ := mem_ready.1 hj
  have up : ∀ i, L.getD i false = true → (L.setIfInBounds j true).getD i false = true := fun i hi => by
    by_cases e : j = i
    · subst e
      have : j < L.size := by
        rcases Nat.lt_or_ge j L.size with g | g
        · exact g
        · simp [Array.getD, Nat.not_lt.2 g] at hi
      exact getD_set_eq this
    · rw [getD_set_ne false e]; exact hi
  by_cases ek : j = k
  · subst ek
    obtain rfl : o = o' := Option.some.inj (hk.symm.trans ho')
    exact up _ (hall e he hb)
  · rw [getD_set_ne false ek] at hl
    exact up _ (h k o hk hl e he hb)

theorem wpAny_news (hF : WideF F) (hnd : noDefer ops.toList = true) (hsel : Region.noSelect ops = true) {W : World} {n m g : Nat} {afin : Act} {Q : Exit → Act → World → Prop} (hB : newsB md ops n m = true)
    (ty : Nat → TypeId) (zs : Nat → Array Value) (ds : Nat → Nat)
    (hrun : ∀ j, j ∈ List.range' n m → ∀ al, ops[j]? = some al → al.dst = some (ds j) ∧ ∀ (a : Act) (w : World), (execOp a.eval al).run P w = .ok (.value (.pointer (some ⟨w.heap.size, 0, none⟩))) (w.alloc (.cells (zs j) (ty j))))
    (hL : ∀ (l : List Born) (w : World), (l.map (·.op)).Perm (List.range' n m) → (∀ x ∈ l, x.dst = ds x.op ∧ x.ty = ty x.op ∧ x.zs = zs x.op) → (l.map (·.at_)).Nodup → Below W.heap.size W w → Lie W.heap.size l w →
      ∀ listed, Region.seqB md ops g (n + m) listed = true → wpAnyIn F fm P md ops Q g listed (putAll afin (Born.puts l)) w) :
    ∀ (N f : Nat) (rs : List Nat) (l : List Born) (base : Array Bool) (a : Act) (w : World), N = f + rs.length → base.size = ops.size → (l.map (·.op) ++ rs).Perm (List.range' n m) → (∀ x ∈ l, x.dst = ds x.op ∧ x.ty = ty x.op ∧ x.zs = zs x.op) → (l.map (·.at_)).Nodup →
      (∀ j, n ≤ j → j < ops.size → base.getD j true = false) → Closed md ops (setAll base (l.map (·.op))) → Below W.heap.size W w → Lie W.heap.size l w →
      (∀ (E : World → Prop), Kept E → Nonempty (Aft W E) → headW P md ops (fun w' => ∃ x : Aft W E, w' = x.val) n m g afin f base a) →
      wpAnyIn F fm P md ops Q (N + g) (setAll base (l.map (·.op))) (putAll a (Born.puts l)) w := by
  have hB' := hB
  simp only [newsB, Bool.and_eq_true, List.all_eq_true, decide_eq_true_eq] at hB'
  obtain ⟨⟨⟨b1, b2⟩, b3⟩, b4⟩ := hB'
  have nodup : (List.range' n m).Nodup := List.nodup_range'
  intro N
  induction N with
  | zero =>
    intro f rs l base a w hN hbs hperm hl hnd' hbase hcl hw hlie H
    obtain rfl : f = 0 := by omega
    obtain rfl : rs = [] := List.length_eq_zero_iff.1 (by omega)
    rw [List.append_nil] at hperm
    have H0 := H (fun _ => True) (fun _ _ _ _ => trivial) ⟨⟨_, hw, trivial⟩⟩
    obtain ⟨rfl, hs, _⟩ := H0
    rw [Nat.zero_add]
    exact hL l w hperm hl hnd' hw hlie _ (by rw [setAll_same (js := List.range' n m) (fun i => hperm.mem_iff)]; exact hs)
  | succ N ih =>
    intro f rs l base a w hN hbs hperm hl hnd' hbase hcl hw hlie H
    have hmem : ∀ j, j ∈ l.map (·.op) ∨ j ∈ rs ↔ n ≤ j ∧ j < n + m := fun j => by
      rw [← List.mem_append, hperm.mem_iff, List.mem_range']
      constructor
      · rintro ⟨i, hi, rfl⟩; omega
      · intro h; exact ⟨j - n, by omega, by omega⟩
    have hnodup : (l.map (·.op) ++ rs).Nodup := hperm.nodup_iff.2 nodup
    have hrl : ∀ j ∈ rs, j ∉ l.map (·.op) := fun j hj h => (List.nodup_append.1 hnodup).2.2 j h j hj rfl
    -- an unlisted one among the first, whatever is left
    have hleft : ∃ i, i < n + m ∧ (setAll base (l.map (·.op))).getD i true = false ∧ i ∈ Region.ready md ops (setAll base (l.map (·.op))) := by
      cases rs with
      | cons j rs =>
        obtain ⟨hj1, hj2⟩ := (hmem j).1 (.inr (by simp))
        have hjr : j ∈ List.range' n m := by rw [List.mem_range']; exact ⟨j - n, by omega, by omega⟩
        have hb := b1 j hjr
        cases hal : ops[j]? with
        | none => simp [hal] at hb
        | some al =>
          simp only [hal, Bool.and_eq_true] at hb
          have h0 : al.after = #[] := by simpa using hb.1.1.1.1
          have hu : (setAll base (l.map (·.op))).getD j true = false := by
            rw [setAll_out _ _ (hrl j (by simp))]
            exact hbase j hj1 (Array.getElem?_eq_some_iff.1 hal).1
          exact ⟨j, hj2, hu, mem_ready.2 ⟨hu, al, hal, fun e he => by rw [h0] at he; simp at he⟩⟩
      | nil =>
        have H0 := H (fun _ => True) (fun _ _ _ _ => trivial) ⟨⟨_, hw, trivial⟩⟩
        obtain ⟨f', rfl⟩ : ∃ f', f = f' + 1 := ⟨f - 1, by simp at hN; omega⟩
        obtain ⟨⟨i, hi, hin⟩, _⟩ := H0
        have hni : i ∉ l.map (·.op) := fun h => by have := (hmem i).1 (.inl h); omega
        obtain ⟨hun, o, ho, hall⟩ := mem_ready.1 hi
        have hu : (setAll base (l.map (·.op))).getD i true = false := by rw [setAll_out _ _ hni]; exact hun
        refine ⟨i, by omega, hu, mem_ready.2 ⟨hu, o, ho, fun e he hb => ?_⟩⟩
        by_cases hen : e.on ∈ l.map (·.op)
        · refine setAll_in _ _ (.inl hen) ?_
          have := (hmem e.on).1 (.inl hen)
          omega
        · rw [setAll_out _ _ hen]; exact hall e he hb
    rw [Nat.add_right_comm]
    refine ⟨fun h0 => ?_, fun j hj => ?_⟩
    · obtain ⟨i, _, _, hi⟩ := hleft
      rw [h0] at hi; cases hi
    · obtain ⟨hjun, o, ho, hall⟩ := mem_ready.1 hj
      have hjs : j < ops.size := (Array.getElem?_eq_some_iff.1 ho).1
      have hjl : j ∉ l.map (·.op) := fun h => by rw [setAll_in _ _ (.inl h) (by omega)] at hjun; cases hjun
      rcases Nat.lt_or_ge j n with hjn | hjn
      · -- one of the first
        have hafter : ∀ x ∈ List.range' n m, ∀ al, ops[x]? = some al → o.apart ops al = true ∧ al.apart ops o = true ∧ ∀ e ∈ o.after, e.on < n := fun x hx al hal => by
          have hb := b1 x hx
          simp only [hal, Bool.and_eq_true, List.all_eq_true, List.mem_range] at hb
          have h3 := hb.2 j hjn
          simp only [ho, Bool.and_eq_true, Array.all_eq_true', decide_eq_true_eq] at h3
          exact ⟨h3.1.1, h3.1.2, h3.2⟩
        have hr : j ∈ Region.ready md ops base := by
          refine mem_ready.2 ⟨by rwa [setAll_out _ _ hjl] at hjun, o, ho, fun e he hb => ?_⟩
          have h1 := hall e he hb
          rwa [setAll_out _ _ (fun hin => by
            have h2 := (hmem e.on).1 (.inl hin)
            obtain ⟨x, hx, hxe⟩ := List.mem_map.1 hin
            have hx' : x.op ∈ List.range' n m := hperm.mem_iff.1 (by simp; exact .inl ⟨x, hx, rfl⟩)
            have hb := b1 x.op hx'
            cases hal : ops[x.op]? with
            | none => simp [hal] at hb
            | some al => have := (hafter x.op hx' al hal).2.2 e he; omega)] at h1
        obtain ⟨f', rfl⟩ : ∃ f', f = f' + 1 := by
          cases f with
          | succ f' => exact ⟨f', rfl⟩
          | zero =>
            exfalso
            have H0 := H (fun _ => True) (fun _ _ _ _ => trivial) ⟨⟨_, hw, trivial⟩⟩
            have h1 := seqB_ready H0.2.1 j (by
              refine mem_ready.2 ⟨?_, o, ho, fun e he hb => ?_⟩
              · rw [setAll_out _ _ (fun h => by have := (List.mem_range'.1 h); obtain ⟨i, _, hi⟩ := this; omega)]
                exact (mem_ready.1 hr).1
              · obtain ⟨_, o', ho', hall'⟩ := mem_ready.1 hr
                obtain rfl : o = o' := Option.some.inj (ho.symm.trans ho')
                have := hall' e he hb
                by_cases hen : e.on ∈ List.range' n m
                · exact setAll_in _ _ (.inl hen) (by obtain ⟨i, hi, hi'⟩ := List.mem_range'.1 hen; omega)
                · rw [setAll_out _ _ hen]; exact this)
            omega
        have key := H (Lie W.heap.size l) (Lie.kept _ _) ⟨⟨w, hw, hlie⟩⟩
        obtain ⟨o', ho', hy, _⟩ := key.2 j hr hjn
        obtain rfl : o = o' := Option.some.inj (ho.symm.trans ho')
        have hdst : ∀ x ∈ l, ∃ al, ops[x.op]? = some al ∧ al.dst = some x.dst := fun x hx => by
          have hx' : x.op ∈ List.range' n m := hperm.mem_iff.1 (by simp; exact .inl ⟨x, hx, rfl⟩)
          have hb := b1 x.op hx'
          cases hal : ops[x.op]? with
          | none => simp [hal] at hb
          | some al => exact ⟨al, rfl, by rw [(hrun x.op hx' al hal).1, (hl x hx).1]⟩
        have yall : ∀ (l' : List Born) (a : Act), (∀ x ∈ l', x ∈ l) → YieldsIn P ops (fun w' => ∃ x : Aft W (Lie W.heap.size l), w' = x.val) o (valOf afin o) a → YieldsIn P ops (fun w' => ∃ x : Aft W (Lie W.heap.size l), w' = x.val) o (valOf afin o) (putAll a (Born.puts l')) := by
          intro l'
          induction l' with
          | nil => intro a _ h; exact h
          | cons x l' ih' =>
            intro a hsub h
            have hx := hsub x (by simp)
            obtain ⟨al, hal, hd⟩ := hdst x hx
            have hx' : x.op ∈ List.range' n m := hperm.mem_iff.1 (by simp; exact .inl ⟨x, hx, rfl⟩)
            have := yieldsIn_put (hafter x.op hx' al hal).1 (fun cs b => Region.noSelect_spec hsel j o cs b ho) h (.pointer (some ⟨x.at_, 0, none⟩))
            rw [hd] at this
            exact ih' _ (fun y hy => hsub y (by simp [hy])) this
        refine wpOpIn_of_yieldsIn hF hnd ho (yall l a (fun _ h => h) hy) ⟨⟨w, hw, hlie⟩, rfl⟩ fun w' hw' => ?_
        obtain ⟨x, rfl⟩ := hw'
        have hput : (putAll a (Born.puts l)).put o.dst (valOf afin o) = putAll (a.put o.dst (valOf afin o)) (Born.puts l) := by
          cases hod : o.dst with
          | none => rfl
          | some d =>
            refine (putAll_put _ _ fun p hp => ?_).symm
            obtain ⟨x, hx, rfl⟩ := List.mem_map.1 hp
            obtain ⟨al, hal, hd⟩ := hdst x hx
            have hx' : x.op ∈ List.range' n m := hperm.mem_iff.1 (by simp; exact .inl ⟨x, hx, rfl⟩)
            obtain ⟨_, h2, _⟩ := Oper.apart_spec (hafter x.op hx' al hal).1
            intro e
            have := h2 x.dst
            simp_all
        rw [hput, ← setAll_set]
        refine ih f' rs l (base.setIfInBounds j true) _ _ (by omega) (by simpa using hbs) hperm hl hnd' (fun k hk hk' => by rw [getD_set_ne true (by omega)]; exact hbase k hk hk') (by rw [setAll_set]; exact hcl.set hj) x.property.1 x.property.2 fun E hE ne => ?_
        obtain ⟨o', ho', _, H'⟩ := (H E hE ne).2 j hr hjn
        obtain rfl : o = o' := Option.some.inj (ho.symm.trans ho')
        exact H'
      · rcases Nat.lt_or_ge j (n + m) with hjm | hjm
        · -- a new variable
          have hjr : j ∈ rs := ((hmem j).2 ⟨hjn, hjm⟩).resolve_left hjl
          have hjr' : j ∈ List.range' n m := hperm.mem_iff.1 (by simp [hjr])
          have hb := b1 j hjr'
          simp only [ho, Bool.and_eq_true] at hb
          have hgd : o.guard = none := by simpa using hb.1.1.1.2
          have hwant : Region.wanted o (yielded ops (putAll a (Born.puts l)).tmps) = true := by simp [Region.wanted, hgd]
          obtain ⟨hd, hr⟩ := hrun j hjr' o ho
          unfold wpOpIn
          rw [ho]
          simp only [hwant, if_true]
          unfold Oper.wpIn
          refine ⟨fun fn _ => hF.fn fn, ?_⟩
          rw [Oper.semAt_eq _ _ _ (fun c hc => by simp [hc] at hb), hr]
          simp only [Oper.uponIn]
          have e1 : (putAll a (Born.puts l)).put o.dst (.pointer (some ⟨w.heap.size, 0, none⟩)) = putAll a (Born.puts (l ++ [⟨j, ds j, w.heap.size, ty j, zs j⟩])) := by
            unfold Born.puts
            rw [List.map_append, List.map_cons, List.map_nil, putAll_snoc, hd]
          have e2 : (setAll base (l.map (·.op))).setIfInBounds j true = setAll base ((l ++ [(⟨j, ds j, w.heap.size, ty j, zs j⟩ : Born)]).map (·.op)) := by
            rw [List.map_append, List.map_cons, List.map_nil, setAll_snoc]
          rw [e1, e2]
          refine ih f (rs.erase j) _ base a _ (by rw [List.length_erase_of_mem hjr]; have := List.length_pos_of_mem hjr; omega) hbs ?_ ?_ ?_ hbase (by rw [← e2]; exact hcl.set hj) (hw.alloc hw.size _) ?_ H
          · rw [List.map_append, List.map_cons, List.map_nil, List.append_assoc]
            refine List.Perm.trans ?_ hperm
            exact List.Perm.append_left _ (List.perm_cons_erase hjr).symm
          · intro x hx
            rcases List.mem_append.1 hx with hx | hx
            · exact hl x hx
            · simp only [List.mem_singleton] at hx; subst hx; exact ⟨rfl, rfl, rfl⟩
          · rw [List.map_append, List.map_cons, List.map_nil]
            refine List.nodup_append.2 ⟨hnd', by simp, fun x hx y hy => ?_⟩
            simp only [List.mem_singleton] at hy
            subst hy
            obtain ⟨z, hz, rfl⟩ := List.mem_map.1 hx
            have := (hlie z hz).2.1
            show z.at_ ≠ w.heap.size
            omega
          · intro x hx
            rcases List.mem_append.1 hx with hx | hx
            · obtain ⟨h1, h2, h3⟩ := hlie x hx
              exact ⟨h1, by simp; omega, (Below.heap_alloc _ _ _ h2).trans h3⟩
            · simp only [List.mem_singleton] at hx; subst hx
              exact ⟨hw.size, by simp, World.alloc_heap_new w _⟩
        · -- the tail waits
          exfalso
          have hnot : ∀ k, n + m ≤ k → k < ops.size → (setAll base (l.map (·.op))).getD k false = false := fun k hk hk' => by
            rw [setAll_out _ _ (fun h => by have := (hmem k).1 (.inl h); omega)]
            have := hbase k (by omega) hk'
            simp [Array.getD, hbs, hk'] at this ⊢
            exact this
          rcases Nat.eq_or_lt_of_le hjm with hje | hjlt
          · have hall' : ∀ d i, d + i = n + m → i < n + m → (setAll base (l.map (·.op))).getD i false = true := by
              intro d
              induction d using Nat.strongRecOn with
              | ind d ihd =>
                intro i hdi hi
                obtain ⟨k, hk, hkw⟩ := List.any_eq_true.1 (b2 i (by simpa using hi))
                obtain ⟨t, ht, rfl⟩ := List.mem_range'.1 hk
                obtain ⟨oj, hoj, e, he, hb, hon⟩ := Region.waitsFor_spec hkw
                by_cases hlast : i + 1 + 1 * t = n + m
                · rw [hlast, hje] at hoj
                  obtain rfl : o = oj := Option.some.inj (ho.symm.trans hoj)
                  rw [← hon]; exact hall e he hb
                · have hl' := ihd (n + m - (i + 1 + 1 * t)) (by omega) (i + 1 + 1 * t) (by omega) (by omega)
                  rw [← hon]; exact hcl _ _ hoj hl' e he hb
            obtain ⟨i, hi1, hi2, _⟩ := hleft
            have h1 := hall' (n + m - i) i (by omega) hi1
            rw [getD_both hi2] at h1
            cases h1
          · have hjr : j ∈ List.range' (n + m + 1) (ops.size - (n + m + 1)) := List.mem_range'.2 ⟨j - (n + m + 1), by omega, by omega⟩
            obtain ⟨oj, hoj, e, he, hb, hon⟩ := Region.waitsFor_spec (b4 j hjr)
            obtain rfl : o = oj := Option.some.inj (ho.symm.trans hoj)
            have h1 := hall e he hb
            rw [hon, hnot (j - 1) (by omega) (by omega)] at h1
            cases h1

theorem headW_done {C : World → Prop} {n m g i : Nat} {afin : Act} {listed : Array Bool} {a : Act} (h : headW P md ops C n m g afin 0 listed a) (hi : i ∈ Region.ready md ops listed) : n ≤ i := by
  rcases Nat.lt_or_ge i n with hin | hin
  · exfalso
    obtain ⟨hun, o, ho, hall⟩ := mem_ready.1 hi
    have h1 := seqB_ready h.2.1 i (by
      refine mem_ready.2 ⟨?_, o, ho, fun e he hb => ?_⟩
      · rw [setAll_out _ _ (fun h => by obtain ⟨i, _, hi⟩ := List.mem_range'.1 h; omega)]; exact hun
      · have := hall e he hb
        by_cases hen : e.on ∈ List.range' n m
        · by_cases hs : e.on < listed.size
          · exact setAll_in _ _ (.inl hen) hs
          · simp [Array.getD, hs] at this
        · rw [setAll_out _ _ hen]; exact this)
    omega
  · exact hin

theorem headW_first {C : World → Prop} {n m g i : Nat} {oi : Oper} {afin : Act} (hi : ops[i]? = some oi) (hsel : ∀ (j : Nat) (o : Oper) cs b, ops[j]? = some o → o.op ≠ .select cs b) (hin : i < n) (f : Nat) :
    ∀ (listed : Array Bool) (a : Act),
      (∀ j oj, ops[j]? = some oj → j ≠ i → listed.getD j true = false → (∀ e ∈ oj.after, Region.binds md e = true → e.on ≠ i) → oi.apart ops oj = true) →
      i ∈ Region.ready md ops listed → YieldsIn P ops C oi (valOf afin oi) a →
      headW P md ops C n m g afin f (listed.setIfInBounds i true) (a.put oi.dst (valOf afin oi)) → headW P md ops C n m g afin (f + 1) listed a := by
  induction f with
  | zero =>
    intro listed a _ hr hy H
    refine ⟨⟨i, hr, hin⟩, fun j hj hjn => ?_⟩
    by_cases hji : j = i
    · subst hji; exact ⟨oi, hi, hy, H⟩
    · exact absurd (headW_done H (ready_mono hj hji)) (by omega)
  | succ f ih =>
    intro listed a hfree hr hy H
    refine ⟨⟨i, hr, hin⟩, fun j hj hjn => ?_⟩
    by_cases hji : j = i
    · subst hji; exact ⟨oi, hi, hy, H⟩
    obtain ⟨oj, hoj, hyj, Hj⟩ := H.2 j (ready_mono hj hji) hjn
    obtain ⟨hjun, oj', hoj', hall⟩ := mem_ready.1 hj
    obtain rfl : oj = oj' := Option.some.inj (hoj.symm.trans hoj')
    have hun := (mem_ready.1 hr).1
    have hnot : ∀ e ∈ oj.after, Region.binds md e = true → e.on ≠ i := fun e he hb heq => by
      have h1 := hall e he hb
      rw [heq, getD_both hun] at h1
      cases h1
    have hap := hfree j oj hoj hji hjun hnot
    obtain ⟨_, h2, _⟩ := Oper.apart_spec hap
    refine ⟨oj, hoj, yieldsIn_unput hap (fun cs b => hsel j oj cs b hoj) hyj, ih _ _ ?_ (ready_mono hr (Ne.symm hji)) (yieldsIn_put hap (fun cs b => hsel i oi cs b hi) hy _) ?_⟩
    · intro k ok hk hki hunk hno
      refine hfree k ok hk hki ?_ hno
      by_cases hjk : j = k
      · subst hjk; exact hjun
      · rwa [getD_set_ne true hjk] at hunk
    · rw [Array.setIfInBounds_comm _ _ hji, ← Act.put_comm a _ _ h2]
      exact Hj

theorem putD_tmps {a : Act} {d : Nat} (v : Value) (hd : d < a.tmps.size) : (a.put (some d) v).tmps.getD d undef = v := by
  simp [Act.put, hd]
theorem put_tmps_ne {a : Act} {d e : Nat} (v : Value) (h : e ≠ d) : (a.put (some e) v).tmps.getD d undef = a.tmps.getD d undef := by
  simp only [Act.put, Array.getD_eq_getD_getElem?]
  rw [Array.getElem?_setIfInBounds_ne h]
theorem put_size (a : Act) (d : Nat) (v : Value) : (a.put (some d) v).tmps.size = a.tmps.size := by simp [Act.put]

/-- No slot is written twice, and all are slots of the frame. -/
def onceB (m : Nat) : List Oper → Bool
  | [] => true
  | o :: l => (match o.dst with | some d => decide (d < m) && (l.all fun o' => match o'.dst with | some d' => decide (d' ≠ d) | none => false) | none => false) && onceB m l

theorem quiet_keeps {C : World → Prop} {afin : Act} {d : Nat} : ∀ (l : List Oper) (a : Act), (l.all fun o' => match o'.dst with | some d' => decide (d' ≠ d) | none => false) = true →
    wpQuiet P ops C (fun a' => a' = afin) l a → afin.tmps.getD d undef = a.tmps.getD d undef
  | [], a, _, h => by rw [show a = afin from h]
  | o :: l, a, hB, h => by
    simp only [List.all_cons, Bool.and_eq_true] at hB
    obtain ⟨h1, h2⟩ := hB
    cases hd : o.dst with
    | none => simp [hd] at h1
    | some d' =>
      simp only [hd, decide_eq_true_eq] at h1
      unfold wpQuiet at h
      split at h
      · obtain ⟨v, _, h⟩ := h
        rw [quiet_keeps l _ h2 h, hd, put_tmps_ne _ h1]
      · rw [quiet_keeps l _ h2 h, hd, put_tmps_ne _ h1]

def lexW (md : Region.Mode) (ops : Array Oper) (n m g : Nat) : Nat → Nat → Array Bool → Bool
  | 0, _, listed => Region.seqB md ops g (n + m) (setAll listed (List.range' n m)) && (List.range n).all (fun i => listed.getD i false)
  | f + 1, k, listed => (Region.ready md ops listed).contains k && Region.free md ops listed k && lexW md ops n m g f (k + 1) (listed.setIfInBounds k true)

theorem headW_lex {C : World → Prop} {n m g : Nat} {afin : Act} (hsel : Region.noSelect ops = true) :
    ∀ (l : List Oper) (k : Nat) (listed : Array Bool) (a : Act), (∀ j, j < l.length → l[j]? = ops[k + j]?) → k + l.length = n → onceB a.tmps.size l = true →
    lexW md ops n m g l.length k listed = true → wpQuiet P ops C (fun a' => a' = afin) l a → headW P md ops C n m g afin l.length listed a
  | [], _, _, a, _, _, _, hB, h => ⟨h, by simpa [lexW] using hB⟩
  | o :: l, k, listed, a, hl, hk, ho, hB, h => by
    have h0 : ops[k]? = some o := by simpa using (hl 0 (by simp)).symm
    simp only [List.length_cons, lexW, Bool.and_eq_true] at hB
    simp only [List.length_cons] at hk
    simp only [onceB, Bool.and_eq_true] at ho
    obtain ⟨ho1, ho2⟩ := ho
    have hr' : k ∈ Region.ready md ops listed := by simpa using hB.1.1
    have hst : qOp P ops C k (wpQuiet P ops C (fun a' => a' = afin) l) a := by unfold qOp; simp only [h0]; exact h
    obtain ⟨v, hy, hK⟩ := yieldsIn_of_qOp h0 hst
    have hv : v = valOf afin o := by
      cases hd : o.dst with
      | none => simp [hd] at ho1
      | some d =>
        simp only [hd, Bool.and_eq_true, decide_eq_true_eq] at ho1
        rw [hd] at hK
        have := quiet_keeps (d := d) l _ ho1.2 hK
        rw [putD_tmps v ho1.1] at this
        simp only [valOf, hd]
        exact this.symm
    subst hv
    refine headW_first h0 (Region.noSelect_spec hsel) (by omega) l.length listed a (Region.free_spec h0 hB.1.2) hr' hy ?_
    refine headW_lex hsel l (k + 1) _ _ (fun j hj => by have := hl (j + 1) (by simp; omega); simpa [Nat.add_assoc, Nat.add_comm 1 j] using this) (by omega) ?_ hB.2 hK
    cases hd : o.dst with
    | none => simp [hd] at ho1
    | some d => rw [put_size]; exact ho2
end

theorem putAll_perm {ps qs : List (Nat × Value)} (h : ps.Perm qs) : (ps.map (·.1)).Nodup → ∀ a : Act, putAll a ps = putAll a qs := by
  induction h with
  | nil => intro _ a; rfl
  | cons x _ ih => intro hn a; exact ih (List.nodup_cons.1 hn).2 _
  | swap x y l =>
    intro hn a
    simp only [putAll]
    rw [Act.put_comm a _ _ (fun d hd => by
      have := (List.nodup_cons.1 hn).1
      simp at this
      cases hd
      simpa using fun e => this.1 e.symm)]
  | trans h1 h2 ih1 ih2 => intro hn a; rw [ih1 hn a, ih2 ((h1.map _).nodup_iff.1 hn) a]

/-- **A region in whose first operations some new variables are made, wherever in the order, and whose last ones come behind all.** -/
theorem wpIn_region_news {F : Fence} {fm : Nat} (hF : WideF F) {P : Program} {id : Nat} {Q : Exit → Act → World → Prop} {a : Act} {W0 W : World} {l : List Oper} (n m : Nat) (ds : Nat → Nat) (ty : Nat → TypeId) (zs : Nat → Array Value)
    (hW : Below W0.heap.size W0 W) (hm : P.follows .mixedOrders = true) (hsel : Region.noSelect l.toArray = true) (hnd : noDefer l = true) (hB : newsB .any l.toArray n m = true)
    (hlex : lexW .any l.toArray n m (l.length - (n + m)) n 0 (Array.replicate l.toArray.size false) = true) (honce : onceB a.tmps.size (l.take n) = true) (hds : ((List.range' n m).map ds).Nodup)
    (hrun : ∀ j, j ∈ List.range' n m → ∀ al, l.toArray[j]? = some al → al.dst = some (ds j) ∧ ∀ (a : Act) (w : World), (execOp a.eval al).run P w = .ok (.value (.pointer (some ⟨w.heap.size, 0, none⟩))) (w.alloc (.cells (zs j) (ty j))))
    (h : ∃ afin : Act, (∀ E : World → Prop, Kept E → Nonempty (Aft W0 E) → (∀ (x : Aft W0 E) (b o : Nat), b < W0.heap.size → x.val.cell? ⟨b, o, none⟩ = W0.cell? ⟨b, o, none⟩) →
      wpQuiet P l.toArray (fun w' => ∃ x : Aft W0 E, w' = x.val) (fun a' => a' = afin) (l.take n) a) ∧
    ∀ (κ : Nat → Nat) (w' : World), Below W0.heap.size W0 w' → (∀ j, j ∈ List.range' n m → W0.heap.size ≤ κ j ∧ κ j < w'.heap.size ∧ w'.heap[κ j]? = some (.cells (zs j) (ty j))) →
      (∀ i j, i ∈ List.range' n m → j ∈ List.range' n m → i ≠ j → κ i ≠ κ j) → wpListIn F fm P l.toArray Q (l.drop (n + m)) (putAll afin ((List.range' n m).map fun j => (ds j, .pointer (some ⟨κ j, 0, none⟩)))) w') :
    (Code.region id l.toArray true).wpIn F fm P Q a W := by
  obtain ⟨afin, h, htail⟩ := h
  have hB' := hB
  simp only [newsB, Bool.and_eq_true, List.all_eq_true, decide_eq_true_eq] at hB'
  have hsz : n + m < l.length := by simpa using hB'.1.2
  have htl : (l.take n).length = n := by simp; omega
  refine wpIn_region_any hm ?_
  have key := wpAny_news (fm := fm) hF (by simpa using hnd) hsel (md := .any) (W := W0) (g := l.length - (n + m)) (afin := afin) (Q := Q) hB ty zs ds hrun (fun bl w' hperm hl hnda hb hlie listed hsq => by
    have hopn : (bl.map (·.op)).Nodup := hperm.nodup_iff.2 List.nodup_range'
    let κ : Nat → Nat := fun j => ((bl.find? fun x => x.op == j).map (·.at_)).getD 0
    have hκ : ∀ (bl' : List Born), (bl'.map (·.op)).Nodup → ∀ x ∈ bl', bl'.find? (fun y => y.op == x.op) = some x := by
      intro bl'
      induction bl' with
      | nil => intro _ x hx; cases hx
      | cons y bl' ih =>
        intro hn x hx
        rw [List.map_cons, List.nodup_cons] at hn
        rcases List.mem_cons.1 hx with rfl | hx
        · simp
        · rw [List.find?_cons_of_neg (by
            intro e
            exact hn.1 (List.mem_map.2 ⟨x, hx, (show y.op = x.op by simpa using e).symm⟩))]
          exact ih hn.2 x hx
    have hκx : ∀ x ∈ bl, κ x.op = x.at_ := fun x hx => by show ((bl.find? fun y => y.op == x.op).map (·.at_)).getD 0 = _; rw [hκ bl hopn x hx]; rfl
    have hputs : Born.puts bl = (bl.map (·.op)).map fun j => (ds j, Value.pointer (some ⟨κ j, 0, none⟩)) := by
      unfold Born.puts
      rw [List.map_map]
      refine List.map_congr_left fun x hx => ?_
      simp only [Function.comp, hκx x hx, (hl x hx).1]
    have hput : putAll afin (Born.puts bl) = putAll afin ((List.range' n m).map fun j => (ds j, .pointer (some ⟨κ j, 0, none⟩))) := by
      rw [hputs]
      refine putAll_perm (hperm.map _) ?_ afin
      rw [List.map_map]
      exact ((hperm.map ds).nodup_iff).2 hds
    rw [hput]
    have hfrom : ∀ j, j ∈ List.range' n m → ∃ x ∈ bl, x.op = j := fun j hj => by simpa using List.mem_map.1 (hperm.mem_iff.2 hj)
    have := wpAnyIn_of_seq (F := F) (m := fm) (md := .any) (Q' := Q) (l.drop (n + m)) (n + m) listed _ w' (fun j => by simp [List.getElem?_drop]) (by rw [List.length_drop]; exact hsq)
      (htail κ w' hb (fun j hj => by
        obtain ⟨x, hx, rfl⟩ := hfrom j hj
        rw [hκx x hx]
        obtain ⟨h1, h2, h3⟩ := hlie x hx
        exact ⟨h1, h2, by rw [h3, (hl x hx).2.1, (hl x hx).2.2]⟩) (fun i j hi hj hij => by
        obtain ⟨x, hx, rfl⟩ := hfrom i hi
        obtain ⟨y, hy, rfl⟩ := hfrom j hj
        rw [hκx x hx, hκx y hy]
        intro e
        have inj : ∀ (bl' : List Born), (bl'.map (·.at_)).Nodup → ∀ x ∈ bl', ∀ y ∈ bl', x.at_ = y.at_ → x = y := by
          intro bl'
          induction bl' with
          | nil => intro _ x hx; cases hx
          | cons z bl' ih =>
            intro hn x hx y hy e
            rw [List.map_cons, List.nodup_cons] at hn
            rcases List.mem_cons.1 hx with h1 | h1 <;> rcases List.mem_cons.1 hy with h2 | h2
            · rw [h1, h2]
            · exact absurd (List.mem_map.2 ⟨y, h2, by rw [← e, h1]⟩) hn.1
            · exact absurd (List.mem_map.2 ⟨x, h1, by rw [e, h2]⟩) hn.1
            · exact ih hn.2 x h1 y h2 e
        exact hij (by rw [inj bl hnda x hx y hy e])))
    rwa [List.length_drop] at this)
    (n + m) n (List.range' n m) [] (Array.replicate l.toArray.size false) a { W with drawn := W.drawn + 1 } (by simp) (by simp) (by simp) (fun x hx => by cases hx) (by simp)
    (fun j _ hj => getD_in (by simpa using hj) (getD_replicate_false _ _)) (fun j o _ hj => by simp only [List.map_nil, setAll] at hj; rw [getD_replicate_false] at hj; cases hj) hW.drew (fun x hx => by cases hx) (fun E hE ne => by
      have := headW_lex (C := fun w' => ∃ x : Aft W0 E, w' = x.val) (md := .any) (g := l.length - (n + m)) (n := n) (m := m) (afin := afin) hsel (l.take n) 0 (Array.replicate l.toArray.size false) a (fun j hj => by
        rw [htl] at hj
        simp [hj]) (by rw [htl]; omega) honce (by rw [htl]; exact hlex) (h E hE ne fun x b o hb => x.property.1.cell (p := ⟨b, o, none⟩) hb)
      rwa [htl] at this)
  have e : n + m + (l.length - (n + m)) = l.toArray.size := by simp; omega
  rw [e] at key
  exact key
theorem wpIn_region_new2 {F : Fence} {fm : Nat} (hF : WideF F) {P : Program} {id : Nat} {Q : Exit → Act → World → Prop} {a : Act} {W0 W : World} {l : List Oper} (n : Nat) (al0 al1 : Oper) (d0 d1 : Nat) (ty0 ty1 : TypeId) (zs0 zs1 : Array Value)
    (hW : Below W0.heap.size W0 W) (hm : P.follows .mixedOrders = true) (hsel : Region.noSelect l.toArray = true) (hnd : noDefer l = true) (hB : newsB .any l.toArray n 2 = true)
    (hlex : lexW .any l.toArray n 2 (l.length - (n + 2)) n 0 (Array.replicate l.toArray.size false) = true) (honce : onceB a.tmps.size (l.take n) = true)
    (h0 : l.toArray[n + 0]? = some al0) (hd0 : al0.dst = some d0) (hr0 : ∀ (a : Act) (w : World), (execOp a.eval al0).run P w = .ok (.value (.pointer (some ⟨w.heap.size, 0, none⟩))) (w.alloc (.cells zs0 ty0)))
    (h1 : l.toArray[n + 1]? = some al1) (hd1 : al1.dst = some d1) (hr1 : ∀ (a : Act) (w : World), (execOp a.eval al1).run P w = .ok (.value (.pointer (some ⟨w.heap.size, 0, none⟩))) (w.alloc (.cells zs1 ty1)))
    (hds : [d0, d1].Nodup)
    (h : ∃ afin : Act, (∀ E : World → Prop, Kept E → Nonempty (Aft W0 E) → (∀ (x : Aft W0 E) (b o : Nat), b < W0.heap.size → x.val.cell? ⟨b, o, none⟩ = W0.cell? ⟨b, o, none⟩) →
      wpQuiet P l.toArray (fun w' => ∃ x : Aft W0 E, w' = x.val) (fun a' => a' = afin) (l.take n) a) ∧
    ∀ (k0 k1 : Nat) (w' : World), Below W0.heap.size W0 w' → W0.heap.size ≤ k0 → W0.heap.size ≤ k1 → w'.heap[k0]? = some (.cells zs0 ty0) → w'.heap[k1]? = some (.cells zs1 ty1) → k0 ≠ k1 → wpListIn F fm P l.toArray Q (l.drop (n + 2)) ((afin.put (some d0) (.pointer (some ⟨k0, 0, none⟩))).put (some d1) (.pointer (some ⟨k1, 0, none⟩))) w') :
    (Code.region id l.toArray true).wpIn F fm P Q a W := by
  have hidx : ∀ j, j ∈ List.range' n 2 → j = n + 0 ∨ j = n + 1 := fun j hj => by obtain ⟨i, hi, hj⟩ := List.mem_range'.1 hj; omega
  have hin : ∀ i, i < 2 → n + i ∈ List.range' n 2 := fun i hi => by rw [List.mem_range']; exact ⟨i, hi, by omega⟩
  obtain ⟨afin, hh, ht⟩ := h
  refine wpIn_region_news hF n 2 (fun j => if j = n + 0 then d0 else d1) (fun j => if j = n + 0 then ty0 else ty1) (fun j => if j = n + 0 then zs0 else zs1) hW hm hsel hnd hB hlex honce (by simpa [List.range', Nat.add_assoc] using hds) ?_ ⟨afin, hh, fun κ w' hb hk hn => ?_⟩
  · intro j hj al hal
    rcases hidx j hj with rfl | rfl
    · obtain rfl : al0 = al := Option.some.inj (h0.symm.trans hal)
      simp only [hd0]
      simpa using hr0
    · obtain rfl : al1 = al := Option.some.inj (h1.symm.trans hal)
      simp only [hd1]
      simpa using hr1
  · have q0 := hk (n + 0) (hin 0 (by omega))
    have q1 := hk (n + 1) (hin 1 (by omega))
    simp at q0 q1
    have := ht (κ (n + 0)) (κ (n + 1)) w' hb q0.1 q1.1 q0.2.2 q1.2.2 (hn _ _ (hin 0 (by omega)) (hin 1 (by omega)) (by omega))
    simpa [List.range', putAll, Nat.add_assoc] using this

end Go.Proofs.YtecgnjeakgefnaaDoor.Outl
