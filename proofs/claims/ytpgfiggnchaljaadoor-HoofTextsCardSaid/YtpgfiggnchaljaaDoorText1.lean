/- What the functions on texts ask of the world, and the contracts of Format, the code's and the document's; no statement is proved here. -/
import Derived.Test.YtpgfiggnchaljaaDoorKeeps2
import Derived.Test.YtpgfiggnchaljaaDoorTextMath
import Derived.Test.YtpgfiggnchaljaaDoorShelf
import Derived.Lib.LaidTab
import Derived.Laws.Concat
import Derived.Lib.ItoaLen
namespace Go.Proofs.YtpgfiggnchaljaaDoor
open Go.ChangeShapes Go.WideShapes Go.ChangeAt Go.RowKit

theorem below_grow (w : World) (q : Nat) (os : Array Obj) : Below w.heap.size w (Go.Sort.grow (w.drewN q) os) :=
  ⟨rfl, rfl, rfl, by simp [Go.Sort.grow], fun k hk => by
    show (w.heap ++ os)[k]? = w.heap[k]?
    rw [Array.getElem?_append_left hk]⟩

theorem var_later {P : Program} {w w' : World} {n : String} {cs : Array Value} (h : w.var? P n = some cs) (hb : Below w.heap.size w w') : w'.var? P n = some cs := by
  unfold World.var? at h ⊢
  cases hg : P.globalNamed n with
  | none => rw [hg] at h; cases h
  | some g =>
    rw [hg] at h
    simp only [Option.bind_some] at h ⊢
    have hlt : g < w.heap.size := by
      rcases Nat.lt_or_ge g w.heap.size with h' | h'
      · exact h'
      · rw [Array.getElem?_eq_none h'] at h; cases h
    rw [hb.block g hlt]
    exact h

/-- What the functions on texts ask of the world. -/
structure Env (w : World) : Prop where
  tab : Tab w
  pow : Lib.TabIs Tryd.prog w "internal/strconv.uint64pow10" .u64 Lib.pow10Tab
  syn : ∃ tp p, w.var? Tryd.prog "strconv.ErrSyntax" = some #[.iface tp p]
  ran : ∃ tp p, w.var? Tryd.prog "strconv.ErrRange" = some #[.iface tp p]
  max : ∃ m, w.cell? ⟨4, 0, none⟩ = some (.int .i64 m)
  low : 4 < w.heap.size

theorem Env.later {w w' : World} (h : Env w) (hb : Below w.heap.size w w') : Env w' :=
  ⟨h.tab.later hb, var_later h.pow hb, h.syn.imp fun _ h => h.imp fun _ h => var_later h hb, h.ran.imp fun _ h => h.imp fun _ h => var_later h hb,
    h.max.imp fun _ e => (hb.cell (p := ⟨4, 0, none⟩) h.low).trans e, Nat.lt_of_lt_of_le h.low hb.size⟩

def numB (n : Int) : ByteArray := ⟨(Lib.itoa n).toArray⟩
/-- The text of four lengths. -/
def fmtL (a b c d : Int) : List UInt8 := Lib.join [Lib.itoa a, Lib.itoa b, Lib.itoa c, Lib.itoa d] [32]
def fmtB (a b c d : Int) : ByteArray := ⟨(fmtL a b c d).toArray⟩

theorem itoa_any (n : Int) (w : World) (h0 : 0 ≤ n) (h1 : n ≤ 500000000) (hE : Env w) :
    Calls Tryd.prog 87 #[.int .i64 n] w fun e w' => e = .returned (.string (numB n)) ∧ Below w.heap.size w w' :=
  (Tryd.strconv_Itoa n (by omega) (by omega) w hE.pow).mono fun _ _ ⟨he, _, _, hw⟩ => ⟨he, by rw [hw]; exact below_grow _ _ _⟩
theorem formatInt_any (n : Int) (w : World) (h0 : 0 ≤ n) (h1 : n ≤ 500000000) (hE : Env w) :
    Calls Tryd.prog 85 #[.int .i64 n, .int .i64 10] w fun e w' => e = .returned (.string (numB n)) ∧ Below w.heap.size w w' :=
  (Tryd.strconv_FormatInt_10 n (by omega) (by omega) w hE.pow).mono fun _ _ ⟨he, _, _, hw⟩ => ⟨he, by rw [hw]; exact below_grow _ _ _⟩

theorem After.callE {P : Program} {f : FuncId} {args : Array Value} {v : Value} {W : World} (x : After W) (hE : Env W)
    (h : Env x.val → Calls P f args x.val fun e w' => e = .returned v ∧ Below x.val.heap.size x.val w') : Calls P f args x.val fun e w'' => e = .returned v ∧ ∃ y : After W, w'' = y.val :=
  After.call x (h (hE.later x.property))

/-- What Format gives. -/
def fmtV (a b c d : Int) : ByteArray := if vH a b c d = true then fmtB a b c d else ⟨#[]⟩

set_option maxHeartbeats 1000000 in
set_option maxRecDepth 100000 in
theorem refFormat_bad (a b c d : Int) (w : World) (h1 : vH a b c d = false) :
    Calls Tryd.prog 53 #[.agg #[.int .i64 a, .int .i64 b, .int .i64 c, .int .i64 d]] w fun e w' => e = .returned (.string ⟨#[]⟩) ∧ Below w.heap.size w w' := by
  have H1 := Lib.hid h1
  clear h1
  go_enter Tryd.func53, Tryd.ntmps53
  go_wp2_with fail
  refine (refValidHoof_is _ _ _ _ _ false H1.out).mono ?_
  rintro e w1 ⟨rfl, hb1⟩
  go_wp2
  go_ret
  exact ⟨rfl, bthen (by go_grown) hb1⟩

theorem numB_size (n : Int) (h0 : 0 ≤ n) (h1 : n ≤ 500000000) : (numB n).size ≤ 21 := by
  have := Lib.itoa_length_le n (by omega) (by omega)
  simpa [numB, ByteArray.size] using this

theorem fmtB_sum (a b c d : Int) : numB a ++ ⟨#[32]⟩ ++ numB b ++ ⟨#[32]⟩ ++ numB c ++ ⟨#[32]⟩ ++ numB d = fmtB a b c d := by
  apply ByteArray.ext
  simp [numB, fmtB, fmtL, Lib.join, ByteArray.data_append]

set_option maxHeartbeats 2000000 in
set_option maxRecDepth 100000 in
theorem refFormat_ok (a b c d : Int) (w : World) (h1 : vH a b c d = true) (hE : Env w) :
    Calls Tryd.prog 53 #[.agg #[.int .i64 a, .int .i64 b, .int .i64 c, .int .i64 d]] w fun e w' => e = .returned (.string (fmtB a b c d)) ∧ Below w.heap.size w w' := by
  obtain ⟨⟨a1, a2⟩, ⟨b1, b2⟩, ⟨c1, c2⟩, ⟨d1, d2⟩⟩ := in4_iff.1 h1
  have H1 := Lib.hid h1
  have HE : Hid (Env (w.alloc (.cells #[.int .i64 a, .int .i64 b, .int .i64 c, .int .i64 d] 23))) := hE.later (by go_grown)
  have za := numB_size a (by omega) (by omega)
  have zb := numB_size b (by omega) (by omega)
  have zc := numB_size c (by omega) (by omega)
  have zd := numB_size d (by omega) (by omega)
  have p1 : ¬ 9223372036854775807 < (numB a).size + 1 := by omega
  have q1 : ¬ 9223372036854775807 ≤ (numB a).size := by omega
  have p2 : ¬ 9223372036854775807 < (numB a).size + 1 + (numB b).size := by omega
  have p3 : ¬ 9223372036854775807 < (numB a).size + 1 + (numB b).size + 1 := by omega
  have q3 : ¬ 9223372036854775807 ≤ (numB a).size + 1 + (numB b).size := by omega
  have p4 : ¬ 9223372036854775807 < (numB a).size + 1 + (numB b).size + 1 + (numB c).size := by omega
  have p5 : ¬ 9223372036854775807 < (numB a).size + 1 + (numB b).size + 1 + (numB c).size + 1 := by omega
  have q5 : ¬ 9223372036854775807 ≤ (numB a).size + 1 + (numB b).size + 1 + (numB c).size := by omega
  have p6 : ¬ 9223372036854775807 < (numB a).size + 1 + (numB b).size + 1 + (numB c).size + 1 + (numB d).size := by omega
  have HS := Lib.hid (fmtB_sum a b c d)
  have A1 := Lib.hid a1
  have A2 := Lib.hid a2
  have B1 := Lib.hid b1
  have B2 := Lib.hid b2
  have C1 := Lib.hid c1
  have C2 := Lib.hid c2
  have D1 := Lib.hid d1
  have D2 := Lib.hid d2
  clear h1 hE za zb zc zd a1 a2 b1 b2 c1 c2 d1 d2
  go_enter Tryd.func53, Tryd.ntmps53
  go_wp2_with fail
  refine (refValidHoof_is _ _ _ _ _ true H1.out).mono ?_
  rintro e w1 ⟨rfl, hb1⟩
  obtain ⟨hc1, hf1⟩ := bcell hb1
  go_wp2
  refine wp_region_from hb1 (by kernel_rfl) (by kernel_rfl) (fun hcell => ?_)
  repeat (go_big_quiet_step ((first
    | with_reducible exact After.callE _ HE.out (fun E => itoa_any _ _ (by have := A1.out; have := B1.out; have := C1.out; have := D1.out; omega) (by have := A2.out; have := B2.out; have := C2.out; have := D2.out; omega) E))))
  refine wpQuiet_nil ?_
  rintro w3 hb3
  go_wp2
  go_ret
  exact ⟨by rw [HS.out]; rfl, bthen (by go_grown) hb3⟩
end Go.Proofs.YtpgfiggnchaljaaDoor
