/- An act some of whose slots are set; no statement is proved here. -/
import Derived.Test.YtcifmmdfjglbnaaDoorCaChgP
namespace Go.Proofs.YtcifmmdfjglbnaaDoor
open Go.ChangeShapes Go.WideShapes Go.ChangeAt Go.RowKit

/-- The slots from s on hold v 0, v 1, .. -/
def setMany (T : Array Value) (s : Nat) (v : Nat → Value) : Nat → Array Value
  | 0 => T
  | m + 1 => (setMany T s v m).setIfInBounds (s + m) (v m)
theorem setMany_size (T : Array Value) (s : Nat) (v : Nat → Value) : ∀ m, (setMany T s v m).size = T.size
  | 0 => rfl
  | m + 1 => by
    unfold setMany
    rw [Array.size_setIfInBounds, setMany_size]
theorem setMany_get (T : Array Value) (s : Nat) (v : Nat → Value) (t : Nat) : ∀ m, (setMany T s v m)[t]? = if s ≤ t ∧ t < s + m ∧ t < T.size then some (v (t - s)) else T[t]?
  | 0 => by
    rw [if_neg (by omega)]
    rfl
  | m + 1 => by
    unfold setMany
    by_cases e : s + m = t
    · subst e
      by_cases h : s + m < T.size
      · rw [Array.getElem?_setIfInBounds_self_of_lt (by rw [setMany_size]; exact h), if_pos (by omega)]
        congr 2
        omega
      · rw [if_neg (by omega), Array.getElem?_eq_none (by rw [Array.size_setIfInBounds, setMany_size]; omega), Array.getElem?_eq_none (by omega)]
    · rw [Array.getElem?_setIfInBounds_ne e, setMany_get T s v t m]
      by_cases h : s ≤ t ∧ t < s + m ∧ t < T.size
      · rw [if_pos h, if_pos (by omega)]
      · rw [if_neg h, if_neg (by omega)]
theorem setMany_put {T : Array Value} {s : Nat} {v : Nat → Value} {m i : Nat} (hi : i < m) (hm : s + m ≤ T.size) (u : Value) : (setMany T s v m).setIfInBounds (s + i) u = setMany T s (fun j => if j = i then u else v j) m := by
  refine Array.ext_getElem? fun t => ?_
  rw [setMany_get]
  by_cases e : s + i = t
  · subst e
    rw [Array.getElem?_setIfInBounds_self_of_lt (by rw [setMany_size]; omega), if_pos (by omega), if_pos (by omega)]
  · rw [Array.getElem?_setIfInBounds_ne e, setMany_get]
    by_cases h : s ≤ t ∧ t < s + m ∧ t < T.size
    · rw [if_pos h, if_pos h, if_neg (by omega)]
    · rw [if_neg h, if_neg h]
/-- An act with its slots set. -/
def mkAct (a0 : Act) (s m : Nat) (v : Nat → Value) : Act := { a0 with tmps := setMany a0.tmps s v m }
theorem mkAct_put {a0 : Act} {s m i : Nat} {v : Nat → Value} (hi : i < m) (hm : s + m ≤ a0.tmps.size) (u : Value) : (mkAct a0 s m v).put (some (s + i)) u = mkAct a0 s m (fun j => if j = i then u else v j) := by
  show ({ a0 with tmps := (setMany a0.tmps s v m).setIfInBounds (s + i) u } : Act) = _
  rw [setMany_put hi hm]
  rfl
end Go.Proofs.YtcifmmdfjglbnaaDoor
