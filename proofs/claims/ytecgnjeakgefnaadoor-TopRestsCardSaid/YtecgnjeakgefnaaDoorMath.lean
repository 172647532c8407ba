/- Plain arithmetic of days, months and shares; nothing of a program is spoken of. -/
import Derived.KernelRfl
namespace Go.Proofs.YtecgnjeakgefnaaDoor.Hoofs

/-- The days of the months, and of all months before one. -/
def dom : Nat → Int
  | 0 => 31 | 1 => 28 | 2 => 31 | 3 => 30 | 4 => 31 | 5 => 30 | 6 => 31 | 7 => 31 | 8 => 30 | 9 => 31 | 10 => 30 | 11 => 31 | _ => 0
def cum : Nat → Int
  | 0 => 0 | 1 => 31 | 2 => 59 | 3 => 90 | 4 => 120 | 5 => 151 | 6 => 181 | 7 => 212 | 8 => 243 | 9 => 273 | 10 => 304 | 11 => 334 | _ => 365

/-- How many of the first d days lie in month m. -/
def co (m : Nat) (d : Int) : Int := d / 365 * dom m + min (max (d % 365 - cum m) 0) (dom m)

/-- The numbers of the first k months over the first d days. -/
def sb (s : Nat → Int) (d : Int) : Nat → Int
  | 0 => 0
  | k + 1 => sb s d k + co k d * s k

theorem mul_bd {a b A B : Int} (a0 : 0 ≤ a) (aA : a ≤ A) (b0 : 0 ≤ b) (bB : b ≤ B) : 0 ≤ a * b ∧ a * b ≤ A * B :=
  ⟨Int.mul_nonneg a0 b0, Int.mul_le_mul aA bB b0 (Int.le_trans a0 aA)⟩

end Go.Proofs.YtecgnjeakgefnaaDoor.Hoofs
