/- The contract of the document's Mul. -/
import Derived.Test.YtmjinhieeflkgaaDoorRRRRRefD
import Derived.Test.YtmjinhieeflkgaaDoorRRRRCarry
namespace Go.Proofs.YtmjinhieeflkgaaDoorRRRR
open Go.RowKit

/-- One digit of a product with one digit. -/
theorem mul_step {b u q v cy j : Nat} {Q Q1 ys : List Nat} (hl : Q1.length = j) (h : val b Q1 + b ^ j * cy = val b (Q.take j) + u * val b (ys.take j)) (hq : val b (Q.take (j + 1)) = val b (Q.take j) + b ^ j * q)
    (hv : val b (ys.take (j + 1)) = val b (ys.take j) + b ^ j * v) : val b (Q1 ++ [(q + u * v + cy) % b]) + b ^ (j + 1) * ((q + u * v + cy) / b) = val b (Q.take (j + 1)) + u * val b (ys.take (j + 1)) := by
  rw [val_snoc, hl, Nat.pow_succ, Nat.mul_assoc, Nat.add_assoc, ← Nat.mul_add, Nat.mod_add_div, hq, hv, Nat.mul_add, Nat.mul_add, Nat.mul_add, ← Nat.mul_assoc u, Nat.mul_comm u (b ^ j), Nat.mul_assoc]
  omega

/-- A row of a product is done. -/
theorem mul_row {b u cy k m X Y x1 : Nat} {P Q Q1 : List Nat} (hP : P.length = k) (hQ1 : Q1.length = m) (h : val b Q1 + b ^ m * cy = val b Q + u * Y) (hR : val b (P ++ Q) = X * Y) (hx : x1 = X + b ^ k * u) :
    val b (P ++ (Q1 ++ [cy])) = x1 * Y := by
  rw [val_append, hP] at hR
  rw [val_append, val_snoc, hP, hQ1, h, hx, Nat.add_mul, ← hR, Nat.mul_add, Nat.mul_assoc, Nat.add_assoc]

end Go.Proofs.YtmjinhieeflkgaaDoorRRRR
