/- A digit is guessed by the two highest ones: plain facts, of no program. -/
import Init
namespace Go.Proofs.YtefnhhkhdpihdaaDoor
/-- What is guessed by the two highest digits of the one and the highest of the other is not too little .. -/
theorem guess_init {B P high next u2 U V top Ul Vl : Nat} (hU : U = top * (B * P) + u2 * P + Ul) (hUl : Ul < P) (hu2 : u2 < B)
    (hV : V = high * (B * P) + next * P + Vl) (hh : 0 < high) : U < (top / high + 1) * V := by
  have h1 : top + 1 ≤ (top / high + 1) * high := Nat.lt_div_mul_add hh |> fun h => by rw [Nat.add_mul, Nat.one_mul]; exact h
  have h2 := Nat.mul_le_mul_right (B * P) h1
  have h3 : u2 * P + P ≤ B * P := by
    have := Nat.mul_le_mul_right P (show u2 + 1 ≤ B from hu2)
    rw [Nat.add_mul, Nat.one_mul] at this; exact this
  have h4 : (top / high + 1) * V = (top / high + 1) * high * (B * P) + ((top / high + 1) * (next * P) + (top / high + 1) * Vl) := by
    rw [hV, Nat.mul_add, Nat.mul_add, Nat.mul_assoc]; omega
  rw [Nat.add_mul, Nat.one_mul] at h2
  omega

/-- .. where the next digits show that it is too much, one less is not too little .. -/
theorem guess_step {B P high next rest u2 often U V top Ul Vl : Nat} (hU : U = top * (B * P) + u2 * P + Ul) (hUl : Ul < P)
    (hV : V = high * (B * P) + next * P + Vl) (htop : top = often * high + rest) (hlt : rest * B + u2 < often * next) : U < often * V := by
  have h2 := Nat.mul_le_mul_right P (show rest * B + u2 + 1 ≤ often * next from hlt)
  have h4 : often * V = often * high * (B * P) + often * next * P + often * Vl := by
    rw [hV, Nat.mul_add, Nat.mul_add, Nat.mul_assoc, Nat.mul_assoc]
  have h5 : top * (B * P) = often * high * (B * P) + rest * B * P := by rw [htop, Nat.add_mul, Nat.mul_assoc rest B P]
  rw [Nat.add_mul, Nat.add_mul, Nat.one_mul] at h2
  omega

/-- .. and where they don't, it is at most one too much. -/
theorem guess_end {B P high next rest u2 often U V top Ul Vl : Nat} (hU : U = top * (B * P) + u2 * P + Ul)
    (hV : V = high * (B * P) + next * P + Vl) (hVl : Vl < P) (hnext : next < B) (hh : 0 < high) (ho : often < B) (htop : top = often * high + rest)
    (hend : B ≤ rest ∨ often * next ≤ rest * B + u2) : often * V ≤ U + V := by
  have h5 : top * (B * P) = often * high * (B * P) + rest * (B * P) := by rw [htop, Nat.add_mul]
  have h4 : often * V = often * high * (B * P) + often * next * P + often * Vl := by
    rw [hV, Nat.mul_add, Nat.mul_add, Nat.mul_assoc, Nat.mul_assoc]
  have h6 : B * P ≤ V := by
    have := Nat.mul_le_mul_right (B * P) (show 1 ≤ high from hh)
    rw [Nat.one_mul] at this; omega
  have h7 : often * Vl ≤ B * P := Nat.mul_le_mul (by omega) (by omega)
  rcases hend with h | h
  · have h8 : next * P + Vl ≤ B * P := by
      have := Nat.mul_le_mul_right P (show next + 1 ≤ B from hnext)
      rw [Nat.add_mul, Nat.one_mul] at this; omega
    have h9 := Nat.mul_le_mul_left often h8
    have h10 : often * (B * P) ≤ rest * (B * P) := Nat.mul_le_mul_right _ (by omega)
    rw [Nat.mul_add, ← Nat.mul_assoc] at h9
    omega
  · have h8 := Nat.mul_le_mul_right P h
    rw [Nat.add_mul, Nat.mul_assoc rest B P] at h8
    omega
end Go.Proofs.YtefnhhkhdpihdaaDoor
