/- Texts of ratios. -/
import Derived.Test.YtejkcmklhmifaaaGreatDoorRatL
namespace Go.Proofs.YtejkcmklhmifaaaGreatDoor
open Go Go.RowKit Go.Shelf AM
theorem allD_not {l : List UInt8} {c : UInt8} (h : AllD l) (hc : c.toNat < 48) : c ∉ l := fun hm => by have := (h c hm).1; omega
theorem decI_not {z : Int} {l : List UInt8} {c : UInt8} (h : DecI z l) (hc : c.toNat < 48) (hm : c ≠ 45) : c ∉ l := by
  obtain ⟨d, hd, e⟩ := h
  rw [e]
  split
  · intro hx
    rcases List.mem_cons.1 hx with rfl | hx
    · exact hm rfl
    · exact allD_not hd.1 hc hx
  · exact allD_not hd.1 hc
/-- A size of numbers: at most 44 of base 2^32; its texts have at most 430 digits. -/
theorem dec_short {n : Nat} {l : List UInt8} (h : Dec n l) (hn : n < 4294967296 ^ 44) : l.length ≤ 430 := h.len_le (Nat.lt_of_lt_of_le hn (by decide +kernel)) (by omega)
theorem decI_short {z : Int} {s : ByteArray} (h : DecI z s.data.toList) (hn : z.natAbs < 4294967296 ^ 44) : s.size ≤ 431 := by
  obtain ⟨d, hd, e⟩ := h
  have h1 := dec_short hd hn
  rw [← size_list, e]
  split
  · simp; omega
  · omega
theorem decS_short {n : Nat} {s : ByteArray} (h : Dec n s.data.toList) (hn : n < 4294967296 ^ 44) : s.size ≤ 430 := by rw [← size_list]; exact dec_short h hn
theorem size3 {a b : ByteArray} {c : UInt8} : (a ++ ⟨#[c]⟩ ++ b).size = a.size + 1 + b.size := by simp; rfl
end Go.Proofs.YtejkcmklhmifaaaGreatDoor
