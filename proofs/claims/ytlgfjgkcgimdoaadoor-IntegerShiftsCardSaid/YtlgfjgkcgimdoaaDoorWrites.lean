/- Layer 2's own numbers in words. -/
import Derived.Test.YtlgfjgkcgimdoaaDoorText
import Derived.Test.YtlgfjgkcgimdoaaDoorParse
import Derived.Test.YtlgfjgkcgimdoaaDoorGcd
import Derived.Test.YtlgfjgkcgimdoaaDoorMade
namespace Go.Proofs.YtlgfjgkcgimdoaaDoor
open Go Go.RowKit Go.Shelf

instance (n : Nat) (l : List UInt8) : Decidable (Dec n l) := by unfold Dec; exact inferInstance
theorem text_is (w : World) (hT : Tab10 w) (va : Value) (n : Nat) (s : ByteArray) (hs : Dec n s.data.toList) (ha : Nm w va n) (hn : n < Lim) :
    Calls Tryd.prog 41 #[va] w fun e w' => e = .returned (.string s) ∧ Below w.heap.size w w' :=
  (text_c w hT va n ha hn).mono fun _ _ h => by
    obtain ⟨l, rfl, hd, hb⟩ := h
    rw [hd.eq hs]
    exact ⟨by cases s; rfl, hb⟩
theorem parse_is (w : World) (s : ByteArray) (n : Nat) (hD : AllD s.data.toList) (h0 : s.data.toList ≠ []) (hv : decv s.data.toList = n) (hl : s.size ≤ 4900) : Calls Tryd.prog 43 #[.string s] w (RetN0 w n) := by
  rw [← hv]; exact parse_ok w s hD h0 hl
/-- A number's digits, as they are written out. -/
theorem Nm.lit {w : World} {v : Value} {x : Nat} (h : Nm w v x) (zs : List Nat) (hC : Can 4294967296 zs) (hv : val 4294967296 zs = x) : ∃ A cap, v = .slice A zs.length cap ∧ Rd .u32 w (.slice A zs.length cap) zs := by
  obtain ⟨A, cap, us, rfl, h1, h2⟩ := h
  have e : us = zs := Can.eq h1.2.1 hC (by rw [h2, hv])
  subst e
  exact ⟨A, cap, rfl, h1.1⟩

end Go.Proofs.YtlgfjgkcgimdoaaDoor
