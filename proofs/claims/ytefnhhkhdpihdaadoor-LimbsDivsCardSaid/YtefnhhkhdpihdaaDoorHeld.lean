/- What is held of numbers in memory, of whatever base, while all that there was stays. -/
import Derived.Test.YtefnhhkhdpihdaaDoorClone
namespace Go.Proofs.YtefnhhkhdpihdaaDoor
open Go Go.RowKit Go.Shelf

/-- A slice that holds a number to the base B. -/
structure Num where
  k : IntKind
  B : Nat
  v : Value
  zs : List Nat
def Num.ok (w : World) (n : Num) : Prop := Rd n.k w n.v n.zs ∧ Can n.B n.zs ∧ n.zs.length ≤ 1000000
theorem Num.ok.below {w w' : World} {n : Num} (h : n.ok w) (hb : Below w.heap.size w w') : n.ok w' := ⟨h.1.below hb, h.2⟩
/-- All that was in w0 has stayed, and these numbers stand. -/
def Held (w0 w : World) (L : List Num) : Prop := Below w0.heap.size w0 w ∧ ∀ n ∈ L, Num.ok w n
theorem Held.nil (w : World) : Held w w [] := ⟨Below.refl _ _, by simp⟩
theorem Held.step {w0 w w' : World} {L : List Num} (h : Held w0 w L) (hb : Below w.heap.size w w') : Held w0 w' L :=
  ⟨h.1.trans (hb.mono h.1.size), fun n hn => (h.2 n hn).below hb⟩
theorem Held.push {w0 w : World} {L : List Num} (h : Held w0 w L) {n : Num} (hn : n.ok w) : Held w0 w (n :: L) :=
  ⟨h.1, fun m hm => by rcases List.mem_cons.1 hm with rfl | hm; exact hn; exact h.2 m hm⟩
theorem Held.get {w0 w : World} {L : List Num} (h : Held w0 w L) (i : Nat) {n : Num} (hi : L[i]? = some n) : n.ok w := h.2 n (List.mem_of_getElem? hi)
theorem Held.drewN {w0 w : World} {L : List Num} (h : Held w0 w L) (n : Nat) : Held w0 (w.drewN n) L := h.step ⟨rfl, rfl, rfl, Nat.le_refl _, fun _ _ => rfl⟩
theorem Held.alloc {w0 w : World} {L : List Num} (h : Held w0 w L) (o : Obj) : Held w0 (w.alloc o) L := h.step ((Below.refl _ w).alloc (Nat.le_refl _) o)
end Go.Proofs.YtefnhhkhdpihdaaDoor
