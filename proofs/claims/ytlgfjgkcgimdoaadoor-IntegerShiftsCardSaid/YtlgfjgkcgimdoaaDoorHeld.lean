/- What is held of numbers in memory, of whatever base, while all that there was stays. -/
import Derived.Test.YtlgfjgkcgimdoaaDoorClone
import Derived.OwnWalk
import Derived.Laws.AppendOwnNone
namespace Go.Proofs.YtlgfjgkcgimdoaaDoor
open Go Go.RowKit Go.Shelf

/-- A slice that holds a number to the base B. -/
structure Num where
  k : IntKind
  B : Nat
  v : Value
  zs : List Nat
def Num.ok (w : World) (n : Num) : Prop := Rd n.k w n.v n.zs ∧ Can n.B n.zs ∧ n.zs.length ≤ 1000000
theorem Num.ok.below {w w' : World} {n : Num} (h : n.ok w) (hb : Below w.heap.size w w') : n.ok w' := ⟨h.1.below hb, h.2⟩
/-- All that was in w0 has stayed, and these numbers stand. -/
def Held (w0 w : World) (L : List Num) : Prop := Below w0.heap.size w0 w ∧ ∀ n ∈ L, Num.ok w n
theorem Held.nil (w : World) : Held w w [] := ⟨Below.refl _ _, by simp⟩
theorem Held.step {w0 w w' : World} {L : List Num} (h : Held w0 w L) (hb : Below w.heap.size w w') : Held w0 w' L :=
  ⟨h.1.trans (hb.mono h.1.size), fun n hn => (h.2 n hn).below hb⟩
theorem Held.push {w0 w : World} {L : List Num} (h : Held w0 w L) {n : Num} (hn : n.ok w) : Held w0 w (n :: L) :=
  ⟨h.1, fun m hm => by rcases List.mem_cons.1 hm with rfl | hm; exact hn; exact h.2 m hm⟩
theorem Held.get {w0 w : World} {L : List Num} (h : Held w0 w L) (i : Nat) {n : Num} (hi : L[i]? = some n) : n.ok w := h.2 n (List.mem_of_getElem? hi)
theorem Held.drewN {w0 w : World} {L : List Num} (h : Held w0 w L) (n : Nat) : Held w0 (w.drewN n) L := h.step ⟨rfl, rfl, rfl, Nat.le_refl _, fun _ _ => rfl⟩
theorem Held.alloc {w0 w : World} {L : List Num} (h : Held w0 w L) (o : Obj) : Held w0 (w.alloc o) L := h.step ((Below.refl _ w).alloc (Nat.le_refl _) o)
end Go.Proofs.YtlgfjgkcgimdoaaDoor

/- Rows of numbers that a call makes by append. -/
namespace Go.Proofs.YtlgfjgkcgimdoaaDoor
open Go Go.RowKit Go.Shelf

/-- A row of the call's own (its block is not below base), that holds zs. -/
def Grown (k : IntKind) (t : TypeId) (base : Nat) (w : World) (v : Value) (zs : List Nat) : Prop := w.ownsRow base t 1 v zs.length (zs.map fun x : Nat => Value.int k (x : Int))
section
variable {k : IntKind} {t : TypeId} {base : Nat} {w w' : World} {v : Value} {zs : List Nat}
theorem Grown.nil (k : IntKind) (t : TypeId) (base : Nat) (w : World) : Grown k t base w (.slice none 0 0) [] := World.ownsRow_nil _ _ _ _
theorem Grown.alloc (h : Grown k t base w v zs) (o : Obj) : Grown k t base (w.alloc o) v zs := World.ownsRow.alloc h o
theorem Grown.drewN (h : Grown k t base w v zs) (n : Nat) : Grown k t base (w.drewN n) v zs := h
theorem Grown.rd (h : Grown k t base w v zs) (hl : zs.length ≤ 70368744177664) : Rd k w v zs := by
  rcases id h with ⟨_, (⟨rfl, h0⟩ | ⟨g, cap, cur, rfl, _, hg, hn, _, hs, ht⟩)⟩
  · obtain rfl : zs = [] := List.eq_nil_of_length_eq_zero h0
    exact Rd.nil _ _ _
  · refine ⟨_, cap, rfl, hn, hl, fun _ => ⟨g, 0, rfl, (Array.getElem?_eq_some_iff.1 hg).1, fun j x hx => ?_⟩⟩
    have hj : (zs.map fun x : Nat => Value.int k (x : Int))[j]? = some (.int k (x : Int)) := by rw [List.getElem?_map, hx]; rfl
    have := World.ownsRow.cells h (g := g) rfl j _ hj
    rw [add_zero_or] at this
    exact this
/-- A new slice: nil without room, or of a new block. -/
def Fresh (base : Nat) (A : Option Addr) (cap : Nat) : Prop := (A = none → cap = 0) ∧ ∀ ad, A = some ad → base ≤ ad.block
theorem Grown.form (h : Grown k t base w v zs) : ∃ A cap, v = .slice A zs.length cap ∧ Fresh base A cap := by
  rcases id h with ⟨_, (⟨rfl, h0⟩ | ⟨g, cap, cur, rfl, hb, _⟩)⟩
  · exact ⟨none, 0, by rw [h0], fun _ => rfl, fun _ e => by cases e⟩
  · exact ⟨_, cap, rfl, (fun e => by cases e), fun ad e => by injection e with e; subst e; exact hb⟩
theorem Grown.keep {row : Option Nat} (h : Grown k t base w v zs) (hg : w.grownBy w' row) (hne : v.ownBlock = none ∨ v.ownBlock ≠ row) : Grown k t base w' v zs := World.ownsRow.kept h hg hne
/-- What is below the base stays, and above it all but the row itself. -/
theorem Grown.lt (h : Grown k t base w v zs) : ∀ j, v.ownBlock = some j → base ≤ j ∧ j < w.heap.size := World.ownsRow.lt h
end

set_option maxRecDepth 100000 in
/-- One number more. -/
theorem wpList_app1 {P : Program} {k : IntKind} {ops : Array Oper} {rest : List Oper} {o : Oper} {a : Act} {Q : Exit → Act → World → Prop} (hgd : o.guard = none) (s x : Operand) (t : TypeId)
    (ho : o.op = .call { callee := .builtin .append, args := #[s, x], argTypes := #[t, t] }) (base : Nat) (e : TypeId) (bytes : Nat) (ht : P.underlying t = some (.slice e))
    (hinfo : (P.info? e).map (fun i => (i.zero, i.size, i.bytes)) = some (some (.int k 0), 1, bytes)) (hb8 : bytes ≤ 8) (v : Value) (zs : List Nat) (w : World) (y : Int) (n : Nat) (hy : y = (n : Int)) (hs : a.eval s = v) (hG : Grown k e base w v zs)
    (hx : a.eval x = .slice (some ⟨w.heap.size, 0, none⟩) 1 1) (hl : zs.length ≤ 1000000000) (w0 : World) (hB : Below base w0 w) (hbase : base ≤ w.heap.size)
    (h : ∀ v' w', Grown k e base w' v' (zs ++ [n]) → Below base w0 w' → (w.alloc (.cells #[.int k y] e)).grownBy w' v.ownBlock → wpList P ops Q rest (a.put o.dst v') w') : wpList P ops Q (o :: rest) a (w.alloc (.cells #[.int k y] e)) := by
  subst hy
  obtain ⟨i0, hi, hz0, hz1, hz2⟩ := info_parts hinfo
  have hb : (zs.length + 1) * bytes ≤ 140737488355328 := Nat.le_trans (Nat.mul_le_mul (Nat.le_refl _) hb8) (by omega)
  refine wpList_append_own _ hgd s x t ho base e i0 (.int k 0) 1 bytes ht hi hz0 hz1 hz2 rfl (by decide) v zs.length _ hs (World.ownsRow.alloc hG _) ⟨w.heap.size, 0, none⟩ 1 1 [.int k (n : Int)] hx rfl ?c1 ?c2 (by unfold maxLen; omega) hb (by simp; omega) ?_
  case c1 =>
    intro j u hj
    match j, hj with
    | 0, hj =>
      simp at hj; subst hj
      have e1 : (w.alloc (.cells #[.int k (n : Int)] e)).heap[w.heap.size]? = some (.cells #[.int k (n : Int)] e) := World.alloc_heap_new w _
      rw [show (⟨w.heap.size, 0, none⟩ : Addr).add 0 = ⟨w.heap.size, 0, none⟩ from rfl]
      unfold World.cell?
      dsimp only
      rw [e1]
      simp
  case c2 => intro u hu; simp at hu; subst hu; rfl
  intro v' w' h1 h2 _
  refine h v' w' ?_ ?_ h2
  · unfold Grown
    rw [List.length_append, List.map_append]
    exact h1
  · exact (hB.alloc hbase _).grown h2 (by simp; omega) (fun r er => ((World.ownsRow.lt (World.ownsRow.alloc hG (.cells #[.int k (n : Int)] e))) r er).1)
end Go.Proofs.YtlgfjgkcgimdoaaDoor
