/- An abstract machine for Go's code: part of the library of this claim. -/
import Derived.Calls
import Derived.Orders
import Derived.LoopN
import Derived.Below
import Derived.KernelRfl
import Derived.RangeFuncRecord
import Derived.Lib.Builder
import Derived.Laws.CopyOwn
import Derived.Laws.AppendOwn
import Derived.Laws.CopyRow
import Derived.Great.BuildSlice
/- An abstract machine for Go's regions and code: what a value is said to be, and what a memory of variables holds. -/
namespace Go.Proofs.YtnncfbmddpijcaaGreatDoor.AM
open Go Go.RowKit

/-- The kinds of numbers' digits. -/
def exk : IntKind → Bool
  | .u32 => true
  | .i64 => false
  | _ => false
/-- A value that one cell may hold, and that is no digit of a number. -/
def okCell : Value → Bool
  | .agg _ => false
  | .tuple _ => false
  | .int k _ => !exk k
  | _ => true
theorem okCell_int {k : IntKind} {z : Int} (h : okCell (.int k z) = true) : exk k = false := by
  simpa [okCell] using h
/-- Every cell of the one world is one of the other. -/
def Ext (w w' : World) : Prop := ∀ a u, w.cell? a = some u → w'.cell? a = some u
theorem Ext.refl (w : World) : Ext w w := fun _ _ h => h
theorem Ext.trans {a b c : World} (h : Ext a b) (k : Ext b c) : Ext a c := fun p u hp => k p u (h p u hp)

/-- A thing that a value may be: it stays so as long as the cells that there are stay. -/
structure Ent where
  holds : World → Value → Prop
  len : Option Nat
  mono : ∀ {w w' : World} {v : Value}, Ext w w' → w.heap.size ≤ w'.heap.size → holds w v → holds w' v
  slice : ∀ {w : World} {v : Value} {n : Nat}, holds w v → len = some n → ∃ a c, v = .slice a n c
  cell : ∀ {w : World} {v : Value}, holds w v → okCell v = true

/-- What a cell is said to hold: a value itself, a thing, the address of a variable's cell, a slice of a variable. -/
inductive Cv where
  | any
  | raw (v : Value)
  | ent (e : Ent)
  | ptr (x o : Nat)
  | row (x o n c : Nat)
  | grow (x n : Nat)
/-- One value: a cell's, or a struct of such. -/
inductive Sv where
  | cel (c : Cv)
  | agg (l : List Cv)
/-- A temporary's: one value, or a call's results. -/
inductive Av where
  | one (s : Sv)
  | tup (l : List Sv)
def varsC : Cv → List Nat
  | .ptr x _ => [x]
  | .row x _ _ _ => [x]
  | .grow x _ => [x]
  | _ => []
/-- Is it known that a list's cells speak of no variable? -/
inductive Sy (cs : List Cv) : Type where
  | no
  | yes (h : ∀ c ∈ cs, varsC c = [])
  | gro (n es : Nat) (h : ∀ c ∈ cs, varsC c = [])
/-- A variable: its type, what its cells hold, and whether the call made it. -/
structure VarSt where
  t : TypeId
  cs : List Cv
  own : Bool
  sy : Sy cs := .no
/-- A row that grows: of how many places, each of how many cells. -/
def groOf (s : VarSt) : Option (Nat × Nat) := match s.sy with | .gro n es _ => some (n, es) | _ => none
def notGro (s : VarSt) : Bool := match s.sy with | .gro _ _ _ => false | _ => true
theorem notGro_spec {s : VarSt} (h : notGro s = true) : groOf s = none := by
  obtain ⟨t, cs, o, sy⟩ := s
  cases sy <;> first | rfl | cases h
/-- The variables of which a variable's cells speak. -/
def varsV (s : VarSt) : List Nat := match s.sy with | .no => s.cs.flatMap varsC | .yes _ => [] | .gro _ _ _ => []
theorem varsV_spec {s : VarSt} {x : Nat} (h : x ∈ s.cs.flatMap varsC) : x ∈ varsV s := by
  obtain ⟨t, cs, o, sy⟩ := s
  cases sy with
  | no => exact h
  | yes hc => obtain ⟨c, h1, h2⟩ := List.mem_flatMap.1 h; rw [hc c h1] at h2; cases h2
  | gro n es hc => obtain ⟨c, h1, h2⟩ := List.mem_flatMap.1 h; rw [hc c h1] at h2; cases h2

def undefA : Av := .one (.cel (.raw undef))

def All2 {α β : Type} (R : α → β → Prop) : List α → List β → Prop
  | [], [] => True
  | x :: xs, y :: ys => R x y ∧ All2 R xs ys
  | _, _ => False
section
variable {α β : Type} {R R' : α → β → Prop}
theorem All2.length : ∀ {xs : List α} {ys : List β}, All2 R xs ys → xs.length = ys.length
  | [], [], _ => rfl
  | _ :: _, _ :: _, h => congrArg (· + 1) (All2.length h.2)
theorem All2.mono (hR : ∀ x y, R x y → R' x y) : ∀ {xs : List α} {ys : List β}, All2 R xs ys → All2 R' xs ys
  | [], [], _ => trivial
  | _ :: _, _ :: _, h => ⟨hR _ _ h.1, All2.mono hR h.2⟩
theorem All2.get : ∀ {xs : List α} {ys : List β} {i : Nat} {y : β}, All2 R xs ys → ys[i]? = some y → ∃ x, xs[i]? = some x ∧ R x y
  | [], [], _, _, _, h => by simp at h
  | x :: xs, y :: ys, 0, z, h, e => by simp at e; subst e; exact ⟨x, rfl, h.1⟩
  | x :: xs, y :: ys, i + 1, z, h, e => by
    simp at e
    obtain ⟨u, h1, h2⟩ := All2.get h.2 e
    exact ⟨u, by simpa using h1, h2⟩
theorem All2.append : ∀ {xs : List α} {ys : List β} {xs' : List α} {ys' : List β}, All2 R xs ys → All2 R xs' ys' → All2 R (xs ++ xs') (ys ++ ys')
  | [], [], _, _, _, h => h
  | _ :: _, _ :: _, _, _, h, k => ⟨h.1, All2.append h.2 k⟩
theorem All2.take : ∀ {xs : List α} {ys : List β} (n : Nat), All2 R xs ys → All2 R (xs.take n) (ys.take n)
  | [], [], n, _ => by cases n <;> trivial
  | _ :: _, _ :: _, 0, _ => trivial
  | _ :: _, _ :: _, n + 1, h => ⟨h.1, All2.take n h.2⟩
theorem All2.drop : ∀ {xs : List α} {ys : List β} (n : Nat), All2 R xs ys → All2 R (xs.drop n) (ys.drop n)
  | [], [], n, _ => by cases n <;> trivial
  | _ :: _, _ :: _, 0, h => h
  | _ :: _, _ :: _, n + 1, h => All2.drop n h.2
theorem All2.mapR {γ : Type} (f : γ → β) : ∀ {xs : List α} {zs : List γ}, All2 (fun x z => R x (f z)) xs zs → All2 R xs (zs.map f)
  | [], [], _ => trivial
  | _ :: _, _ :: _, h => ⟨h.1, All2.mapR f h.2⟩
theorem All2.self {γ : Type} {R : γ → β → Prop} (f : γ → β) (hf : ∀ x, R x (f x)) : ∀ (l : List γ), All2 R l (l.map f)
  | [] => trivial
  | x :: l => ⟨hf x, All2.self f hf l⟩
theorem All2.map2 {γ : Type} {f : γ → α} {g : γ → β} (hf : ∀ x, R (f x) (g x)) : ∀ (l : List γ), All2 R (l.map f) (l.map g)
  | [] => trivial
  | x :: l => ⟨hf x, All2.map2 hf l⟩
theorem All2.one {x : α} {y : β} (h : R x y) : All2 R [x] [y] := ⟨h, trivial⟩
theorem All2.mem : ∀ {xs : List α} {ys : List β} {Q : α → Prop}, All2 R xs ys → (∀ x y, y ∈ ys → R x y → Q x) → ∀ x ∈ xs, Q x
  | [], [], _, _, _ => fun x h => by cases h
  | x :: xs, y :: ys, Q, h, k => fun z hz => by
    rcases List.mem_cons.1 hz with rfl | hz
    · exact k z y (List.mem_cons_self ..) h.1
    · exact All2.mem h.2 (fun x y hy => k x y (List.mem_cons_of_mem _ hy)) z hz
end

/-- A part of a list written anew. -/
def putL {α : Type} (cells : List α) (off : Nat) (cs : List α) : List α := cells.take off ++ cs ++ cells.drop (off + cs.length)
theorem All2.putted {α β : Type} {R : α → β → Prop} {xs : List α} {ys : List β} {us : List α} {vs : List β} (off : Nat) (h : All2 R xs ys) (k : All2 R us vs) : All2 R (putL xs off us) (putL ys off vs) := by
  unfold putL
  rw [k.length]
  exact ((h.take off).append k).append (h.drop _)

/-- What a row that grows is now, and how long: told beside the block with which it began. -/
def Cur (W : World) (g0 n : Nat) (v : Value) : Prop := ∃ (c : Array Value) (g b : Nat), W.heap[g0]? = some (.cells c g (n, b)) ∧ v = .slice (some ⟨g, 0, none⟩) n b
theorem Cur.lt {W : World} {g0 n : Nat} {v : Value} (h : Cur W g0 n v) : g0 < W.heap.size := by
  obtain ⟨c, g, b, h1, _⟩ := h
  exact (Array.getElem?_eq_some_iff.1 h1).1
section
variable (β : Nat → Option Nat) (W : World)
def RelC (v : Value) : Cv → Prop
  | .any => True
  | .raw u => v = u
  | .ent e => e.holds W v
  | .ptr x o => ∃ g, β x = some g ∧ v = .pointer (some ⟨g, o, none⟩)
  | .row x o n c => ∃ g, β x = some g ∧ v = .slice (some ⟨g, o, none⟩) n c
  | .grow x n => ∃ g0 m u, β x = some g0 ∧ Cur W g0 m u ∧ n ≤ m ∧ (m = n → v = u)
def RelS (v : Value) : Sv → Prop
  | .cel c => RelC β W v c
  | .agg l => ∃ vs : List Value, v = .agg vs.toArray ∧ All2 (RelC β W) vs l
def RelA (v : Value) : Av → Prop
  | .one s => RelS β W v s
  | .tup l => ∃ vs : List Value, v = .tuple vs.toArray ∧ All2 (RelS β W) vs l
end
/-- A cell's word that speaks of no variable. -/
def HoldsC (W : World) (v : Value) (c : Cv) : Prop := RelC (fun _ => none) W v c
theorem RelC.shut {β : Nat → Option Nat} {W : World} {v : Value} {c : Cv} (h : varsC c = []) (k : RelC β W v c) : HoldsC W v c := by
  cases c with
  | any => trivial
  | raw u => exact k
  | ent e => exact k
  | ptr x o => cases h
  | row x o n d => cases h
  | grow x n => cases h
theorem HoldsC.rel {β : Nat → Option Nat} {W : World} {v : Value} {c : Cv} (k : HoldsC W v c) : RelC β W v c := by
  cases c with
  | any => trivial
  | raw u => exact k
  | ent e => exact k
  | ptr x o => obtain ⟨g, h, _⟩ := k; cases h
  | row x o n d => obtain ⟨g, h, _⟩ := k; cases h
  | grow x n => obtain ⟨g, m, u, h, _⟩ := k; cases h
theorem HoldsC.mono {W W' : World} {v : Value} {c : Cv} (he : Ext W W') (hs : W.heap.size ≤ W'.heap.size) (k : HoldsC W v c) : HoldsC W' v c := by
  cases c with
  | any => trivial
  | raw u => exact k
  | ent e => exact e.mono he hs k
  | ptr x o => obtain ⟨g, h, _⟩ := k; cases h
  | row x o n d => obtain ⟨g, h, _⟩ := k; cases h
  | grow x n => obtain ⟨g, m, u, h, _⟩ := k; cases h
/-- Cells that stand in a row, and are seen. -/
def CellsAt (W : World) (g o : Nat) (cs : List Cv) : Prop := ∀ i c, cs[i]? = some c → ∃ u, W.cell? ⟨g, o + i, none⟩ = some u ∧ HoldsC W u c
theorem CellsAt.mono {W W' : World} {g o : Nat} {cs : List Cv} (he : Ext W W') (hs : W.heap.size ≤ W'.heap.size) (h : CellsAt W g o cs) : CellsAt W' g o cs := fun i c hc => by
  obtain ⟨u, h1, h2⟩ := h i c hc
  exact ⟨u, he _ _ h1, h2.mono he hs⟩
/-- A pointer to cells. -/
def ptrTo (cs : List Cv) : Ent where
  holds W v := ∃ g o, v = .pointer (some ⟨g, o, none⟩) ∧ CellsAt W g o cs
  len := none
  mono he hs h := by obtain ⟨g, o, h1, h2⟩ := h; exact ⟨g, o, h1, h2.mono he hs⟩
  slice := by intro w v n _ e; cases e
  cell := by rintro w v ⟨g, o, rfl, _⟩; rfl
/-- A slice of so many places over cells. -/
def rowOf (n : Nat) (cs : List Cv) : Ent where
  holds W v := ∃ A c, v = .slice A n c ∧ (cs = [] ∨ ∃ g o, A = some ⟨g, o, none⟩ ∧ CellsAt W g o cs)
  len := some n
  mono he hs h := by
    obtain ⟨A, c, h1, h2⟩ := h
    refine ⟨A, c, h1, ?_⟩
    rcases h2 with h2 | ⟨g, o, h2, h3⟩
    · exact .inl h2
    · exact .inr ⟨g, o, h2, h3.mono he hs⟩
  slice := by
    rintro w v m ⟨A, c, rfl, _⟩ e
    injection e with e; subst e
    exact ⟨A, c, rfl⟩
  cell := by rintro w v ⟨A, c, rfl, _⟩; rfl
/-- More variables, more memory. -/
structure Up (β : Nat → Option Nat) (W : World) (β' : Nat → Option Nat) (W' : World) : Prop where
  vars : ∀ x g, β x = some g → β' x = some g
  ext : Ext W W'
  size : W.heap.size ≤ W'.heap.size
  cur : ∀ g0 m u, Cur W g0 m u → ∃ m' u', Cur W' g0 m' u' ∧ m ≤ m' ∧ (m' = m → u' = u)
theorem cur_same {W W' : World} (h : ∀ i, i < W.heap.size → W'.heap[i]? = W.heap[i]?) : ∀ g0 m u, Cur W g0 m u → ∃ m' u', Cur W' g0 m' u' ∧ m ≤ m' ∧ (m' = m → u' = u) := fun g0 m u hc =>
  ⟨m, u, by obtain ⟨c, g, b, h1, h2⟩ := id hc; exact ⟨c, g, b, (h g0 hc.lt).trans h1, h2⟩, Nat.le_refl _, fun _ => rfl⟩
section
variable {β β' : Nat → Option Nat} {W W' : World} {v : Value}
theorem Up.refl (β : Nat → Option Nat) (W : World) : Up β W β W := ⟨fun _ _ h => h, Ext.refl _, Nat.le_refl _, cur_same fun _ _ => rfl⟩
theorem RelC.up (h : Up β W β' W') {c : Cv} (k : RelC β W v c) : RelC β' W' v c := by
  cases c with
  | any => trivial
  | raw u => exact k
  | ent e => exact e.mono h.ext h.size k
  | ptr x o => obtain ⟨g, h1, h2⟩ := k; exact ⟨g, h.vars _ _ h1, h2⟩
  | row x o n c => obtain ⟨g, h1, h2⟩ := k; exact ⟨g, h.vars _ _ h1, h2⟩
  | grow x n =>
    obtain ⟨g0, m, u, h1, h2, h3, h4⟩ := k
    obtain ⟨m', u', c1, c2, c3⟩ := h.cur g0 m u h2
    exact ⟨g0, m', u', h.vars _ _ h1, c1, by omega, fun e => by rw [h4 (by omega), c3 (by omega)]⟩
theorem RelS.up (h : Up β W β' W') {s : Sv} (k : RelS β W v s) : RelS β' W' v s := by
  cases s with
  | cel c => exact RelC.up h k
  | agg l => obtain ⟨vs, h1, h2⟩ := k; exact ⟨vs, h1, h2.mono fun _ _ => RelC.up h⟩
theorem RelA.up (h : Up β W β' W') {s : Av} (k : RelA β W v s) : RelA β' W' v s := by
  cases s with
  | one s => exact RelS.up h k
  | tup l => obtain ⟨vs, h1, h2⟩ := k; exact ⟨vs, h1, h2.mono fun _ _ => RelS.up h⟩
end

def rawOf : Av → Option Value
  | .one (.cel (.raw v)) => some v
  | _ => none
theorem rawOf_some {av : Av} {v : Value} (h : rawOf av = some v) : av = .one (.cel (.raw v)) := by
  unfold rawOf at h
  split at h
  · injection h with h; subst h; rfl
  · cases h
def svOf : Av → Option Sv
  | .one s => some s
  | _ => none
theorem svOf_some {av : Av} {s : Sv} (h : svOf av = some s) : av = .one s := by
  cases av with
  | one s' => injection h with h; subst h; rfl
  | tup l => cases h
def cellsOf : Sv → List Cv
  | .cel c => [c]
  | .agg l => l
def okCv : Cv → Bool
  | .raw v => okCell v
  | .any => false
  | .grow _ _ => false
  | _ => true
theorem okCv_rel {β : Nat → Option Nat} {W : World} {v : Value} {c : Cv} (hc : okCv c = true) (h : RelC β W v c) : okCell v = true := by
  cases c with
  | any => cases hc
  | raw u => rw [show v = u from h]; exact hc
  | ent e => exact e.cell h
  | ptr x o => obtain ⟨g, _, rfl⟩ := h; rfl
  | row x o n c => obtain ⟨g, _, rfl⟩ := h; rfl
  | grow x n => cases hc
theorem cells_one {v : Value} (h : okCell v = true) : v.cells = #[v] := by
  cases v <;> first | rfl | cases h
/-- The cells of a value that may be stored. -/
theorem relS_cells {β : Nat → Option Nat} {W : World} {v : Value} {s : Sv} (ho : (cellsOf s).all okCv = true) (h : RelS β W v s) :
    All2 (RelC β W) v.cells.toList (cellsOf s) ∧ ∀ c ∈ v.cells.toList, okCell c = true := by
  cases s with
  | cel c =>
    have hc : okCv c = true := by simpa [cellsOf] using ho
    have hk := okCv_rel hc h
    rw [cells_one hk]
    exact ⟨All2.one h, by simpa using hk⟩
  | agg l =>
    obtain ⟨vs, rfl, h2⟩ := h
    refine ⟨by simpa [Value.cells, cellsOf] using h2, ?_⟩
    have : ∀ c ∈ vs, okCell c = true := h2.mem fun x y hy hr => okCv_rel (List.all_eq_true.1 ho y hy) hr
    simpa [Value.cells] using this
end Go.Proofs.YtnncfbmddpijcaaGreatDoor.AM

/- What one operation does to what is said. -/
namespace Go.Proofs.YtnncfbmddpijcaaGreatDoor.AM
open Go Go.RowKit

/-- What a reckoning that looks at the program alone comes to. -/
def pureSem (P : Program) {α : Type} : Sem α → Option α
  | .pure a => some a
  | .program k => pureSem P (k P)
  | .mark _ k => pureSem P k
  | _ => none
theorem pureSem_run {P : Program} {α : Type} {s : Sem α} {a : α} (h : pureSem P s = some a) (w : World) : s.run P w = .ok a w := by
  induction s with
  | pure b => simp [pureSem] at h; subst h; rfl
  | program k ih => exact ih P h
  | mark m k ih => exact ih h
  | _ => simp [pureSem] at h

inductive Acc where
  | val (v : Av)
  | new (t : TypeId) (cs : List Cv) (k : Option (Nat × Nat))
  | load (x off : Nat) (n : Option Nat)
  | sto (x off : Nat) (cs : List Cv)
  | call (f : FuncId) (args : List Sv)
  | callv (e : Ent) (args : List Sv)

def rawA (v : Value) : Av := .one (.cel (.raw v))
def optVal (o : Option Value) : Option Acc := match o with | some v => some (.val (rawA v)) | none => none

def partsA (ev : Operand → Av) : List (Nat × Operand) → Option (List (Nat × Sv))
  | [] => some []
  | (i, x) :: l => match svOf (ev x), partsA ev l with | some s, some r => some ((i, s) :: r) | _, _ => none
def fillA (place : Nat → Option (Nat × Nat)) (cells : List Cv) : List (Nat × Sv) → Option (List Cv)
  | [] => some cells
  | (i, s) :: rest =>
    match place i with
    | none => none
    | some (off, size) => if (cellsOf s).length = size ∧ off + size ≤ cells.length ∧ (cellsOf s).all okCv = true then fillA place (putL cells off (cellsOf s)) rest else none
def rawCells (v : Value) : List Cv := v.cells.toList.map .raw
def placesA (P : Program) (t : TypeId) : Option (List Cv × (Nat → Option (Nat × Nat))) :=
  match P.info? t, P.underlying t with
  | some it, some (.array _ e) => (match it.zero, P.info? e with | some z, some ie => some (rawCells z, fun i => some (i * ie.size, ie.size)) | _, _ => none)
  | some it, some (.struct fields) => (match it.zero, fields.toList.mapM (fun f => (P.info? f.type).map fun i => (f.offset, i.size)) with | some z, some places => some (rawCells z, (places.toArray[·]?)) | _, _ => none)
  | _, _ => none
def svsOf (ev : Operand → Av) : List Operand → Option (List Sv)
  | [] => some []
  | x :: l => match svOf (ev x), svsOf ev l with | some s, some r => some (s :: r) | _, _ => none
def rawsOf (ev : Operand → Av) : List Operand → Option (List Value)
  | [] => some []
  | x :: l => match rawOf (ev x), rawsOf ev l with | some s, some r => some (s :: r) | _, _ => none
def lenA : Av → Option Nat
  | .one (.cel (.ent e)) => e.len
  | .one (.cel (.row _ _ n _)) => some n
  | .one (.cel (.raw (.slice _ n _))) => some n
  | _ => none
/-- One field of a struct at hand. -/
def fieldA (P : Program) (t : TypeId) (l : List Cv) (f : Nat) : Option Av :=
  match pureSem P (underlying t) with
  | some (.struct fs) =>
    (match fs[f]? with
    | some fd => (match pureSem P (isAgg fd.type), pureSem P (sizeOf fd.type) with
      | some true, some n => some (.one (.agg ((l.drop fd.offset).take n)))
      | some false, some _ => (match l[fd.offset]? with | some c => some (.one (.cel c)) | none => none)
      | _, _ => none)
    | none => none)
  | _ => none
def addrA (P : Program) (t : TypeId) (x : Nat) (off : Nat) (f : Nat) : Option Av :=
  match pureSem P (underlying t) with
  | some (.struct fs) =>
    (match fs[f]? with
    | some fd => (match pureSem P (sizeOf fd.type) with | some 0 => none | some _ => some (.one (.cel (.ptr x (off + fd.offset)))) | none => none)
    | none => none)
  | _ => none
def atA (P : Program) (t : TypeId) (b i : Av) : Option Av :=
  match b, i, pureSem P (underlying t) with
  | .one (.cel (.row x off n _)), .one (.cel (.raw (.int _ k))), some (.slice e) =>
    (match pureSem P (sizeOf e) with | some s => if 0 ≤ k ∧ k < n then some (.one (.cel (.ptr x (off + k.toNat * s)))) else none | none => none)
  | .one (.cel (.ptr x off)), .one (.cel (.raw (.int _ k))), some (.array n e) =>
    (match pureSem P (sizeOf e) with | some s => if 0 ≤ k ∧ k < n then some (.one (.cel (.ptr x (off + k.toNat * s)))) else none | none => none)
  | _, _, _ => none
def loadA (P : Program) (t : TypeId) : Av → Option Acc
  | .one (.cel (.ptr x off)) => (match pureSem P (isAgg t), pureSem P (sizeOf t) with | some true, some n => some (.load x off (some n)) | some false, some _ => some (.load x off none) | _, _ => none)
  | _ => none
def storeA (P : Program) (t : TypeId) (a v : Av) : Option Acc :=
  match a, svOf v with
  | .one (.cel (.ptr x off)), some s => (match pureSem P (sizeOf t) with | some n => if (cellsOf s).length = n ∧ (cellsOf s).all okCv = true then some (.sto x off (cellsOf s)) else none | none => none)
  | _, _ => none
def nilA (_P : Program) (_o : Oper) (v : Av) : Option Acc :=
  match v with
  | .one (.cel (.ptr _ _)) => some (.val v)
  | .one (.cel (.raw (.func (.func f) a b))) => some (.val (rawA (.func (.func f) a b)))
  | _ => none
def boxA (t : TypeId) (v : Av) : Option Acc :=
  match svOf v with | some s => if (cellsOf s).all okCv = true then some (.new t (cellsOf s) none) else none | none => none
def allocA (P : Program) (t : TypeId) : Option Acc :=
  match pureSem P (zeroValue t) with | some z => if (rawCells z).all okCv = true then some (.new t (rawCells z) none) else none | none => none
def buildA (P : Program) (t : TypeId) (ps : Option (List (Nat × Sv))) : Option Acc :=
  match placesA P t, ps with
  | some (zs, pl), some parts => (match fillA pl zs parts with | some cs => some (.val (.one (.agg cs))) | none => none)
  | _, _ => none
def buildSliceA (P : Program) (t : TypeId) (n : Nat) (ps : Option (List (Nat × Sv))) : Option Acc :=
  match P.underlying t, ps with
  | some (.slice e), some parts =>
    (match P.info? e with
    | some ie => (match ie.zero with
      | some z => if n * ie.size > 2 ^ 24 ∨ n * ie.size = 0 then none else
          (match fillA (fun i => some (i * ie.size, ie.size)) ((List.range (n * ie.size)).map fun i => .raw (z.cells[i % z.cells.size]!)) parts with
          | some cs => if cs.all okCv = true then some (.new e cs (some (n, n))) else none
          | none => none)
      | none => none)
    | none => none)
  | _, _ => none
def callA (P : Program) (_o : Oper) (c : Call) (ev : Operand → Av) : Option Acc :=
  match c.callee with
  | .value f => (match ev f, svsOf ev c.args.toList with
    | .one (.cel (.raw (.func (.func g) ⟨[]⟩ ⟨[]⟩))), some args => some (.call g args)
    | .one (.cel (.ent e)), some args => some (.callv e args)
    | _, _ => none)
  | .builtin .len => (match c.args with
    | ⟨[x]⟩ => (match c.argTypes with
      | ⟨[t]⟩ => (match pureSem P (underlying t), lenA (ev x) with | some (.slice _), some n => some (.val (rawA (.int .i64 n))) | some .string, _ => (match rawOf (ev x) with | some (.string s) => some (.val (rawA (.int .i64 s.size))) | _ => none) | _, _ => none)
      | _ => none)
    | _ => none)
  | _ => none
/-- One place of a row at hand, or of a text. -/
def placeA (P : Program) (t : TypeId) (l : List Cv) (k : Int) : Option Av :=
  match pureSem P (underlying t) with
  | some (.array n e) =>
    (match pureSem P (sizeOf e) with
    | some s => if 0 ≤ k ∧ k < n then
        (match pureSem P (isAgg e) with
        | some true => some (.one (.agg ((l.drop (k.toNat * s)).take s)))
        | some false => (match l[k.toNat * s]? with | some c => some (.one (.cel c)) | none => none)
        | none => none) else none
    | none => none)
  | _ => none
def indexA (P : Program) (t : TypeId) (x i : Av) : Option Acc :=
  match x, rawOf i with
  | .one (.agg l), some (.int _ k) => (placeA P t l k).map .val
  | .one (.cel (.raw a)), some b => optVal (pureSem P (Instr.index t a b))
  | _, _ => none
/-- What an operation does, of what its operands are said to be. -/
def acc (P : Program) (o : Oper) (ev : Operand → Av) : Option Acc :=
  match o.op with
  | .move x => some (.val (ev x))
  | .assign x => some (.val (ev x))
  | .pick c a b => (match rawOf (ev c) with | some (.bool true) => some (.val (ev a)) | some (.bool false) => some (.val (ev b)) | _ => none)
  | .alloc t => allocA P t
  | .box t x => boxA t (ev x)
  | .build t ps => buildA P t (partsA ev ps.toList)
  | .buildSlice t n ps => buildSliceA P t n (partsA ev ps.toList)
  | .load t x => loadA P t (ev x)
  | .store t x v => storeA P t (ev x) (ev v)
  | .nilCheck x => nilA P o (ev x)
  | .binOp op t x y _ => (match rawOf (ev x), rawOf (ev y) with | some a, some b => optVal (pureSem P (do eqGuard op t x y a b; binOp op t a b)) | _, _ => none)
  | .unOp op _ x => (match rawOf (ev x) with | some a => optVal (pureSem P (Op.unary op a)) | none => none)
  | .convert s d x => (match rawOf (ev x) with | some a => optVal (pureSem P (convert s d a)) | none => none)
  | .makeInterface t x => (match rawOf (ev x) with | some a => optVal (pureSem P (Instr.makeInterface t a)) | none => none)
  | .index t x i => indexA P t (ev x) (ev i)
  | .fieldAddr t x f => (match ev x with | .one (.cel (.ptr y off)) => (addrA P t y off f).map .val | _ => none)
  | .field t x f => (match ev x with | .one (.agg l) => (fieldA P t l f).map .val | _ => none)
  | .indexAddr t x i => (atA P t (ev x) (ev i)).map .val
  | .extract x i => (match ev x with | .tup l => (match l[i]? with | some s => some (.val (.one s)) | none => none) | _ => none)
  | .call c => callA P o c ev
  | _ => none

theorem partsA_congr {ev ev' : Operand → Av} : ∀ {l : List (Nat × Operand)}, (∀ x ∈ l.map (·.2), ev x = ev' x) → partsA ev l = partsA ev' l
  | [], _ => rfl
  | (i, x) :: l, h => by
    unfold partsA
    rw [h x (by simp), partsA_congr (l := l) fun y hy => h y (by simp only [List.map_cons, List.mem_cons]; exact Or.inr hy)]
theorem svsOf_congr {ev ev' : Operand → Av} : ∀ {l : List Operand}, (∀ x ∈ l, ev x = ev' x) → svsOf ev l = svsOf ev' l
  | [], _ => rfl
  | x :: l, h => by
    unfold svsOf
    rw [h x (by simp), svsOf_congr (l := l) fun y hy => h y (List.mem_cons_of_mem _ hy)]
theorem rawsOf_congr {ev ev' : Operand → Av} : ∀ {l : List Operand}, (∀ x ∈ l, ev x = ev' x) → rawsOf ev l = rawsOf ev' l
  | [], _ => rfl
  | x :: l, h => by
    unfold rawsOf
    rw [h x (by simp), rawsOf_congr (l := l) fun y hy => h y (List.mem_cons_of_mem _ hy)]
/-- It hangs on the operands alone. -/
theorem acc_congr (P : Program) (o : Oper) {ev ev' : Operand → Av} (h : ∀ x ∈ o.op.operands.toList, ev x = ev' x) : acc P o ev = acc P o ev' := by
  obtain ⟨dst, op, type, pos, after, guard⟩ := o
  cases op <;> (try rfl) <;> simp only [Op.operands, Call.operands, List.mem_cons, List.not_mem_nil, or_false, forall_eq_or_imp, forall_eq] at h <;> simp only [acc]
  case build t ps => rw [partsA_congr (ev := ev) (ev' := ev') (by simpa using h)]
  case buildSlice t n ps => rw [partsA_congr (ev := ev) (ev' := ev') (by simpa using h)]
  case call c =>
    obtain ⟨callee, args, ats⟩ := c
    cases callee with
    | value f =>
      have hf : ev f = ev' f := h f (by simp)
      have ha : svsOf ev args.toList = svsOf ev' args.toList := svsOf_congr fun x hx => h x (by simp [Array.mem_toList_iff.1 hx])
      simp only [callA, hf, ha]
    | invoke r m => rfl
    | builtin b =>
      cases b <;> try rfl
      obtain ⟨args⟩ := args
      match args with
      | [] => rfl
      | [x] =>
        have hx : ev x = ev' x := h x (by simp)
        simp only [callA, hx]
      | _ :: _ :: _ => rfl
  all_goals (try simp only [h])
  all_goals (try (obtain ⟨h1, h2⟩ := h; simp only [h1, h2]))
end Go.Proofs.YtnncfbmddpijcaaGreatDoor.AM

/- What is said of an operation is so. -/
namespace Go.Proofs.YtnncfbmddpijcaaGreatDoor.AM
open Go Go.RowKit

/-- A function of the program's own text. -/
def Callable (P : Program) (f : FuncId) : Prop := ∃ fn, P.funcs[f]? = some fn ∧ (fn.name == "runtime.NumGoroutine") = false ∧ fn.body.isNone = false
theorem run_callFunc {P : Program} {f : FuncId} (h : Callable P f) (args : Array Value) (w : World) : (callFunc f args).run P w = .ok (.enter f args) w := by
  obtain ⟨fn, h1, h2, h3⟩ := h
  obtain ⟨c, hc⟩ : ∃ c, fn.body = some c := by cases e : fn.body with
    | none => rw [e] at h3; cases h3
    | some c => exact ⟨c, rfl⟩
  simp [callFunc, h1, hc, show ¬ fn.name = "runtime.NumGoroutine" by simpa using h2]

def AccOk (P : Program) (β : Nat → Option Nat) (W : World) (o : Oper) (a : Act) (w : World) : Acc → Prop
  | .val av => ∃ v, (execOp a.eval o).run P w = .ok (.value v) w ∧ RelA β W v av
  | .new t cs k => ∃ vs : List Value, (execOp a.eval o).run P w = .ok (.value (match k with | none => .pointer (some ⟨w.heap.size, 0, none⟩) | some (n, c) => .slice (some ⟨w.heap.size, 0, none⟩) n c)) (w.alloc (.cells vs.toArray t)) ∧
      All2 (RelC β W) vs cs ∧ ∀ v ∈ vs, okCell v = true
  | .load x off none => ∃ g, β x = some g ∧ ∀ u, w.cell? ⟨g, off, none⟩ = some u → (execOp a.eval o).run P w = .ok (.value u) w
  | .load x off (some n) => ∃ g, β x = some g ∧ ∀ us : List Value, us.length = n → (∀ i u, us[i]? = some u → w.cell? ⟨g, off + i, none⟩ = some u) → (execOp a.eval o).run P w = .ok (.value (.agg us.toArray)) w
  | .sto x off cs => ∃ g vs, β x = some g ∧ All2 (RelC β W) vs cs ∧ (∀ v ∈ vs, okCell v = true) ∧ ∀ cells t, w.heap[g]? = some (.cells cells t (0, 0)) → off + vs.length ≤ cells.size →
      (execOp a.eval o).run P w = .ok .skip (w.setRow g (putL cells.toList off vs).toArray)
  | .call f args => ∃ vals : List Value, All2 (RelS β W) vals args ∧ (Callable P f → (execOp a.eval o).run P w = .ok (.enter f vals.toArray) w)
  | .callv e args => ∃ (u : Value) (vals : List Value), e.holds W u ∧ All2 (RelS β W) vals args ∧ ∀ f vs us, u = .func (.func f) vs us → Callable P f → (execOp a.eval o).run P w = .ok (.enter f (vs ++ vals.toArray ++ us)) w

section
variable {P : Program} {β : Nat → Option Nat} {W w : World} {a : Act} {ev : Operand → Av}

theorem add_at (g off i : Nat) : (⟨g, off, none⟩ : Addr).add i = ⟨g, off + i, none⟩ := by unfold Addr.add; split <;> simp_all
theorem okCell_one {v : Value} (h : okCell v = true) : v.oneCell' = true := by cases v <;> first | rfl | cases h
theorem rawOf_rel {v u : Value} {av : Av} (h : rawOf av = some u) (k : RelA β W v av) : v = u := by
  rw [rawOf_some h] at k; exact k

theorem foldl_put (off : Nat) : ∀ (l : List Value) (k : Nat) (cs : Array Value), off + k + l.length ≤ cs.size →
    ((l.zipIdx k).foldl (fun cs x => cs.setIfInBounds (off + x.2) x.1) cs).toList = putL cs.toList (off + k) l
  | [], k, cs, _ => by simp [putL]
  | v :: l, k, cs, h => by
    rw [List.zipIdx_cons, List.foldl_cons, foldl_put off l (k + 1) (cs.setIfInBounds (off + k) v) (by simp at h ⊢; omega)]
    have e := list_seg_step cs.toList (off + k) v l (by simp at h ⊢; omega)
    simp only [putL, List.length_cons, Array.toList_setIfInBounds]
    rw [← Nat.add_assoc off k 1]
    exact e
theorem putL_length {α : Type} (l : List α) (off : Nat) (cs : List α) (h : off + cs.length ≤ l.length) : (putL l off cs).length = l.length := by
  unfold putL; simp; omega
theorem fill_rel (place : Nat → Option (Nat × Nat)) : ∀ (parts : List (Nat × Value)) (pa : List (Nat × Sv)) (cells : Array Value) (cs res : List Cv),
    All2 (fun p q => p.1 = q.1 ∧ RelS β W p.2 q.2) parts pa → All2 (RelC β W) cells.toList cs → fillA place cs pa = some res →
    ∃ cells', Instr.fill place cells parts = some cells' ∧ All2 (RelC β W) cells'.toList res
  | [], [], cells, cs, res, _, hc, h => by
    injection h with h; subst h; exact ⟨cells, rfl, hc⟩
  | (i, v) :: parts, (j, s) :: pa, cells, cs, res, ⟨⟨hij, hv⟩, hr⟩, hc, h => by
    dsimp only at hij hv
    subst hij
    unfold fillA at h
    unfold Instr.fill
    cases hp : place i with
    | none => rw [hp] at h; cases h
    | some os =>
      obtain ⟨off, size⟩ := os
      rw [hp] at h
      dsimp only at h ⊢
      split at h
      · rename_i hcond
        obtain ⟨h1, h2, h3⟩ := hcond
        obtain ⟨hrel, _⟩ := relS_cells h3 hv
        have hl := hrel.length
        have hcl := hc.length
        have hsz : v.cells.size = size := by rw [← Array.length_toList, hl, h1]
        have hcs : cells.size = cs.length := by rw [← Array.length_toList, hcl]
        rw [if_neg (by simp [hsz]; omega)]
        have hput := foldl_put off v.cells.toList 0 cells (by rw [Array.length_toList]; omega)
        have e : (v.cells.zipIdx.foldl (fun cs x => cs.setIfInBounds (off + x.2) x.1) cells).toList = putL cells.toList off v.cells.toList := by
          rw [← Array.foldl_toList, Array.toList_zipIdx]; exact hput
        have hc' : All2 (RelC β W) (v.cells.zipIdx.foldl (fun cs x => cs.setIfInBounds (off + x.2) x.1) cells).toList (putL cs off (cellsOf s)) := by
          rw [e]; exact All2.putted off hc hrel
        exact fill_rel place parts pa _ _ res hr hc' h
      · cases h
  | [], _ :: _, _, _, _, h, _, _ => h.elim
  | _ :: _, [], _, _, _, h, _, _ => h.elim

theorem partsA_rel : ∀ {l : List (Nat × Operand)} {parts : List (Nat × Sv)}, (∀ x ∈ l.map (·.2), RelA β W (a.eval x) (ev x)) → partsA ev l = some parts →
    All2 (fun p q => p.1 = q.1 ∧ RelS β W p.2 q.2) (l.map fun p => (p.1, a.eval p.2)) parts
  | [], parts, _, h => by injection h with h; subst h; trivial
  | (i, x) :: l, parts, hev, h => by
    unfold partsA at h
    split at h
    · rename_i s r hs hr
      injection h with h; subst h
      have hx := hev x (by simp)
      rw [svOf_some hs] at hx
      exact ⟨⟨rfl, hx⟩, partsA_rel (fun y hy => hev y (by simp only [List.map_cons, List.mem_cons]; exact Or.inr hy)) hr⟩
    · cases h
theorem svsOf_rel : ∀ {l : List Operand} {args : List Sv}, (∀ x ∈ l, RelA β W (a.eval x) (ev x)) → svsOf ev l = some args → All2 (RelS β W) (l.map a.eval) args
  | [], args, _, h => by injection h with h; subst h; trivial
  | x :: l, args, hev, h => by
    unfold svsOf at h
    split at h
    · rename_i s r hs hr
      injection h with h; subst h
      have hx := hev x (by simp)
      rw [svOf_some hs] at hx
      exact ⟨hx, svsOf_rel (fun y hy => hev y (List.mem_cons_of_mem _ hy)) hr⟩
    · cases h
theorem rawsOf_rel : ∀ {l : List Operand} {rs : List Value}, (∀ x ∈ l, RelA β W (a.eval x) (ev x)) → rawsOf ev l = some rs → l.map a.eval = rs
  | [], rs, _, h => by injection h with h
  | x :: l, rs, hev, h => by
    unfold rawsOf at h
    split at h
    · rename_i s r hs hr
      injection h with h; subst h
      rw [List.map_cons, rawOf_rel hs (hev x (by simp)), rawsOf_rel (fun y hy => hev y (List.mem_cons_of_mem _ hy)) hr]
    · cases h
theorem rawCells_rel (z : Value) : All2 (RelC β W) z.cells.toList (rawCells z) := All2.self (R := RelC β W) (fun v => Cv.raw v) (fun _ => rfl) _
theorem rawCells_ok {z : Value} (h : (rawCells z).all okCv = true) : ∀ v ∈ z.cells.toList, okCell v = true := fun v hv => by
  have := List.all_eq_true.1 h (.raw v) (List.mem_map.2 ⟨v, hv, rfl⟩)
  exact this

theorem optVal_some {x : Option Value} {A : Acc} (h : optVal x = some A) : ∃ v, x = some v ∧ A = .val (rawA v) := by
  cases x with
  | none => cases h
  | some v => injection h with h; exact ⟨v, rfl, h.symm⟩
theorem run_value {s : Sem Value} {v : Value} (h : pureSem P s = some v) (w : World) : (do let x ← s; pure (Next.value x) : Sem Next).run P w = .ok (.value v) w := by
  rw [Sem.run_bind, pureSem_run h]; rfl

theorem run_len {t e : TypeId} {ty : TypeId} {A : Option Addr} {n c : Nat} (h : pureSem P (underlying t) = some (.slice e)) : (Builtin.len_ #[t] ty #[.slice A n c]).run P w = .ok (goInt n) w := by
  simp [Builtin.len_, pureSem_run h w]
theorem run_len_str {t : TypeId} {ty : TypeId} {s : ByteArray} (h : pureSem P (underlying t) = some .string) : (Builtin.len_ #[t] ty #[.string s]).run P w = .ok (goInt s.size) w := by
  simp [Builtin.len_, pureSem_run h w]
theorem lenA_rel {v : Value} {av : Av} {n : Nat} (h : lenA av = some n) (k : RelA β W v av) : ∃ A c, v = .slice A n c := by
  unfold lenA at h
  split at h
  · exact Ent.slice _ k h
  · injection h with h; subst h; obtain ⟨g, _, rfl⟩ := k; exact ⟨_, _, rfl⟩
  · injection h with h; subst h; exact ⟨_, _, k⟩
  · cases h

theorem fieldA_rel {t : TypeId} {l : List Cv} {f : Nat} {av : Av} {vs : List Value} (h : fieldA P t l f = some av) (k : All2 (RelC β W) vs l) :
    ∃ v, (Instr.field t (.agg vs.toArray) f).run P w = .ok v w ∧ RelA β W v av := by
  unfold fieldA at h
  split at h
  · rename_i fs hu
    split at h
    · rename_i fd hf
      split at h
      · rename_i n hA hS
        injection h with h; subst h
        refine ⟨.agg ((vs.drop fd.offset).take n).toArray, ?_, _, rfl, (k.drop _).take _⟩
        simp [Instr.field, pureSem_run hu w, hf, asAgg, part, pureSem_run hA w, pureSem_run hS w]
      · rename_i n hA hS
        split at h
        · rename_i c hc
          injection h with h; subst h
          obtain ⟨u, h1, h2⟩ := k.get hc
          refine ⟨u, ?_, h2⟩
          simp [Instr.field, pureSem_run hu w, hf, asAgg, part, pureSem_run hA w, h1]
        · cases h
      · cases h
    · cases h
  · cases h
theorem placeA_rel {t : TypeId} {l : List Cv} {kk : IntKind} {k : Int} {av : Av} {vs : List Value} (h : placeA P t l k = some av) (hv : All2 (RelC β W) vs l) :
    ∃ v, (Instr.index t (.agg vs.toArray) (.int kk k)).run P w = .ok v w ∧ RelA β W v av := by
  unfold placeA at h
  split at h
  · rename_i n e hu
    split at h
    · rename_i s hS
      split at h
      · rename_i hk
        split at h
        · rename_i hA
          injection h with h; subst h
          refine ⟨.agg ((vs.drop (k.toNat * s)).take s).toArray, ?_, _, rfl, (hv.drop _).take _⟩
          simp [Instr.index, asIntOf, pureSem_run hu w, hk, part, pureSem_run hA w, pureSem_run hS w]
        · rename_i hA
          split at h
          · rename_i c hc
            injection h with h; subst h
            obtain ⟨u, h1, h2⟩ := hv.get hc
            refine ⟨u, ?_, h2⟩
            simp [Instr.index, asIntOf, pureSem_run hu w, hk, part, pureSem_run hA w, pureSem_run hS w, h1]
          · cases h
        · cases h
      · cases h
    · cases h
  · cases h
theorem addrA_rel {t : TypeId} {x off f g : Nat} {av : Av} (hb : β x = some g) (h : addrA P t x off f = some av) :
    ∃ v, (Instr.fieldAt t (.pointer (some ⟨g, off, none⟩)) f).run P w = .ok v w ∧ RelA β W v av := by
  unfold addrA at h
  split at h
  · rename_i fs hu
    split at h
    · rename_i fd hf
      split at h
      · cases h
      · rename_i n hS hn
        injection h with h; subst h
        refine ⟨.pointer (some ⟨g, off + fd.offset, none⟩), ?_, g, hb, rfl⟩
        have hn0 : ¬ n = 0 := fun e => hS e
        simp [Instr.fieldAt, pureSem_run hu w, hf, Instr.sureAddr, fieldPlace, pureSem_run hn w, hn0, add_at]
      · cases h
    · cases h
  · cases h
theorem atA_rel {t : TypeId} {b i av : Av} {vb vi : Value} (hb : RelA β W vb b) (hi : RelA β W vi i) (h : atA P t b i = some av) :
    ∃ v, (Instr.indexAt t vb vi).run P w = .ok v w ∧ RelA β W v av := by
  unfold atA at h
  split at h
  · rename_i x off n c kk k e hu
    split at h
    · rename_i s hS
      split at h
      · rename_i hk
        injection h with h; subst h
        obtain ⟨g, hg, rfl⟩ := hb
        obtain rfl : vi = .int kk k := hi
        refine ⟨.pointer (some ⟨g, off + k.toNat * s, none⟩), ?_, g, hg, rfl⟩
        simp [Instr.indexAt, asIntOf, pureSem_run hu w, hk, pureSem_run hS w, add_at]
      · cases h
    · cases h
  · rename_i x off kk k n e hu
    split at h
    · rename_i s hS
      split at h
      · rename_i hk
        injection h with h; subst h
        obtain ⟨g, hg, rfl⟩ := hb
        obtain rfl : vi = .int kk k := hi
        refine ⟨.pointer (some ⟨g, off + k.toNat * s, none⟩), ?_, g, hg, rfl⟩
        simp [Instr.indexAt, asIntOf, Instr.sureAddr, pureSem_run hu w, hk, pureSem_run hS w, add_at]
      · cases h
    · cases h
  · cases h
end
end Go.Proofs.YtnncfbmddpijcaaGreatDoor.AM

/- What is said of an operation is so: all of them. -/
namespace Go.Proofs.YtnncfbmddpijcaaGreatDoor.AM
open Go Go.RowKit

section
variable {P : Program} {β : Nat → Option Nat} {W w : World} {a : Act} {ev : Operand → Av}

theorem acc_sound (o : Oper) (A : Acc) (hev : ∀ x ∈ o.op.operands.toList, RelA β W (a.eval x) (ev x)) (h : acc P o ev = some A) : AccOk P β W o a w A := by
  obtain ⟨dst, op, type, pos, after, guard⟩ := o
  cases op <;> simp only [acc] at h <;> (try (cases h; done)) <;> simp only [Op.operands, List.mem_cons, List.not_mem_nil, or_false, forall_eq_or_imp, forall_eq] at hev
  case move x => injection h with h; subst h; exact ⟨_, rfl, hev⟩
  case assign x => injection h with h; subst h; exact ⟨_, rfl, hev⟩
  case pick c x y =>
    obtain ⟨hc, hx, hy⟩ := hev
    split at h
    · rename_i hr
      injection h with h; subst h
      exact ⟨a.eval x, by simp [execOp, rawOf_rel hr hc, asBool], hx⟩
    · rename_i hr
      injection h with h; subst h
      exact ⟨a.eval y, by simp [execOp, rawOf_rel hr hc, asBool], hy⟩
    · cases h
  case alloc t =>
    unfold allocA at h
    split at h
    · rename_i z hz
      split at h
      · rename_i hok
        injection h with h; subst h
        exact ⟨z.cells.toList, by simp [execOp, Instr.alloc, pureSem_run hz w, newVar, newRow], rawCells_rel z, rawCells_ok hok⟩
      · cases h
    · cases h
  case box t x =>
    unfold boxA at h
    split at h
    · rename_i s hs
      split at h
      · rename_i hok
        injection h with h; subst h
        rw [svOf_some hs] at hev
        obtain ⟨h1, h2⟩ := relS_cells hok hev
        exact ⟨(a.eval x).cells.toList, by simp [execOp, Instr.box, newVar, newRow], h1, h2⟩
      · cases h
    · cases h
  case build t ps =>
    unfold buildA at h
    split at h
    · rename_i zs pl parts hp hpa
      split at h
      · rename_i cs hf
        injection h with h; subst h
        have hrel := partsA_rel (β := β) (W := W) (a := a) (by simpa using hev) hpa
        have key : ∀ (z : Value), zs = rawCells z → P.built t ((ps.map fun (i, x) => (i, a.eval x)).toList) = Instr.fill pl z.cells ((ps.map fun (i, x) => (i, a.eval x)).toList) →
            AccOk P β W { dst, op := .build t ps, type, pos, after, guard } a w (.val (.one (.agg cs))) := by
          intro z hz hb
          subst hz
          obtain ⟨cells', h1, h2⟩ := fill_rel pl _ parts z.cells _ cs hrel (rawCells_rel z) hf
          rw [Array.toList_map] at hb
          have hb' : P.built t (ps.map fun (i, x) => (i, a.eval x)).toList = some cells' := by
            rw [Array.toList_map]; exact hb.trans h1
          refine ⟨.agg cells', ?_, cells'.toList, by simp, h2⟩
          unfold execOp
          simp only [Sem.run_bind, run_build w t _ _ hb', Result.andThen_ok, Sem.run_pure]
        unfold placesA at hp
        split at hp
        · rename_i it e1 n e hi hu
          split at hp
          · rename_i z ie hz hie
            injection hp with hp; injection hp with hp1 hp2
            refine key z hp1.symm ?_
            unfold Program.built
            simp only [hi, hu, hz, hie, hp2]
          · cases hp
        · rename_i it fields hi hu
          split at hp
          · rename_i z places hz hpl
            injection hp with hp; injection hp with hp1 hp2
            refine key z hp1.symm ?_
            unfold Program.built
            simp only [hi, hu, hz, hpl, hp2]
          · cases hp
        · cases hp
      · cases h
    · cases h
  case buildSlice t n ps =>
    unfold buildSliceA at h
    split at h
    · rename_i e parts hu hpa
      split at h
      · rename_i ie hie
        split at h
        · rename_i z hz
          split at h
          · cases h
          · rename_i hsz
            split at h
            · rename_i cs hf
              split at h
              · rename_i hok
                injection h with h; subst h
                have hrel := partsA_rel (β := β) (W := W) (a := a) (by simpa using hev) hpa
                obtain ⟨cells', h1, h2⟩ := fill_rel (β := β) (W := W) _ _ parts ((Array.range (n * ie.size)).map (z.cells[· % z.cells.size]!)) _ cs hrel
                  (by rw [Array.toList_map, Array.toList_range]; exact All2.map2 (R := RelC β W) (f := fun i => z.cells[i % z.cells.size]!) (g := fun i => Cv.raw (z.cells[i % z.cells.size]!)) (fun _ => rfl) _) hf
                have hb : Instr.fill (fun i => some (i * ie.size, ie.size)) ((Array.range (n * ie.size)).map (z.cells[· % z.cells.size]!)) (ps.map fun (i, x) => (i, a.eval x)).toList = some cells' := by
                  rw [Array.toList_map]; exact h1
                refine ⟨cells'.toList, ?_, h2, h2.mem fun x y hy hr => okCv_rel (List.all_eq_true.1 hok y hy) hr⟩
                unfold execOp
                simp only [Sem.run_bind, run_buildSlice w t e n _ cells' ie z hu hie hz (by omega) (by omega) hb, Result.andThen_ok, Sem.run_pure, Array.toArray_toList]
              · cases h
            · cases h
        · cases h
      · cases h
    · cases h
  case load t x =>
    unfold loadA at h
    split at h
    · rename_i y off hx
      rw [hx] at hev
      obtain ⟨g, hg, hx'⟩ := hev
      split at h
      · rename_i n hA hS
        injection h with h; subst h
        refine ⟨g, hg, fun us hl hc => ?_⟩
        have hld := run_loadCells_list (P := P) w ⟨g, off, none⟩ us (fun j v hj => by rw [add_at]; exact hc j v hj)
        rw [hl] at hld
        simp [execOp, hx', Instr.loadAt, Instr.sureAddr, loadVar, pureSem_run hA w, pureSem_run hS w, hld]
      · rename_i n hA hS
        injection h with h; subst h
        refine ⟨g, hg, fun u hc => ?_⟩
        simp [execOp, hx', Instr.loadAt, Instr.sureAddr, loadVar, pureSem_run hA w, hc]
      · cases h
    · cases h
  case store t x y =>
    obtain ⟨hx, hy⟩ := hev
    unfold storeA at h
    split at h
    · rename_i z off s hxe hs
      split at h
      · rename_i n hS
        split at h
        · rename_i hc
          injection h with h; subst h
          rw [hxe] at hx
          obtain ⟨g, hg, hx'⟩ := hx
          rw [svOf_some hs] at hy
          obtain ⟨h1, h2⟩ := relS_cells hc.2 hy
          refine ⟨g, (a.eval y).cells.toList, hg, h1, h2, fun cells t' hcell hle => ?_⟩
          have hst := run_storeCells_at P g off t' (a.eval y).cells.toList 0 cells w hcell (by simpa using hle) (fun v hv => okCell_one (h2 v hv))
          have hsz : (a.eval y).cells.size = n := by rw [← Array.length_toList, h1.length, hc.1]
          simp only [Nat.add_zero] at hst
          simp [execOp, hx', Instr.storeAt, Instr.sureAddr, storeVar, pureSem_run hS w, hsz, hst, putL]
        · cases h
      · cases h
    · cases h
  case nilCheck x =>
    unfold nilA at h
    split at h
    · rename_i y off hx
      injection h with h; subst h
      rw [hx] at hev
      obtain ⟨g, hg, hx'⟩ := hev
      exact ⟨.pointer (some ⟨g, off, none⟩), by simp [execOp, hx'], by rw [hx]; exact ⟨g, hg, rfl⟩⟩
    · rename_i f b c hx
      injection h with h; subst h
      rw [hx] at hev
      replace hev : a.eval x = _ := hev
      exact ⟨_, by simp [execOp, hev], rfl⟩
    · cases h
  case binOp op t x y yt =>
    obtain ⟨hx, hy⟩ := hev
    split at h
    · rename_i u v hu hv
      obtain ⟨r, hr, rfl⟩ := optVal_some h
      have e1 := rawOf_rel hu hx
      have e2 := rawOf_rel hv hy
      refine ⟨r, ?_, rfl⟩
      unfold execOp
      simp only [e1, e2]
      exact run_value hr w
    · cases h
  case unOp op t x =>
    split at h
    · rename_i u hu
      obtain ⟨r, hr, rfl⟩ := optVal_some h
      have e1 := rawOf_rel hu hev
      refine ⟨r, ?_, rfl⟩
      unfold execOp
      simp only [e1]
      exact run_value hr w
    · cases h
  case convert s d x =>
    split at h
    · rename_i u hu
      obtain ⟨r, hr, rfl⟩ := optVal_some h
      have e1 := rawOf_rel hu hev
      refine ⟨r, ?_, rfl⟩
      unfold execOp
      simp only [e1]
      exact run_value hr w
    · cases h
  case makeInterface t x =>
    split at h
    · rename_i u hu
      obtain ⟨r, hr, rfl⟩ := optVal_some h
      have e1 := rawOf_rel hu hev
      refine ⟨r, ?_, rfl⟩
      unfold execOp
      simp only [e1]
      exact run_value hr w
    · cases h
  case index t x y =>
    obtain ⟨hx, hy⟩ := hev
    unfold indexA at h
    split at h
    · rename_i l kk k hx0 hv
      obtain ⟨av, h1, rfl⟩ := Option.map_eq_some_iff.1 h
      rw [hx0] at hx
      obtain ⟨vs, hvs, hrel⟩ := hx
      obtain ⟨v, hv1, hr⟩ := placeA_rel (W := W) (w := w) (kk := kk) h1 hrel
      refine ⟨v, ?_, hr⟩
      have e2 := rawOf_rel hv hy
      unfold execOp
      simp only [hvs, e2, Sem.run_bind, hv1, Result.andThen_ok, Sem.run_pure]
    · rename_i u v hx0 hv
      obtain ⟨r, hr, rfl⟩ := optVal_some h
      rw [hx0] at hx
      have e1 : a.eval x = u := hx
      have e2 := rawOf_rel hv hy
      refine ⟨r, ?_, rfl⟩
      unfold execOp
      simp only [e1, e2]
      exact run_value hr w
    · cases h
  case fieldAddr t x f =>
    split at h
    · rename_i y off hx
      obtain ⟨av, h1, rfl⟩ := Option.map_eq_some_iff.1 h
      rw [hx] at hev
      obtain ⟨g, hg, hx'⟩ := hev
      obtain ⟨v, hv, hr⟩ := addrA_rel (W := W) (w := w) hg h1
      refine ⟨v, ?_, hr⟩
      unfold execOp
      simp only [hx', Sem.run_bind, hv, Result.andThen_ok, Sem.run_pure]
    · cases h
  case field t x f =>
    split at h
    · rename_i l hx
      obtain ⟨av, h1, rfl⟩ := Option.map_eq_some_iff.1 h
      rw [hx] at hev
      obtain ⟨vs, hx', hl⟩ := hev
      obtain ⟨v, hv, hr⟩ := fieldA_rel (w := w) h1 hl
      refine ⟨v, ?_, hr⟩
      unfold execOp
      simp only [hx', Sem.run_bind, hv, Result.andThen_ok, Sem.run_pure]
    · cases h
  case indexAddr t x y =>
    obtain ⟨hx, hy⟩ := hev
    obtain ⟨av, h1, rfl⟩ := Option.map_eq_some_iff.1 h
    obtain ⟨v, hv, hr⟩ := atA_rel (w := w) hx hy h1
    refine ⟨v, ?_, hr⟩
    unfold execOp
    simp only [Sem.run_bind, hv, Result.andThen_ok, Sem.run_pure]
  case extract x i =>
    split at h
    · rename_i l hx
      split at h
      · rename_i s hs
        injection h with h; subst h
        rw [hx] at hev
        obtain ⟨vs, hx', hl⟩ := hev
        obtain ⟨v, hv, hr⟩ := hl.get hs
        refine ⟨v, ?_, hr⟩
        simp [execOp, hx', Instr.extract, hv]
      · cases h
    · cases h
  case call c =>
    obtain ⟨callee, args, ats⟩ := c
    unfold callA at h
    split at h
    · rename_i f hcal
      dsimp only at hcal
      subst hcal
      split at h
      · rename_i g xs hf hargs
        injection h with h; subst h
        have hf' : RelA β W (a.eval f) (ev f) := hev f (by simp [Call.operands])
        rw [hf] at hf'
        replace hf' : a.eval f = .func (.func g) #[] #[] := hf'
        refine ⟨args.toList.map a.eval, svsOf_rel (fun x hx => hev x (by simp [Call.operands, Array.mem_toList_iff.1 hx])) hargs, fun hcb => ?_⟩
        have := run_callFunc hcb (args.toList.map a.eval).toArray w
        have e : (#[] ++ args.map a.eval ++ #[] : Array Value) = (args.toList.map a.eval).toArray := by
          cases args; simp
        simp only [execOp, resolve, hf', Deferred.ofValue, Sem.run_bind, Sem.run_pure, Result.andThen_ok, invoke]
        rw [e]; exact this
      · rename_i g xs hf hargs
        injection h with h; subst h
        have hf' : RelA β W (a.eval f) (ev f) := hev f (by simp [Call.operands])
        rw [hf] at hf'
        refine ⟨a.eval f, args.toList.map a.eval, hf', svsOf_rel (fun x hx => hev x (by simp [Call.operands, Array.mem_toList_iff.1 hx])) hargs, fun g vs us hg hcb => ?_⟩
        have := run_callFunc hcb (vs ++ (args.toList.map a.eval).toArray ++ us) w
        have e : (vs ++ args.map a.eval ++ us : Array Value) = vs ++ (args.toList.map a.eval).toArray ++ us := by
          cases args; simp
        simp only [execOp, resolve, hg, Deferred.ofValue, Sem.run_bind, Sem.run_pure, Result.andThen_ok, invoke]
        rw [e]; exact this
      · cases h
    · rename_i hcal
      dsimp only at hcal
      subst hcal
      split at h
      · rename_i args' x hargs
        dsimp only at hargs
        subst hargs
        split at h
        · rename_i ats' t hats
          dsimp only at hats
          subst hats
          have hx : RelA β W (a.eval x) (ev x) := hev x (by simp [Call.operands])
          split at h
          · rename_i e n hu hl
            injection h with h; subst h
            obtain ⟨A, c, hA⟩ := lenA_rel hl hx
            refine ⟨.int .i64 n, ?_, rfl⟩
            have := run_len (P := P) (ty := type) (w := w) (A := A) (n := n) (c := c) hu
            simp [execOp, resolve, invoke, builtin, hA, this, goInt]
          · rename_i hu
            split at h
            · rename_i s hs
              injection h with h; subst h
              refine ⟨.int .i64 s.size, ?_, rfl⟩
              have := run_len_str (P := P) (ty := type) (w := w) (s := s) hu
              simp [execOp, resolve, invoke, builtin, rawOf_rel hs hx, this, goInt]
            · cases h
          · cases h
        · cases h
      · cases h
    · cases h
end
end Go.Proofs.YtnncfbmddpijcaaGreatDoor.AM

/- An abstract machine for Go's code: part of the library of this claim. -/
/- The state of a call, and one operation carried out. -/
namespace Go.Proofs.YtnncfbmddpijcaaGreatDoor.AM
open Go Go.RowKit

/-- Digits of numbers are seen by both. -/
def U32 (W w : World) : Prop := ∀ p k z, exk k = true → w.cell? p = some (.int k z) → W.cell? p = some (.int k z)
/-- W, and what is new in w'. -/
def patch (W w' : World) : World := { w' with heap := W.heap ++ w'.heap.extract W.heap.size w'.heap.size }
section
variable {W w w' : World}
theorem patch_size (h : W.heap.size ≤ w'.heap.size) : (patch W w').heap.size = w'.heap.size := by
  simp [patch]; omega
theorem patch_get (i : Nat) : (patch W w').heap[i]? = if i < W.heap.size then W.heap[i]? else w'.heap[i]? := by
  unfold patch
  simp only [Array.getElem?_append]
  split
  · rfl
  · rename_i h
    rw [Array.getElem?_extract]
    split
    · congr 1; omega
    · rename_i h2
      rw [Array.getElem?_eq_none]
      omega
theorem patch_cell (p : Addr) : (patch W w').cell? p = if p.block < W.heap.size then W.cell? p else w'.cell? p := by
  unfold World.cell?
  rw [patch_get]
  by_cases h : p.block < W.heap.size
  · simp only [if_pos h]
  · simp only [if_neg h]
theorem cell_lt {p : Addr} {u : Value} (h : w.cell? p = some u) : p.block < w.heap.size := World.block_lt_of_cell? w p h
theorem Ext.patch (_hs : W.heap.size = w.heap.size) (_hb : Below w.heap.size w w') : Ext W (patch W w') := fun p u h => by
  rw [patch_cell, if_pos (cell_lt h)]; exact h
theorem patch_ext (hs : W.heap.size = w.heap.size) (he : Ext W w) (hb : Below w.heap.size w w') : Ext (patch W w') w' := fun p u h => by
  rw [patch_cell] at h
  split at h
  · rename_i hp
    exact (World.cell?_of_block (hb.block p.block (by omega))).trans (he p u h)
  · exact h
theorem U32.patch (hs : W.heap.size = w.heap.size) (hu : U32 W w) (hb : Below w.heap.size w w') : U32 (patch W w') w' := fun p k z hk h => by
  rw [patch_cell]
  split
  · rename_i hp
    exact hu p k z hk ((World.cell?_of_block (hb.block p.block (by omega))).symm.trans h)
  · exact h
end

def MemOk (β : Nat → Option Nat) (W w : World) (mem : List (Nat × VarSt)) : Prop :=
  ∀ m ∈ mem, ∃ g cs, β m.1 = some g ∧ g < w.heap.size ∧ w.heap[g]? = some (.cells cs m.2.t (0, 0)) ∧ All2 (RelC β W) cs.toList m.2.cs
/-- A function's contract: of what its arguments, and the rows that are handed in, are said to be, it returns what is said, and leaves all as it was. -/
def Fits (P : Program) (G : World → Prop) (f : FuncId) (args : List Sv) (mem : List (Nat × VarSt)) (res : Av) : Prop :=
  Callable P f ∧ ∀ (β : Nat → Option Nat) (W w : World) (vals : List Value), W.heap.size = w.heap.size → Ext W w → U32 W w → G w → All2 (RelS β W) vals args → MemOk β W w mem →
    Calls P f vals.toArray w fun e w' => ∃ v, e = .returned v ∧ RelA β (patch W w') v res ∧ Below w.heap.size w w'

/-- A world in which nothing is seen of one block. -/
def bare (W : World) (g : Nat) (t : TypeId) : World := { W with heap := W.heap.setIfInBounds g (.cells #[] t) }
theorem bare_cell (W : World) (g : Nat) (t : TypeId) (p : Addr) : (bare W g t).cell? p = if p.block = g then none else W.cell? p := by
  unfold bare World.cell?
  dsimp only
  rw [Array.getElem?_setIfInBounds]
  by_cases e : p.block = g
  · rw [if_pos e, if_pos e.symm]
    by_cases h : g < W.heap.size
    · rw [if_pos h]; simp
    · rw [if_neg h]
  · rw [if_neg e, if_neg (Ne.symm e)]
theorem bare_size (W : World) (g : Nat) (t : TypeId) : (bare W g t).heap.size = W.heap.size := by unfold bare; simp
def renC (id : Nat) : Cv → Cv
  | .ptr _ o => .ptr id o
  | .row _ o n c => .row id o n c
  | .grow _ _ => .any
  | c => c
def renS (id : Nat) : Sv → Sv
  | .cel c => .cel (renC id c)
  | .agg l => .agg (l.map (renC id))
def renA (id : Nat) : Av → Av
  | .one s => .one (renS id s)
  | .tup l => .tup (l.map (renS id))
def only (x g : Nat) : Nat → Option Nat := fun y => if y = x then some g else none
theorem renC_rel {β : Nat → Option Nat} {x y g : Nat} {W : World} {v : Value} {c : Cv} (hb : β y = some g) (h : RelC (only x g) W v c) : RelC β W v (renC y c) := by
  cases c with
  | any => trivial
  | raw u => exact h
  | ent e => exact h
  | ptr z o =>
    obtain ⟨g', h1, h2⟩ := h
    unfold only at h1
    split at h1
    · injection h1 with h1; subst h1; exact ⟨g, hb, h2⟩
    · cases h1
  | row z o n d =>
    obtain ⟨g', h1, h2⟩ := h
    unfold only at h1
    split at h1
    · injection h1 with h1; subst h1; exact ⟨g, hb, h2⟩
    · cases h1
  | grow z n => trivial
theorem renS_rel {β : Nat → Option Nat} {x y g : Nat} {W : World} {v : Value} {c : Sv} (hb : β y = some g) (h : RelS (only x g) W v c) : RelS β W v (renS y c) := by
  cases c with
  | cel c => exact renC_rel hb h
  | agg l => obtain ⟨vs, h1, h2⟩ := h; exact ⟨vs, h1, All2.mapR (R := RelC β W) (renC y) (h2.mono fun _ _ k => renC_rel hb k)⟩
theorem renA_rel {β : Nat → Option Nat} {x y g : Nat} {W : World} {v : Value} {c : Av} (hb : β y = some g) (h : RelA (only x g) W v c) : RelA β W v (renA y c) := by
  cases c with
  | one c => exact renS_rel hb h
  | tup l => obtain ⟨vs, h1, h2⟩ := h; exact ⟨vs, h1, All2.mapR (R := RelS β W) (renS y) (h2.mono fun _ _ k => renS_rel hb k)⟩
/-- A function's contract that hands back a new row, to be written: the row stands as 0. -/
def FitsO (P : Program) (G : World → Prop) (f : FuncId) (args : List Sv) (mem : List (Nat × VarSt)) (res : Av) (s : VarSt) : Prop :=
  Callable P f ∧ s.own = true ∧ ∀ (β : Nat → Option Nat) (W w : World) (vals : List Value), W.heap.size = w.heap.size → Ext W w → U32 W w → G w → All2 (RelS β W) vals args → MemOk β W w mem →
    Calls P f vals.toArray w fun e w' => ∃ v g cs, e = .returned v ∧ RelA (only 0 g) (bare (patch W w') g s.t) v res ∧ Below w.heap.size w w' ∧ w.heap.size ≤ g ∧ g < w'.heap.size ∧
      w'.heap[g]? = some (.cells cs s.t (0, 0)) ∧ All2 (HoldsC (bare (patch W w') g s.t)) cs.toList s.cs ∧ ∀ c ∈ cs.toList, okCell c = true

/-- A world in which nothing is seen of some blocks. -/
def hide (W : World) (gs : List Nat) : World := { W with heap := W.heap.mapIdx fun i o => if i ∈ gs then .cells #[] 0 else o }
theorem hide_size (W : World) (gs : List Nat) : (hide W gs).heap.size = W.heap.size := by unfold hide; simp
theorem hide_heap {W : World} {gs : List Nat} {i : Nat} (h : i ∉ gs) : (hide W gs).heap[i]? = W.heap[i]? := by
  unfold hide
  dsimp only
  rw [Array.getElem?_mapIdx]
  cases W.heap[i]? with
  | none => rfl
  | some o => simp [h]
theorem hide_cell (W : World) (gs : List Nat) (p : Addr) : (hide W gs).cell? p = if p.block ∈ gs then none else W.cell? p := by
  by_cases e : p.block ∈ gs
  · rw [if_pos e]
    unfold World.cell? hide
    dsimp only
    rw [Array.getElem?_mapIdx]
    cases W.heap[p.block]? with
    | none => rfl
    | some o => simp [e]
  · rw [if_neg e]
    unfold World.cell?
    rw [hide_heap e]
/-- Other numbers for variables. -/
def mapC (f : Nat → Nat) : Cv → Cv
  | .ptr x o => .ptr (f x) o
  | .row x o n c => .row (f x) o n c
  | .grow _ _ => .any
  | c => c
def mapS (f : Nat → Nat) : Sv → Sv
  | .cel c => .cel (mapC f c)
  | .agg l => .agg (l.map (mapC f))
def mapA (f : Nat → Nat) : Av → Av
  | .one s => .one (mapS f s)
  | .tup l => .tup (l.map (mapS f))
def mapW (f : Nat → Nat) (s : VarSt) : VarSt := match s.sy with | .no => ⟨s.t, s.cs.map (mapC f), s.own, .no⟩ | _ => s
theorem mapC_rel {β β' : Nat → Option Nat} {f : Nat → Nat} {W : World} {v : Value} {c : Cv} (hf : ∀ x g, β x = some g → β' (f x) = some g) (h : RelC β W v c) : RelC β' W v (mapC f c) := by
  cases c with
  | any => trivial
  | raw u => exact h
  | ent e => exact h
  | ptr x o => obtain ⟨g, h1, h2⟩ := h; exact ⟨g, hf x g h1, h2⟩
  | row x o n d => obtain ⟨g, h1, h2⟩ := h; exact ⟨g, hf x g h1, h2⟩
  | grow x n => trivial
theorem mapS_rel {β β' : Nat → Option Nat} {f : Nat → Nat} {W : World} {v : Value} {c : Sv} (hf : ∀ x g, β x = some g → β' (f x) = some g) (h : RelS β W v c) : RelS β' W v (mapS f c) := by
  cases c with
  | cel c => exact mapC_rel hf h
  | agg l => obtain ⟨vs, h1, h2⟩ := h; exact ⟨vs, h1, All2.mapR (R := RelC β' W) (mapC f) (h2.mono fun _ _ k => mapC_rel hf k)⟩
theorem mapA_rel {β β' : Nat → Option Nat} {f : Nat → Nat} {W : World} {v : Value} {c : Av} (hf : ∀ x g, β x = some g → β' (f x) = some g) (h : RelA β W v c) : RelA β' W v (mapA f c) := by
  cases c with
  | one c => exact mapS_rel hf h
  | tup l => obtain ⟨vs, h1, h2⟩ := h; exact ⟨vs, h1, All2.mapR (R := RelS β' W) (mapS f) (h2.mono fun _ _ k => mapS_rel hf k)⟩
theorem all2_shut {β β' : Nat → Option Nat} {W : World} : ∀ {l : List Cv} {vs : List Value}, (∀ c ∈ l, varsC c = []) → All2 (RelC β W) vs l → All2 (RelC β' W) vs l
  | [], [], _, _ => trivial
  | c :: _, _ :: _, hc, h => ⟨(h.1.shut (hc c (List.mem_cons_self ..))).rel, all2_shut (fun c hm => hc c (List.mem_cons_of_mem _ hm)) h.2⟩
  | [], _ :: _, _, h => h.elim
  | _ :: _, [], _, h => h.elim
theorem mapW_rel {β β' : Nat → Option Nat} {f : Nat → Nat} {W : World} {s : VarSt} {vs : List Value} (hf : ∀ x g, β x = some g → β' (f x) = some g) (h : All2 (RelC β W) vs s.cs) : All2 (RelC β' W) vs (mapW f s).cs := by
  obtain ⟨t, cs, o, sy⟩ := s
  cases sy with
  | no => exact All2.mapR (R := RelC β' W) (mapC f) (h.mono fun _ _ k => mapC_rel hf k)
  | yes hc => exact all2_shut hc h
  | gro n es hc => exact all2_shut hc h
theorem mapW_t (f : Nat → Nat) (s : VarSt) : (mapW f s).t = s.t := by obtain ⟨t, cs, o, sy⟩ := s; cases sy <;> rfl
theorem mapW_own (f : Nat → Nat) (s : VarSt) : (mapW f s).own = s.own := by obtain ⟨t, cs, o, sy⟩ := s; cases sy <;> rfl
theorem mapW_gro (f : Nat → Nat) (s : VarSt) : groOf (mapW f s) = groOf s := by obtain ⟨t, cs, o, sy⟩ := s; cases sy <;> rfl
def loc (gs : List Nat) : Nat → Option Nat := fun x => gs[x]?
/-- A function's contract that hands back several new rows, to be written: these stand as 0, 1 and so on. -/
def FitsM (P : Program) (G : World → Prop) (f : FuncId) (args : List Sv) (mem : List (Nat × VarSt)) (res : Av) (ss : List VarSt) : Prop :=
  Callable P f ∧ (∀ s ∈ ss, s.own = true ∧ groOf s = none) ∧ ∀ (β : Nat → Option Nat) (W w : World) (vals : List Value), W.heap.size = w.heap.size → Ext W w → U32 W w → G w → All2 (RelS β W) vals args → MemOk β W w mem →
    Calls P f vals.toArray w fun e w' => ∃ (v : Value) (gs : List Nat), e = .returned v ∧ Below w.heap.size w w' ∧ gs.length = ss.length ∧ gs.Nodup ∧ (∀ g ∈ gs, w.heap.size ≤ g ∧ g < w'.heap.size) ∧ RelA (loc gs) (hide (patch W w') gs) v res ∧
      ∀ (i : Nat) (s : VarSt) (g : Nat), ss[i]? = some s → gs[i]? = some g → ∃ cs : Array Value, w'.heap[g]? = some (.cells cs s.t (0, 0)) ∧ All2 (RelC (loc gs) (hide (patch W w') gs)) cs.toList s.cs ∧ ∀ c ∈ cs.toList, okCell c = true

/-- The world in which the call began, and what was seen of it. -/
structure Base extends World where
  hid : World
/-- What a row that grows is: its places are seen, and there is room behind them, or none. -/
def GroV (w0 : Base) (W w : World) (g0 : Nat) (s : VarSt) (n es : Nat) : Prop :=
  w0.heap.size ≤ g0 ∧ g0 < w.heap.size ∧ s.own = true ∧ s.cs.length = n * es ∧ 0 < n * es ∧ ∃ (g cap : Nat) (c cells : Array Value), W.heap[g0]? = some (.cells c g (n, cap)) ∧ w0.heap.size ≤ g ∧ g < w.heap.size ∧
    w.heap[g]? = some (.cells cells s.t (0, 0)) ∧ cells.size = cap * es ∧ n ≤ cap ∧ CellsAt W g 0 s.cs ∧ (∀ p u, p.block = g → n * es ≤ p.off → W.cell? p ≠ some u) ∧ ∀ c ∈ cells.toList, okCell c = true
/-- Rows that grow lie apart. -/
def Sep (β : Nat → Option Nat) (W : World) (vr : Nat → Option VarSt) : Prop :=
  ∀ (x : Nat) (s : VarSt) (g0 : Nat) (c : Array Value) (g : Nat) (ab : Nat × Nat), vr x = some s → groOf s ≠ none → β x = some g0 → W.heap[g0]? = some (.cells c g ab) → ∀ y s', vr y = some s' → (groOf s' = none → β y ≠ some g) ∧ (groOf s' ≠ none → ∀ (g0' : Nat) (c' : Array Value) (ab' : Nat × Nat), β y = some g0' → W.heap[g0']? = some (.cells c' g ab') → y = x)
structure Rep (w0 : Base) (G : World → Prop) (N : Nat) (β : Nat → Option Nat) (W : World) (tm : Nat → Av) (vr : Nat → Option VarSt) (a : Act) (w : World) : Prop where
  defers : a.defers = []
  room : N ≤ a.tmps.size
  tmp : ∀ t, RelA β W (a.tmps.getD t undef) (tm t)
  below : Below w0.heap.size w0.toWorld w
  old : ∀ p u, p.block < w0.heap.size → W.cell? p = some u → w0.hid.cell? p = some u
  size : W.heap.size = w.heap.size
  ext : Ext W w
  u32 : U32 W w
  glob : G w0.toWorld
  inj : ∀ x y g, β x = some g → β y = some g → w0.heap.size ≤ g → x = y
  var : ∀ x s, vr x = some s → groOf s = none → ∃ g cs, β x = some g ∧ g < w.heap.size ∧ w.heap[g]? = some (.cells cs s.t (0, 0)) ∧ All2 (RelC β W) cs.toList s.cs ∧
    (s.own = true → w0.heap.size ≤ g ∧ (∀ p u, p.block = g → W.cell? p ≠ some u) ∧ ∀ c ∈ cs.toList, okCell c = true)
  dom : ∀ x g, β x = some g → (∃ s, vr x = some s) ∧ g < w.heap.size
  gro : ∀ x s n es, vr x = some s → groOf s = some (n, es) → ∃ g0, β x = some g0 ∧ GroV w0 W w g0 s n es
  sep : Sep β W vr
theorem GroV.keep {w0 : Base} {W W' w w' : World} {g0 n es : Nat} {s : VarSt} (h : GroV w0 W w g0 s n es) (hgh : ∀ (c : Array Value) (g : Nat) (ab : Nat × Nat), W.heap[g0]? = some (.cells c g ab) → ∃ c', W'.heap[g0]? = some (.cells c' g ab))
    (hc : ∀ g, w0.heap.size ≤ g → g < w.heap.size → (∃ u, W.cell? ⟨g, 0, none⟩ = some u) → (∃ c ab, W.heap[g0]? = some (.cells c g ab)) → w'.heap[g]? = w.heap[g]? ∧ ∀ p : Addr, p.block = g → W'.cell? p = W.cell? p) (he : Ext W W') (hs : W.heap.size ≤ W'.heap.size) (hw : w.heap.size ≤ w'.heap.size) : GroV w0 W' w' g0 s n es := by
  obtain ⟨h1, h2, h3, h4, h5, g, cap, c, cells, b1, b2, b3, b4, b5, b6, b7, b8, b9⟩ := h
  have hp : 0 < s.cs.length := by omega
  obtain ⟨u, hu, _⟩ := b7 0 s.cs[0] (List.getElem?_eq_getElem hp)
  obtain ⟨k1, k2⟩ := hc g b2 b3 ⟨u, hu⟩ ⟨_, _, b1⟩
  obtain ⟨c', hc'⟩ := hgh c g (n, cap) b1
  exact ⟨h1, by omega, h3, h4, h5, g, cap, c', cells, hc', b2, by omega, k1.trans b4, b5, b6, b7.mono he hs, fun p u hp ho => by rw [k2 p hp]; exact b8 p u hp ho, b9⟩
theorem GroV.cur {w0 : Base} {W w : World} {g0 n es : Nat} {s : VarSt} (h : GroV w0 W w g0 s n es) : ∃ (c : Array Value) (g : Nat) (ab : Nat × Nat), W.heap[g0]? = some (.cells c g ab) ∧ g < w.heap.size := by
  obtain ⟨h1, h2, h3, h4, h5, g, cap, c, cells, b1, b2, b3, _⟩ := h
  exact ⟨c, g, _, b1, b3⟩
theorem groOf_ne {s : VarSt} (h : groOf s ≠ none) : ∃ n es, groOf s = some (n, es) := by
  cases e : groOf s with
  | none => exact absurd e h
  | some p => exact ⟨p.1, p.2, rfl⟩
theorem Rep.sep_keep {w0 : Base} {G : World → Prop} {N : Nat} {β : Nat → Option Nat} {W W' w : World} {tm : Nat → Av} {vr : Nat → Option VarSt} {a : Act} (h : Rep w0 G N β W tm vr a w)
    (hgh : ∀ g0, g0 < w.heap.size → (∃ x s, vr x = some s ∧ groOf s ≠ none ∧ β x = some g0) → ∀ (c : Array Value) (g : Nat) (ab : Nat × Nat), W.heap[g0]? = some (.cells c g ab) → ∃ c', W'.heap[g0]? = some (.cells c' g ab)) : Sep β W' vr := by
  have back : ∀ x s g0, vr x = some s → groOf s ≠ none → β x = some g0 → ∀ (c : Array Value) (g : Nat) (ab : Nat × Nat), W'.heap[g0]? = some (.cells c g ab) → ∃ c', W.heap[g0]? = some (.cells c' g ab) := fun x s g0 hx hs hb c g ab hc => by
    obtain ⟨n, es, he⟩ := groOf_ne hs
    obtain ⟨g0', h1, h2⟩ := h.gro x s n es hx he
    obtain rfl : g0 = g0' := by rw [hb] at h1; injection h1
    obtain ⟨c1, g1, ab1, h3, _⟩ := h2.cur
    obtain ⟨c2, h4⟩ := hgh g0 h2.2.1 ⟨x, s, hx, hs, hb⟩ c1 g1 ab1 h3
    rw [h4] at hc; injection hc with hc; injection hc with e1 e2 e3
    subst e2; subst e3
    exact ⟨c1, h3⟩
  intro x s g0 c g ab hx hs hb hc y s' hy
  obtain ⟨c1, h1⟩ := back x s g0 hx hs hb c g ab hc
  obtain ⟨k1, k2⟩ := h.sep x s g0 c1 g ab hx hs hb h1 y s' hy
  exact ⟨k1, fun hn g0' c' ab' hb' hc' => by
    obtain ⟨c2, h2⟩ := back y s' g0' hy hn hb' c' g ab' hc'
    exact k2 hn g0' c2 ab' hb' h2⟩

def updT (tm : Nat → Av) : Option Tmp → Av → Nat → Av
  | none, _ => tm
  | some d, v => fun t => if t = d then v else tm t
inductive REff where
  | none
  | new (t : TypeId) (cs : List Cv)
  | sto (x off : Nat) (cs : List Cv)
  | put (x : Nat) (s : VarSt)
  | news (s : VarSt)
def updV (vr : Nat → Option VarSt) (id : Nat) : REff → Nat → Option VarSt
  | .none => vr
  | .new t cs => fun x => if x = id then some ⟨t, cs, true, .no⟩ else vr x
  | .sto x off cs => fun y => if y = x then (vr x).map (fun s => ⟨s.t, putL s.cs off cs, s.own, .no⟩) else vr y
  | .put x s => fun y => if y = x then (vr x).map (fun _ => s) else vr y
  | .news s => fun x => if x = id then some s else vr x
structure Rec where
  put : Av
  eff : REff
  touch : List Nat

def constA (v : Value) : Av := match v with | .agg cs => .one (.agg (cs.toList.map .raw)) | v => rawA v
def evF (tm : Nat → Av) : Operand → Av
  | .tmp t => tm t
  | .const v => constA v
  | .global g => rawA (.pointer (some ⟨g, 0, none⟩))
  | .func f => rawA (.func (.func f) #[] #[])
def boolA : Av → Option (Option Bool)
  | .one (.cel (.raw (.bool b))) => some (some b)
  | .one (.cel (.raw _)) => some none
  | .one (.cel (.ptr _ _)) => some none
  | .one (.cel (.row _ _ _ _)) => some none
  | .one (.agg _) => some none
  | .tup _ => some none
  | _ => none
def wantedA (ops : Array Oper) (tm : Nat → Av) (o : Oper) : Option Bool :=
  match o.guard with
  | none => some true
  | some (j, want) =>
    match (ops[j]?).bind (·.dst) with
    | none => some false
    | some d => match boolA (tm d) with
      | some (some b) => some (b == want)
      | some none => some false
      | none => none
def Norm (av put : Av) : Prop := ∀ (β : Nat → Option Nat) (W : World) (v : Value), RelA β W v av → RelA β W v put

/-- What an operation is reckoned to, its operands being told whole. -/
def PrimOk (P : Program) (op : Op) (ty : TypeId) (rs : List Value) (r : Value) : Prop :=
  ∀ (ρ : Operand → Value) (w : World), op.operands.toList.map ρ = rs → (execOp ρ { dst := none, op := op, type := ty, pos := "", after := #[], guard := none }).run P w = .ok (.value r) w
/-- An operation that leaves what there was: what it gives, of what is said of its operands. -/
def PureOk (P : Program) (op : Op) (ty : TypeId) (avs : List Av) (put : Av) : Prop :=
  ∀ (β : Nat → Option Nat) (W w : World) (ρ : Operand → Value), W.heap.size = w.heap.size → Ext W w → U32 W w → All2 (RelA β W) (op.operands.toList.map ρ) avs →
    ∃ r w', (execOp ρ { dst := none, op := op, type := ty, pos := "", after := #[], guard := none }).run P w = .ok (.value r) w' ∧ Below w.heap.size w w' ∧ RelA β (patch W w') r put
/-- An operation that makes a row. -/
def NewOk (P : Program) (op : Op) (ty : TypeId) (avs : List Av) (s : VarSt) (n c : Nat) : Prop :=
  s.own = true ∧ ∀ (β : Nat → Option Nat) (W w : World) (ρ : Operand → Value), W.heap.size = w.heap.size → Ext W w → U32 W w → All2 (RelA β W) (op.operands.toList.map ρ) avs →
    ∃ vs : List Value, (execOp ρ { dst := none, op := op, type := ty, pos := "", after := #[], guard := none }).run P w = .ok (.value (.slice (some ⟨w.heap.size, 0, none⟩) n c)) (w.alloc (.cells vs.toArray s.t)) ∧
      All2 (RelC β W) vs s.cs ∧ ∀ v ∈ vs, okCell v = true
/-- A thing is a function of the program's, with what it took along. -/
def Clo (e : Ent) (f : FuncId) (first caps : List Cv) : Prop := ∀ (W : World) (v : Value), e.holds W v → ∃ vs us : List Value, v = .func (.func f) vs.toArray us.toArray ∧ All2 (HoldsC W) vs first ∧ All2 (HoldsC W) us caps
def CallV (P : Program) (G : World → Prop) (e : Ent) (args : List Sv) (mem : List (Nat × VarSt)) (res : Av) : Prop :=
  ∃ f first caps, Clo e f first caps ∧ Fits P G f (first.map .cel ++ args ++ caps.map .cel) mem res
/-- What is frozen at its birth. -/
def frozenA (cs : List Cv) : Option (Nat × Nat) → Av
  | none => .one (.cel (.ent (ptrTo cs)))
  | some (n, _) => .one (.cel (.ent (rowOf n cs)))
inductive Does0 (P : Program) (G : World → Prop) (ops : Array Oper) (id : Nat) (o : Oper) (tm : Nat → Av) (ev : Operand → Av) (vr : Nat → Option VarSt) : Rec → Prop
  | skip : wantedA ops tm o = some false → Does0 P G ops id o tm ev vr ⟨undefA, .none, []⟩
  | val {av put : Av} : wantedA ops tm o = some true → acc P o ev = some (.val av) → Norm av put → Does0 P G ops id o tm ev vr ⟨put, .none, []⟩
  | prim {rs : List Value} {r : Value} : wantedA ops tm o = some true → rawsOf ev o.op.operands.toList = some rs → PrimOk P o.op o.type rs r → Does0 P G ops id o tm ev vr ⟨rawA r, .none, []⟩
  | newp {t : TypeId} {cs : List Cv} : wantedA ops tm o = some true → acc P o ev = some (.new t cs none) → Does0 P G ops id o tm ev vr ⟨.one (.cel (.ptr id 0)), .new t cs, []⟩
  | newr {t : TypeId} {cs : List Cv} {n c : Nat} : wantedA ops tm o = some true → acc P o ev = some (.new t cs (some (n, c))) → Does0 P G ops id o tm ev vr ⟨.one (.cel (.row id 0 n c)), .new t cs, []⟩
  | load1 {x off : Nat} {s : VarSt} {c : Cv} {put : Av} : wantedA ops tm o = some true → acc P o ev = some (.load x off none) → vr x = some s → groOf s = none → s.cs[off]? = some c → Norm (.one (.cel c)) put →
      Does0 P G ops id o tm ev vr ⟨put, .none, [x]⟩
  | loadn {x off n : Nat} {s : VarSt} {put : Av} : wantedA ops tm o = some true → acc P o ev = some (.load x off (some n)) → vr x = some s → groOf s = none → off + n ≤ s.cs.length → Norm (.one (.agg ((s.cs.drop off).take n))) put →
      Does0 P G ops id o tm ev vr ⟨put, .none, [x]⟩
  | sto {x off : Nat} {cs : List Cv} {s : VarSt} : wantedA ops tm o = some true → acc P o ev = some (.sto x off cs) → vr x = some s → groOf s = none → s.own = true → off + cs.length ≤ s.cs.length →
      Does0 P G ops id o tm ev vr ⟨undefA, .sto x off cs, [x]⟩
  | call {f : FuncId} {args : List Sv} {mem : List (Nat × VarSt)} {res : Av} : wantedA ops tm o = some true → acc P o ev = some (.call f args) → (∀ m ∈ mem, vr m.1 = some m.2 ∧ groOf m.2 = none) → Fits P G f args mem res →
      Does0 P G ops id o tm ev vr ⟨res, .none, mem.map (·.1)⟩
  | callo {f : FuncId} {args : List Sv} {mem : List (Nat × VarSt)} {res : Av} {s : VarSt} : wantedA ops tm o = some true → acc P o ev = some (.call f args) → (∀ m ∈ mem, vr m.1 = some m.2 ∧ groOf m.2 = none) → FitsO P G f args mem res s → groOf s = none →
      Does0 P G ops id o tm ev vr ⟨renA id res, .news s, mem.map (·.1)⟩
  | callv {e : Ent} {args : List Sv} {mem : List (Nat × VarSt)} {res : Av} : wantedA ops tm o = some true → acc P o ev = some (.callv e args) → (∀ m ∈ mem, vr m.1 = some m.2 ∧ groOf m.2 = none) → CallV P G e args mem res →
      Does0 P G ops id o tm ev vr ⟨res, .none, mem.map (·.1)⟩
  | told {put : Av} : wantedA ops tm o = some true → PureOk P o.op o.type (o.op.operands.toList.map ev) put → Does0 P G ops id o tm ev vr ⟨put, .none, []⟩
  | make {s : VarSt} {n c : Nat} : wantedA ops tm o = some true → NewOk P o.op o.type (o.op.operands.toList.map ev) s n c → groOf s = none → Does0 P G ops id o tm ev vr ⟨.one (.cel (.row id 0 n c)), .news s, []⟩
  | froz {t : TypeId} {cs : List Cv} {k : Option (Nat × Nat)} : wantedA ops tm o = some true → acc P o ev = some (.new t cs k) → (∀ c ∈ cs, varsC c = []) → Does0 P G ops id o tm ev vr ⟨frozenA cs k, .none, []⟩
  | stot {x off : Nat} {cs : List Cv} {s s' : VarSt} : wantedA ops tm o = some true → acc P o ev = some (.sto x off cs) → vr x = some s → groOf s = none → groOf s' = none → s.own = true → off + cs.length ≤ s.cs.length → s'.t = s.t → s'.own = true → s'.cs = putL s.cs off cs →
      Does0 P G ops id o tm ev vr ⟨undefA, .put x s', [x]⟩

section
variable {P : Program} {w0 : Base} {G : World → Prop} {N : Nat} {β : Nat → Option Nat} {W w : World} {tm : Nat → Av} {vr : Nat → Option VarSt} {a : Act}

theorem Rep.eval (h : Rep w0 G N β W tm vr a w) (x : Operand) : RelA β W (a.eval x) (evF tm x) := by
  cases x with
  | tmp t => exact h.tmp t
  | const v =>
    show RelA β W v (constA v)
    unfold constA
    split
    · rename_i cs
      exact ⟨cs.toList, by simp, All2.self (R := RelC β W) (fun v => Cv.raw v) (fun _ => rfl) _⟩
    · rfl
  | global g => rfl
  | func f => rfl

def boolV : Value → Option Bool
  | .bool b => some b
  | _ => none
theorem boolA_rel {v : Value} {av : Av} {ob : Option Bool} (h : boolA av = some ob) (k : RelA β W v av) : boolV v = ob := by
  unfold boolA at h
  split at h
  all_goals (first | (cases h; done) | skip)
  · rename_i b; injection h with h; subst h; rw [show v = .bool b from k]; rfl
  · rename_i u hu; injection h with h; subst h; rw [show v = u from k]; unfold boolV; split
    · rename_i b; exact absurd rfl (hu b)
    · rfl
  · injection h with h; subst h; obtain ⟨g, _, rfl⟩ := k; rfl
  · injection h with h; subst h; obtain ⟨g, _, rfl⟩ := k; rfl
  · injection h with h; subst h; obtain ⟨g, rfl, _⟩ := k; rfl
  · injection h with h; subst h; obtain ⟨g, rfl, _⟩ := k; rfl

theorem wanted_rel {ops : Array Oper} {o : Oper} {b : Bool} (h : Rep w0 G N β W tm vr a w) (hw : wantedA ops tm o = some b) : Region.wanted o (yielded ops a.tmps) = b := by
  unfold wantedA at hw
  unfold Region.wanted
  split at hw
  · rename_i hg; injection hw with hw; rw [hg]; exact hw
  · rename_i j want hg
    rw [hg]
    dsimp only
    split at hw
    · rename_i hd; injection hw with hw; subst hw; unfold yielded; rw [hd]; rfl
    · rename_i d hd
      have ht := h.tmp d
      have key : ∀ ob, boolA (tm d) = some ob → yielded ops a.tmps j = ob := by
        intro ob hb
        have hr := boolA_rel hb ht
        unfold yielded
        rw [hd, ← hr]
        simp only [Option.bind_some]
        cases hq : a.tmps[d]? with
        | none =>
          have : a.tmps.getD d undef = undef := by simp [Array.getD_eq_getD_getElem?, hq]
          rw [this]; rfl
        | some u =>
          have : a.tmps.getD d undef = u := by simp [Array.getD_eq_getD_getElem?, hq]
          rw [this]
          cases u <;> rfl
      split at hw
      · rename_i b' hb; injection hw with hw; subst hw; rw [key _ hb]; cases b' <;> cases want <;> rfl
      · rename_i hb; injection hw with hw; subst hw; rw [key _ hb]; rfl
      · cases hw

theorem Rep.put (h : Rep w0 G N β W tm vr a w) {v : Value} {av : Av} (hv : RelA β W v av) (dst : Option Tmp) (hd : ∀ d, dst = some d → d < N) : Rep w0 G N β W (updT tm dst av) vr (a.put dst v) w := by
  cases dst with
  | none => exact h
  | some d =>
    have hlt := Nat.lt_of_lt_of_le (hd d rfl) h.room
    refine ⟨h.defers, by simpa [Act.put] using h.room, fun t => ?_, h.below, h.old, h.size, h.ext, h.u32, h.glob, h.inj, h.var, h.dom, h.gro, h.sep⟩
    show RelA β W ((a.tmps.setIfInBounds d v).getD t undef) (if t = d then av else tm t)
    rw [Array.getD_eq_getD_getElem?, Array.getElem?_setIfInBounds]
    by_cases e : t = d
    · subst e
      rw [if_pos rfl, if_pos rfl, if_pos hlt]
      exact hv
    · rw [if_neg e, if_neg (Ne.symm e), ← Array.getD_eq_getD_getElem?]
      exact h.tmp t

theorem Sep.new {W' : World} {id gn : Nat} {st : VarSt} (hk : Sep β W' vr) (hng : groOf st = none) (hlt : ∀ (x : Nat) (s : VarSt) (g0 : Nat) (c : Array Value) (g : Nat) (ab : Nat × Nat), vr x = some s → groOf s ≠ none → β x = some g0 → W'.heap[g0]? = some (.cells c g ab) → g ≠ gn) :
    Sep (fun x => if x = id then some gn else β x) W' (updV vr id (.news st)) := by
  intro x s g0 c g ab hx hs hb hc y s' hy
  unfold updV at hx hy
  dsimp only at hx hy hb ⊢
  by_cases ex : x = id
  · rw [if_pos ex] at hx; injection hx with hx; subst hx; exact absurd hng hs
  · rw [if_neg ex] at hx hb
    have hne := hlt x s g0 c g ab hx hs hb hc
    by_cases ey : y = id
    · rw [if_pos ey] at hy; injection hy with hy; subst hy
      refine ⟨fun _ h2 => ?_, fun h2 => absurd hng h2⟩
      rw [if_pos ey] at h2; injection h2 with h2; exact hne h2.symm
    · rw [if_neg ey] at hy
      obtain ⟨k1, k2⟩ := hk x s g0 c g ab hx hs hb hc y s' hy
      exact ⟨fun h1 => by rw [if_neg ey]; exact k1 h1, fun h1 g0' c' ab' hb' hc' => k2 h1 g0' c' ab' (by rw [if_neg ey] at hb'; exact hb') hc'⟩
theorem Rep.cur_lt {W' : World} (h : Rep w0 G N β W tm vr a w) (hgh : ∀ g0, g0 < w.heap.size → (∃ x s, vr x = some s ∧ groOf s ≠ none ∧ β x = some g0) → ∀ (c : Array Value) (g : Nat) (ab : Nat × Nat), W.heap[g0]? = some (.cells c g ab) → ∃ c', W'.heap[g0]? = some (.cells c' g ab)) :
    ∀ (x : Nat) (s : VarSt) (g0 : Nat) (c : Array Value) (g : Nat) (ab : Nat × Nat), vr x = some s → groOf s ≠ none → β x = some g0 → W'.heap[g0]? = some (.cells c g ab) → g < w.heap.size := by
  intro x s g0 c g ab hx hs hb hc
  obtain ⟨n, es, he⟩ := groOf_ne hs
  obtain ⟨g0', k1, k2⟩ := h.gro x s n es hx he
  obtain rfl : g0 = g0' := by rw [hb] at k1; injection k1
  obtain ⟨c1, g1, ab1, k3, k4⟩ := k2.cur
  obtain ⟨c2, k5⟩ := hgh g0 k2.2.1 ⟨x, s, hx, hs, hb⟩ c1 g1 ab1 k3
  rw [k5] at hc; injection hc with hc; injection hc with e1 e2 e3
  rw [← e2]; exact k4
/-- A new variable. -/
theorem Rep.new (h : Rep w0 G N β W tm vr a w) {vs : List Value} {st : VarSt} {id : Nat} (hng : groOf st = none) (hf : vr id = none) (hv : All2 (RelC β W) vs st.cs) (hok : ∀ v ∈ vs, okCell v = true) :
    ∃ β' W', β' id = some w.heap.size ∧ Rep w0 G N β' W' tm (updV vr id (.news st)) a (w.alloc (.cells vs.toArray st.t)) := by
  have hbf : β id = none := by
    cases e : β id with
    | none => rfl
    | some g => obtain ⟨⟨s, hs⟩, _⟩ := h.dom id g e; rw [hf] at hs; cases hs
  refine ⟨fun x => if x = id then some w.heap.size else β x, W.alloc (.cells #[] st.t), if_pos rfl, ?_⟩
  have hcellW : ∀ p, (W.alloc (.cells #[] st.t)).cell? p = W.cell? p := fun p => by
    by_cases e : p.block = W.heap.size
    · obtain ⟨b, o, s⟩ := p
      dsimp only at e
      subst e
      have h1 : (W.alloc (.cells #[] st.t)).cell? ⟨W.heap.size, o, s⟩ = none := by
        unfold World.cell?
        rw [show (W.alloc (.cells #[] st.t)).heap[W.heap.size]? = some (.cells #[] st.t) from World.alloc_heap_new W _]
        simp
      rw [h1]
      unfold World.cell?
      simp
    · exact World.cell?_alloc_old W _ p e
  have hup : Up β W (fun x => if x = id then some w.heap.size else β x) (W.alloc (.cells #[] st.t)) := by
    refine ⟨fun x g hx => ?_, fun p u hp => (hcellW p).trans hp, by simp, cur_same fun i hi => Below.heap_alloc W _ i hi⟩
    rw [if_neg (by rintro rfl; rw [hbf] at hx; cases hx)]
    exact hx
  have hlt : w0.heap.size ≤ w.heap.size := h.below.size
  refine ⟨h.defers, h.room, fun t => (h.tmp t).up hup, h.below.alloc hlt _, fun p u hp hc => h.old p u hp ((hcellW p).symm.trans hc), by simp [h.size], fun p u hp => ?_, fun p k z hk hp => ?_, h.glob, ?_, ?_, ?_, ?_, ?_⟩
  · rw [hcellW] at hp
    have := h.ext p u hp
    rw [World.cell?_alloc_lt w _ p (cell_lt this)]; exact this
  · rw [hcellW]
    by_cases e : p.block = w.heap.size
    · obtain ⟨b, o, s⟩ := p
      dsimp only at e
      subst e
      exfalso
      unfold World.cell? at hp
      rw [show (w.alloc (.cells vs.toArray st.t)).heap[w.heap.size]? = some (.cells vs.toArray st.t) from World.alloc_heap_new w _] at hp
      dsimp only at hp
      split at hp
      · cases hp
      · have := okCell_int (hok _ (by simpa using Array.mem_toList_iff.2 (Array.mem_of_getElem? hp)))
        rw [hk] at this; cases this
    · rw [World.cell?_alloc_old w _ p e] at hp; exact h.u32 p k z hk hp
  · intro x y g hx hy hg
    by_cases ex : x = id
    · by_cases ey : y = id
      · rw [ex, ey]
      · rw [if_pos ex] at hx; rw [if_neg ey] at hy
        injection hx with hx; subst hx
        have := (h.dom y _ hy).2; omega
    · by_cases ey : y = id
      · rw [if_neg ex] at hx; rw [if_pos ey] at hy
        injection hy with hy; subst hy
        have := (h.dom x _ hx).2; omega
      · rw [if_neg ex] at hx; rw [if_neg ey] at hy
        exact h.inj x y g hx hy hg
  · intro x s hx hgs
    show ∃ g cs', _
    unfold updV at hx
    dsimp only at hx
    by_cases ex : x = id
    · rw [if_pos ex] at hx
      injection hx with hx; subst hx
      refine ⟨w.heap.size, vs.toArray, if_pos ex, by simp, World.alloc_heap_new w _, ?_, fun _ => ⟨hlt, fun p u hp hc => ?_, by simpa using hok⟩⟩
      · exact (by simpa using hv : All2 (RelC β W) vs.toArray.toList st.cs).mono fun _ _ hr => hr.up hup
      · rw [hcellW] at hc
        have := cell_lt hc
        rw [h.size] at this; omega
    · rw [if_neg ex] at hx
      obtain ⟨g, cs', h1, h2, h3, h4, h5⟩ := h.var x s hx hgs
      refine ⟨g, cs', by rw [if_neg ex]; exact h1, by simp; omega, (Below.heap_alloc w _ g h2).trans h3, h4.mono fun _ _ hr => hr.up hup, fun ho => ?_⟩
      obtain ⟨a1, a2, a3⟩ := h5 ho
      exact ⟨a1, fun p u hp hc => a2 p u hp ((hcellW p).symm.trans hc), a3⟩
  · intro x g hx
    unfold updV
    dsimp only at hx ⊢
    by_cases ex : x = id
    · rw [if_pos ex] at hx ⊢
      injection hx with hx; subst hx
      exact ⟨⟨_, rfl⟩, by simp⟩
    · rw [if_neg ex] at hx ⊢
      obtain ⟨h1, h2⟩ := h.dom x g hx
      exact ⟨h1, by simp; omega⟩
  · intro x s n es hx hg
    unfold updV at hx
    dsimp only at hx ⊢
    by_cases ex : x = id
    · rw [if_pos ex] at hx; injection hx with hx; subst hx; rw [hng] at hg; cases hg
    · rw [if_neg ex] at hx ⊢
      obtain ⟨g0, k1, k2⟩ := h.gro x s n es hx hg
      exact ⟨g0, k1, k2.keep (fun c g ab hc => ⟨c, (Below.heap_alloc W _ g0 (by have := k2.2.1; have := h.size; omega)).trans hc⟩) (fun g _ hlt _ _ => ⟨Below.heap_alloc w _ g hlt, fun p _ => hcellW p⟩) hup.ext hup.size (by simp)⟩
  · have hgh : ∀ g0, g0 < w.heap.size → (∃ x s, vr x = some s ∧ groOf s ≠ none ∧ β x = some g0) → ∀ (c : Array Value) (g : Nat) (ab : Nat × Nat), W.heap[g0]? = some (.cells c g ab) → ∃ c', (W.alloc (.cells #[] st.t)).heap[g0]? = some (.cells c' g ab) := fun g0 hlt _ c g ab hc => ⟨c, (Below.heap_alloc W _ g0 (by have := h.size; omega)).trans hc⟩
    refine Sep.new (h.sep_keep hgh) hng fun x s g0 c g ab hx hs hb hc => ?_
    have := h.cur_lt hgh x s g0 c g ab hx hs hb hc
    omega
end
end Go.Proofs.YtnncfbmddpijcaaGreatDoor.AM

/- One operation carried out. -/
namespace Go.Proofs.YtnncfbmddpijcaaGreatDoor.AM
open Go Go.RowKit

section
variable {P : Program} {w0 : Base} {G : World → Prop} {N : Nat} {β : Nat → Option Nat} {W w : World} {tm : Nat → Av} {vr : Nat → Option VarSt} {a : Act}

theorem cell_setRow_eq (w : World) (g : Nat) (cs : Array Value) (old : Array Value) (t : TypeId) (h : w.heap[g]? = some (.cells old t (0, 0))) (p : Addr) (hp : p.block = g) :
    (w.setRow g cs).cell? p = if p.spot.isSome then none else cs[p.off]? := by
  unfold World.cell?
  rw [hp, setRow_heap w g old cs t (0, 0) h]
/-- A variable of one's own written. -/
theorem Rep.put1 {id : Nat} (h : Rep w0 G N β W tm vr a w) {vs : List Value} {cs : List Cv} {x off g : Nat} {s st : VarSt} {old : Array Value} (hs : vr x = some s) (hgs : groOf s = none) (hgt : groOf st = none) (ho : s.own = true) (hb : β x = some g) (hg : w.heap[g]? = some (.cells old s.t (0, 0)))
    (e1 : st.t = s.t) (e3 : st.cs = putL s.cs off cs)
    (hv : All2 (RelC β W) vs cs) (hok : ∀ v ∈ vs, okCell v = true) : Rep w0 G N β W tm (updV vr id (.put x st)) a (w.setRow g (putL old.toList off vs).toArray) := by
  obtain ⟨g', old', h1, h2, h3, h4, h5⟩ := h.var x s hs hgs
  obtain rfl : g = g' := by rw [hb] at h1; injection h1
  obtain rfl : old = old' := by rw [hg] at h3; injection h3 with h3; injection h3
  obtain ⟨a1, a2, a3⟩ := h5 ho
  have hex : Ext W (w.setRow g (putL old.toList off vs).toArray) := fun p u hp => by
    have hne : p.block ≠ g := fun e => a2 p u e hp
    rw [cell_setRow_other w g _ p hne]
    exact h.ext p u hp
  have hputok : ∀ c ∈ putL old.toList off vs, okCell c = true := fun c hc => by
    unfold putL at hc
    simp only [List.mem_append] at hc
    rcases hc with (hc | hc) | hc
    · exact a3 c (List.mem_of_mem_take hc)
    · exact hok c hc
    · exact a3 c (List.mem_of_mem_drop hc)
  refine ⟨h.defers, h.room, h.tmp, below_setRow h.below a1 _, h.old, by rw [setRow_size]; exact h.size, hex, fun p k z hk hp => ?_, h.glob, h.inj, ?_, fun y g' hy => ?_, ?_, ?_⟩
  · by_cases e : p.block = g
    · rw [cell_setRow_eq w g _ old s.t hg p e] at hp
      split at hp
      · cases hp
      · have := okCell_int (hputok _ (by simpa using Array.mem_toList_iff.2 (Array.mem_of_getElem? hp)))
        rw [hk] at this; cases this
    · rw [cell_setRow_other w g _ p e] at hp; exact h.u32 p k z hk hp
  · intro y s' hy hgy
    unfold updV at hy
    dsimp only at hy
    by_cases e : y = x
    · subst e
      rw [if_pos rfl, hs] at hy
      injection hy with hy; subst hy
      refine ⟨g, (putL old.toList off vs).toArray, hb, by rw [setRow_size]; exact h2, by rw [e1]; exact setRow_heap w g old _ s.t (0, 0) hg, ?_, fun _ => ⟨a1, a2, by simpa using hputok⟩⟩
      rw [e3]
      simpa using All2.putted off h4 hv
    · rw [if_neg e] at hy
      obtain ⟨gy, csy, b1, b2, b3, b4, b5⟩ := h.var y s' hy hgy
      have hne : gy ≠ g := fun e2 => by subst e2; exact e (h.inj y x gy b1 hb a1)
      exact ⟨gy, csy, b1, by rw [setRow_size]; exact b2, (setRow_other w g gy _ hne).trans b3, b4, b5⟩
  · rw [setRow_size]
    obtain ⟨⟨s', h6⟩, h7⟩ := h.dom y g' hy
    refine ⟨?_, h7⟩
    unfold updV
    dsimp only
    by_cases e : y = x
    · rw [if_pos e, hs]; exact ⟨_, rfl⟩
    · rw [if_neg e]; exact ⟨s', h6⟩
  · intro y s' n es hy hg2
    unfold updV at hy
    dsimp only at hy
    by_cases e : y = x
    · rw [if_pos e, hs] at hy; injection hy with hy; subst hy; rw [hgt] at hg2; cases hg2
    · rw [if_neg e] at hy
      obtain ⟨g0, k1, k2⟩ := h.gro y s' n es hy hg2
      exact ⟨g0, k1, k2.keep (fun c g ab hc => ⟨c, hc⟩) (fun gd _ _ hu _ => by
        obtain ⟨u, hu⟩ := hu
        exact ⟨setRow_other w g gd _ fun e2 => a2 ⟨gd, 0, none⟩ u e2 hu, fun _ _ => rfl⟩) (Ext.refl _) (Nat.le_refl _) (by rw [setRow_size]; exact Nat.le_refl _)⟩
  · intro x1 s1 g0 c g1 ab hx1 hs1 hb1 hc y s2 hy
    unfold updV at hx1 hy
    dsimp only at hx1 hy
    by_cases e : x1 = x
    · rw [if_pos e, hs] at hx1; injection hx1 with hx1; subst hx1; exact absurd hgt hs1
    · rw [if_neg e] at hx1
      by_cases e2 : y = x
      · rw [if_pos e2, hs] at hy; injection hy with hy; subst hy
        subst e2
        exact ⟨fun _ => (h.sep x1 s1 g0 c g1 ab hx1 hs1 hb1 hc y s hs).1 hgs, fun hn => absurd hgt hn⟩
      · rw [if_neg e2] at hy
        exact h.sep x1 s1 g0 c g1 ab hx1 hs1 hb1 hc y s2 hy
theorem updV_sto {vr : Nat → Option VarSt} {id x off : Nat} {cs : List Cv} {s : VarSt} (hs : vr x = some s) : updV vr id (.sto x off cs) = updV vr id (.put x ⟨s.t, putL s.cs off cs, s.own, .no⟩) := by
  funext y
  unfold updV
  dsimp only
  split
  · rw [hs]; rfl
  · rfl

/-- Behind a call. -/
theorem patch_lt {W w' : World} {i : Nat} (h : i < W.heap.size) : (patch W w').heap[i]? = W.heap[i]? := by rw [patch_get, if_pos h]
theorem Rep.call (h : Rep w0 G N β W tm vr a w) {w' : World} (hb : Below w.heap.size w w') : Rep w0 G N β (patch W w') tm vr a w' := by
  have hex := Ext.patch h.size hb
  have hsz : W.heap.size ≤ w'.heap.size := by rw [h.size]; exact hb.size
  have hps := patch_size (W := W) (w' := w') hsz
  have hup : Up β W β (patch W w') := ⟨fun _ _ e => e, hex, by rw [hps]; exact hsz, cur_same fun i hi => patch_lt hi⟩
  refine ⟨h.defers, h.room, fun t => (h.tmp t).up hup, h.below.trans (hb.mono h.below.size), fun p u hp hc => h.old p u hp (by rw [patch_cell, if_pos (by have := h.below.size; have := h.size; omega)] at hc; exact hc), hps, patch_ext h.size h.ext hb, h.u32.patch h.size hb, h.glob, h.inj, ?_, fun x g hx => ?_, fun x s n es hx hg => ?_, h.sep_keep fun g0 hlt _ c g ab hc => ⟨c, (patch_lt (by have := h.size; omega)).trans hc⟩⟩
  · intro x s hx hgs
    obtain ⟨g, cs, h1, h2, h3, h4, h5⟩ := h.var x s hx hgs
    refine ⟨g, cs, h1, Nat.lt_of_lt_of_le h2 hb.size, (hb.block g h2).trans h3, h4.mono fun _ _ hr => hr.up hup, fun ho => ?_⟩
    obtain ⟨a1, a2, a3⟩ := h5 ho
    refine ⟨a1, fun p u hp hc => ?_, a3⟩
    rw [patch_cell, if_pos (by rw [hp, h.size]; exact h2)] at hc
    exact a2 p u hp hc
  · obtain ⟨h1, h2⟩ := h.dom x g hx
    exact ⟨h1, Nat.lt_of_lt_of_le h2 hb.size⟩
  · obtain ⟨g0, k1, k2⟩ := h.gro x s n es hx hg
    exact ⟨g0, k1, k2.keep (fun c g ab hc => ⟨c, (patch_lt (by have := k2.2.1; have := h.size; omega)).trans hc⟩) (fun g _ hlt _ _ => ⟨hb.block g hlt, fun p hp => by rw [patch_cell, if_pos (by rw [hp, h.size]; exact hlt)]⟩) hex (by rw [hps]; exact hsz) hb.size⟩

/-- Behind a call that hands back a row. -/
theorem Rep.callo (h : Rep w0 G N β W tm vr a w) {w' : World} (hb : Below w.heap.size w w') {id g : Nat} {s : VarSt} {cs : Array Value} (hng : groOf s = none) (hf : vr id = none) (h1 : w.heap.size ≤ g) (h2 : g < w'.heap.size)
    (h3 : w'.heap[g]? = some (.cells cs s.t (0, 0))) (h4 : All2 (HoldsC (bare (patch W w') g s.t)) cs.toList s.cs) (h5 : ∀ c ∈ cs.toList, okCell c = true) :
    ∃ β', β' id = some g ∧ Rep w0 G N β' (bare (patch W w') g s.t) tm (updV vr id (.news s)) a w' := by
  have hbf : β id = none := by
    cases e : β id with
    | none => rfl
    | some g => obtain ⟨⟨s, hs⟩, _⟩ := h.dom id g e; rw [hf] at hs; cases hs
  have hsz : W.heap.size ≤ w'.heap.size := by rw [h.size]; exact hb.size
  have hps := patch_size (W := W) (w' := w') hsz
  have hcell := bare_cell (patch W w') g s.t
  have hex : Ext W (bare (patch W w') g s.t) := fun p u hp => by
    have := cell_lt hp
    have := h.size
    rw [hcell, if_neg (by omega)]
    exact Ext.patch h.size hb p u hp
  have hheap : ∀ i, i < W.heap.size → (bare (patch W w') g s.t).heap[i]? = W.heap[i]? := fun i hi => by
    unfold bare
    dsimp only
    rw [Array.getElem?_setIfInBounds, if_neg (by have := h.size; omega)]
    exact patch_lt hi
  have hup : Up β W (fun x => if x = id then some g else β x) (bare (patch W w') g s.t) := by
    refine ⟨fun x g' hx => ?_, hex, by rw [bare_size, hps]; exact hsz, cur_same hheap⟩
    rw [if_neg (by rintro rfl; rw [hbf] at hx; cases hx)]
    exact hx
  refine ⟨fun x => if x = id then some g else β x, if_pos rfl, h.defers, h.room, fun t => (h.tmp t).up hup, h.below.trans (hb.mono h.below.size), fun p u hp hc => ?_, by rw [bare_size]; exact hps, fun p u hp => ?_, fun p k z hk hp => ?_, h.glob, fun x y g' hx hy hg => ?_, fun x st hx hgs => ?_, fun x g' hx => ?_, fun x st n es hx hg => ?_, ?_⟩
  · have := h.below.size
    rw [hcell, if_neg (by omega)] at hc
    exact h.old p u hp (by rw [patch_cell, if_pos (by have := h.size; omega)] at hc; exact hc)
  · rw [hcell] at hp
    split at hp
    · cases hp
    · exact patch_ext h.size h.ext hb p u hp
  · rw [hcell]
    by_cases e : p.block = g
    · exfalso
      have hc := hp
      unfold World.cell? at hc
      rw [e, h3] at hc
      dsimp only at hc
      split at hc
      · cases hc
      · have := okCell_int (h5 _ (by simpa using Array.mem_toList_iff.2 (Array.mem_of_getElem? hc)))
        rw [hk] at this; cases this
    · rw [if_neg e]; exact h.u32.patch h.size hb p k z hk hp
  · try dsimp only at hx hy
    by_cases ex : x = id
    · by_cases ey : y = id
      · rw [ex, ey]
      · rw [if_pos ex] at hx; rw [if_neg ey] at hy
        injection hx with hx; subst hx
        have := (h.dom y _ hy).2; omega
    · by_cases ey : y = id
      · rw [if_neg ex] at hx; rw [if_pos ey] at hy
        injection hy with hy; subst hy
        have := (h.dom x _ hx).2; omega
      · rw [if_neg ex] at hx; rw [if_neg ey] at hy
        exact h.inj x y g' hx hy hg
  · unfold updV at hx
    dsimp only at hx
    by_cases ex : x = id
    · rw [if_pos ex] at hx
      injection hx with hx; subst hx
      refine ⟨g, cs, if_pos ex, h2, h3, h4.mono fun _ _ k => k.rel, fun _ => ⟨Nat.le_trans h.below.size h1, fun p u hp hc => ?_, h5⟩⟩
      rw [hcell, if_pos hp] at hc; cases hc
    · rw [if_neg ex] at hx
      obtain ⟨g1, cs1, c1, c2, c3, c4, c5⟩ := h.var x st hx hgs
      refine ⟨g1, cs1, by rw [if_neg ex]; exact c1, Nat.lt_of_lt_of_le c2 hb.size, (hb.block g1 c2).trans c3, c4.mono fun _ _ hr => hr.up hup, fun ho => ?_⟩
      obtain ⟨a1, a2, a3⟩ := c5 ho
      refine ⟨a1, fun p u hp hc => ?_, a3⟩
      rw [hcell] at hc
      split at hc
      · cases hc
      · rw [patch_cell, if_pos (by rw [hp, h.size]; exact c2)] at hc
        exact a2 p u hp hc
  · try dsimp only at hx
    unfold updV
    dsimp only
    by_cases ex : x = id
    · rw [if_pos ex] at hx ⊢
      injection hx with hx; subst hx
      exact ⟨⟨_, rfl⟩, h2⟩
    · rw [if_neg ex] at hx ⊢
      obtain ⟨d1, d2⟩ := h.dom x g' hx
      exact ⟨d1, Nat.lt_of_lt_of_le d2 hb.size⟩
  · unfold updV at hx
    dsimp only at hx ⊢
    by_cases ex : x = id
    · rw [if_pos ex] at hx; injection hx with hx; subst hx; rw [hng] at hg; cases hg
    · rw [if_neg ex] at hx ⊢
      obtain ⟨g0, k1, k2⟩ := h.gro x st n es hx hg
      refine ⟨g0, k1, k2.keep (fun c g ab hc => ⟨c, (hheap g0 (by have := k2.2.1; have := h.size; omega)).trans hc⟩) (fun g' _ hlt _ _ => ⟨hb.block g' hlt, fun p hp => ?_⟩) hex (by rw [bare_size, hps]; exact hsz) hb.size⟩
      rw [hcell, if_neg (by omega), patch_cell, if_pos (by rw [hp, h.size]; exact hlt)]
  · have hgh : ∀ g0, g0 < w.heap.size → (∃ x s, vr x = some s ∧ groOf s ≠ none ∧ β x = some g0) → ∀ (c : Array Value) (g2 : Nat) (ab : Nat × Nat), W.heap[g0]? = some (.cells c g2 ab) → ∃ c', (bare (patch W w') g s.t).heap[g0]? = some (.cells c' g2 ab) := fun g0 hlt _ c g ab hc => ⟨c, (hheap g0 (by have := h.size; omega)).trans hc⟩
    refine Sep.new (h.sep_keep hgh) hng fun x s g0 c g ab hx hs hb hc => ?_
    have := h.cur_lt hgh x s g0 c g ab hx hs hb hc
    omega

def manyV (vr : Nat → Option VarSt) (k : Nat) (ss : List VarSt) : Nat → Option VarSt := fun x => if k ≤ x ∧ x < k + ss.length then (ss[x - k]?).map (mapW (· + k)) else vr x
/-- Behind a call that hands back several rows. -/
theorem Rep.callm (h : Rep w0 G N β W tm vr a w) {w' : World} (hb : Below w.heap.size w w') {k : Nat} {gs : List Nat} {ss : List VarSt} (hf : ∀ x, k ≤ x → vr x = none) (hss : ∀ s ∈ ss, s.own = true ∧ groOf s = none) (hl : gs.length = ss.length) (hnd : gs.Nodup) (hgs : ∀ g ∈ gs, w.heap.size ≤ g ∧ g < w'.heap.size)
    (hcs : ∀ (i : Nat) (s : VarSt) (g : Nat), ss[i]? = some s → gs[i]? = some g → ∃ cs : Array Value, w'.heap[g]? = some (.cells cs s.t (0, 0)) ∧ All2 (RelC (loc gs) (hide (patch W w') gs)) cs.toList s.cs ∧ ∀ c ∈ cs.toList, okCell c = true) :
    ∃ β', (∀ x g, loc gs x = some g → β' (x + k) = some g) ∧ Rep w0 G N β' (hide (patch W w') gs) tm (manyV vr k ss) a w' := by
  have hbf : ∀ x, k ≤ x → β x = none := fun x hx => by
    cases e : β x with
    | none => rfl
    | some g => obtain ⟨⟨s, hs⟩, _⟩ := h.dom x g e; rw [hf x hx] at hs; cases hs
  have hsz : W.heap.size ≤ w'.heap.size := by rw [h.size]; exact hb.size
  have hps := patch_size (W := W) (w' := w') hsz
  have hcell := hide_cell (patch W w') gs
  have hnin : ∀ i, i < w.heap.size → i ∉ gs := fun i hi hm => by have := (hgs i hm).1; omega
  have hex : Ext W (hide (patch W w') gs) := fun p u hp => by
    have := cell_lt hp
    have := h.size
    rw [hcell, if_neg (hnin _ (by omega))]
    exact Ext.patch h.size hb p u hp
  have hheap : ∀ i, i < W.heap.size → (hide (patch W w') gs).heap[i]? = W.heap[i]? := fun i hi => by
    rw [hide_heap (hnin i (by have := h.size; omega))]
    exact patch_lt hi
  have hb1 : ∀ x g, (if k ≤ x ∧ x < k + ss.length then gs[x - k]? else β x) = some g → (k ≤ x ∧ x < k + ss.length ∧ gs[x - k]? = some g) ∨ (x < k ∧ β x = some g) := fun x g hx => by
    split at hx
    · rename_i hc; exact .inl ⟨hc.1, hc.2, hx⟩
    · rename_i hc
      rcases Nat.lt_or_ge x k with h1 | h1
      · exact .inr ⟨h1, hx⟩
      · rw [hbf x h1] at hx; cases hx
  have hnew : ∀ x g, loc gs x = some g → (fun x => if k ≤ x ∧ x < k + ss.length then gs[x - k]? else β x) (x + k) = some g := fun x g hx => by
    have hlt := (List.getElem?_eq_some_iff.1 hx).1
    show (if k ≤ x + k ∧ x + k < k + ss.length then gs[x + k - k]? else β (x + k)) = some g
    rw [if_pos ⟨by omega, by omega⟩, Nat.add_sub_cancel]; exact hx
  have hold : ∀ x, x < k → (fun x => if k ≤ x ∧ x < k + ss.length then gs[x - k]? else β x) x = β x := fun x hx => if_neg (by omega)
  have hup : Up β W (fun x => if k ≤ x ∧ x < k + ss.length then gs[x - k]? else β x) (hide (patch W w') gs) := by
    refine ⟨fun x g hx => ?_, hex, by rw [hide_size, hps]; exact hsz, cur_same hheap⟩
    rcases Nat.lt_or_ge x k with h1 | h1
    · exact (hold x h1).trans hx
    · rw [hbf x h1] at hx; cases hx
  have hvk : ∀ x s, manyV vr k ss x = some s → (k ≤ x ∧ x < k + ss.length ∧ ∃ s0, ss[x - k]? = some s0 ∧ s = mapW (· + k) s0) ∨ (x < k ∧ vr x = some s) := fun x s hx => by
    unfold manyV at hx
    split at hx
    · rename_i hc
      obtain ⟨s0, h1, h2⟩ := Option.map_eq_some_iff.1 hx
      exact .inl ⟨hc.1, hc.2, s0, h1, h2.symm⟩
    · rename_i hc
      rcases Nat.lt_or_ge x k with h1 | h1
      · exact .inr ⟨h1, hx⟩
      · rw [hf x h1] at hx; cases hx
  have hng : ∀ x s, manyV vr k ss x = some s → groOf s ≠ none → x < k ∧ vr x = some s := fun x s hx hg => by
    rcases hvk x s hx with ⟨_, _, s0, h1, rfl⟩ | h1
    · rw [mapW_gro] at hg; exact absurd (hss s0 (List.mem_of_getElem? h1)).2 hg
    · exact h1
  have hgh : ∀ g0, g0 < w.heap.size → (∃ x s, vr x = some s ∧ groOf s ≠ none ∧ β x = some g0) → ∀ (c : Array Value) (g : Nat) (ab : Nat × Nat), W.heap[g0]? = some (.cells c g ab) → ∃ c', (hide (patch W w') gs).heap[g0]? = some (.cells c' g ab) := fun g0 hlt _ c g ab hc => ⟨c, (hheap g0 (by have := h.size; omega)).trans hc⟩
  refine ⟨fun x => if k ≤ x ∧ x < k + ss.length then gs[x - k]? else β x, hnew, h.defers, h.room, fun t => (h.tmp t).up hup, h.below.trans (hb.mono h.below.size), fun p u hp hc => ?_, by rw [hide_size]; exact hps, fun p u hp => ?_, fun p kk z hk hp => ?_, h.glob, fun x y g hx hy hg => ?_, fun x s hx hgx => ?_, fun x g hx => ?_, fun x s n es hx hg => ?_, fun x s g0 c g ab hx hs hb0 hc y s' hy => ?_⟩
  · have := h.below.size
    rw [hcell, if_neg (hnin _ (by omega))] at hc
    exact h.old p u hp (by rw [patch_cell, if_pos (by have := h.size; omega)] at hc; exact hc)
  · rw [hcell] at hp
    split at hp
    · cases hp
    · exact patch_ext h.size h.ext hb p u hp
  · rw [hcell]
    by_cases e : p.block ∈ gs
    · exfalso
      obtain ⟨i, hi⟩ := List.getElem?_of_mem e
      obtain ⟨s0, hs0⟩ : ∃ s0, ss[i]? = some s0 := ⟨_, List.getElem?_eq_getElem (by rw [← hl]; exact (List.getElem?_eq_some_iff.1 hi).1)⟩
      obtain ⟨cs, h3, _, h5⟩ := hcs i s0 p.block hs0 hi
      have hc := hp
      unfold World.cell? at hc
      rw [h3] at hc
      dsimp only at hc
      split at hc
      · cases hc
      · have := okCell_int (h5 _ (by simpa using Array.mem_toList_iff.2 (Array.mem_of_getElem? hc)))
        rw [hk] at this; cases this
    · rw [if_neg e]; exact h.u32.patch h.size hb p kk z hk hp
  · rcases hb1 x g hx with ⟨x1, x2, x3⟩ | ⟨x1, x2⟩
    · rcases hb1 y g hy with ⟨y1, y2, y3⟩ | ⟨y1, y2⟩
      · have hx9 := List.getElem?_eq_some_iff.1 x3
        have hy9 := List.getElem?_eq_some_iff.1 y3
        have := (List.getElem_inj hnd).1 (hx9.2.trans hy9.2.symm)
        omega
      · have := (hgs g (List.mem_of_getElem? x3)).1
        have := (h.dom y g y2).2; omega
    · rcases hb1 y g hy with ⟨y1, y2, y3⟩ | ⟨y1, y2⟩
      · have := (hgs g (List.mem_of_getElem? y3)).1
        have := (h.dom x g x2).2; omega
      · exact h.inj x y g x2 y2 hg
  · rcases hvk x s hx with ⟨x1, x2, s0, x3, rfl⟩ | ⟨x1, x2⟩
    · obtain ⟨g, hg⟩ : ∃ g, gs[x - k]? = some g := ⟨_, List.getElem?_eq_getElem (by rw [hl]; exact (List.getElem?_eq_some_iff.1 x3).1)⟩
      obtain ⟨cs, c1, c2, c3⟩ := hcs (x - k) s0 g x3 hg
      refine ⟨g, cs, (if_pos ⟨x1, x2⟩).trans hg, (hgs g (List.mem_of_getElem? hg)).2, by rw [mapW_t]; exact c1, mapW_rel hnew c2, fun _ => ⟨Nat.le_trans h.below.size (hgs g (List.mem_of_getElem? hg)).1, fun p u hp hc => ?_, c3⟩⟩
      rw [hcell, if_pos (by rw [hp]; exact List.mem_of_getElem? hg)] at hc; cases hc
    · obtain ⟨g1, cs1, c1, c2, c3, c4, c5⟩ := h.var x s x2 hgx
      refine ⟨g1, cs1, (hold x x1).trans c1, Nat.lt_of_lt_of_le c2 hb.size, (hb.block g1 c2).trans c3, c4.mono fun _ _ hr => hr.up hup, fun ho => ?_⟩
      obtain ⟨a1, a2, a3⟩ := c5 ho
      refine ⟨a1, fun p u hp hc => ?_, a3⟩
      rw [hcell, if_neg (hnin _ (by omega)), patch_cell, if_pos (by rw [hp, h.size]; exact c2)] at hc
      exact a2 p u hp hc
  · rcases hb1 x g hx with ⟨x1, x2, x3⟩ | ⟨x1, x2⟩
    · refine ⟨?_, (hgs g (List.mem_of_getElem? x3)).2⟩
      unfold manyV
      rw [if_pos ⟨x1, x2⟩, List.getElem?_eq_getElem (show x - k < ss.length by omega)]
      exact ⟨_, rfl⟩
    · obtain ⟨⟨s, d1⟩, d2⟩ := h.dom x g x2
      exact ⟨⟨s, by unfold manyV; rw [if_neg (by omega)]; exact d1⟩, Nat.lt_of_lt_of_le d2 hb.size⟩
  · obtain ⟨x1, x2⟩ := hng x s hx (by rw [hg]; intro e; cases e)
    obtain ⟨g0, k1, k2⟩ := h.gro x s n es x2 hg
    refine ⟨g0, (hold x x1).trans k1, k2.keep (fun c g ab hc => ⟨c, (hheap g0 (by have := k2.2.1; have := h.size; omega)).trans hc⟩) (fun g' _ hlt _ _ => ⟨hb.block g' hlt, fun p hp => ?_⟩) hex (by rw [hide_size, hps]; exact hsz) hb.size⟩
    rw [hcell, if_neg (hnin _ (by omega)), patch_cell, if_pos (by rw [hp, h.size]; exact hlt)]
  · obtain ⟨x1, x2⟩ := hng x s hx hs
    have e1 := hold x x1
    try dsimp only at e1 hb0
    rw [e1] at hb0
    have hk := h.sep_keep hgh
    have hlt := h.cur_lt hgh x s g0 c g ab x2 hs hb0 hc
    rcases hvk y s' hy with ⟨y1, y2, s0, y3, rfl⟩ | ⟨y1, y2⟩
    · rw [mapW_gro]
      refine ⟨fun _ hby => ?_, fun hn => absurd (hss s0 (List.mem_of_getElem? y3)).2 hn⟩
      rcases hb1 y g hby with ⟨z1, z2, z3⟩ | ⟨z1, z2⟩
      · have := (hgs g (List.mem_of_getElem? z3)).1; omega
      · omega
    · have e2 := hold y y1
      try dsimp only at e2
      obtain ⟨j1, j2⟩ := hk x s g0 c g ab x2 hs hb0 hc y s' y2
      try dsimp only
      rw [e2]
      exact ⟨j1, j2⟩

/-! What is put behind a row that grows. -/
/-- Words put behind: of so many places, that are known to be a row. -/
def AppOk (P : Program) (t e : TypeId) (avy : Av) (n m es : Nat) (ds : List Cv) : Prop :=
  P.underlying t = some (.slice e) ∧ 0 < m ∧ ds.length = m * es ∧ (∀ c ∈ ds, varsC c = [] ∧ okCv c = true) ∧ (∀ (β : Nat → Option Nat) (W : World) (v : Value), RelA β W v avy → (rowOf m ds).holds W v) ∧ n + m ≤ 140737488355328 ∧
    ∃ ie z, P.info? e = some ie ∧ ie.zero = some z ∧ ie.size = es ∧ 0 < es ∧ z.cells.size = es ∧ ((rawCells z).all okCv) = true ∧ (n + m) * ie.bytes ≤ 140737488355328
theorem cells_list {W : World} {g o : Nat} : ∀ {cs : List Cv}, CellsAt W g o cs → ∃ us : List Value, us.length = cs.length ∧ All2 (HoldsC W) us cs ∧ ∀ j u, us[j]? = some u → W.cell? ⟨g, o + j, none⟩ = some u := by
  intro cs
  induction cs generalizing o with
  | nil => intro _; exact ⟨[], rfl, trivial, by simp⟩
  | cons c cs ih =>
    intro h
    obtain ⟨us, h1, h2, h3⟩ := ih (o := o + 1) (fun i c hc => by
      obtain ⟨u, k1, k2⟩ := h (i + 1) c (by simpa using hc)
      exact ⟨u, by rw [show o + 1 + i = o + (i + 1) by omega]; exact k1, k2⟩)
    obtain ⟨u, h4, h5⟩ := h 0 c rfl
    refine ⟨u :: us, by simp [h1], ⟨h5, h2⟩, fun j v hj => ?_⟩
    match j, hj with
    | 0, hj => simp at hj; subst hj; exact h4
    | j + 1, hj => simp at hj; rw [show o + (j + 1) = o + 1 + j by omega]; exact h3 j v hj
/-- The told end of a row that grows moved. -/
def reghost (W : World) (g0 g n b : Nat) : World := { W with heap := W.heap.modify g0 fun o => match o with | .cells c _ _ => .cells c g (n, b) | o => o }
theorem reghost_size (W : World) (g0 g n b : Nat) : (reghost W g0 g n b).heap.size = W.heap.size := by unfold reghost; simp
theorem reghost_ne {W : World} {g0 g n b i : Nat} (h : i ≠ g0) : (reghost W g0 g n b).heap[i]? = W.heap[i]? := by
  unfold reghost
  dsimp only
  rw [Array.getElem?_modify, if_neg (Ne.symm h)]
theorem reghost_eq {W : World} {g0 g n b g' : Nat} {c : Array Value} {ab : Nat × Nat} (h : W.heap[g0]? = some (.cells c g' ab)) : (reghost W g0 g n b).heap[g0]? = some (.cells c g (n, b)) := by
  unfold reghost
  dsimp only
  rw [Array.getElem?_modify, if_pos rfl, h]; rfl
theorem reghost_cell {W : World} {g0 g n b : Nat} (p : Addr) : (reghost W g0 g n b).cell? p = W.cell? p := by
  unfold World.cell?
  by_cases e : p.block = g0
  · rw [e]
    unfold reghost
    dsimp only
    rw [Array.getElem?_modify, if_pos rfl]
    cases W.heap[g0]? with
    | none => rfl
    | some o => cases o <;> rfl
  · rw [reghost_ne e]

theorem Rep.app_core (h : Rep w0 G N β W tm vr a w) {W' w' : World} {x id g0 n es n' g1 cap' : Nat} {s s' : VarSt} {c1 : Array Value} (hx : vr x = some s) (hgs : groOf s = some (n, es)) (hb : β x = some g0) (hg' : groOf s' = some (n', es)) (hn : n < n')
    (hbelow : Below w0.heap.size w0.toWorld w') (hold : ∀ p u, p.block < w0.heap.size → W'.cell? p = some u → W.cell? p = some u) (hsz : W'.heap.size = w'.heap.size) (hext : Ext W' w') (hu : U32 W' w') (hWW : Ext W W') (hss : w.heap.size ≤ w'.heap.size)
    (hgh : ∀ (i : Nat) (c : Array Value) (T : Nat) (ab : Nat × Nat), i ≠ g0 → W.heap[i]? = some (.cells c T ab) → ∃ c', W'.heap[i]? = some (.cells c' T ab)) (hg0 : W'.heap[g0]? = some (.cells c1 g1 (n', cap')))
    (hblk : ∀ i, i < w.heap.size → i ≠ g1 → w'.heap[i]? = w.heap[i]? ∧ ∀ p : Addr, p.block = i → W'.cell? p = W.cell? p) (hnew : GroV w0 W' w' g0 s' n' es)
    (hnb : ∀ y s1, vr y = some s1 → groOf s1 = none → β y ≠ some g1)
    (hng : ∀ y s1, vr y = some s1 → groOf s1 ≠ none → y ≠ x → ∀ (gy : Nat) (c : Array Value) (ab : Nat × Nat), β y = some gy → W.heap[gy]? ≠ some (.cells c g1 ab)) : Rep w0 G N β W' tm (updV vr id (.put x s')) a w' := by
  obtain ⟨g0', k1, k2⟩ := h.gro x s n es hx hgs
  obtain rfl : g0 = g0' := by rw [hb] at k1; injection k1
  have hw0 := k2.1
  have hlt0 := k2.2.1
  obtain ⟨_, _, _, _, _, gc, cap, cc, cells, q1, _⟩ := k2
  have hle : W.heap.size ≤ W'.heap.size := by rw [hsz, h.size]; exact hss
  have hup : Up β W β W' := ⟨fun _ _ e => e, hWW, hle, fun i m u hc => by
    obtain ⟨c, g, b, e1, e2⟩ := hc
    by_cases ei : i = g0
    · subst ei
      rw [q1] at e1; injection e1 with e1; injection e1 with _ _ e1; injection e1 with e1 _
      subst e1
      exact ⟨n', _, ⟨c1, g1, cap', hg0, rfl⟩, by omega, fun e => by omega⟩
    · obtain ⟨c', e3⟩ := hgh i c g (m, b) ei e1
      exact ⟨m, u, ⟨c', g, b, e3, e2⟩, Nat.le_refl _, fun _ => rfl⟩⟩
  have hinj : ∀ y gy, β y = some gy → y ≠ x → gy ≠ g0 := fun y gy hy hne e => by subst e; exact hne (h.inj y x gy hy hb hw0)
  -- of another row that grows, what is told now was told
  have back : ∀ y s1 gy, vr y = some s1 → groOf s1 ≠ none → y ≠ x → β y = some gy → ∀ (c : Array Value) (g : Nat) (ab : Nat × Nat), W'.heap[gy]? = some (.cells c g ab) → ∃ c', W.heap[gy]? = some (.cells c' g ab) := fun y s1 gy hy hs hne hby c g ab hc => by
    obtain ⟨n1, es1, he⟩ := groOf_ne hs
    obtain ⟨gy', j1, j2⟩ := h.gro y s1 n1 es1 hy he
    obtain rfl : gy = gy' := by rw [hby] at j1; injection j1
    obtain ⟨c2, g2, ab2, j3, _⟩ := j2.cur
    obtain ⟨c3, j4⟩ := hgh gy c2 g2 ab2 (hinj y gy hby hne) j3
    rw [j4] at hc; injection hc with hc; injection hc with e1 e2 e3
    rw [← e2, ← e3]; exact ⟨c2, j3⟩
  refine ⟨h.defers, h.room, fun t => (h.tmp t).up hup, hbelow, fun p u hp hc => h.old p u hp (hold p u hp hc), hsz, hext, hu, h.glob, h.inj, fun y s1 hy hgy => ?_, fun y g hy => ?_, fun y s1 n1 es1 hy hgy => ?_, fun x1 s1 gx c g ab hx1 hs1 hb1 hc y s2 hy => ?_⟩
  · unfold updV at hy
    dsimp only at hy
    by_cases e : y = x
    · rw [if_pos e, hx] at hy; injection hy with hy; subst hy; rw [hg'] at hgy; cases hgy
    · rw [if_neg e] at hy
      obtain ⟨g, cs, b1, b2, b3, b4, b5⟩ := h.var y s1 hy hgy
      obtain ⟨m1, m2⟩ := hblk g b2 (fun e2 => by subst e2; exact hnb y s1 hy hgy b1)
      refine ⟨g, cs, b1, by omega, m1.trans b3, b4.mono fun _ _ hr => hr.up hup, fun ho => ?_⟩
      obtain ⟨a1, a2, a3⟩ := b5 ho
      exact ⟨a1, fun p u hp hc => a2 p u hp (by rw [← m2 p hp]; exact hc), a3⟩
  · obtain ⟨⟨s1, h6⟩, h7⟩ := h.dom y g hy
    refine ⟨?_, by omega⟩
    unfold updV
    dsimp only
    by_cases e : y = x
    · rw [if_pos e, hx]; exact ⟨_, rfl⟩
    · rw [if_neg e]; exact ⟨s1, h6⟩
  · unfold updV at hy
    dsimp only at hy
    by_cases e : y = x
    · rw [if_pos e, hx] at hy; injection hy with hy; subst hy
      rw [hg'] at hgy; injection hgy with hgy; injection hgy with e1 e2
      subst e1; subst e2; subst e
      exact ⟨g0, hb, hnew⟩
    · rw [if_neg e] at hy
      obtain ⟨gy, j1, j2⟩ := h.gro y s1 n1 es1 hy hgy
      exact ⟨gy, j1, j2.keep (fun c g ab hc => hgh gy c g ab (hinj y gy j1 e) hc) (fun g _ hlt _ hcur => hblk g hlt fun e2 => by
        obtain ⟨c, ab, hcur⟩ := hcur
        subst e2
        exact hng y s1 hy (by rw [hgy]; intro e3; cases e3) e gy c ab j1 hcur) hWW hle hss⟩
  · unfold updV at hx1 hy
    dsimp only at hx1 hy
    by_cases e : x1 = x
    · subst e
      obtain rfl : gx = g0 := by rw [hb] at hb1; injection hb1 with hb1; exact hb1.symm
      rw [hg0] at hc; injection hc with hc; injection hc with _ e2 _
      subst e2
      by_cases ey : y = x1
      · rw [if_pos ey, hx] at hy; injection hy with hy; subst hy
        exact ⟨fun e3 => (by rw [hg'] at e3; cases e3), fun _ _ _ _ _ _ => ey⟩
      · rw [if_neg ey] at hy
        refine ⟨fun e3 => hnb y s2 hy e3, fun e3 gy c' ab' hby hcy => ?_⟩
        obtain ⟨c2, hc2⟩ := back y s2 gy hy e3 ey hby c' _ ab' hcy
        exact absurd hc2 (hng y s2 hy e3 ey gy c2 ab' hby)
    · rw [if_neg e] at hx1
      obtain ⟨c2, hc2⟩ := back x1 s1 gx hx1 hs1 e hb1 c g ab hc
      by_cases ey : y = x
      · rw [if_pos ey, hx] at hy; injection hy with hy; subst hy
        subst ey
        refine ⟨fun e3 => (by rw [hg'] at e3; cases e3), fun _ gy c' ab' hby hcy => ?_⟩
        obtain rfl : gy = g0 := by rw [hb] at hby; injection hby with hby; exact hby.symm
        rw [hg0] at hcy; injection hcy with hcy; injection hcy with _ e2 _
        subst e2
        exact absurd hc2 (hng x1 s1 hx1 hs1 e gx c2 ab hb1)
      · rw [if_neg ey] at hy
        obtain ⟨j1, j2⟩ := h.sep x1 s1 gx c2 g ab hx1 hs1 hb1 hc2 y s2 hy
        refine ⟨j1, fun e3 gy c' ab' hby hcy => ?_⟩
        obtain ⟨c3, hc3⟩ := back y s2 gy hy e3 ey hby c' g ab' hcy
        exact j2 e3 gy c3 ab' hby hc3

/-- A new block, of which the first cells are seen. -/
theorem alloc_seen {W w : World} {cells pre : Array Value} {e T : TypeId} {ab : Nat × Nat} (hs : W.heap.size = w.heap.size) (he : Ext W w) (hu : U32 W w) (hp : ∀ (i : Nat) (u : Value), pre[i]? = some u → cells[i]? = some u) (hok : ∀ c ∈ cells.toList, okCell c = true) :
    (∀ p : Addr, p.block ≠ w.heap.size → (W.alloc (.cells pre T ab)).cell? p = W.cell? p) ∧ (∀ o, (W.alloc (.cells pre T ab)).cell? ⟨w.heap.size, o, none⟩ = pre[o]?) ∧ (∀ p u, p.block = w.heap.size → (W.alloc (.cells pre T ab)).cell? p = some u → pre[p.off]? = some u) ∧
      Ext W (W.alloc (.cells pre T ab)) ∧ Ext (W.alloc (.cells pre T ab)) (w.drew.alloc (.cells cells e)) ∧ U32 (W.alloc (.cells pre T ab)) (w.drew.alloc (.cells cells e)) := by
  have h1 : ∀ p : Addr, p.block ≠ w.heap.size → (W.alloc (.cells pre T ab)).cell? p = W.cell? p := fun p hp => World.cell?_alloc_old W _ p (by rw [hs]; exact hp)
  have h2 : ∀ p u, p.block = w.heap.size → (W.alloc (.cells pre T ab)).cell? p = some u → p.spot.isSome = false ∧ pre[p.off]? = some u := fun p u hp hc => by
    unfold World.cell? at hc
    rw [hp, show (W.alloc (.cells pre T ab)).heap[w.heap.size]? = some (.cells pre T ab) by rw [← hs]; exact World.alloc_heap_new W _] at hc
    dsimp only at hc
    split at hc
    · cases hc
    · rename_i hsp
      exact ⟨by simpa using hsp, hc⟩
  have h3 : ∀ p : Addr, p.block ≠ w.heap.size → (w.drew.alloc (.cells cells e)).cell? p = w.cell? p := fun p hp => World.cell?_alloc_old w.drew _ p hp
  have h4 : ∀ p : Addr, p.block = w.heap.size → (w.drew.alloc (.cells cells e)).cell? p = if p.spot.isSome then none else cells[p.off]? := fun p hp => by
    unfold World.cell?
    rw [hp, show (w.drew.alloc (.cells cells e)).heap[w.heap.size]? = some (.cells cells e) from World.alloc_heap_new w.drew _]
  refine ⟨h1, fun o => ?_, fun p u hp hc => (h2 p u hp hc).2, fun p u hc => ?_, fun p u hc => ?_, fun p k z hk hc => ?_⟩
  · unfold World.cell?
    dsimp only
    rw [show (W.alloc (.cells pre T ab)).heap[w.heap.size]? = some (.cells pre T ab) by rw [← hs]; exact World.alloc_heap_new W _]
    rfl
  · rw [h1 p (by have := cell_lt hc; omega)]; exact hc
  · by_cases e : p.block = w.heap.size
    · obtain ⟨k1, k2⟩ := h2 p u e hc
      rw [h4 p e, if_neg (by rw [k1]; decide)]
      exact hp _ _ k2
    · rw [h1 p e] at hc
      rw [h3 p e]; exact he p u hc
  · by_cases e : p.block = w.heap.size
    · exfalso
      rw [h4 p e] at hc
      split at hc
      · cases hc
      · have := okCell_int (hok _ (by simpa using Array.mem_toList_iff.2 (Array.mem_of_getElem? hc)))
        rw [hk] at this; cases this
    · rw [h3 p e] at hc
      rw [h1 p e]; exact hu p k z hk hc
theorem zeroCells_ok {z : Value} (h : ((rawCells z).all okCv) = true) {k : Nat} : ∀ c ∈ (Builtin.zeroCells z.cells k).toList, okCell c = true := fun c hc => by
  unfold Builtin.zeroCells at hc
  simp only [Array.toList_map, Array.toList_range, List.mem_map, List.mem_range] at hc
  obtain ⟨i, hi, rfl⟩ := hc
  have hpos : 0 < z.cells.size := by
    rcases Nat.eq_zero_or_pos z.cells.size with e | e
    · rw [e] at hi; omega
    · exact e
  have hlt := Nat.mod_lt i hpos
  refine rawCells_ok h _ ?_
  rw [getElem!_pos z.cells _ hlt]
  exact Array.getElem_mem_toList hlt
theorem zeroCells_size {z : Array Value} {k : Nat} : (Builtin.zeroCells z k).size = k * z.size := by unfold Builtin.zeroCells; simp
theorem all_okCell {W : World} {us : List Value} {cs : List Cv} (h : All2 (HoldsC W) us cs) (hc : ∀ c ∈ cs, okCv c = true) : ∀ u ∈ us, okCell u = true := h.mem fun _ c hm hr => okCv_rel (hc c hm) hr
/-- The first things put behind nothing. -/
theorem Rep.app0 (h : Rep w0 G N β W tm vr a w) {P : Program} {id m es : Nat} {t e ty : TypeId} {avy : Av} {vy : Value} {s : VarSt} (hf : vr id = none) (hok : AppOk P t e avy 0 m es s.cs) (hy : RelA β W vy avy) (ht : s.t = e) (ho : s.own = true) (hg : groOf s = some (m, es)) :
    ∃ v w' β' W', (Builtin.append_ #[t, t] ty #[.slice none 0 0, vy]).run P w = .ok v w' ∧ RelA β' W' v (.one (.cel (.grow id m))) ∧ Rep w0 G N β' W' tm (updV vr id (.news s)) a w' := by
  obtain ⟨o1, o2, o3, o4, o5, o6, ie, z, p1, p2, p3, p4, p5, p6, p7⟩ := hok
  subst p3; subst ht
  have hbf : β id = none := by
    cases e : β id with
    | none => rfl
    | some g => obtain ⟨⟨s, hs⟩, _⟩ := h.dom id g e; rw [hf] at hs; cases hs
  have hpos : 0 < m * ie.size := Nat.mul_pos o2 p4
  obtain ⟨A, c, rfl, hA⟩ := o5 β W vy hy
  obtain ⟨ga, oa, rfl, hcs⟩ : ∃ ga oa, A = some ⟨ga, oa, none⟩ ∧ CellsAt W ga oa s.cs := by
    rcases hA with hA | hA
    · rw [hA] at o3; simp at o3; omega
    · exact hA
  obtain ⟨vs, v1, v2, v3⟩ := cells_list hcs
  have hvs := all_okCell v2 fun c hc => (o4 c hc).2
  have hrun := run_append_nil (P := P) (w := w) t ty s.t ie z o1 p1 p2 ⟨ga, oa, none⟩ m c vs (by omega) (fun j v hj => by rw [add_at]; exact h.ext _ _ (v3 j v hj)) o2 (by omega) (by rw [Nat.zero_add] at p7; omega)
  generalize hcap : grownCap w m 0 s.t = cap at hrun
  have hcap' : m ≤ cap := by rw [← hcap]; exact grownCap_ge w m 0 s.t
  generalize hcl : vs.toArray ++ Builtin.zeroCells z.cells (cap - m) = cells at hrun
  have hokc : ∀ c ∈ cells.toList, okCell c = true := fun c hc => by
    rw [← hcl, Array.toList_append] at hc
    rcases List.mem_append.1 hc with hc | hc
    · exact hvs c (by simpa using hc)
    · exact zeroCells_ok p6 c hc
  have hsize : cells.size = cap * ie.size := by
    rw [← hcl, Array.size_append, zeroCells_size, p5, List.size_toArray, v1, o3, ← Nat.add_mul]; congr 1; omega
  have hpre : ∀ (i : Nat) (u : Value), vs.toArray[i]? = some u → cells[i]? = some u := fun i u hi => by
    have hlt : i < vs.toArray.size := (Array.getElem?_eq_some_iff.1 hi).1
    rw [← hcl, Array.getElem?_append_left hlt]; exact hi
  obtain ⟨f1, f2, f3, f4, f5, f6⟩ := alloc_seen (e := s.t) (T := w.heap.size) (ab := (m, cap)) h.size h.ext h.u32 hpre hokc
  have hWn : (W.alloc (.cells vs.toArray w.heap.size (m, cap))).heap[w.heap.size]? = some (.cells vs.toArray w.heap.size (m, cap)) := by rw [← h.size]; exact World.alloc_heap_new W _
  generalize hW' : W.alloc (.cells vs.toArray w.heap.size (m, cap)) = W' at *
  have hWo : ∀ i, i < w.heap.size → W'.heap[i]? = W.heap[i]? := fun i hi => by rw [← hW']; exact Below.heap_alloc W _ i (by rw [h.size]; exact hi)
  have hWs : W'.heap.size = w.heap.size + 1 := by rw [← hW']; simp [h.size]
  have hwo : ∀ i, i < w.heap.size → (w.drew.alloc (.cells cells s.t)).heap[i]? = w.heap[i]? := fun i hi => Below.heap_alloc w.drew _ i hi
  have hws : (w.drew.alloc (.cells cells s.t)).heap.size = w.heap.size + 1 := (by simp : (w.drew.alloc (.cells cells s.t)).heap.size = w.drew.heap.size + 1)
  have hwn : (w.drew.alloc (.cells cells s.t)).heap[w.heap.size]? = some (.cells cells s.t (0, 0)) := World.alloc_heap_new w.drew _
  have hbel : Below w0.heap.size w0.toWorld (w.drew.alloc (.cells cells s.t)) := (Below.drew h.below).alloc h.below.size _
  generalize w.drew.alloc (.cells cells s.t) = w' at *
  have hup : Up β W (fun x => if x = id then some w.heap.size else β x) W' := by
    refine ⟨fun x g hx => ?_, f4, by rw [hWs, h.size]; omega, cur_same fun i hi => hWo i (by rw [← h.size]; exact hi)⟩
    rw [if_neg (by rintro rfl; rw [hbf] at hx; cases hx)]
    exact hx
  have hgh : ∀ g0, g0 < w.heap.size → (∃ x s, vr x = some s ∧ groOf s ≠ none ∧ β x = some g0) → ∀ (c : Array Value) (g : Nat) (ab : Nat × Nat), W.heap[g0]? = some (.cells c g ab) → ∃ c', W'.heap[g0]? = some (.cells c' g ab) := fun g0 hlt _ c g ab hc => ⟨c, (hWo g0 hlt).trans hc⟩
  have hsk := h.sep_keep hgh
  refine ⟨_, w', fun x => if x = id then some w.heap.size else β x, W', hrun, ⟨w.heap.size, m, _, if_pos rfl, ⟨_, _, _, hWn, rfl⟩, Nat.le_refl _, fun _ => rfl⟩, h.defers, h.room, fun t => (h.tmp t).up hup, hbel, fun p u hp hc => h.old p u hp (by rw [← f1 p (by have := h.below.size; omega)]; exact hc), by rw [hWs, hws], f5, f6, h.glob, fun x y g hx hy hgw => ?_, fun x s1 hx hgs => ?_, fun x g hx => ?_, fun x s1 n1 es1 hx hgx => ?_, fun x1 s1 gx c1 g1 ab1 hx1 hs1 hb1 hc1 y s2 hy => ?_⟩
  · try dsimp only at hx hy
    by_cases ex : x = id
    · by_cases ey : y = id
      · rw [ex, ey]
      · rw [if_pos ex] at hx; rw [if_neg ey] at hy
        injection hx with hx; subst hx
        have := (h.dom y _ hy).2; omega
    · by_cases ey : y = id
      · rw [if_neg ex] at hx; rw [if_pos ey] at hy
        injection hy with hy; subst hy
        have := (h.dom x _ hx).2; omega
      · rw [if_neg ex] at hx; rw [if_neg ey] at hy
        exact h.inj x y g hx hy hgw
  · unfold updV at hx
    dsimp only at hx ⊢
    by_cases ex : x = id
    · rw [if_pos ex] at hx; injection hx with hx; subst hx; rw [hg] at hgs; cases hgs
    · rw [if_neg ex] at hx
      obtain ⟨g1, cs1, c1, c2, c3, c4, c5⟩ := h.var x s1 hx hgs
      refine ⟨g1, cs1, by rw [if_neg ex]; exact c1, by omega, (hwo g1 c2).trans c3, c4.mono fun _ _ hr => hr.up hup, fun ho => ?_⟩
      obtain ⟨a1, a2, a3⟩ := c5 ho
      exact ⟨a1, fun p u hp hc => a2 p u hp (by rw [← f1 p (by omega)]; exact hc), a3⟩
  · unfold updV
    try dsimp only at hx
    dsimp only
    by_cases ex : x = id
    · rw [if_pos ex] at hx ⊢
      injection hx with hx; subst hx
      exact ⟨⟨_, rfl⟩, by omega⟩
    · rw [if_neg ex] at hx ⊢
      obtain ⟨d1, d2⟩ := h.dom x g hx
      exact ⟨d1, by omega⟩
  · unfold updV at hx
    dsimp only at hx ⊢
    by_cases ex : x = id
    · rw [if_pos ex] at hx; injection hx with hx; subst hx
      rw [hg] at hgx; injection hgx with hgx; injection hgx with e1 e2; subst e1; subst e2
      refine ⟨w.heap.size, if_pos ex, h.below.size, by omega, ho, o3, hpos, w.heap.size, cap, _, cells, hWn, h.below.size, by omega, hwn, hsize, hcap', fun i c hi => ?_, fun p u hp hoff hc => ?_, hokc⟩
      · obtain ⟨u, hu, hr⟩ := v2.get hi
        refine ⟨u, ?_, hr.mono f4 (by rw [hWs, h.size]; omega)⟩
        rw [f2, Nat.zero_add]; simpa using hu
      · have := f3 p u hp hc
        have hlt := (Array.getElem?_eq_some_iff.1 this).1
        rw [List.size_toArray] at hlt; omega
    · rw [if_neg ex] at hx ⊢
      obtain ⟨g0, k1, k2⟩ := h.gro x s1 n1 es1 hx hgx
      exact ⟨g0, k1, k2.keep (fun c g ab hc => ⟨c, (hWo g0 k2.2.1).trans hc⟩) (fun g _ hlt _ _ => ⟨hwo g hlt, fun p hp => f1 p (by omega)⟩) f4 (by rw [hWs, h.size]; omega) (by omega)⟩
  · unfold updV at hx1 hy
    dsimp only at hx1 hy hb1 ⊢
    by_cases ex : x1 = id
    · rw [if_pos ex] at hb1; injection hb1 with hb1; subst hb1
      rw [hWn] at hc1; injection hc1 with hc1; injection hc1 with _ e2 _
      subst e2
      by_cases ey : y = id
      · rw [if_pos ey] at hy; injection hy with hy; subst hy
        exact ⟨fun e3 => (by rw [hg] at e3; cases e3), fun _ _ _ _ _ _ => by rw [ex, ey]⟩
      · rw [if_neg ey] at hy ⊢
        refine ⟨fun _ hby => by have := (h.dom y _ hby).2; omega, fun e3 gy c' ab' hby hcy => ?_⟩
        have := h.cur_lt hgh y s2 gy c' _ ab' hy e3 hby hcy
        omega
    · rw [if_neg ex] at hx1 hb1
      have hlt := h.cur_lt hgh x1 s1 gx c1 g1 ab1 hx1 hs1 hb1 hc1
      by_cases ey : y = id
      · rw [if_pos ey] at hy; injection hy with hy; subst hy
        refine ⟨fun e3 => (by rw [hg] at e3; cases e3), fun _ gy c' ab' hby hcy => ?_⟩
        rw [if_pos ey] at hby; injection hby with hby; subst hby
        rw [hWn] at hcy; injection hcy with hcy; injection hcy with _ e2 _
        rw [← e2] at hlt; exact absurd hlt (Nat.lt_irrefl _)
      · rw [if_neg ey] at hy ⊢
        exact hsk x1 s1 gx c1 g1 ab1 hx1 hs1 hb1 hc1 y s2 hy
/-- More put behind a row that grows. -/
theorem Rep.app (h : Rep w0 G N β W tm vr a w) {P : Program} {id x n m n' es : Nat} {t e ty : TypeId} {avy : Av} {vx vy : Value} {s s' : VarSt} {ds : List Cv} (hx : vr x = some s) (hgs : groOf s = some (n, es)) (hvx : RelC β W vx (.grow x n)) (hok : AppOk P t e avy n m es ds) (hy : RelA β W vy avy)
    (ht : s.t = e) (ht' : s'.t = e) (ho' : s'.own = true) (hg' : groOf s' = some (n', es)) (hn' : n' = n + m) (hcs : s'.cs = s.cs ++ ds) :
    ∃ v w' W', (Builtin.append_ #[t, t] ty #[vx, vy]).run P w = .ok v w' ∧ RelA β W' v (.one (.cel (.grow x n'))) ∧ Rep w0 G N β W' tm (updV vr id (.put x s')) a w' := by
  obtain ⟨o1, o2, o3, o4, o5, o6, ie, z, p1, p2, p3, p4, p5, p6, p7⟩ := hok
  subst p3; subst ht; subst hn'
  have hpos : 0 < m * ie.size := Nat.mul_pos o2 p4
  obtain ⟨g0, k1, k2⟩ := h.gro x s n ie.size hx hgs
  have k2' := k2
  obtain ⟨q1, q2, q3, q4, q5, g, cap, c, cells, b1, b2, b3, b4, b5, b6, b7, b8, b9⟩ := k2'
  obtain rfl : vx = .slice (some ⟨g, 0, none⟩) n cap := by
    obtain ⟨g0', m', u, r1, ⟨c', g', b', r2, r3⟩, r4, r5⟩ := hvx
    obtain rfl : g0 = g0' := by rw [k1] at r1; injection r1
    rw [b1] at r2; injection r2 with r2; injection r2 with _ e2 e3; injection e3 with e3 e4
    rw [r5 e3.symm, r3, ← e2, ← e3, ← e4]
  obtain ⟨A, cy, rfl, hA⟩ := o5 β W vy hy
  obtain ⟨ga, oa, rfl, hcd⟩ : ∃ ga oa, A = some ⟨ga, oa, none⟩ ∧ CellsAt W ga oa ds := by
    rcases hA with hA | hA
    · rw [hA] at o3; simp at o3; omega
    · exact hA
  obtain ⟨vs, v1, v2, v3⟩ := cells_list hcd
  have hvs := all_okCell v2 fun c hc => (o4 c hc).2
  obtain ⟨us, u1, u2, u3⟩ := cells_list b7
  have hcell : ∀ j u, us[j]? = some u → cells[j]? = some u := fun j u hj => by
    have := h.ext _ _ (u3 j u hj)
    rw [Lib.cell_of_heap b4, Nat.zero_add] at this; exact this
  have hus : ∀ u ∈ us, okCell u = true := fun u hu => by
    obtain ⟨j, hj⟩ := List.getElem?_of_mem hu
    exact b9 u (by simpa using Array.mem_toList_iff.2 (Array.mem_of_getElem? (hcell j u hj)))
  have hall := u2.append v2
  have hlen : (us ++ vs).length = (n + m) * ie.size := by rw [List.length_append, u1, v1, q4, o3, Nat.add_mul]
  have hnm : 0 < (n + m) * ie.size := by rw [Nat.add_mul]; omega
  obtain ⟨ug, hug⟩ : ∃ u, us[0]? = some u := ⟨_, List.getElem?_eq_getElem (by omega)⟩
  have hsee : W.cell? ⟨g, 0, none⟩ = some ug := u3 0 ug hug
  have hcurx : ∀ (c' : Array Value) (g' : Nat) (ab : Nat × Nat), W.heap[g0]? = some (.cells c' g' ab) → g' = g := fun c' g' ab hc' => by
    rw [b1] at hc'; injection hc' with hc'; injection hc' with _ e2 _; exact e2.symm
  have hgne : groOf s ≠ none := by rw [hgs]; intro e3; cases e3
  rcases Nat.lt_or_ge cap (n + m) with hlt | hge
  · -- there is no room
    have hrun := run_append_grow (P := P) (w := w) t ty s.t ie z o1 p1 p2 ⟨g, 0, none⟩ n cap us (by omega) (fun j v hj => by rw [add_at]; exact h.ext _ _ (u3 j v hj)) ⟨ga, oa, none⟩ m cy vs (by omega) (fun j v hj => by rw [add_at]; exact h.ext _ _ (v3 j v hj)) hlt (by omega) (growslice_fits hlt p7)
    generalize hcap : grownCap w (n + m) cap s.t = cap' at hrun
    have hcap' : n + m ≤ cap' := by rw [← hcap]; exact grownCap_ge w (n + m) cap s.t
    generalize hcl : us.toArray ++ vs.toArray ++ Builtin.zeroCells z.cells (cap' - (n + m)) = cells' at hrun
    have hokc : ∀ c ∈ cells'.toList, okCell c = true := fun c hc => by
      rw [← hcl, Array.toList_append, Array.toList_append] at hc
      rcases List.mem_append.1 hc with hc | hc
      · rcases List.mem_append.1 hc with hc | hc
        · exact hus c (by simpa using hc)
        · exact hvs c (by simpa using hc)
      · exact zeroCells_ok p6 c hc
    have hsize : cells'.size = cap' * ie.size := by
      rw [← hcl, Array.size_append, zeroCells_size, p5, Array.size_append, List.size_toArray, List.size_toArray, u1, v1, q4, o3, ← Nat.add_mul, ← Nat.add_mul]; congr 1; omega
    have hpre : ∀ (i : Nat) (u : Value), (us ++ vs).toArray[i]? = some u → cells'[i]? = some u := fun i u hi => by
      have hi' : i < (us ++ vs).toArray.size := (Array.getElem?_eq_some_iff.1 hi).1
      have e9 : us.toArray ++ vs.toArray = (us ++ vs).toArray := by simp
      rw [← hcl, e9, Array.getElem?_append_left hi']; exact hi
    obtain ⟨f1, f2, f3, f4, f5, f6⟩ := alloc_seen (e := s.t) (T := 0) (ab := (0, 0)) h.size h.ext h.u32 hpre hokc
    have hWo : ∀ i, i < w.heap.size → (W.alloc (.cells (us ++ vs).toArray 0 (0, 0))).heap[i]? = W.heap[i]? := fun i hi => Below.heap_alloc W _ i (by rw [h.size]; exact hi)
    have hWs : (W.alloc (.cells (us ++ vs).toArray 0 (0, 0))).heap.size = w.heap.size + 1 := by simp [h.size]
    generalize W.alloc (.cells (us ++ vs).toArray 0 (0, 0)) = W1 at *
    have hwo : ∀ i, i < w.heap.size → (w.drew.alloc (.cells cells' s.t)).heap[i]? = w.heap[i]? := fun i hi => Below.heap_alloc w.drew _ i hi
    have hws : (w.drew.alloc (.cells cells' s.t)).heap.size = w.heap.size + 1 := (by simp : (w.drew.alloc (.cells cells' s.t)).heap.size = w.drew.heap.size + 1)
    have hwn : (w.drew.alloc (.cells cells' s.t)).heap[w.heap.size]? = some (.cells cells' s.t (0, 0)) := World.alloc_heap_new w.drew _
    have hbel : Below w0.heap.size w0.toWorld (w.drew.alloc (.cells cells' s.t)) := (Below.drew h.below).alloc h.below.size _
    generalize w.drew.alloc (.cells cells' s.t) = w' at *
    have hE : Ext W (reghost W1 g0 w.heap.size (n + m) cap') := fun p u hp => by rw [reghost_cell]; exact f4 p u hp
    have hS : W.heap.size ≤ (reghost W1 g0 w.heap.size (n + m) cap').heap.size := by rw [reghost_size, hWs, h.size]; omega
    have hg0 : (reghost W1 g0 w.heap.size (n + m) cap').heap[g0]? = some (.cells c w.heap.size (n + m, cap')) := reghost_eq ((hWo g0 q2).trans b1)
    refine ⟨_, w', reghost W1 g0 w.heap.size (n + m) cap', hrun, ⟨g0, n + m, _, k1, ⟨_, _, _, hg0, rfl⟩, Nat.le_refl _, fun _ => rfl⟩, ?_⟩
    refine h.app_core hx hgs k1 hg' (by omega) hbel (fun p u hp hc => ?_) (by rw [reghost_size, hWs, hws]) (fun p u hp => f5 p u (by rw [reghost_cell] at hp; exact hp)) (fun p k z hk hp => by rw [reghost_cell]; exact f6 p k z hk hp) hE (by omega) (fun i c T ab hi hc => ⟨c, ?_⟩) hg0 (fun i hi hne => ⟨hwo i hi, fun p hp => by rw [reghost_cell]; exact f1 p (by omega)⟩) ?_ (fun y s1 hy1 _ hb1 => by have := (h.dom y _ hb1).2; omega) (fun y s1 hy1 hg1 hne gy c ab hb1 hc => ?_)
    · rw [reghost_cell, f1 p (by have := h.below.size; omega)] at hc; exact hc
    · rw [reghost_ne hi]
      have : i < W.heap.size := (Array.getElem?_eq_some_iff.1 hc).1
      exact (hWo i (by rw [← h.size]; exact this)).trans hc
    · refine ⟨q1, by omega, ho', by rw [hcs, List.length_append, q4, o3, Nat.add_mul], hnm, w.heap.size, cap', c, cells', hg0, h.below.size, by omega, by rw [ht']; exact hwn, hsize, hcap', fun i k hi => ?_, fun p u hp hoff hc => ?_, hokc⟩
      · rw [hcs] at hi
        obtain ⟨u, hu, hr⟩ := hall.get hi
        refine ⟨u, ?_, hr.mono hE hS⟩
        rw [reghost_cell, f2, Nat.zero_add]; simpa using hu
      · rw [reghost_cell] at hc
        have := f3 p u hp hc
        have hlt := (Array.getElem?_eq_some_iff.1 this).1
        rw [List.size_toArray] at hlt; omega
    · obtain ⟨n1, es1, he⟩ := groOf_ne hg1
      obtain ⟨gy', j1, j2⟩ := h.gro y s1 n1 es1 hy1 he
      obtain rfl : gy = gy' := by rw [hb1] at j1; injection j1
      obtain ⟨c2, g2, ab2, j3, j4⟩ := j2.cur
      rw [j3] at hc; injection hc with hc; injection hc with _ e2 _
      rw [e2] at j4; exact absurd j4 (Nat.lt_irrefl _)
  · -- there is room
    have hfit : n * ie.size + vs.length ≤ cells.size := by
      rw [b5, v1, o3, ← Nat.add_mul]; exact Nat.mul_le_mul_right _ hge
    have hrun := run_append_room (P := P) (w := w) t ty s.t ie o1 p1 g n cap cells b4 ⟨ga, oa, none⟩ m cy vs (by omega) (fun j v hj => by rw [add_at]; exact h.ext _ _ (v3 j v hj)) (fun u hu => okCell_one (hvs u hu)) hge hfit
    have htake : cells.toList.take (n * ie.size) = us := by
      have hul : us.length = n * ie.size := by omega
      apply List.ext_getElem?
      intro i
      rw [List.getElem?_take]
      split
      · rename_i hi
        obtain ⟨u, hu⟩ : ∃ u, us[i]? = some u := ⟨_, List.getElem?_eq_getElem (by omega)⟩
        rw [hu]; simpa using hcell i u hu
      · rw [List.getElem?_eq_none (by omega)]
    rw [htake] at hrun
    generalize hcl : (us ++ vs ++ cells.toList.drop (n * ie.size + vs.length)).toArray = cells' at hrun
    have hokc : ∀ c ∈ cells'.toList, okCell c = true := fun c hc => by
      rw [← hcl] at hc
      simp only [List.mem_append] at hc
      rcases hc with (hc | hc) | hc
      · exact hus c hc
      · exact hvs c hc
      · exact b9 c (List.mem_of_mem_drop hc)
    have hsize : cells'.size = cap * ie.size := by
      rw [← hcl, List.size_toArray, List.length_append, hlen, List.length_drop, Array.length_toList, ← b5]
      rw [v1, o3, ← Nat.add_mul] at hfit ⊢
      omega
    have hpre : ∀ (i : Nat) (u : Value), (us ++ vs).toArray[i]? = some u → cells'[i]? = some u := fun i u hi => by
      have hi' : i < (us ++ vs).length := by simpa using (Array.getElem?_eq_some_iff.1 hi).1
      rw [← hcl]
      rw [List.getElem?_toArray] at hi ⊢
      rw [List.getElem?_append_left hi']; exact hi
    obtain ⟨cW, T, ab, hWg⟩ : ∃ (cW : Array Value) (T : Nat) (ab : Nat × Nat), W.heap[g]? = some (.cells cW T ab) := by
      unfold World.cell? at hsee
      dsimp only at hsee
      split at hsee
      · rename_i c' T' ab' hc'; exact ⟨c', T', ab', hc'⟩
      · cases hsee
    have hW1 : ∀ p : Addr, p.block ≠ g → (W.setRow g (us ++ vs).toArray).cell? p = W.cell? p := fun p hp => cell_setRow_other W g _ p hp
    have hWn : (W.setRow g (us ++ vs).toArray).heap[g]? = some (.cells (us ++ vs).toArray T ab) := setRow_heap W g cW _ T ab hWg
    have hWo : ∀ i, i ≠ g → (W.setRow g (us ++ vs).toArray).heap[i]? = W.heap[i]? := fun i hi => setRow_other W g i _ hi
    have hWs : (W.setRow g (us ++ vs).toArray).heap.size = W.heap.size := setRow_size ..
    have hWg1 : ∀ p : Addr, p.block = g → (W.setRow g (us ++ vs).toArray).cell? p = if p.spot.isSome then none else (us ++ vs).toArray[p.off]? := fun p hp => by
      unfold World.cell?
      rw [hp, hWn]
    generalize W.setRow g (us ++ vs).toArray = W1 at *
    have hwn : (w.setRow g cells').heap[g]? = some (.cells cells' s.t (0, 0)) := setRow_heap w g cells _ s.t (0, 0) b4
    have hwo : ∀ i, i ≠ g → (w.setRow g cells').heap[i]? = w.heap[i]? := fun i hi => setRow_other w g i _ hi
    have hws : (w.setRow g cells').heap.size = w.heap.size := setRow_size ..
    have hwc : ∀ p : Addr, p.block ≠ g → (w.setRow g cells').cell? p = w.cell? p := fun p hp => cell_setRow_other w g _ p hp
    have hwg : ∀ p : Addr, p.block = g → (w.setRow g cells').cell? p = if p.spot.isSome then none else cells'[p.off]? := fun p hp => cell_setRow_eq w g _ cells s.t b4 p hp
    have hbel : Below w0.heap.size w0.toWorld (w.setRow g cells') := below_setRow h.below b2 _
    generalize w.setRow g cells' = w' at *
    have hE1 : Ext W W1 := fun p u hp => by
      by_cases e : p.block = g
      · have hoff : p.off < n * ie.size := by
          rcases Nat.lt_or_ge p.off (n * ie.size) with h9 | h9
          · exact h9
          · exact absurd hp (b8 p u e h9)
        have hw9 := h.ext p u hp
        have hsp : p.spot.isSome = false := by
          unfold World.cell? at hw9
          rw [e, b4] at hw9
          dsimp only at hw9
          split at hw9
          · cases hw9
          · rename_i h9; simpa using h9
        obtain ⟨u', hu'⟩ : ∃ u, us[p.off]? = some u := ⟨_, List.getElem?_eq_getElem (by omega)⟩
        have hc9 := u3 p.off u' hu'
        rw [Nat.zero_add] at hc9
        have hp9 : p = ⟨g, p.off, none⟩ := by
          obtain ⟨pb, po, ps⟩ := p
          cases ps with
          | none => dsimp only at e; subst e; rfl
          | some _ => cases hsp
        rw [hp9, hc9] at hp; injection hp with hp; subst hp
        rw [hWg1 p e, if_neg (by rw [hsp]; decide), List.getElem?_toArray, List.getElem?_append_left (by omega)]
        exact hu'
      · rw [hW1 p e]; exact hp
    have hE2 : Ext W1 w' := fun p u hp => by
      by_cases e : p.block = g
      · rw [hWg1 p e] at hp
        split at hp
        · cases hp
        · rename_i h9
          rw [hwg p e, if_neg h9]; exact hpre _ _ hp
      · rw [hW1 p e] at hp
        rw [hwc p e]; exact h.ext p u hp
    have hE : Ext W (reghost W1 g0 g (n + m) cap) := fun p u hp => by rw [reghost_cell]; exact hE1 p u hp
    have hS : W.heap.size ≤ (reghost W1 g0 g (n + m) cap).heap.size := by rw [reghost_size, hWs]; exact Nat.le_refl _
    obtain ⟨c1, hg0⟩ : ∃ c1, (reghost W1 g0 g (n + m) cap).heap[g0]? = some (.cells c1 g (n + m, cap)) := by
      by_cases e : g0 = g
      · exact ⟨_, reghost_eq (by rw [e]; exact hWn)⟩
      · exact ⟨_, reghost_eq ((hWo g0 e).trans b1)⟩
    refine ⟨_, w', reghost W1 g0 g (n + m) cap, hrun, ⟨g0, n + m, _, k1, ⟨_, _, _, hg0, rfl⟩, Nat.le_refl _, fun _ => rfl⟩, ?_⟩
    refine h.app_core hx hgs k1 hg' (by omega) hbel (fun p u hp hc => ?_) (by rw [reghost_size, hWs, hws, h.size]) (fun p u hp => hE2 p u (by rw [reghost_cell] at hp; exact hp)) (fun p k z hk hp => ?_) hE (by omega) (fun i c2 T2 ab2 hi hc2 => ?_) hg0 (fun i hi hne => ⟨hwo i hne, fun p hp => by rw [reghost_cell]; exact hW1 p (by omega)⟩) ?_ (fun y s1 hy1 hg1 => (h.sep x s g0 c g (n, cap) hx hgne k1 b1 y s1 hy1).1 hg1) (fun y s1 hy1 hg1 hne gy c2 ab2 hb1 hc2 => hne ((h.sep x s g0 c g (n, cap) hx hgne k1 b1 y s1 hy1).2 hg1 gy c2 ab2 hb1 hc2))
    · rw [reghost_cell, hW1 p (by omega)] at hc; exact hc
    · rw [reghost_cell]
      by_cases e : p.block = g
      · exfalso
        rw [hwg p e] at hp
        split at hp
        · cases hp
        · have := okCell_int (hokc _ (by simpa using Array.mem_toList_iff.2 (Array.mem_of_getElem? hp)))
          rw [hk] at this; cases this
      · rw [hwc p e] at hp
        rw [hW1 p e]; exact h.u32 p k z hk hp
    · rw [reghost_ne hi]
      by_cases e : i = g
      · subst e
        rw [hWg] at hc2; injection hc2 with hc2; injection hc2 with _ e2 e3
        rw [← e2, ← e3]; exact ⟨_, hWn⟩
      · exact ⟨c2, (hWo i e).trans hc2⟩
    · refine ⟨q1, by omega, ho', by rw [hcs, List.length_append, q4, o3, Nat.add_mul], hnm, g, cap, c1, cells', hg0, b2, by omega, by rw [ht']; exact hwn, hsize, hge, fun i k hi => ?_, fun p u hp hoff hc => ?_, hokc⟩
      · rw [hcs] at hi
        obtain ⟨u, hu, hr⟩ := hall.get hi
        refine ⟨u, ?_, hr.mono hE hS⟩
        rw [reghost_cell, hWg1 _ rfl, if_neg (by intro e9; cases e9), Nat.zero_add, List.getElem?_toArray]
        exact hu
      · rw [reghost_cell, hWg1 p hp] at hc
        split at hc
        · cases hc
        · have hlt := (Array.getElem?_eq_some_iff.1 hc).1
          rw [List.size_toArray] at hlt; omega
theorem does0_sound {ops : Array Oper} {id : Nat} {o : Oper} {r : Rec} {K : Act → World → Prop} {Q : Exit → Act → World → Prop} (hG : ∀ {w w' : World}, Below w.heap.size w w' → G w → G w')
    (h : Rep w0 G N β W tm vr a w) {ev : Operand → Av} (hD : Does0 P G ops id o tm ev vr r) (hev : ∀ x, RelA β W (a.eval x) (ev x)) (hd : ∀ d, o.dst = some d → d < N) (hf : (∃ t cs, r.eff = .new t cs) ∨ (∃ s, r.eff = .news s) → vr id = none)
    (hK : ∀ β' W' a' w', Rep w0 G N β' W' (updT tm o.dst r.put) (updV vr id r.eff) a' w' → K a' w') :
    if Region.wanted o (yielded ops a.tmps) = true then Oper.wp P o a w K Q else K (a.put o.dst undef) w := by
  cases hD with
  | skip hw =>
    rw [wanted_rel h hw]
    exact hK β W _ _ (h.put (av := undefA) rfl o.dst hd)
  | val hw ha hn =>
    rw [wanted_rel h hw, if_pos rfl]
    obtain ⟨v, h1, h2⟩ := acc_sound (w := w) o _ (fun x _ => hev x) ha
    unfold Oper.wp
    rw [h1]
    exact hK β W _ _ (h.put (hn _ _ _ h2) o.dst hd)
  | prim hw hr hp =>
    rw [wanted_rel h hw, if_pos rfl]
    have hv := rawsOf_rel (a := a) (fun x _ => hev x) hr
    have hx := hp a.eval w hv
    unfold Oper.wp
    rw [show execOp a.eval o = execOp a.eval { dst := none, op := o.op, type := o.type, pos := "", after := #[], guard := none } from rfl, hx]
    exact hK β W _ _ (h.put (av := rawA _) rfl o.dst hd)
  | newp hw ha =>
    rw [wanted_rel h hw, if_pos rfl]
    obtain ⟨vs, h1, h2, h3⟩ := acc_sound (w := w) o _ (fun x _ => hev x) ha
    unfold Oper.wp
    rw [h1]
    obtain ⟨β', W', hb, hr⟩ := h.new (st := ⟨_, _, true, .no⟩) rfl (hf (.inl ⟨_, _, rfl⟩)) h2 h3
    exact hK β' W' _ _ (hr.put (av := .one (.cel (.ptr id 0))) ⟨_, hb, rfl⟩ o.dst hd)
  | newr hw ha =>
    rw [wanted_rel h hw, if_pos rfl]
    obtain ⟨vs, h1, h2, h3⟩ := acc_sound (w := w) o _ (fun x _ => hev x) ha
    unfold Oper.wp
    rw [h1]
    obtain ⟨β', W', hb, hr⟩ := h.new (st := ⟨_, _, true, .no⟩) rfl (hf (.inl ⟨_, _, rfl⟩)) h2 h3
    exact hK β' W' _ _ (hr.put (av := .one (.cel (.row id 0 _ _))) ⟨_, hb, rfl⟩ o.dst hd)
  | @load1 x off s c put hw ha hx hgs hc hn =>
    rw [wanted_rel h hw, if_pos rfl]
    obtain ⟨g, h1, h2⟩ := acc_sound (w := w) o _ (fun x _ => hev x) ha
    obtain ⟨g', cs, b1, b2, b3, b4, _⟩ := h.var x s hx hgs
    obtain rfl : g = g' := by rw [h1] at b1; injection b1
    obtain ⟨u, hu, hr⟩ := b4.get hc
    have hcell : w.cell? ⟨g, off, none⟩ = some u := by rw [Lib.cell_of_heap b3]; simpa using hu
    unfold Oper.wp
    rw [h2 u hcell]
    exact hK β W _ _ (h.put (hn _ _ u hr) o.dst hd)
  | @loadn x off n s put hw ha hx hgs hl hn =>
    rw [wanted_rel h hw, if_pos rfl]
    obtain ⟨g, h1, h2⟩ := acc_sound (w := w) o _ (fun x _ => hev x) ha
    obtain ⟨g', cs, b1, b2, b3, b4, _⟩ := h.var x s hx hgs
    obtain rfl : g = g' := by rw [h1] at b1; injection b1
    have hlen := b4.length
    unfold Oper.wp
    rw [h2 ((cs.toList.drop off).take n) (by simp at hlen ⊢; omega) (fun i u hi => ?_)]
    · exact hK β W _ _ (h.put (hn _ _ _ ⟨_, rfl, (b4.drop off).take n⟩) o.dst hd)
    · rw [Lib.cell_of_heap b3]
      rw [List.getElem?_take] at hi
      split at hi
      · rw [List.getElem?_drop] at hi; simpa using hi
      · cases hi
  | @sto x off cs s hw ha hx hgs ho hl =>
    rw [wanted_rel h hw, if_pos rfl]
    obtain ⟨g, vs, h1, h2, h3, h4⟩ := acc_sound (w := w) o _ (fun x _ => hev x) ha
    obtain ⟨g', old, b1, b2, b3, b4, _⟩ := h.var x s hx hgs
    obtain rfl : g = g' := by rw [h1] at b1; injection b1
    have hlen := b4.length
    have hlv := h2.length
    unfold Oper.wp
    rw [h4 old s.t b3 (by rw [hlv, ← Array.length_toList, hlen]; exact hl)]
    have := (h.put1 (id := id) (st := ⟨s.t, putL s.cs off cs, s.own, .no⟩) hx hgs rfl ho h1 b3 rfl rfl h2 h3).put (av := undefA) rfl o.dst hd
    rw [← updV_sto hx] at this
    exact hK β W _ _ this
  | @stot x off cs s st hw ha hx hgs hgt ho hl e1 e2 e3 =>
    rw [wanted_rel h hw, if_pos rfl]
    obtain ⟨g, vs, h1, h2, h3, h4⟩ := acc_sound (w := w) o _ (fun x _ => hev x) ha
    obtain ⟨g', old, b1, b2, b3, b4, _⟩ := h.var x s hx hgs
    obtain rfl : g = g' := by rw [h1] at b1; injection b1
    have hlen := b4.length
    have hlv := h2.length
    unfold Oper.wp
    rw [h4 old s.t b3 (by rw [hlv, ← Array.length_toList, hlen]; exact hl)]
    exact hK β W _ _ ((h.put1 (id := id) hx hgs hgt ho h1 b3 e1 e3 h2 h3).put (av := undefA) rfl o.dst hd)
  | told hw hp =>
    rw [wanted_rel h hw, if_pos rfl]
    obtain ⟨r, w', h1, h2, h3⟩ := hp β W w a.eval h.size h.ext h.u32 (All2.map2 (R := RelA β W) (f := a.eval) (g := ev) hev _)
    unfold Oper.wp
    rw [show execOp a.eval o = execOp a.eval { dst := none, op := o.op, type := o.type, pos := "", after := #[], guard := none } from rfl, h1]
    exact hK β (patch W w') _ _ ((h.call h2).put h3 o.dst hd)
  | @make st n c hw hp hgt =>
    rw [wanted_rel h hw, if_pos rfl]
    obtain ⟨vs, h1, h2, h3⟩ := hp.2 β W w a.eval h.size h.ext h.u32 (All2.map2 (R := RelA β W) (f := a.eval) (g := ev) hev _)
    unfold Oper.wp
    rw [show execOp a.eval o = execOp a.eval { dst := none, op := o.op, type := o.type, pos := "", after := #[], guard := none } from rfl, h1]
    obtain ⟨β', W', hb, hr⟩ := h.new (st := st) hgt (hf (.inr ⟨_, rfl⟩)) h2 h3
    exact hK β' W' _ _ (hr.put (av := .one (.cel (.row id 0 _ _))) ⟨_, hb, rfl⟩ o.dst hd)
  | @froz t cs k hw ha hc =>
    rw [wanted_rel h hw, if_pos rfl]
    obtain ⟨vs, h1, h2, h3⟩ := acc_sound (w := w) o _ (fun x _ => hev x) ha
    unfold Oper.wp
    rw [h1]
    have hb : Below w.heap.size w (w.alloc (.cells vs.toArray t)) := (Below.refl _ _).alloc (Nat.le_refl _) _
    refine hK β (patch W (w.alloc (.cells vs.toArray t))) _ _ ((h.call hb).put ?_ o.dst hd)
    have hcells : CellsAt (patch W (w.alloc (.cells vs.toArray t))) w.heap.size 0 cs := fun i c hi => by
      obtain ⟨u, hu, hr⟩ := h2.get hi
      refine ⟨u, ?_, ((hr.shut (hc c (List.mem_of_getElem? hi))).mono (Ext.patch h.size hb) (by rw [patch_size (by rw [h.size]; exact hb.size), h.size]; exact hb.size))⟩
      rw [patch_cell, if_neg (by dsimp only; have := h.size; omega)]
      unfold World.cell?
      rw [show (w.alloc (.cells vs.toArray t)).heap[w.heap.size]? = some (.cells vs.toArray t) from World.alloc_heap_new w _]
      simpa using hu
    cases k with
    | none => exact ⟨_, _, rfl, hcells⟩
    | some nc =>
      obtain ⟨n, c⟩ := nc
      exact ⟨_, _, rfl, .inr ⟨_, _, rfl, hcells⟩⟩
  | @call f args mem res hw ha hm hfit =>
    rw [wanted_rel h hw, if_pos rfl]
    obtain ⟨vals, h1, h2⟩ := acc_sound (w := w) o _ (fun x _ => hev x) ha
    unfold Oper.wp
    rw [h2 hfit.1]
    refine (hfit.2 β W w vals h.size h.ext h.u32 (hG h.below h.glob) h1 (fun m hmem => ?_)).mono ?_
    · obtain ⟨g, cs, b1, b2, b3, b4, _⟩ := h.var m.1 m.2 (hm m hmem).1 (hm m hmem).2
      exact ⟨g, cs, b1, b2, b3, b4⟩
    · rintro e w' ⟨v, rfl, hr, hb⟩
      exact hK β (patch W w') _ _ ((h.call hb).put hr o.dst hd)
  | @callo f args mem res st hw ha hm hfit hgt =>
    rw [wanted_rel h hw, if_pos rfl]
    obtain ⟨vals, h1, h2⟩ := acc_sound (w := w) o _ (fun x _ => hev x) ha
    unfold Oper.wp
    rw [h2 hfit.1]
    refine (hfit.2.2 β W w vals h.size h.ext h.u32 (hG h.below h.glob) h1 (fun m hmem => ?_)).mono ?_
    · obtain ⟨g, cs, b1, b2, b3, b4, _⟩ := h.var m.1 m.2 (hm m hmem).1 (hm m hmem).2
      exact ⟨g, cs, b1, b2, b3, b4⟩
    · rintro e w' ⟨v, g, cs, rfl, hr, hb, e1, e2, e3, e4, e5⟩
      obtain ⟨β', hb', hR⟩ := h.callo (id := id) hb hgt (hf (.inr ⟨_, rfl⟩)) e1 e2 e3 e4 e5
      exact hK β' _ _ _ (hR.put (renA_rel hb' hr) o.dst hd)
  | @callv e args mem res hw ha hm hfit =>
    rw [wanted_rel h hw, if_pos rfl]
    obtain ⟨u, vals, h0, h1, h2⟩ := acc_sound (w := w) o _ (fun x _ => hev x) ha
    obtain ⟨f, first, caps, hclo, hcal, hfit⟩ := hfit
    obtain ⟨vs, us, rfl, hv1, hv2⟩ := hclo W u h0
    unfold Oper.wp
    rw [h2 f _ _ rfl hcal]
    have hall : All2 (RelS β W) (vs ++ vals ++ us) (first.map .cel ++ args ++ caps.map .cel) := by
      refine ((All2.mapR (R := RelS β W) Sv.cel (hv1.mono fun _ _ k => k.rel)).append h1).append (All2.mapR (R := RelS β W) Sv.cel (hv2.mono fun _ _ k => k.rel))
    rw [show vs.toArray ++ vals.toArray ++ us.toArray = (vs ++ vals ++ us).toArray by simp]
    refine (hfit β W w _ h.size h.ext h.u32 (hG h.below h.glob) hall (fun m hmem => ?_)).mono ?_
    · obtain ⟨g, cs, b1, b2, b3, b4, _⟩ := h.var m.1 m.2 (hm m hmem).1 (hm m hmem).2
      exact ⟨g, cs, b1, b2, b3, b4⟩
    · rintro e w' ⟨v, rfl, hr, hb⟩
      exact hK β (patch W w') _ _ ((h.call hb).put hr o.dst hd)
/-- A row seen in place of one that grows. -/
def viewE (tm : Nat → Av) (t : Nat) (e : Ent) : Operand → Av
  | .tmp u => match Nat.beq u t with | true => .one (.cel (.ent e)) | false => tm u
  | o => evF tm o
inductive Does (P : Program) (G : World → Prop) (ops : Array Oper) (id : Nat) (o : Oper) (tm : Nat → Av) (vr : Nat → Option VarSt) : Rec → Prop
  | base {r : Rec} : Does0 P G ops id o tm (evF tm) vr r → Does P G ops id o tm vr r
  | view {t x n m es : Nat} {s : VarSt} {r : Rec} : .tmp t ∈ o.op.operands.toList → tm t = .one (.cel (.grow x n)) → vr x = some s → groOf s = some (m, es) → n = m → Does0 P G ops id o tm (viewE tm t (rowOf n s.cs)) vr r → Does P G ops id o tm vr ⟨r.put, r.eff, x :: r.touch⟩
  | app0 {x y : Operand} {t : TypeId} {m es : Nat} {s : VarSt} : wantedA ops tm o = some true → o.op = .call { callee := .builtin .append, args := #[x, y], argTypes := #[t, t] } → evF tm x = rawA (.slice none 0 0) → AppOk P t s.t (evF tm y) 0 m es s.cs → s.own = true → groOf s = some (m, es) →
      Does P G ops id o tm vr ⟨.one (.cel (.grow id m)), .news s, []⟩
  | app {u v n k n' m es : Nat} {y : Operand} {t : TypeId} {s s' : VarSt} {ds : List Cv} : wantedA ops tm o = some true → o.op = .call { callee := .builtin .append, args := #[.tmp u, y], argTypes := #[t, t] } → tm u = .one (.cel (.grow v n)) → vr v = some s → groOf s = some (k, es) → n = k →
      AppOk P t s.t (evF tm y) n m es ds → s'.t = s.t → s'.own = true → groOf s' = some (n', es) → n' = n + m → s'.cs = s.cs ++ ds → Does P G ops id o tm vr ⟨.one (.cel (.grow v n')), .put v s', [v]⟩
theorem Rep.grow_val (h : Rep w0 G N β W tm vr a w) {x n es : Nat} {s : VarSt} {v : Value} (hx : vr x = some s) (hg : groOf s = some (n, es)) (hv : RelC β W v (.grow x n)) : (rowOf n s.cs).holds W v := by
  obtain ⟨g0, k1, q1, q2, q3, q4, q5, g, cap, c, cells, b1, b2, b3, b4, b5, b6, b7, b8, b9⟩ := h.gro x s n es hx hg
  obtain ⟨g0', m', u, r1, ⟨c', g', b', r2, r3⟩, r4, r5⟩ := hv
  obtain rfl : g0 = g0' := by rw [k1] at r1; injection r1
  rw [b1] at r2; injection r2 with r2; injection r2 with _ e2 e3; injection e3 with e3 e4
  exact ⟨some ⟨g, 0, none⟩, cap, by rw [r5 e3.symm, r3, ← e2, ← e3, ← e4], .inr ⟨g, 0, rfl, b7⟩⟩
theorem does_sound {P : Program} {ops : Array Oper} {id : Nat} {o : Oper} {r : Rec} {K : Act → World → Prop} {Q : Exit → Act → World → Prop} (hG : ∀ {w w' : World}, Below w.heap.size w w' → G w → G w')
    (h : Rep w0 G N β W tm vr a w) (hD : Does P G ops id o tm vr r) (hd : ∀ d, o.dst = some d → d < N) (hf : (∃ t cs, r.eff = .new t cs) ∨ (∃ s, r.eff = .news s) → vr id = none)
    (hK : ∀ β' W' a' w', Rep w0 G N β' W' (updT tm o.dst r.put) (updV vr id r.eff) a' w' → K a' w') :
    if Region.wanted o (yielded ops a.tmps) = true then Oper.wp P o a w K Q else K (a.put o.dst undef) w := by
  cases hD with
  | base h0 => exact does0_sound hG h h0 h.eval hd hf hK
  | @view t x n m es s r ht htm hx hg he h0 =>
    subst he
    refine does0_sound hG h h0 (fun op => ?_) hd hf hK
    cases op with
    | tmp u =>
      show RelA β W (a.tmps.getD u undef) (match Nat.beq u t with | true => .one (.cel (.ent (rowOf n s.cs))) | false => tm u)
      split
      · rename_i hb
        have e := Nat.eq_of_beq_eq_true hb
        subst e
        have := h.tmp u
        rw [htm] at this
        exact h.grow_val hx hg this
      · exact h.tmp u
    | const v => exact h.eval (.const v)
    | global g => exact h.eval (.global g)
    | func f => exact h.eval (.func f)
  | @app0 x y t m es s hw ho hx hok hown hg =>
    rw [wanted_rel h hw, if_pos rfl]
    have hvx : a.eval x = .slice none 0 0 := by have := h.eval x; rw [hx] at this; exact this
    obtain ⟨v, w', β', W', hrun, hrel, hR⟩ := h.app0 (id := id) (ty := o.type) (vy := a.eval y) (hf (.inr ⟨_, rfl⟩)) hok (h.eval y) rfl hown hg
    have hx : (execOp a.eval o).run P w = .ok (.value v) w' := by
      unfold execOp
      rw [ho]
      simp only [resolve, invoke, builtin, Sem.run_bind, Sem.run_pure, Result.andThen_ok, List.map_toArray, List.map_cons, List.map_nil, hvx, hrun]
    unfold Oper.wp
    rw [hx]
    exact hK β' W' _ _ (hR.put hrel o.dst hd)
  | @app u v n k n' m es y t s s' ds hw ho hu hv hg hk hok e1 e2 e3 e4 e5 =>
    rw [wanted_rel h hw, if_pos rfl]
    subst hk
    have hvx : RelC β W (a.eval (.tmp u)) (.grow v n) := by have := h.tmp u; rw [hu] at this; exact this
    obtain ⟨r, w', W', hrun, hrel, hR⟩ := h.app (id := id) (ty := o.type) (vy := a.eval y) hv hg hvx hok (h.eval y) rfl e1 e2 e3 e4 e5
    have hx : (execOp a.eval o).run P w = .ok (.value r) w' := by
      unfold execOp
      rw [ho]
      simp only [resolve, invoke, builtin, Sem.run_bind, Sem.run_pure, Result.andThen_ok, List.map_toArray, List.map_cons, List.map_nil, hrun]
    unfold Oper.wp
    rw [hx]
    exact hK β W' _ _ (hR.put hrel o.dst hd)
end
end Go.Proofs.YtnncfbmddpijcaaGreatDoor.AM

/- The machine, and regions whose order is told. -/
namespace Go.Proofs.YtnncfbmddpijcaaGreatDoor.AM
open Go Go.RowKit

/-- What the machine is told ahead: a call's answer, or another word for a value. -/
inductive Tr where
  | call (f : FuncId) (args : List Sv) (mem : List (Nat × VarSt)) (res : Av)
  | norm (id : Nat) (old put : Av)
  | loop (b : Code) (keep ids : List Nat) (tm : List Av) (vr : List (Nat × VarSt)) (e : Exit) (tm' : List Av) (vr' : List (Nat × VarSt)) (k' : Nat)
  | unroll
  | prim (id : Nat) (op : Op) (ty : TypeId) (rs : List Value) (r : Value)
  | told (op : Op) (ty : TypeId) (avs : List Av) (put : Av)
  | toldAt (id : Nat) (op : Op) (ty : TypeId) (avs : List Av) (put : Av)
  | make (op : Op) (ty : TypeId) (avs : List Av) (s : VarSt) (n c : Nat)
  | froz
  | keep
  | freeze (x : Nat) (cs : List Cv)
  | lod (cs : List Cv) (off : Nat) (n : Option Nat) (put : Av)
  | sto (cs : List Cv) (off : Nat) (us : List Cv) (cs' : List Cv) (sy : Sy cs')
  | callv (e : Ent) (args : List Sv) (mem : List (Nat × VarSt)) (res : Av)
  | callo (f : FuncId) (args : List Sv) (mem : List (Nat × VarSt)) (res : Av) (s : VarSt)
  | app0 (t : TypeId) (av : Av) (m es : Nat) (s : VarSt)
  | app (t : TypeId) (av : Av) (n k m n' es : Nat) (T : TypeId) (cs ds : List Cv) (s : VarSt)
  | same (n m : Nat)
  | two (n m : Nat) (t : Tr)
  | settle (t n m : Nat)
  | callm (f : FuncId) (args : List Sv) (mem : List (Nat × VarSt)) (res : Av) (ss : List VarSt)
def look : List (Nat × VarSt) → Nat → Option VarSt
  | [], _ => none
  | (y, s) :: l, x => match Nat.beq y x with | true => some s | false => look l x
def tmF (tm : List Av) (t : Nat) : Av := tm.getD t undefA
/-- What is said of a call's memory is so. -/
def Is (w0 : Base) (G : World → Prop) (tm : List Av) (vr : List (Nat × VarSt)) (a : Act) (w : World) : Prop := ∃ β W, Rep w0 G tm.length β W (tmF tm) (look vr) a w
def TrOk (P : Program) (G : World → Prop) : Tr → Prop
  | .call f args mem res => Fits P G f args mem res
  | .norm _ old put => Norm old put
  | .loop b _ _ tm vr e tm' vr' _ => ∀ (w0 : Base) (Q : Exit → Act → World → Prop) (a : Act) (w : World), Is w0 G tm vr a w → (∀ a w, Is w0 G tm' vr' a w → Q e a w) → (Code.loop b).wp P Q a w
  | .unroll => True
  | .prim _ op ty rs r => PrimOk P op ty rs r
  | .told op ty avs put => PureOk P op ty avs put
  | .toldAt _ op ty avs put => PureOk P op ty avs put
  | .make op ty avs s n c => NewOk P op ty avs s n c
  | .froz => True
  | .keep => True
  | .freeze _ cs => ∀ c ∈ cs, varsC c = []
  | .lod cs off none put => ∃ c, cs[off]? = some c ∧ Norm (.one (.cel c)) put
  | .lod cs off (some n) put => off + n ≤ cs.length ∧ Norm (.one (.agg ((cs.drop off).take n))) put
  | .sto cs off us cs' _ => off + us.length ≤ cs.length ∧ cs' = putL cs off us
  | .callv e args mem res => CallV P G e args mem res
  | .callo f args mem res s => FitsO P G f args mem res s
  | .app0 t av m es s => AppOk P t s.t av 0 m es s.cs ∧ s.own = true ∧ groOf s = some (m, es)
  | .app t av n k m n' es T cs ds s => n = k ∧ AppOk P t T av n m es ds ∧ s.t = T ∧ s.own = true ∧ groOf s = some (n', es) ∧ n' = n + m ∧ s.cs = cs ++ ds
  | .same n m => n = m
  | .two n m t => n = m ∧ TrOk P G t
  | .settle _ n m => n = m
  | .callm f args mem res ss => FitsM P G f args mem res ss
structure St where
  tm : List Av
  vr : List (Nat × VarSt)
  k : Nat
  tr : List Tr
  out : List Tr

def varsS : Sv → List Nat
  | .cel c => varsC c
  | .agg l => l.flatMap varsC
def memOf (vr : List (Nat × VarSt)) : List Nat → Option (List (Nat × VarSt))
  | [] => some []
  | x :: l => match look vr x, memOf vr l with | some s, some r => (match notGro s with | true => some ((x, s) :: r) | false => none) | _, _ => none
def normIt (id : Nat) (av : Av) (tr : List Tr) : Av × List Tr × Option Tr :=
  match tr with
  | .norm id' _ put :: tr' => (match Nat.beq id' id with | true => (put, tr', some (.norm id av put)) | false => (av, tr, none))
  | _ => (av, tr, none)
/-- Is a value told whole? -/
def primIt (id : Nat) (tr : List Tr) : Option (Value × List Tr) :=
  match tr with
  | .prim id' _ _ _ r :: tr' => (match Nat.beq id' id with | true => some (r, tr') | false => none)
  | _ => none
/-- Is all closed? -/
def shutC (cs : List Cv) : Bool := cs.all fun c => match varsC c with | [] => true | _ => false
def isSym (s : VarSt) : Bool := match s.sy with | .no => false | _ => true
def newIt (id : Nat) (t : TypeId) (cs : List Cv) (k : Option (Nat × Nat)) (tr : List Tr) : Option (Rec × List Tr × Option Tr) :=
  match tr with
  | .froz :: tr' => (match shutC cs with | true => some (⟨frozenA cs k, .none, []⟩, tr', some .froz) | false => none)
  | .keep :: tr' => (match k with | none => some (⟨.one (.cel (.ptr id 0)), .new t cs, []⟩, tr', some .keep) | some (n, c) => some (⟨.one (.cel (.row id 0 n c)), .new t cs, []⟩, tr', some .keep))
  | _ => (match k with | none => some (⟨.one (.cel (.ptr id 0)), .new t cs, []⟩, tr, none) | some (n, c) => some (⟨.one (.cel (.row id 0 n c)), .new t cs, []⟩, tr, none))
/-- Is it told what an operation gives? -/
def atIt (id : Nat) (tr : List Tr) : Option (Av × List Tr) :=
  match tr with
  | .toldAt id' _ _ _ put :: tr' => (match Nat.beq id' id with | true => some (put, tr') | false => none)
  | _ => none
/-- What an operation does, its operands being told. -/
def doAcc (P : Program) (id : Nat) (o : Oper) (ev : Operand → Av) (vr : List (Nat × VarSt)) (tr : List Tr) : Option (Rec × List Tr × Option Tr) :=
  match acc P o ev with
  | none =>
    (match tr with
    | .told _ _ _ put :: tr' => some (⟨put, .none, []⟩, tr', some (.told o.op o.type (o.op.operands.toList.map ev) put))
    | .make _ _ _ s n c :: tr' => (match notGro s with | true => some (⟨.one (.cel (.row id 0 n c)), .news s, []⟩, tr', some (.make o.op o.type (o.op.operands.toList.map ev) s n c)) | false => none)
    | _ => none)
  | some (.val av) => (match normIt id av tr with | (put, tr', po) => some (⟨put, .none, []⟩, tr', po))
  | some (.new t cs k) => newIt id t cs k tr
  | some (.load x off none) =>
    (match look vr x with
    | some s => (match notGro s with | false => none | true => (match isSym s with
      | true => (match tr with
        | .lod _ _ _ put :: tr' => some (⟨put, .none, [x]⟩, tr', some (.lod s.cs off none put))
        | _ => none)
      | false => (match s.cs[off]? with
        | some c => (match normIt id (.one (.cel c)) tr with | (put, tr', po) => some (⟨put, .none, [x]⟩, tr', po))
        | none => none)))
    | none => none)
  | some (.load x off (some n)) =>
    (match look vr x with
    | some s => (match notGro s with | false => none | true => (match isSym s with
      | true => (match tr with
        | .lod _ _ _ put :: tr' => some (⟨put, .none, [x]⟩, tr', some (.lod s.cs off (some n) put))
        | _ => none)
      | false => if off + n ≤ s.cs.length then (match normIt id (.one (.agg ((s.cs.drop off).take n))) tr with | (put, tr', po) => some (⟨put, .none, [x]⟩, tr', po)) else none))
    | none => none)
  | some (.sto x off cs) =>
    (match look vr x with
    | some s => (match notGro s with | false => none | true => (match isSym s with
      | true => (match tr, s.own with
        | .sto _ _ _ cs' sy :: tr', true => (match notGro ⟨s.t, cs', true, sy⟩ with | true => some (⟨undefA, .put x ⟨s.t, cs', true, sy⟩, [x]⟩, tr', some (.sto s.cs off cs cs' sy)) | false => none)
        | _, _ => none)
      | false => if s.own = true ∧ off + cs.length ≤ s.cs.length then some (⟨undefA, .sto x off cs, [x]⟩, tr, none) else none))
    | none => none)
  | some (.call f args) =>
    (match tr, memOf vr (args.flatMap varsS) with
    | .call _ _ _ res :: tr', some mem => some (⟨res, .none, mem.map (·.1)⟩, tr', some (.call f args mem res))
    | .callo _ _ _ res s :: tr', some mem => (match notGro s with | true => some (⟨renA id res, .news s, mem.map (·.1)⟩, tr', some (.callo f args mem res s)) | false => none)
    | _, _ => none)
  | some (.callv e args) =>
    (match tr, memOf vr (args.flatMap varsS) with
    | .callv _ _ _ res :: tr', some mem => some (⟨res, .none, mem.map (·.1)⟩, tr', some (.callv e args mem res))
    | _, _ => none)
/-- Is something put behind a row? -/
def appIt (id : Nat) (o : Oper) (tm : Nat → Av) (vr : List (Nat × VarSt)) (tr : List Tr) : Option (Rec × List Tr × Tr) :=
  match tr with
  | .app0 _ _ m es s :: tr' =>
    (match o.op with
    | .call ⟨.builtin .append, ⟨[x, y]⟩, ⟨[t, t']⟩⟩ =>
      (match Nat.beq t t', evF tm x with
      | true, .one (.cel (.raw (.slice none 0 0))) => some (⟨.one (.cel (.grow id m)), .news s, []⟩, tr', .app0 t (evF tm y) m es s)
      | _, _ => none)
    | _ => none)
  | .app _ _ _ _ m n' es _ _ ds s' :: tr' =>
    (match o.op with
    | .call ⟨.builtin .append, ⟨[.tmp u, y]⟩, ⟨[t, t']⟩⟩ =>
      (match Nat.beq t t', tm u with
      | true, .one (.cel (.grow v n)) =>
        (match look vr v with
        | some ⟨T, cs, _, .gro k es' _⟩ => (match Nat.beq es es' with | true => some (⟨.one (.cel (.grow v n')), .put v s', [v]⟩, tr', .app t (evF tm y) n k m n' es T cs ds s') | false => none)
        | _ => none)
      | _, _ => none)
    | _ => none)
  | _ => none
def growAt (tm : Nat → Av) : List Operand → Option (Nat × Nat × Nat)
  | [] => none
  | .tmp t :: l => (match tm t with | .one (.cel (.grow x n)) => some (t, x, n) | _ => growAt tm l)
  | _ :: l => growAt tm l
/-- Is a row that grows looked at? -/
def viewIt (o : Oper) (tm : Nat → Av) : Option (Nat × Nat × Nat) :=
  match o.op with
  | .move _ => none
  | .assign _ => none
  | _ => growAt tm o.op.operands.toList
def doView (P : Program) (id : Nat) (o : Oper) (tm : Nat → Av) (vr : List (Nat × VarSt)) (t x n : Nat) (tr : List Tr) : Option (Rec × List Tr × Option Tr) :=
  match look vr x with
  | some ⟨_, cs, _, .gro m _ _⟩ =>
    (match tr with
    | .same _ _ :: tr' => (match doAcc P id o (viewE tm t (rowOf n cs)) vr [] with | some (r, [], none) => some (⟨r.put, r.eff, x :: r.touch⟩, tr', some (.same n m)) | _ => none)
    | .two _ _ u :: tr' => (match doAcc P id o (viewE tm t (rowOf n cs)) vr [u] with | some (r, [], some u') => some (⟨r.put, r.eff, x :: r.touch⟩, tr', some (.two n m u')) | _ => none)
    | _ => none)
  | _ => none
def doOp (P : Program) (ops : Array Oper) (id : Nat) (o : Oper) (tm : List Av) (vr : List (Nat × VarSt)) (tr : List Tr) : Option (Rec × List Tr × Option Tr) :=
  match wantedA ops (tmF tm) o with
  | none => none
  | some false => some (⟨undefA, .none, []⟩, tr, none)
  | some true =>
    match primIt id tr with
    | some (r, tr') => (match rawsOf (evF (tmF tm)) o.op.operands.toList with | some rs => some (⟨rawA r, .none, []⟩, tr', some (.prim id o.op o.type rs r)) | none => none)
    | none =>
    match atIt id tr with
    | some (put, tr') => some (⟨put, .none, []⟩, tr', some (.toldAt id o.op o.type (o.op.operands.toList.map (evF (tmF tm))) put))
    | none =>
    match appIt id o (tmF tm) vr tr with
    | some (r, tr', t) => some (r, tr', some t)
    | none =>
    match viewIt o (tmF tm) with
    | none => doAcc P id o (evF (tmF tm)) vr tr
    | some (t, x, n) => doView P id o (tmF tm) vr t x n tr
def setT (tm : List Av) (dst : Option Tmp) (v : Av) : List Av := match dst with | none => tm | some d => tm.set d v
def setV (vr : List (Nat × VarSt)) (id : Nat) : REff → List (Nat × VarSt)
  | .none => vr
  | .new t cs => (id, ⟨t, cs, true, .no⟩) :: vr
  | .sto x off cs => match look vr x with | some s => (x, ⟨s.t, putL s.cs off cs, s.own, .no⟩) :: vr | none => vr
  | .put x s => match look vr x with | some _ => (x, s) :: vr | none => vr
  | .news s => (id, s) :: vr
def dstOk (n : Nat) : Option Tmp → Bool
  | none => true
  | some d => Nat.blt d n
def pushT (out : List Tr) : Option Tr → List Tr | none => out | some t => t :: out
def newV (k0 : Nat) : Nat → List VarSt → List (Nat × VarSt)
  | _, [] => []
  | k, s :: l => (k, mapW (· + k0) s) :: newV k0 (k + 1) l
/-- Is it a call that hands back several rows? -/
def manyIt (P : Program) (ops : Array Oper) (o : Oper) (S : St) : Option St :=
  match S.tr with
  | .callm _ _ _ res ss :: tr' =>
    (match wantedA ops (tmF S.tm) o, dstOk S.tm.length o.dst, acc P o (evF (tmF S.tm)) with
    | some true, true, some (.call f args) =>
      (match memOf S.vr (args.flatMap varsS) with
      | some mem => some ⟨setT S.tm o.dst (mapA (· + S.k) res), newV S.k S.k ss ++ S.vr, S.k + ss.length, tr', .callm f args mem res ss :: S.out⟩
      | none => none)
    | _, _, _ => none)
  | _ => none
/-- Operations one behind the other. -/
def seqOps (P : Program) (ops : Array Oper) : List Oper → St → Option St
  | [], S => some S
  | o :: l, S =>
    match manyIt P ops o S with
    | some S1 => seqOps P ops l S1
    | none =>
    match dstOk S.tm.length o.dst, doOp P ops S.k o S.tm S.vr S.tr with
    | true, some (r, tr', po) => seqOps P ops l ⟨setT S.tm o.dst r.put, setV S.vr S.k r.eff, S.k + 1, tr', pushT S.out po⟩
    | _, _ => none

theorem look_setV (vr : List (Nat × VarSt)) (id : Nat) (e : REff) : look (setV vr id e) = updV (look vr) id e := by
  funext x
  cases e with
  | none => rfl
  | new t cs =>
    show (match Nat.beq id x with | true => _ | false => _) = _
    unfold updV
    dsimp only
    by_cases h : x = id
    · subst h; rw [if_pos rfl, Nat.beq_refl]
    · rw [if_neg h, show Nat.beq id x = false by rw [Bool.eq_false_iff]; intro e; exact h (Nat.eq_of_beq_eq_true e).symm]
  | sto y off cs =>
    unfold setV updV
    dsimp only
    cases hy : look vr y with
    | none =>
      dsimp only
      by_cases h : x = y
      · subst h; rw [if_pos rfl, hy]; rfl
      · rw [if_neg h]
    | some s =>
      show (match Nat.beq y x with | true => _ | false => _) = _
      by_cases h : x = y
      · subst h; rw [if_pos rfl, Nat.beq_refl]; rfl
      · rw [if_neg h, show Nat.beq y x = false by rw [Bool.eq_false_iff]; intro e; exact h (Nat.eq_of_beq_eq_true e).symm]
  | put y s =>
    unfold setV updV
    dsimp only
    cases hy : look vr y with
    | none =>
      dsimp only
      by_cases h : x = y
      · subst h; rw [if_pos rfl, hy]; rfl
      · rw [if_neg h]
    | some s0 =>
      show (match Nat.beq y x with | true => _ | false => _) = _
      by_cases h : x = y
      · subst h; rw [if_pos rfl, Nat.beq_refl]; rfl
      · rw [if_neg h, show Nat.beq y x = false by rw [Bool.eq_false_iff]; intro e; exact h (Nat.eq_of_beq_eq_true e).symm]
  | news s =>
    show (match Nat.beq id x with | true => _ | false => _) = _
    unfold updV
    dsimp only
    by_cases h : x = id
    · subst h; rw [if_pos rfl, Nat.beq_refl]
    · rw [if_neg h, show Nat.beq id x = false by rw [Bool.eq_false_iff]; intro e; exact h (Nat.eq_of_beq_eq_true e).symm]
theorem dstOk_lt {n d : Nat} (h : dstOk n (some d) = true) : d < n := Nat.le_of_ble_eq_true h
theorem tmF_setT (tm : List Av) (dst : Option Tmp) (v : Av) (h : dstOk tm.length dst = true) : tmF (setT tm dst v) = updT (tmF tm) dst v := by
  funext t
  cases dst with
  | none => rfl
  | some d =>
    have hd : d < tm.length := dstOk_lt h
    unfold setT updT tmF
    dsimp only
    rw [List.getD_eq_getElem?_getD, List.getElem?_set]
    by_cases e : t = d
    · subst e; rw [if_pos rfl, if_pos rfl, if_pos hd]; rfl
    · rw [if_neg e, if_neg (Ne.symm e), ← List.getD_eq_getElem?_getD]
theorem setT_length (tm : List Av) (dst : Option Tmp) (v : Av) : (setT tm dst v).length = tm.length := by
  cases dst <;> simp [setT]
theorem memOf_spec {vr : List (Nat × VarSt)} : ∀ {l : List Nat} {mem : List (Nat × VarSt)}, memOf vr l = some mem → (∀ m ∈ mem, look vr m.1 = some m.2 ∧ groOf m.2 = none) ∧ mem.map (·.1) = l
  | [], mem, h => by injection h with h; subst h; exact ⟨by simp, rfl⟩
  | x :: l, mem, h => by
    unfold memOf at h
    split at h
    · rename_i s r hs hr
      split at h
      case h_2 => cases h
      rename_i hng
      injection h with h; subst h
      obtain ⟨h1, h2⟩ := memOf_spec hr
      refine ⟨fun m hm => ?_, by rw [List.map_cons, h2]⟩
      rcases List.mem_cons.1 hm with rfl | hm
      · exact ⟨hs, notGro_spec hng⟩
      · exact h1 m hm
    · cases h
theorem normIt_spec {P : Program} {G : World → Prop} {id : Nat} {av put : Av} {tr tr' : List Tr} {po : Option Tr} (h : normIt id av tr = (put, tr', po)) (hok : ∀ t, po = some t → TrOk P G t) : Norm av put := by
  unfold normIt at h
  split at h
  · split at h
    · injection h with h1 h2; injection h2 with h2 h3
      subst h1; exact hok _ h3.symm
    · injection h with h1 h2; subst h1; exact fun _ _ _ h => h
  · injection h with h1 h2; subst h1; exact fun _ _ _ h => h

theorem shutC_spec {cs : List Cv} (h : shutC cs = true) : ∀ c ∈ cs, varsC c = [] := fun c hc => by
  have := List.all_eq_true.1 h c hc
  split at this
  · assumption
  · cases this
theorem newIt_does {P : Program} {G : World → Prop} {ops : Array Oper} {id : Nat} {o : Oper} {tm : Nat → Av} {ev : Operand → Av} {vr : List (Nat × VarSt)} {tr tr' : List Tr} {r : Rec} {po : Option Tr} {t : TypeId} {cs : List Cv} {k : Option (Nat × Nat)}
    (hw : wantedA ops tm o = some true) (ha : acc P o ev = some (.new t cs k)) (h : newIt id t cs k tr = some (r, tr', po)) : Does0 P G ops id o tm ev (look vr) r := by
  unfold newIt at h
  split at h
  · split at h
    · rename_i hs
      injection h with h; injection h with h1 h2; subst h1
      exact .froz hw ha (shutC_spec hs)
    · cases h
  · split at h
    · injection h with h; injection h with h1 h2; subst h1
      exact .newp hw ha
    · injection h with h; injection h with h1 h2; subst h1
      exact .newr hw ha
  · split at h
    · injection h with h; injection h with h1 h2; subst h1
      exact .newp hw ha
    · injection h with h; injection h with h1 h2; subst h1
      exact .newr hw ha
theorem doAcc_does {P : Program} {G : World → Prop} {ops : Array Oper} {id : Nat} {o : Oper} {tm : Nat → Av} {ev : Operand → Av} {vr : List (Nat × VarSt)} {tr tr' : List Tr} {r : Rec} {po : Option Tr}
    (hw : wantedA ops tm o = some true) (h : doAcc P id o ev vr tr = some (r, tr', po)) (hok : ∀ t, po = some t → TrOk P G t) : Does0 P G ops id o tm ev (look vr) r := by
  unfold doAcc at h
  split at h
  · split at h
    · injection h with h; injection h with h1 h2; injection h2 with h2 h3; subst h1; subst h3
      exact .told hw (hok _ rfl)
    · split at h
      case h_2 => cases h
      rename_i hng
      injection h with h; injection h with h1 h2; injection h2 with h2 h3; subst h1; subst h3
      exact .make hw (hok _ rfl) (notGro_spec hng)
    · cases h
  · rename_i av ha
    split at h
    rename_i put tr'' po' hn
    injection h with h; injection h with h1 h2; injection h2 with h2 h3; subst h1; subst h3
    exact .val hw ha (normIt_spec hn hok)
  · rename_i t cs k ha
    exact newIt_does hw ha h
  · rename_i x off ha
    split at h
    · rename_i s hs
      split at h
      · cases h
      rename_i hng
      split at h
      · split at h
        · injection h with h; injection h with h1 h2; injection h2 with h2 h3; subst h1; subst h3
          obtain ⟨c, h4, h5⟩ := hok _ rfl
          exact .load1 hw ha hs (notGro_spec hng) h4 h5
        · cases h
      split at h
      · rename_i c hc
        split at h
        rename_i put tr'' po' hn
        injection h with h; injection h with h1 h2; injection h2 with h2 h3; subst h1; subst h3
        exact .load1 hw ha hs (notGro_spec hng) hc (normIt_spec hn hok)
      · cases h
    · cases h
  · rename_i x off n ha
    split at h
    · rename_i s hs
      split at h
      · cases h
      rename_i hng
      split at h
      · split at h
        · injection h with h; injection h with h1 h2; injection h2 with h2 h3; subst h1; subst h3
          have h4 := hok _ rfl
          exact .loadn hw ha hs (notGro_spec hng) h4.1 h4.2
        · cases h
      split at h
      · rename_i hle
        split at h
        rename_i put tr'' po' hn
        injection h with h; injection h with h1 h2; injection h2 with h2 h3; subst h1; subst h3
        exact .loadn hw ha hs (notGro_spec hng) hle (normIt_spec hn hok)
      · cases h
    · cases h
  · rename_i x off cs ha
    split at h
    · rename_i s hs
      split at h
      · cases h
      rename_i hng
      split at h
      · split at h
        · rename_i ho _ _
          split at h
          case h_2 => cases h
          rename_i hng2
          injection h with h; injection h with h1 h2; injection h2 with h2 h3; subst h1; subst h3
          have h4 := hok _ rfl
          exact .stot hw ha hs (notGro_spec hng) (notGro_spec hng2) (by assumption) h4.1 rfl rfl h4.2
        · cases h
      split at h
      · rename_i hc
        injection h with h; injection h with h1 h2; subst h1
        exact .sto hw ha hs (notGro_spec hng) hc.1 hc.2
      · cases h
    · cases h
  · rename_i f args ha
    split at h
    · injection h with h; injection h with h1 h2; injection h2 with h2 h3; subst h1; subst h3
      exact .call hw ha (memOf_spec (by assumption)).1 (hok _ rfl)
    · split at h
      case h_2 => cases h
      rename_i hng
      injection h with h; injection h with h1 h2; injection h2 with h2 h3; subst h1; subst h3
      exact .callo hw ha (memOf_spec (by assumption)).1 (hok _ rfl) (notGro_spec hng)
    · cases h
  · rename_i f args ha
    split at h
    · injection h with h; injection h with h1 h2; injection h2 with h2 h3; subst h1; subst h3
      exact .callv hw ha (memOf_spec (by assumption)).1 (hok _ rfl)
    · cases h
theorem appIt_does {P : Program} {G : World → Prop} {ops : Array Oper} {id : Nat} {o : Oper} {tm : Nat → Av} {vr : List (Nat × VarSt)} {tr tr' : List Tr} {r : Rec} {t : Tr}
    (hw : wantedA ops tm o = some true) (h : appIt id o tm vr tr = some (r, tr', t)) (hok : TrOk P G t) : Does P G ops id o tm (look vr) r := by
  unfold appIt at h
  split at h
  · split at h
    · rename_i ho
      split at h
      · rename_i hb hx
        have e := Nat.eq_of_beq_eq_true hb
        injection h with h; injection h with h1 h2; injection h2 with h2 h3; subst h1; subst h3
        obtain ⟨k1, k2, k3⟩ := hok
        subst e
        exact .app0 hw ho hx k1 k2 k3
      · cases h
    · cases h
  · split at h
    · rename_i ho
      split at h
      · rename_i hb hx
        have e := Nat.eq_of_beq_eq_true hb
        split at h
        · rename_i hl
          split at h
          · rename_i hes
            have e2 := Nat.eq_of_beq_eq_true hes
            injection h with h; injection h with h1 h2; injection h2 with h2 h3; subst h1; subst h3
            obtain ⟨k0, k1, k2, k3, k4, k5, k6⟩ := hok
            subst e; subst e2
            exact .app hw ho hx hl rfl k0 k1 k2 k3 k4 k5 k6
          · cases h
        · cases h
      · cases h
    · cases h
  · cases h
theorem growAt_spec {tm : Nat → Av} {t x n : Nat} : ∀ {l : List Operand}, growAt tm l = some (t, x, n) → .tmp t ∈ l ∧ tm t = .one (.cel (.grow x n))
  | [], h => by cases h
  | .tmp u :: l, h => by
    unfold growAt at h
    split at h
    · rename_i hu
      injection h with h; injection h with h1 h2; injection h2 with h2 h3; subst h1; subst h2; subst h3
      exact ⟨List.mem_cons_self .., hu⟩
    · exact ⟨List.mem_cons_of_mem _ (growAt_spec h).1, (growAt_spec h).2⟩
  | .const _ :: l, h => ⟨List.mem_cons_of_mem _ (growAt_spec (l := l) h).1, (growAt_spec (l := l) h).2⟩
  | .global _ :: l, h => ⟨List.mem_cons_of_mem _ (growAt_spec (l := l) h).1, (growAt_spec (l := l) h).2⟩
  | .func _ :: l, h => ⟨List.mem_cons_of_mem _ (growAt_spec (l := l) h).1, (growAt_spec (l := l) h).2⟩
theorem doView_does {P : Program} {G : World → Prop} {ops : Array Oper} {id : Nat} {o : Oper} {tm : Nat → Av} {vr : List (Nat × VarSt)} {t x n : Nat} {tr tr' : List Tr} {r : Rec} {po : Option Tr}
    (hw : wantedA ops tm o = some true) (hv : viewIt o tm = some (t, x, n)) (h : doView P id o tm vr t x n tr = some (r, tr', po)) (hok : ∀ t, po = some t → TrOk P G t) : Does P G ops id o tm (look vr) r := by
  have hg : growAt tm o.op.operands.toList = some (t, x, n) := by
    unfold viewIt at hv
    split at hv
    · cases hv
    · cases hv
    · exact hv
  obtain ⟨h1, h2⟩ := growAt_spec hg
  unfold doView at h
  split at h
  · rename_i T cs ow m es hsh hl
    split at h
    · split at h
      · rename_i r0 hd
        injection h with h; injection h with e1 e2; injection e2 with e2 e3; subst e1; subst e3
        exact .view (s := ⟨T, cs, ow, .gro m es hsh⟩) h1 h2 hl rfl (hok _ rfl) (doAcc_does hw hd fun t e => by cases e)
      · cases h
    · split at h
      · rename_i r0 u' hd
        injection h with h; injection h with e1 e2; injection e2 with e2 e3; subst e1; subst e3
        obtain ⟨k1, k2⟩ := hok _ rfl
        exact .view (s := ⟨T, cs, ow, .gro m es hsh⟩) h1 h2 hl rfl k1 (doAcc_does hw hd fun t e => by injection e with e; subst e; exact k2)
      · cases h
    · cases h
  · cases h
theorem doOp_does {P : Program} {G : World → Prop} {ops : Array Oper} {id : Nat} {o : Oper} {tm : List Av} {vr : List (Nat × VarSt)} {tr tr' : List Tr} {r : Rec} {po : Option Tr}
    (h : doOp P ops id o tm vr tr = some (r, tr', po)) (hok : ∀ t, po = some t → TrOk P G t) : Does P G ops id o (tmF tm) (look vr) r := by
  unfold doOp at h
  split at h
  · cases h
  · rename_i hw
    injection h with h; injection h with h1 h2; subst h1
    exact .base (.skip hw)
  · rename_i hw
    split at h
    · split at h
      · rename_i rs hrs
        injection h with h; injection h with h1 h2; injection h2 with h2 h3; subst h1; subst h3
        exact .base (.prim hw hrs (hok _ rfl))
      · cases h
    split at h
    · injection h with h; injection h with h1 h2; injection h2 with h2 h3; subst h1; subst h3
      exact .base (.told hw (hok _ rfl))
    split at h
    · rename_i r' tr1 t1 happ
      injection h with h; injection h with h1 h2; injection h2 with h2 h3; subst h1; subst h3
      exact appIt_does hw happ (hok _ rfl)
    split at h
    · exact .base (doAcc_does hw h hok)
    · rename_i t x n hv
      exact doView_does hw hv h hok

/-- The state is so. -/
def Sat (w0 : Base) (G : World → Prop) (S : St) (a : Act) (w : World) : Prop := Is w0 G S.tm S.vr a w ∧ ∀ x, S.k ≤ x → look S.vr x = none
theorem setV_fresh {vr : List (Nat × VarSt)} {id : Nat} (e : REff) (h : ∀ x, id ≤ x → look vr x = none) : ∀ x, id + 1 ≤ x → look (setV vr id e) x = none := fun x hx => by
  rw [look_setV]
  cases e with
  | none => exact h x (by omega)
  | new t cs => unfold updV; dsimp only; rw [if_neg (by omega)]; exact h x (by omega)
  | sto y off cs =>
    unfold updV
    dsimp only
    by_cases e : x = y
    · subst e; rw [if_pos rfl, h x (by omega)]; rfl
    · rw [if_neg e]; exact h x (by omega)
  | put y s =>
    unfold updV
    dsimp only
    by_cases e : x = y
    · subst e; rw [if_pos rfl, h x (by omega)]; rfl
    · rw [if_neg e]; exact h x (by omega)
  | news s => unfold updV; dsimp only; rw [if_neg (by omega)]; exact h x (by omega)

theorem look_cons (y : Nat) (s : VarSt) (l : List (Nat × VarSt)) (x : Nat) : look ((y, s) :: l) x = match Nat.beq y x with | true => some s | false => look l x := rfl
theorem look_append (l vr : List (Nat × VarSt)) (x : Nat) : look (l ++ vr) x = match look l x with | some s => some s | none => look vr x := by
  induction l with
  | nil => rfl
  | cons m l ih =>
    obtain ⟨y, s⟩ := m
    rw [List.cons_append, look_cons, look_cons]
    cases Nat.beq y x with
    | true => rfl
    | false => exact ih
theorem look_newV (k0 : Nat) : ∀ (ss : List VarSt) (k x : Nat), look (newV k0 k ss) x = if k ≤ x ∧ x < k + ss.length then (ss[x - k]?).map (mapW (· + k0)) else none
  | [], k, x => by unfold newV look; rw [if_neg (by simp only [List.length_nil]; omega)]
  | s :: l, k, x => by
    unfold newV look
    cases hb : Nat.beq k x with
    | true =>
      have e := Nat.eq_of_beq_eq_true hb
      subst e
      rw [if_pos ⟨Nat.le_refl _, by simp⟩, Nat.sub_self]; rfl
    | false =>
      have hne : k ≠ x := fun e => by subst e; rw [Nat.beq_refl] at hb; cases hb
      dsimp only
      rw [look_newV k0 l (k + 1) x]
      by_cases hc : k + 1 ≤ x ∧ x < k + 1 + l.length
      · rw [if_pos hc, if_pos ⟨by omega, by simp; omega⟩, show x - k = (x - (k + 1)) + 1 by omega]; rfl
      · rw [if_neg hc, if_neg (by simp; omega)]
theorem look_many {vr : List (Nat × VarSt)} {k : Nat} {ss : List VarSt} : look (newV k k ss ++ vr) = manyV (look vr) k ss := by
  funext x
  rw [look_append, look_newV]
  unfold manyV
  split
  · rename_i s hs
    split at hs
    · rename_i hc; rw [if_pos hc]; exact hs.symm
    · cases hs
  · rename_i hs
    split at hs
    · rename_i hc
      exfalso
      rw [List.getElem?_eq_getElem (show x - k < ss.length by omega)] at hs
      cases hs
    · rename_i hc; rw [if_neg hc]
theorem many_sound {P : Program} {G : World → Prop} {ops : Array Oper} {w0 : Base} {o : Oper} {S S1 : St} {K : Act → World → Prop} {Q : Exit → Act → World → Prop} {a : Act} {w : World} (hG : ∀ {w w' : World}, Below w.heap.size w w' → G w → G w')
    (h : manyIt P ops o S = some S1) (hok : ∀ t ∈ S1.out, TrOk P G t) (hS : Sat w0 G S a w) (hK : ∀ a' w', Sat w0 G S1 a' w' → K a' w') :
    (if Region.wanted o (yielded ops a.tmps) = true then Oper.wp P o a w K Q else K (a.put o.dst undef) w) ∧ ∀ t ∈ S.out, t ∈ S1.out := by
  unfold manyIt at h
  split at h
  case h_2 => cases h
  rename_i f0 args0 mem0 res ss tr' htr
  split at h
  case h_2 => cases h
  rename_i f args hw hd ha
  split at h
  case h_2 => cases h
  rename_i mem hm
  injection h with h; subst h
  refine ⟨?_, fun t ht => List.mem_cons_of_mem _ ht⟩
  obtain ⟨⟨β, W, hR⟩, hf⟩ := hS
  have hfit : FitsM P G f args mem res ss := hok _ (List.mem_cons_self ..)
  rw [wanted_rel hR hw, if_pos rfl]
  obtain ⟨vals, h1, h2⟩ := acc_sound (w := w) o _ (fun x _ => hR.eval x) ha
  unfold Oper.wp
  rw [h2 hfit.1]
  refine (hfit.2.2 β W w vals hR.size hR.ext hR.u32 (hG hR.below hR.glob) h1 (fun m hmem => ?_)).mono ?_
  · obtain ⟨g, cs, b1, b2, b3, b4, _⟩ := hR.var m.1 m.2 ((memOf_spec hm).1 m hmem).1 ((memOf_spec hm).1 m hmem).2
    exact ⟨g, cs, b1, b2, b3, b4⟩
  · rintro e w' ⟨v, gs, rfl, hb, e1, e2, e3, e4, e5⟩
    obtain ⟨β', hb', hR'⟩ := hR.callm hb hf hfit.2.1 e1 e2 e3 e5
    refine hK _ _ ⟨⟨β', hide (patch W w') gs, ?_⟩, fun x hx => ?_⟩
    · dsimp only
      rw [setT_length, tmF_setT _ _ _ hd, look_many]
      exact hR'.put (mapA_rel hb' e4) o.dst fun d hd' => dstOk_lt (by rw [hd'] at hd; exact hd)
    · dsimp only at hx ⊢
      rw [look_many]
      unfold manyV
      rw [if_neg (by omega)]
      exact hf x (by omega)
theorem seqOps_sound {P : Program} {G : World → Prop} {ops : Array Oper} {w0 : Base} {Q : Exit → Act → World → Prop} (hG : ∀ {w w' : World}, Below w.heap.size w w' → G w → G w') :
    ∀ (l : List Oper) (S S' : St) (a : Act) (w : World), seqOps P ops l S = some S' → (∀ t ∈ S'.out, TrOk P G t) → Sat w0 G S a w → (∀ a w, Sat w0 G S' a w → Q .normal a w) → wpList P ops Q l a w ∧ (∀ t ∈ S.out, t ∈ S'.out)
  | [], S, S', a, w, h, _, hS, hQ => by
    injection h with h; subst h
    exact ⟨hQ a w hS, fun t ht => ht⟩
  | o :: l, S, S', a, w, h, hok, hS, hQ => by
    unfold seqOps at h
    split at h
    · rename_i S1 hmany
      have hout : ∀ t ∈ S1.out, t ∈ S'.out := seqOut l _ S' h
      have hok1 : ∀ t ∈ S1.out, TrOk P G t := fun t ht => hok t (hout t ht)
      have hsub : ∀ (a : Act) (w : World), Sat w0 G S1 a w → wpList P ops Q l a w := fun a w hs => (seqOps_sound hG l _ S' a w h hok hs hQ).1
      refine ⟨?_, fun t ht => hout t ((many_sound (K := fun _ _ => True) (Q := Q) hG hmany hok1 hS fun _ _ _ => trivial).2 t ht)⟩
      exact wpList_step fun K hK => (many_sound hG hmany hok1 hS fun a' w' hs => hK a' w' (hsub a' w' hs)).1
    split at h
    · rename_i r tr' po hdst hdo
      have key : ∀ a w, Sat w0 G ⟨setT S.tm o.dst r.put, setV S.vr S.k r.eff, S.k + 1, tr', pushT S.out po⟩ a w → wpList P ops Q l a w ∧ ∀ t ∈ pushT S.out po, t ∈ S'.out :=
        fun a w hs => seqOps_sound hG l _ S' a w h hok hs hQ
      have hsub : ∀ (a : Act) (w : World), Sat w0 G ⟨setT S.tm o.dst r.put, setV S.vr S.k r.eff, S.k + 1, tr', pushT S.out po⟩ a w → wpList P ops Q l a w := fun a w hs => (key a w hs).1
      have hout : ∀ t ∈ pushT S.out po, t ∈ S'.out := seqOut l _ S' h
      have hpo : ∀ t, po = some t → TrOk P G t := fun t e => hok t (hout t (by subst e; exact List.mem_cons_self ..))
      refine ⟨?_, fun t ht => hout t (by cases po with | none => exact ht | some u => exact List.mem_cons_of_mem _ ht)⟩
      obtain ⟨⟨β, W, hR⟩, hfr⟩ := hS
      refine wpList_step fun K hK => does_sound hG hR (doOp_does hdo hpo) (fun d hd => dstOk_lt (by rw [hd] at hdst; exact hdst)) (fun _ => hfr S.k (Nat.le_refl _)) fun β' W' a' w' hR' => hK a' w' (hsub a' w' ⟨⟨β', W', ?_⟩, setV_fresh _ hfr⟩)
      rw [← tmF_setT _ _ _ hdst, ← look_setV] at hR'
      dsimp only
      rw [setT_length]
      exact hR'
    · cases h
where
  seqOut {P : Program} {ops : Array Oper} : ∀ (l : List Oper) (S S' : St), seqOps P ops l S = some S' → ∀ t ∈ S.out, t ∈ S'.out
  | [], S, S', h => by injection h with h; subst h; exact fun t ht => ht
  | o :: l, S, S', h => by
    unfold seqOps at h
    split at h
    · rename_i S1 hmany
      intro t ht
      refine seqOut l _ S' h t ?_
      unfold manyIt at hmany
      split at hmany
      case h_2 => cases hmany
      split at hmany
      case h_2 => cases hmany
      split at hmany
      case h_2 => cases hmany
      injection hmany with hmany; subst hmany
      exact List.mem_cons_of_mem _ ht
    split at h
    · rename_i r tr' po hdst hdo
      intro t ht
      refine seqOut l _ S' h t ?_
      cases po with
      | none => exact ht
      | some u => exact List.mem_cons_of_mem _ ht
    · cases h
end Go.Proofs.YtnncfbmddpijcaaGreatDoor.AM

/- An abstract machine for Go's code: part of the library of this claim. -/
/- Regions whose order is drawn: what does not wait for each other does not meet. -/
namespace Go.Proofs.YtnncfbmddpijcaaGreatDoor.AM
open Go Go.RowKit

/-- For each operation the set of those that come ahead of it in any order. -/
def anc1 (acc : List Nat) (o : Oper) : Nat := o.after.toList.foldl (fun s e => match Region.binds .any e with | true => Nat.lor s (Nat.lor (2 ^ e.on) (acc.getD e.on 0)) | false => s) 0
def ancs : List Oper → List Nat → List Nat
  | [], acc => acc
  | o :: l, acc => ancs l (acc ++ [anc1 acc o])
def guardT (ops : Array Oper) (o : Oper) : List Tmp :=
  match o.guard with
  | none => []
  | some (j, _) => match (ops[j]?).bind (·.dst) with | none => [] | some d => [d]
def tmpsOf : List Operand → List Tmp
  | [] => []
  | .tmp t :: l => t :: tmpsOf l
  | _ :: l => tmpsOf l
def readsT (ops : Array Oper) (o : Oper) : List Tmp := tmpsOf o.op.operands.toList ++ guardT ops o
def writesV (id : Nat) : REff → Option Nat
  | .none => none
  | .new _ _ => some id
  | .sto x _ _ => some x
  | .put x _ => some x
  | .news _ => some id
def memN (x : Nat) : List Nat → Bool
  | [] => false
  | y :: l => match Nat.beq x y with | true => true | false => memN x l
theorem memN_iff {x : Nat} : ∀ {l : List Nat}, memN x l = true ↔ x ∈ l
  | [] => by simp [memN]
  | y :: l => by
    unfold memN
    split
    · rename_i h; simp [Nat.eq_of_beq_eq_true h]
    · rename_i h
      have hne : x ≠ y := fun e => by subst e; rw [Nat.beq_refl] at h; cases h
      rw [memN_iff (l := l)]; simp [hne]
def ordered (A : List Nat) (i j : Nat) : Bool :=
  match Nat.blt j i with
  | true => (A.getD i 0).testBit j
  | false => match Nat.blt i j with | true => (A.getD j 0).testBit i | false => true
/-- Does the one write what the other meets? -/
def meets (ops : Array Oper) (k : Nat) (oi : Oper) (ri : Rec) (j : Nat) (oj : Oper) (rj : Rec) : Bool :=
  (match oj.dst with | none => false | some t => memN t (readsT ops oi) || (match oi.dst with | none => false | some u => Nat.beq t u)) ||
  (match writesV (k + j) rj.eff with | none => false | some x => memN x ri.touch)
def apartAll (ops : Array Oper) (k : Nat) (A : List Nat) (i : Nat) (oi : Oper) (ri : Rec) : Nat → List (Oper × Rec) → Bool
  | _, [] => true
  | j, (oj, rj) :: l => match meets ops k oi ri j oj rj with
    | true => (match ordered A i j with | true => apartAll ops k A i oi ri (j + 1) l | false => false)
    | false => apartAll ops k A i oi ri (j + 1) l
def edgesOk (i : Nat) (o : Oper) : Bool := o.after.toList.all fun e => match Region.binds .any e with | true => Nat.blt e.on i | false => true
def chk (ops : Array Oper) (k : Nat) (A : List Nat) (all : List (Oper × Rec)) : Nat → List (Oper × Rec) → Bool
  | _, [] => true
  | i, (oi, ri) :: l => match edgesOk i oi, apartAll ops k A i oi ri 0 all with | true, true => chk ops k A all (i + 1) l | _, _ => false

/-- Operations one behind the other, and what each did. -/
def canon (P : Program) (ops : Array Oper) : List Oper → St → List (Oper × Rec) → Option (St × List (Oper × Rec))
  | [], S, rs => some (S, rs)
  | o :: l, S, rs =>
    match dstOk S.tm.length o.dst, doOp P ops S.k o S.tm S.vr S.tr with
    | true, some (r, tr', po) => canon P ops l ⟨setT S.tm o.dst r.put, setV S.vr S.k r.eff, S.k + 1, tr', pushT S.out po⟩ (rs ++ [(o, r)])
    | _, _ => none
def drawnOps (P : Program) (ops : Array Oper) (S : St) : Option St :=
  match canon P ops ops.toList S [] with
  | some (S', rs) => (match chk ops S.k (ancs ops.toList []) rs 0 rs with | true => some S' | false => none)
  | none => none

/-- What the list of what was done makes of temporaries, of variables. -/
def stT (tm : Nat → Av) : List (Oper × Rec) → Nat → Av
  | [] => tm
  | x :: l => stT (updT tm x.1.dst x.2.put) l
def stV (k : Nat) (vr : Nat → Option VarSt) : List (Oper × Rec) → Nat → Option VarSt
  | [] => vr
  | x :: l => stV (k + 1) (updV vr k x.2.eff) l
theorem stT_snoc (x : Oper × Rec) : ∀ (l : List (Oper × Rec)) (tm : Nat → Av), stT tm (l ++ [x]) = updT (stT tm l) x.1.dst x.2.put
  | [], _ => rfl
  | _y :: l, _tm => stT_snoc x l _
theorem stV_snoc (x : Oper × Rec) : ∀ (l : List (Oper × Rec)) (k : Nat) (vr : Nat → Option VarSt), stV k vr (l ++ [x]) = updV (stV k vr l) (k + l.length) x.2.eff
  | [], _, _ => rfl
  | y :: l, k, vr => by
    show stV (k + 1) _ (l ++ [x]) = _
    rw [stV_snoc x l (k + 1) _, show k + 1 + l.length = k + (y :: l).length by simp; omega]
    rfl
theorem take_succ_snoc {α : Type} {l : List α} {m : Nat} {x : α} (h : l[m]? = some x) : l.take (m + 1) = l.take m ++ [x] := by
  rw [List.take_add_one, h]; rfl

section
variable {P : Program} {G : World → Prop} {ops : Array Oper}

theorem evF_congr {tm tm' : Nat → Av} {l : List Operand} (h : ∀ t ∈ tmpsOf l, tm t = tm' t) : ∀ x ∈ l, evF tm x = evF tm' x := by
  induction l with
  | nil => intro x hx; cases hx
  | cons y l ih =>
    intro x hx
    rcases List.mem_cons.1 hx with rfl | hx
    · cases x with
      | tmp t => exact h t (List.mem_cons_self ..)
      | const v => rfl
      | global g => rfl
      | func f => rfl
    · refine ih (fun t ht => h t ?_) x hx
      cases y with
      | tmp u => exact List.mem_cons_of_mem _ ht
      | const v => exact ht
      | global g => exact ht
      | func f => exact ht
theorem does0_congr {id : Nat} {o : Oper} {tm tm' : Nat → Av} {ev ev' : Operand → Av} {vr vr' : Nat → Option VarSt} {r : Rec} (h : Does0 P G ops id o tm ev vr r) (hg : ∀ t ∈ guardT ops o, tm t = tm' t) (hee : ∀ x ∈ o.op.operands.toList, ev x = ev' x) (hv : ∀ x ∈ r.touch, vr x = vr' x) : Does0 P G ops id o tm' ev' vr' r := by
  have ha : acc P o ev = acc P o ev' := acc_congr P o hee
  have hw : wantedA ops tm o = wantedA ops tm' o := by
    unfold guardT at hg
    unfold wantedA
    cases hgd : o.guard with
    | none => rfl
    | some jw =>
      obtain ⟨j, want⟩ := jw
      rw [hgd] at hg
      dsimp only at hg ⊢
      cases hd : (ops[j]?).bind (·.dst) with
      | none => rfl
      | some d =>
        rw [hd] at hg
        dsimp only
        rw [hg d (List.mem_cons_self ..)]
  cases h with
  | skip h1 => exact .skip (hw ▸ h1)
  | val h1 h2 h3 => exact .val (hw ▸ h1) (ha ▸ h2) h3
  | prim h1 h2 h3 => exact .prim (hw ▸ h1) ((rawsOf_congr hee) ▸ h2) h3
  | newp h1 h2 => exact .newp (hw ▸ h1) (ha ▸ h2)
  | newr h1 h2 => exact .newr (hw ▸ h1) (ha ▸ h2)
  | @load1 x off s c put h1 h2 h3 hg h4 h5 => exact .load1 (hw ▸ h1) (ha ▸ h2) ((hv x (List.mem_cons_self ..)) ▸ h3) hg h4 h5
  | @loadn x off n s put h1 h2 h3 hg h4 h5 => exact .loadn (hw ▸ h1) (ha ▸ h2) ((hv x (List.mem_cons_self ..)) ▸ h3) hg h4 h5
  | @sto x off cs s h1 h2 h3 hg h4 h5 => exact .sto (hw ▸ h1) (ha ▸ h2) ((hv x (List.mem_cons_self ..)) ▸ h3) hg h4 h5
  | @stot x off cs s s' h1 h2 h3 hg hg2 h4 h5 h6 h7 h8 => exact .stot (hw ▸ h1) (ha ▸ h2) ((hv x (List.mem_cons_self ..)) ▸ h3) hg hg2 h4 h5 h6 h7 h8
  | call h1 h2 h3 h4 => exact .call (hw ▸ h1) (ha ▸ h2) (fun m hm => ⟨(hv m.1 (List.mem_map.2 ⟨m, hm, rfl⟩)) ▸ (h3 m hm).1, (h3 m hm).2⟩) h4
  | callo h1 h2 h3 h4 h5 => exact .callo (hw ▸ h1) (ha ▸ h2) (fun m hm => ⟨(hv m.1 (List.mem_map.2 ⟨m, hm, rfl⟩)) ▸ (h3 m hm).1, (h3 m hm).2⟩) h4 h5
  | callv h1 h2 h3 h4 => exact .callv (hw ▸ h1) (ha ▸ h2) (fun m hm => ⟨(hv m.1 (List.mem_map.2 ⟨m, hm, rfl⟩)) ▸ (h3 m hm).1, (h3 m hm).2⟩) h4
  | froz h1 h2 h3 => exact .froz (hw ▸ h1) (ha ▸ h2) h3
  | told h1 h2 =>
    have he : o.op.operands.toList.map ev = o.op.operands.toList.map ev' := List.map_congr_left hee
    exact .told (hw ▸ h1) (he ▸ h2)
  | make h1 h2 h3 =>
    have he : o.op.operands.toList.map ev = o.op.operands.toList.map ev' := List.map_congr_left hee
    exact .make (hw ▸ h1) (he ▸ h2) h3
theorem tmps_mem {t : Nat} : ∀ {l : List Operand}, .tmp t ∈ l → t ∈ tmpsOf l
  | .tmp u :: l, h => by
    rcases List.mem_cons.1 h with h | h
    · injection h with h; subst h; exact List.mem_cons_self ..
    · exact List.mem_cons_of_mem _ (tmps_mem h)
  | .const _ :: l, h => by
    rcases List.mem_cons.1 h with h | h
    · cases h
    · exact tmps_mem (l := l) h
  | .global _ :: l, h => by
    rcases List.mem_cons.1 h with h | h
    · cases h
    · exact tmps_mem (l := l) h
  | .func _ :: l, h => by
    rcases List.mem_cons.1 h with h | h
    · cases h
    · exact tmps_mem (l := l) h
theorem wanted_congr {o : Oper} {tm tm' : Nat → Av} (hg : ∀ t ∈ guardT ops o, tm t = tm' t) : wantedA ops tm o = wantedA ops tm' o := by
  unfold guardT at hg
  unfold wantedA
  cases hgd : o.guard with
  | none => rfl
  | some jw =>
    obtain ⟨j, want⟩ := jw
    rw [hgd] at hg
    dsimp only at hg ⊢
    cases hd : (ops[j]?).bind (·.dst) with
    | none => rfl
    | some d =>
      rw [hd] at hg
      dsimp only
      rw [hg d (List.mem_cons_self ..)]
theorem does_congr {id : Nat} {o : Oper} {tm tm' : Nat → Av} {vr vr' : Nat → Option VarSt} {r : Rec} (h : Does P G ops id o tm vr r) (ht : ∀ t ∈ readsT ops o, tm t = tm' t) (hv : ∀ x ∈ r.touch, vr x = vr' x) : Does P G ops id o tm' vr' r := by
  have hg : ∀ t ∈ guardT ops o, tm t = tm' t := fun t h => ht t (List.mem_append_right _ h)
  have hr : ∀ t ∈ tmpsOf o.op.operands.toList, tm t = tm' t := fun t h => ht t (List.mem_append_left _ h)
  have he := evF_congr hr
  cases h with
  | base h0 => exact .base (does0_congr h0 hg he hv)
  | @view t x n m es s r h1 h2 h3 h4 h5 h6 =>
    refine .view h1 ((hr t (tmps_mem h1)) ▸ h2) ((hv x (List.mem_cons_self ..)) ▸ h3) h4 h5 (does0_congr h6 hg (fun op hop => ?_) fun y hy => hv y (List.mem_cons_of_mem _ hy))
    cases op with
    | tmp u =>
      show (match Nat.beq u t with | true => _ | false => tm u) = (match Nat.beq u t with | true => _ | false => tm' u)
      rw [hr u (tmps_mem hop)]
    | const v => rfl
    | global g => rfl
    | func f => rfl
  | @app0 x y t m es s h1 h2 h3 h4 h5 h6 =>
    have ex := he x (by rw [h2]; simp [Op.operands, Call.operands])
    have ey := he y (by rw [h2]; simp [Op.operands, Call.operands])
    exact .app0 ((wanted_congr hg) ▸ h1) h2 (ex ▸ h3) (ey ▸ h4) h5 h6
  | @app u v n k n' m es y t s s' ds h1 h2 h3 h4 h5 h6 h7 e1 e2 e3 e4 e5 =>
    have ex := hr u (tmps_mem (by rw [h2]; simp [Op.operands, Call.operands]))
    have ey := he y (by rw [h2]; simp [Op.operands, Call.operands])
    exact .app ((wanted_congr hg) ▸ h1) h2 (ex ▸ h3) ((hv v (List.mem_cons_self ..)) ▸ h4) h5 h6 (ey ▸ h7) e1 e2 e3 e4 e5
end

/-! What is checked says. -/
theorem anc1_spec {acc : List Nat} {o : Oper} {k : Nat} (h : (anc1 acc o).testBit k = true) : ∃ e ∈ o.after, Region.binds .any e = true ∧ (k = e.on ∨ (acc.getD e.on 0).testBit k = true) := by
  have key : ∀ (l : List Edge) (s : Nat), (l.foldl (fun s e => match Region.binds .any e with | true => Nat.lor s (Nat.lor (2 ^ e.on) (acc.getD e.on 0)) | false => s) s).testBit k = true →
      s.testBit k = true ∨ ∃ e ∈ l, Region.binds .any e = true ∧ (k = e.on ∨ (acc.getD e.on 0).testBit k = true) := by
    intro l
    induction l with
    | nil => intro s hs; exact .inl hs
    | cons e l ih =>
      intro s hs
      rw [List.foldl_cons] at hs
      rcases ih _ hs with h1 | ⟨e', he, h1⟩
      · split at h1
        · rename_i hb
          rw [show Nat.lor s (Nat.lor (2 ^ e.on) (acc.getD e.on 0)) = s ||| (2 ^ e.on ||| acc.getD e.on 0) from rfl, Nat.testBit_or, Nat.testBit_or, Bool.or_eq_true, Bool.or_eq_true] at h1
          rcases h1 with h1 | h1 | h1
          · exact .inl h1
          · rw [Nat.testBit_two_pow] at h1
            exact .inr ⟨e, List.mem_cons_self .., hb, .inl (of_decide_eq_true h1).symm⟩
          · exact .inr ⟨e, List.mem_cons_self .., hb, .inr h1⟩
        · exact .inl h1
      · exact .inr ⟨e', List.mem_cons_of_mem _ he, h1⟩
  rcases key o.after.toList 0 h with h1 | ⟨e, he, h1⟩
  · simp at h1
  · exact ⟨e, Array.mem_toList_iff.1 he, h1⟩
theorem ancs_prefix : ∀ (l : List Oper) (acc : List Nat) (i : Nat), i < acc.length → (ancs l acc).getD i 0 = acc.getD i 0
  | [], _, _, _ => rfl
  | o :: l, acc, i, h => by
    unfold ancs
    rw [ancs_prefix l _ i (by simp; omega)]
    simp [List.getD_eq_getElem?_getD, List.getElem?_append_left h]
theorem ancs_spec : ∀ (l : List Oper) (acc : List Nat) (i : Nat) (o : Oper) (k : Nat), l[i]? = some o → ((ancs l acc).getD (acc.length + i) 0).testBit k = true →
    ∃ e ∈ o.after, Region.binds .any e = true ∧ (k = e.on ∨ ((ancs l acc).getD e.on 0).testBit k = true)
  | [], _, _, _, _, h, _ => by simp at h
  | o' :: l, acc, 0, o, k, h, hk => by
    simp at h; subst h
    unfold ancs at hk ⊢
    rw [ancs_prefix l _ (acc.length + 0) (by simp)] at hk
    have : (acc ++ [anc1 acc o']).getD (acc.length + 0) 0 = anc1 acc o' := by simp [List.getD_eq_getElem?_getD]
    rw [this] at hk
    obtain ⟨e, he, hb, h1⟩ := anc1_spec hk
    refine ⟨e, he, hb, ?_⟩
    rcases h1 with h1 | h1
    · exact .inl h1
    · refine .inr ?_
      have hlt : e.on < acc.length := by
        rcases Nat.lt_or_ge e.on acc.length with h | h
        · exact h
        · simp [List.getD_eq_getElem?_getD, List.getElem?_eq_none h] at h1
      rw [ancs_prefix l _ e.on (by simp; omega)]
      simpa [List.getD_eq_getElem?_getD, List.getElem?_append_left hlt] using h1
  | o' :: l, acc, i + 1, o, k, h, hk => by
    simp at h
    unfold ancs at hk ⊢
    have := ancs_spec l (acc ++ [anc1 acc o']) i o k h (by simpa [Nat.add_assoc, Nat.add_comm 1 i] using hk)
    exact this
theorem apartAll_spec {ops : Array Oper} {k : Nat} {A : List Nat} {i : Nat} {oi : Oper} {ri : Rec} : ∀ {l : List (Oper × Rec)} {j0 : Nat}, apartAll ops k A i oi ri j0 l = true → ∀ j oj rj, l[j]? = some (oj, rj) → meets ops k oi ri (j0 + j) oj rj = true → ordered A i (j0 + j) = true
  | [], _, _, j, oj, rj, h, _ => by simp at h
  | (o', r') :: l, j0, hA, j, oj, rj, h, hm => by
    unfold apartAll at hA
    cases j with
    | zero =>
      simp at h; obtain ⟨rfl, rfl⟩ := h
      rw [Nat.add_zero] at hm ⊢
      rw [hm] at hA
      dsimp only at hA
      split at hA
      · assumption
      · cases hA
    | succ j =>
      simp at h
      have hrest : apartAll ops k A i oi ri (j0 + 1) l = true := by
        split at hA
        · split at hA
          · exact hA
          · cases hA
        · exact hA
      have := apartAll_spec hrest j oj rj h (by rw [show j0 + 1 + j = j0 + (j + 1) by omega]; exact hm)
      rwa [show j0 + 1 + j = j0 + (j + 1) by omega] at this
theorem chk_spec {ops : Array Oper} {k : Nat} {A : List Nat} {all : List (Oper × Rec)} : ∀ {l : List (Oper × Rec)} {i0 : Nat}, chk ops k A all i0 l = true → ∀ i oi ri, l[i]? = some (oi, ri) → edgesOk (i0 + i) oi = true ∧ apartAll ops k A (i0 + i) oi ri 0 all = true
  | [], _, _, i, oi, ri, h => by simp at h
  | (o', r') :: l, i0, hA, i, oi, ri, h => by
    unfold chk at hA
    split at hA
    · rename_i h1 h2
      cases i with
      | zero => simp at h; obtain ⟨rfl, rfl⟩ := h; exact ⟨h1, h2⟩
      | succ i =>
        simp at h
        have := chk_spec hA i oi ri h
        rwa [show i0 + 1 + i = i0 + (i + 1) by omega] at this
    · cases hA
end Go.Proofs.YtnncfbmddpijcaaGreatDoor.AM

/- Regions whose order is drawn: in any order the same is done. -/
namespace Go.Proofs.YtnncfbmddpijcaaGreatDoor.AM
open Go Go.RowKit

def WrT (l : List (Oper × Rec)) (t : Tmp) (j : Nat) : Prop := ∃ x, l[j]? = some x ∧ x.1.dst = some t
def WrV (l : List (Oper × Rec)) (k : Nat) (y j : Nat) : Prop := ∃ x, l[j]? = some x ∧ writesV (k + j) x.2.eff = some y

section
variable {l : List (Oper × Rec)} {tm0 : Nat → Av} {vr0 : Nat → Option VarSt} {k : Nat}
theorem tmC_succ {m : Nat} {x : Oper × Rec} (h : l[m]? = some x) : stT tm0 (l.take (m + 1)) = updT (stT tm0 (l.take m)) x.1.dst x.2.put := by
  rw [take_succ_snoc h, stT_snoc]
theorem vrC_succ {m : Nat} {x : Oper × Rec} (h : l[m]? = some x) : stV k vr0 (l.take (m + 1)) = updV (stV k vr0 (l.take m)) (k + m) x.2.eff := by
  have hm : m < l.length := (List.getElem?_eq_some_iff.1 h).1
  rw [take_succ_snoc h, stV_snoc, List.length_take, Nat.min_eq_left (by omega)]
theorem tmC_const {t : Tmp} (m : Nat) : ∀ (n : Nat), m + n ≤ l.length → (∀ j, m ≤ j → j < m + n → ¬ WrT l t j) → stT tm0 (l.take (m + n)) t = stT tm0 (l.take m) t
  | 0, _, _ => rfl
  | n + 1, h, hn => by
    obtain ⟨x, hx⟩ : ∃ x, l[m + n]? = some x := ⟨_, List.getElem?_eq_getElem (by omega)⟩
    rw [← Nat.add_assoc, tmC_succ hx, ← tmC_const m n (by omega) fun j h1 h2 => hn j h1 (by omega)]
    have := hn (m + n) (by omega) (by omega)
    cases hd : x.1.dst with
    | none => rfl
    | some d =>
      unfold updT
      dsimp only
      rw [if_neg]
      rintro rfl
      exact this ⟨x, hx, hd⟩
theorem vrC_const {y : Nat} (m : Nat) : ∀ (n : Nat), m + n ≤ l.length → (∀ j, m ≤ j → j < m + n → ¬ WrV l k y j) → stV k vr0 (l.take (m + n)) y = stV k vr0 (l.take m) y
  | 0, _, _ => rfl
  | n + 1, h, hn => by
    obtain ⟨x, hx⟩ : ∃ x, l[m + n]? = some x := ⟨_, List.getElem?_eq_getElem (by omega)⟩
    rw [← Nat.add_assoc, vrC_succ hx, ← vrC_const m n (by omega) fun j h1 h2 => hn j h1 (by omega)]
    have := hn (m + n) (by omega) (by omega)
    cases he : x.2.eff with
    | none => rfl
    | new t cs =>
      unfold updV
      dsimp only
      rw [if_neg]
      rintro rfl
      exact this ⟨x, hx, by rw [he]; rfl⟩
    | sto z off cs =>
      unfold updV
      dsimp only
      rw [if_neg]
      rintro rfl
      exact this ⟨x, hx, by rw [he]; rfl⟩
    | put z s =>
      unfold updV
      dsimp only
      rw [if_neg]
      rintro rfl
      exact this ⟨x, hx, by rw [he]; rfl⟩
    | news s =>
      unfold updV
      dsimp only
      rw [if_neg]
      rintro rfl
      exact this ⟨x, hx, by rw [he]; rfl⟩
theorem tmC_same {t : Tmp} {m i : Nat} (hm : m ≤ l.length) (hi : i ≤ l.length) (h : ∀ j, WrT l t j → (j < m ↔ j < i)) : stT tm0 (l.take m) t = stT tm0 (l.take i) t := by
  rcases Nat.le_total m i with hle | hle
  · obtain ⟨n, rfl⟩ := Nat.exists_eq_add_of_le hle
    exact (tmC_const m n hi fun j h1 h2 hw => by have := h j hw; omega).symm
  · obtain ⟨n, rfl⟩ := Nat.exists_eq_add_of_le hle
    exact tmC_const i n hm fun j h1 h2 hw => by have := h j hw; omega
theorem vrC_same {y m i : Nat} (hm : m ≤ l.length) (hi : i ≤ l.length) (h : ∀ j, WrV l k y j → (j < m ↔ j < i)) : stV k vr0 (l.take m) y = stV k vr0 (l.take i) y := by
  rcases Nat.le_total m i with hle | hle
  · obtain ⟨n, rfl⟩ := Nat.exists_eq_add_of_le hle
    exact (vrC_const m n hi fun j h1 h2 hw => by have := h j hw; omega).symm
  · obtain ⟨n, rfl⟩ := Nat.exists_eq_add_of_le hle
    exact vrC_const i n hm fun j h1 h2 hw => by have := h j hw; omega
/-- A number that isn't given yet. -/
theorem vrC_fresh (hfr : ∀ x, k ≤ x → vr0 x = none) : ∀ (m : Nat), m ≤ l.length → ∀ y, k + m ≤ y → stV k vr0 (l.take m) y = none
  | 0, _, y, h => hfr y (by omega)
  | m + 1, hm, y, h => by
    obtain ⟨x, hx⟩ : ∃ x, l[m]? = some x := ⟨_, List.getElem?_eq_getElem (by omega)⟩
    rw [vrC_succ hx]
    have ih := vrC_fresh hfr m (by omega) y (by omega)
    cases x.2.eff with
    | none => exact ih
    | new t cs => unfold updV; dsimp only; rw [if_neg (by omega)]; exact ih
    | sto z off cs =>
      unfold updV
      dsimp only
      by_cases e : y = z
      · subst e; rw [if_pos rfl, ih]; rfl
      · rw [if_neg e]; exact ih
    | put z s =>
      unfold updV
      dsimp only
      by_cases e : y = z
      · subst e; rw [if_pos rfl, ih]; rfl
      · rw [if_neg e]; exact ih
    | news s => unfold updV; dsimp only; rw [if_neg (by omega)]; exact ih
end

section
variable {P : Program} {G : World → Prop} {ops : Array Oper} {w0 : Base} {N k : Nat} {l : List (Oper × Rec)} {tm0 : Nat → Av} {vr0 : Nat → Option VarSt} {A : List Nat}

structure Inv (w0 : Base) (G : World → Prop) (N k : Nat) (l : List (Oper × Rec)) (tm0 : Nat → Av) (vr0 : Nat → Option VarSt) (A : List Nat) (D : Nat → Bool) (a : Act) (w : World) : Prop where
  rep : ∃ β W tm vr, Rep w0 G N β W tm vr a w ∧
    (∀ t, ∃ m, m ≤ l.length ∧ (∀ j, WrT l t j → (D j = true ↔ j < m)) ∧ tm t = stT tm0 (l.take m) t) ∧
    (∀ y, ∃ m, m ≤ l.length ∧ (∀ j, WrV l k y j → (D j = true ↔ j < m)) ∧ vr y = stV k vr0 (l.take m) y)
  closed : ∀ j, j < l.length → D j = true → ∀ q, (A.getD j 0).testBit q = true → D q = true

theorem ord_iff {D : Nat → Bool} {i j : Nat} (hc : ∀ j, j < l.length → D j = true → ∀ q, (A.getD j 0).testBit q = true → D q = true) (hj : j < l.length) (hne : j ≠ i) (hi : D i = false) (ha : ∀ q, (A.getD i 0).testBit q = true → D q = true)
    (h : ordered A i j = true ∨ ordered A j i = true) : D j = true ↔ j < i := by
  have key : (j < i → (A.getD i 0).testBit j = true) ∧ (i < j → (A.getD j 0).testBit i = true) := by
    rcases h with h | h
    · unfold ordered at h
      split at h
      · rename_i hb; exact ⟨fun _ => h, fun h2 => by have := Nat.le_of_ble_eq_true hb; omega⟩
      · rename_i hb
        split at h
        · exact ⟨fun h2 => absurd ((show Nat.blt j i = true from Nat.ble_eq_true_of_le h2).symm.trans hb) (by decide), fun _ => h⟩
        · rename_i hb2
          exact ⟨fun h2 => absurd ((show Nat.blt j i = true from Nat.ble_eq_true_of_le h2).symm.trans hb) (by decide), fun h2 => absurd ((show Nat.blt i j = true from Nat.ble_eq_true_of_le h2).symm.trans hb2) (by decide)⟩
    · unfold ordered at h
      split at h
      · rename_i hb; exact ⟨fun h2 => by have := Nat.le_of_ble_eq_true hb; omega, fun _ => h⟩
      · rename_i hb
        split at h
        · exact ⟨fun _ => h, fun h2 => absurd ((show Nat.blt i j = true from Nat.ble_eq_true_of_le h2).symm.trans hb) (by decide)⟩
        · rename_i hb2
          exact ⟨fun h2 => absurd ((show Nat.blt j i = true from Nat.ble_eq_true_of_le h2).symm.trans hb2) (by decide), fun h2 => absurd ((show Nat.blt i j = true from Nat.ble_eq_true_of_le h2).symm.trans hb) (by decide)⟩
  constructor
  · intro hD
    rcases Nat.lt_or_ge j i with h1 | h1
    · exact h1
    · have := hc j hj hD i (key.2 (by omega))
      rw [hi] at this; cases this
  · intro h1; exact ha j (key.1 h1)

theorem meets_dst {oi oj : Oper} {ri rj : Rec} {j : Nat} {t : Tmp} (hj : oj.dst = some t) (h : t ∈ readsT ops oi ∨ oi.dst = some t) : meets ops k oi ri j oj rj = true := by
  unfold meets
  rw [hj]
  dsimp only
  rcases h with h | h
  · rw [memN_iff.2 h]; rfl
  · rw [h]; simp
theorem meets_var {oi oj : Oper} {ri rj : Rec} {j y : Nat} (hj : writesV (k + j) rj.eff = some y) (h : y ∈ ri.touch) : meets ops k oi ri j oj rj = true := by
  unfold meets
  rw [hj]
  dsimp only
  rw [memN_iff.2 h, Bool.or_true]

theorem inv_step (hG : ∀ {w w' : World}, Below w.heap.size w w' → G w → G w')
    (hD : ∀ i x, l[i]? = some x → Does P G ops (k + i) x.1 (stT tm0 (l.take i)) (stV k vr0 (l.take i)) x.2) (hdst : ∀ x ∈ l, ∀ d, x.1.dst = some d → d < N) (hfr : ∀ x, k ≤ x → vr0 x = none)
    (hap : ∀ (i : Nat) (oi : Oper) (ri : Rec), l[i]? = some (oi, ri) → apartAll ops k A i oi ri 0 l = true) (hto : ∀ (i : Nat) (oi : Oper) (ri : Rec) (x : Nat), l[i]? = some (oi, ri) → (∃ off cs, ri.eff = .sto x off cs) ∨ (∃ s, ri.eff = .put x s) → x ∈ ri.touch)
    {D D' : Nat → Bool} {i : Nat} {x : Oper × Rec} {a : Act} {w : World} {K : Act → World → Prop} {Q : Exit → Act → World → Prop} (hx : l[i]? = some x) (hI : Inv w0 G N k l tm0 vr0 A D a w)
    (hi : D i = false) (ha : ∀ q, (A.getD i 0).testBit q = true → D q = true) (hD'i : D' i = true) (hD' : ∀ j, j ≠ i → D' j = D j)
    (hK : ∀ a' w', Inv w0 G N k l tm0 vr0 A D' a' w' → K a' w') :
    if Region.wanted x.1 (yielded ops a.tmps) = true then Oper.wp P x.1 a w K Q else K (a.put x.1.dst undef) w := by
  obtain ⟨o, r⟩ := x
  obtain ⟨⟨β, W, tm, vr, hR, hT, hV⟩, hc⟩ := hI
  have hil : i < l.length := (List.getElem?_eq_some_iff.1 hx).1
  -- whom the operation meets came ahead just if it is told to
  have hmeet : ∀ j oj rj, l[j]? = some (oj, rj) → j ≠ i → (meets ops k o r j oj rj = true ∨ meets ops k oj rj i o r = true) → (D j = true ↔ j < i) := by
    intro j oj rj hj hne hm
    refine ord_iff hc (List.getElem?_eq_some_iff.1 hj).1 hne hi ha ?_
    rcases hm with hm | hm
    · have := apartAll_spec (hap i o r hx) j oj rj hj (by rw [Nat.zero_add]; exact hm)
      rw [Nat.zero_add] at this; exact .inl this
    · have := apartAll_spec (hap j oj rj hj) i o r hx (by rw [Nat.zero_add]; exact hm)
      rw [Nat.zero_add] at this; exact .inr this
  have hTi : ∀ t, (t ∈ readsT ops o ∨ o.dst = some t) → ∀ j, WrT l t j → j ≠ i → (D j = true ↔ j < i) := by
    rintro t ht j ⟨⟨oj, rj⟩, hj, hd⟩ hne
    exact hmeet j oj rj hj hne (.inl (meets_dst hd ht))
  have hVi : ∀ y, (y ∈ r.touch ∨ writesV (k + i) r.eff = some y) → ∀ j, WrV l k y j → j ≠ i → (D j = true ↔ j < i) := by
    rintro y hy j ⟨⟨oj, rj⟩, hj, hd⟩ hne
    rcases hy with hy | hy
    · exact hmeet j oj rj hj hne (.inl (meets_var hd hy))
    · have hoj : y ∈ rj.touch ∨ y = k + j := by
        cases he : rj.eff with
        | none => rw [he] at hd; cases hd
        | new t cs => rw [he] at hd; injection hd with hd; exact .inr hd.symm
        | sto z off cs => rw [he] at hd; injection hd with hd; subst hd; exact .inl (hto j oj rj z hj (.inl ⟨off, cs, he⟩))
        | put z s => rw [he] at hd; injection hd with hd; subst hd; exact .inl (hto j oj rj z hj (.inr ⟨s, he⟩))
        | news s => rw [he] at hd; injection hd with hd; exact .inr hd.symm
      rcases hoj with hoj | hoj
      · exact hmeet j oj rj hj hne (.inr (meets_var hy hoj))
      · cases he : r.eff with
        | none => rw [he] at hy; cases hy
        | new t cs => rw [he] at hy; injection hy with hy; exact absurd (by omega : j = i) hne
        | sto z off cs =>
          rw [he] at hy; injection hy with hy; subst hy
          exact hmeet j oj rj hj hne (.inl (meets_var hd (hto i o r z hx (.inl ⟨off, cs, he⟩))))
        | put z s =>
          rw [he] at hy; injection hy with hy; subst hy
          exact hmeet j oj rj hj hne (.inl (meets_var hd (hto i o r z hx (.inr ⟨s, he⟩))))
        | news s => rw [he] at hy; injection hy with hy; exact absurd (by omega : j = i) hne
  have htm : ∀ t ∈ readsT ops o, stT tm0 (l.take i) t = tm t := by
    intro t ht
    obtain ⟨m, hm, hw, he⟩ := hT t
    rw [he]
    refine tmC_same (by omega) hm fun j hj => ?_
    by_cases e : j = i
    · subst e; have := hw j hj; rw [hi] at this; constructor
      · intro h; omega
      · intro h; have := this.2 h; cases this
    · rw [← hTi t (.inl ht) j hj e, hw j hj]
  have hvr : ∀ y, y ∈ r.touch → stV k vr0 (l.take i) y = vr y := by
    intro y hy
    obtain ⟨m, hm, hw, he⟩ := hV y
    rw [he]
    refine vrC_same (by omega) hm fun j hj => ?_
    by_cases e : j = i
    · subst e; have := hw j hj; rw [hi] at this; constructor
      · intro h; omega
      · intro h; have := this.2 h; cases this
    · rw [← hVi y (.inl hy) j hj e, hw j hj]
  have hdo := does_congr (hD i _ hx) htm hvr
  refine does_sound hG hR hdo (hdst _ (List.mem_of_getElem? hx)) (fun he => ?_) fun β' W' a' w' hR' => hK a' w' ⟨⟨β', W', _, _, hR', ?_, ?_⟩, ?_⟩
  · obtain ⟨m, hm, hw, hey⟩ := hV (k + i)
    rw [hey]
    have hwi : WrV l k (k + i) i := ⟨_, hx, by rcases he with ⟨_, _, he⟩ | ⟨_, he⟩ <;> (rw [he]; rfl)⟩
    have := hw i hwi
    rw [hi] at this
    have hmi : m ≤ i := by
      rcases Nat.lt_or_ge i m with h | h
      · have := this.2 h; cases this
      · exact h
    exact vrC_fresh hfr m hm (k + i) (by omega)
  · intro t
    by_cases ht : o.dst = some t
    · refine ⟨i + 1, hil, fun j hj => ?_, ?_⟩
      · by_cases e : j = i
        · subst e; rw [hD'i]; simp
        · rw [hD' j e, hTi t (.inr ht) j hj e]; omega
      · rw [tmC_succ hx]
        dsimp only
        rw [ht]
        unfold updT
        dsimp only
        rw [if_pos rfl, if_pos rfl]
    · obtain ⟨m, hm, hw, he⟩ := hT t
      refine ⟨m, hm, fun j hj => ?_, ?_⟩
      · have hne : j ≠ i := by
          rintro rfl
          obtain ⟨y, hy, hd⟩ := hj
          rw [hx] at hy; injection hy with hy; subst hy
          exact ht hd
        rw [hD' j hne]; exact hw j hj
      · rw [← he]
        dsimp only
        cases hd : o.dst with
        | none => rfl
        | some d => unfold updT; dsimp only; rw [if_neg]; rintro rfl; exact ht hd
  · intro y
    by_cases hy : writesV (k + i) r.eff = some y
    · refine ⟨i + 1, hil, fun j hj => ?_, ?_⟩
      · by_cases e : j = i
        · subst e; rw [hD'i]; simp
        · rw [hD' j e, hVi y (.inr hy) j hj e]; omega
      · rw [vrC_succ hx]
        dsimp only
        cases he : r.eff with
        | none => rw [he] at hy; cases hy
        | new t cs =>
          rw [he] at hy; injection hy with hy
          unfold updV; dsimp only; rw [if_pos hy.symm, if_pos hy.symm]
        | sto z off cs =>
          rw [he] at hy; injection hy with hy; subst hy
          unfold updV; dsimp only
          rw [if_pos rfl, if_pos rfl, hvr z (hto i o r z hx (.inl ⟨off, cs, he⟩))]
        | put z s =>
          rw [he] at hy; injection hy with hy; subst hy
          unfold updV; dsimp only
          rw [if_pos rfl, if_pos rfl, hvr z (hto i o r z hx (.inr ⟨s, he⟩))]
        | news s =>
          rw [he] at hy; injection hy with hy
          unfold updV; dsimp only; rw [if_pos hy.symm, if_pos hy.symm]
    · obtain ⟨m, hm, hw, he⟩ := hV y
      refine ⟨m, hm, fun j hj => ?_, ?_⟩
      · have hne : j ≠ i := by
          rintro rfl
          obtain ⟨z, hz, hd⟩ := hj
          rw [hx] at hz; injection hz with hz; subst hz
          exact hy hd
        rw [hD' j hne]; exact hw j hj
      · rw [← he]
        dsimp only
        cases hd : r.eff with
        | none => rfl
        | new t cs => unfold updV; dsimp only; rw [if_neg]; rintro rfl; exact hy (by rw [hd]; rfl)
        | sto z off cs => unfold updV; dsimp only; rw [if_neg]; rintro rfl; exact hy (by rw [hd]; rfl)
        | put z s => unfold updV; dsimp only; rw [if_neg]; rintro rfl; exact hy (by rw [hd]; rfl)
        | news s => unfold updV; dsimp only; rw [if_neg]; rintro rfl; exact hy (by rw [hd]; rfl)
  · intro j hj hDj q hq
    by_cases e : q = i
    · subst e; exact hD'i
    · rw [hD' q e]
      by_cases e2 : j = i
      · subst e2; exact ha q hq
      · rw [hD' j e2] at hDj; exact hc j hj hDj q hq
end
end Go.Proofs.YtnncfbmddpijcaaGreatDoor.AM

/- Regions whose order is drawn, in one. -/
namespace Go.Proofs.YtnncfbmddpijcaaGreatDoor.AM
open Go Go.RowKit

theorem does0_touch {P : Program} {G : World → Prop} {ops : Array Oper} {id : Nat} {o : Oper} {tm : Nat → Av} {ev : Operand → Av} {vr : Nat → Option VarSt} {r : Rec} (h : Does0 P G ops id o tm ev vr r) {x : Nat} (he : (∃ off cs, r.eff = .sto x off cs) ∨ (∃ s, r.eff = .put x s)) : x ∈ r.touch := by
  rcases he with ⟨off, cs, he⟩ | ⟨s, he⟩
  · cases h <;> first | (cases he; done) | skip
    injection he with h1; subst h1; exact List.mem_cons_self ..
  · cases h <;> first | (cases he; done) | skip
    injection he with h1; subst h1; exact List.mem_cons_self ..
theorem does_touch {P : Program} {G : World → Prop} {ops : Array Oper} {id : Nat} {o : Oper} {tm : Nat → Av} {vr : Nat → Option VarSt} {r : Rec} (h : Does P G ops id o tm vr r) {x : Nat} (he : (∃ off cs, r.eff = .sto x off cs) ∨ (∃ s, r.eff = .put x s)) : x ∈ r.touch := by
  cases h with
  | base h0 => exact does0_touch h0 he
  | view h1 h2 h3 h4 h5 h6 => exact List.mem_cons_of_mem _ (does0_touch h6 he)
  | app0 h1 h2 h3 h4 h5 h6 => rcases he with ⟨_, _, he⟩ | ⟨_, he⟩ <;> cases he
  | app h1 h2 h3 h4 h5 h6 h7 e1 e2 e3 e4 e5 =>
    rcases he with ⟨_, _, he⟩ | ⟨_, he⟩
    · cases he
    · injection he with h1; subst h1; exact List.mem_cons_self ..
theorem pushT_sub {out : List Tr} {po : Option Tr} {t : Tr} (h : t ∈ out) : t ∈ pushT out po := by
  cases po with
  | none => exact h
  | some u => exact List.mem_cons_of_mem _ h
theorem canon_out {P : Program} {ops : Array Oper} : ∀ {lo : List Oper} {S S' : St} {rs rs' : List (Oper × Rec)}, canon P ops lo S rs = some (S', rs') → ∀ t ∈ S.out, t ∈ S'.out
  | [], S, S', rs, rs', h => by injection h with h; injection h with h1 h2; subst h1; exact fun t ht => ht
  | o :: lo, S, S', rs, rs', h => by
    unfold canon at h
    split at h
    · rename_i r tr' po hdst hdo
      intro t ht
      exact canon_out h t (pushT_sub ht)
    · cases h
theorem canon_spec {P : Program} {G : World → Prop} {ops : Array Oper} : ∀ {lo : List Oper} {S S' : St} {rs rs' : List (Oper × Rec)}, canon P ops lo S rs = some (S', rs') → (∀ t ∈ S'.out, TrOk P G t) →
    ∃ l, rs' = rs ++ l ∧ l.map (·.1) = lo ∧ (∀ i x, l[i]? = some x → Does P G ops (S.k + i) x.1 (stT (tmF S.tm) (l.take i)) (stV S.k (look S.vr) (l.take i)) x.2) ∧
      (∀ x ∈ l, ∀ d, x.1.dst = some d → d < S.tm.length) ∧ tmF S'.tm = stT (tmF S.tm) l ∧ look S'.vr = stV S.k (look S.vr) l ∧ S'.tm.length = S.tm.length ∧ S'.k = S.k + lo.length
  | [], S, S', rs, rs', h, _ => by
    injection h with h; injection h with h1 h2; subst h1; subst h2
    exact ⟨[], by simp, rfl, by simp, by simp, rfl, rfl, rfl, rfl⟩
  | o :: lo, S, S', rs, rs', h, hok => by
    unfold canon at h
    split at h
    · rename_i r tr' po hdst hdo
      have hsub := canon_out h
      have hpo : ∀ t, po = some t → TrOk P G t := fun t e => hok t (hsub t (by subst e; exact List.mem_cons_self ..))
      have hd := doOp_does hdo hpo
      obtain ⟨l, h1, h2, h3, h4, h5, h6, h7, h8⟩ := canon_spec h hok
      dsimp only at h3 h4 h5 h6 h7 h8
      rw [tmF_setT _ _ _ hdst] at h3 h5
      rw [look_setV] at h3 h6
      rw [setT_length] at h4 h7
      refine ⟨(o, r) :: l, by rw [h1]; simp, by rw [List.map_cons, h2], fun i x hx => ?_, fun x hx => ?_, h5, h6, h7, by rw [h8, List.length_cons]; omega⟩
      · cases i with
        | zero => simp at hx; subst hx; exact hd
        | succ i =>
          simp at hx
          have := h3 i x hx
          rw [show S.k + 1 + i = S.k + (i + 1) by omega] at this
          exact this
      · rcases List.mem_cons.1 hx with rfl | hx
        · exact fun d e => dstOk_lt (by dsimp only at e; rw [e] at hdst; exact hdst)
        · exact h4 x hx
    · cases h

def cnt : List Bool → Nat
  | [] => 0
  | true :: l => cnt l
  | false :: l => cnt l + 1
theorem cnt_set : ∀ {l : List Bool} {i : Nat}, l[i]? = some false → cnt (l.set i true) + 1 = cnt l
  | [], _, h => by simp at h
  | b :: l, 0, h => by simp at h; subst h; rfl
  | b :: l, i + 1, h => by
    simp at h
    have := cnt_set h
    cases b <;> simp only [List.set_cons_succ, cnt] <;> omega
theorem cnt_zero : ∀ {l : List Bool}, cnt l = 0 → ∀ i, i < l.length → l[i]? = some true
  | [], _, i, hi => by simp at hi
  | true :: l, h, 0, _ => rfl
  | true :: l, h, i + 1, hi => by simpa using cnt_zero (l := l) h i (by simpa using hi)
  | false :: l, h, _, _ => by simp [cnt] at h

section
variable {P : Program} {G : World → Prop} {ops : Array Oper} {w0 : Base} {N k : Nat} {l : List (Oper × Rec)} {tm0 : Nat → Av} {vr0 : Nat → Option VarSt} {A : List Nat} {Q : Exit → Act → World → Prop}

theorem inv_any (hG : ∀ {w w' : World}, Below w.heap.size w w' → G w → G w')
    (hD : ∀ i x, l[i]? = some x → Does P G ops (k + i) x.1 (stT tm0 (l.take i)) (stV k vr0 (l.take i)) x.2) (hdst : ∀ x ∈ l, ∀ d, x.1.dst = some d → d < N) (hfr : ∀ x, k ≤ x → vr0 x = none)
    (hap : ∀ (i : Nat) (oi : Oper) (ri : Rec), l[i]? = some (oi, ri) → edgesOk i oi = true ∧ apartAll ops k A i oi ri 0 l = true)
    (hA : ∀ (i : Nat) (o : Oper) (q : Nat), ops[i]? = some o → (A.getD i 0).testBit q = true → ∃ e ∈ o.after, Region.binds .any e = true ∧ (q = e.on ∨ (A.getD e.on 0).testBit q = true))
    (hl : ops.toList = l.map (·.1)) (hQ : ∀ β W a w, Rep w0 G N β W (stT tm0 l) (stV k vr0 l) a w → Q .normal a w) :
    ∀ (fuel : Nat) (listed : Array Bool) (a : Act) (w : World), listed.size = ops.size → cnt listed.toList ≤ fuel → Inv w0 G N k l tm0 vr0 A (fun j => listed.getD j false) a w → wpAny P .any ops Q fuel listed a w := by
  have hlen : ops.size = l.length := by rw [← Array.length_toList, hl, List.length_map]
  have hget : ∀ (i : Nat) (o : Oper), ops[i]? = some o → ∃ r, l[i]? = some (o, r) := fun i o h => by
    rw [← Array.getElem?_toList, hl, List.getElem?_map] at h
    cases hx : l[i]? with
    | none => rw [hx] at h; cases h
    | some x => rw [hx] at h; injection h with h; exact ⟨x.2, by rw [← h]⟩
  -- all listed: the end
  have hend : ∀ (listed : Array Bool) (a : Act) (w : World), (∀ j, j < ops.size → listed.getD j false = true) → Inv w0 G N k l tm0 vr0 A (fun j => listed.getD j false) a w → Q .normal a w := by
    rintro listed a w hall ⟨⟨β, W, tm, vr, hR, hT, hV⟩, _⟩
    have e1 : tm = stT tm0 l := by
      funext t
      obtain ⟨m, hm, hw, he⟩ := hT t
      have := tmC_same (tm0 := tm0) (l := l) (t := t) (m := m) (i := l.length) hm (Nat.le_refl _) fun j hj => by
        have hjl : j < l.length := by obtain ⟨x, hx, _⟩ := hj; exact (List.getElem?_eq_some_iff.1 hx).1
        exact ⟨fun _ => hjl, fun _ => (hw j hj).1 (hall j (by omega))⟩
      rw [he, this, List.take_length]
    have e2 : vr = stV k vr0 l := by
      funext y
      obtain ⟨m, hm, hw, he⟩ := hV y
      have := vrC_same (vr0 := vr0) (l := l) (k := k) (y := y) (m := m) (i := l.length) hm (Nat.le_refl _) fun j hj => by
        have hjl : j < l.length := by obtain ⟨x, hx, _⟩ := hj; exact (List.getElem?_eq_some_iff.1 hx).1
        exact ⟨fun _ => hjl, fun _ => (hw j hj).1 (hall j (by omega))⟩
      rw [he, this, List.take_length]
    subst e1; subst e2
    exact hQ β W a w hR
  -- nothing may come up: all are listed
  have hready : ∀ (listed : Array Bool), listed.size = ops.size → Region.ready .any ops listed = [] → ∀ j, j < ops.size → listed.getD j false = true := by
    intro listed hsz hr j
    induction j using Nat.strongRecOn with
    | _ j ih =>
      intro hj
      cases hb : listed.getD j false with
      | true => rfl
      | false =>
        exfalso
        obtain ⟨o, ho⟩ : ∃ o, ops[j]? = some o := ⟨_, Array.getElem?_eq_getElem hj⟩
        obtain ⟨r, hx⟩ := hget j o ho
        have hedge := (hap j o r hx).1
        have hj' : j < listed.size := by omega
        have : j ∈ Region.ready .any ops listed := mem_ready.2 ⟨by
          rw [Array.getD_eq_getD_getElem?, Array.getElem?_eq_getElem hj'] at hb ⊢; exact hb, o, ho, fun e he hbd => by
          unfold edgesOk at hedge
          have := List.all_eq_true.1 hedge e (Array.mem_toList_iff.2 he)
          rw [hbd] at this
          have hlt : e.on < j := Nat.le_of_ble_eq_true this
          exact ih e.on hlt (by omega)⟩
        rw [hr] at this; cases this
  intro fuel
  induction fuel with
  | zero =>
    intro listed a w hsz hc hI
    have hall : ∀ j, j < ops.size → listed.getD j false = true := fun j hj => by
      have := cnt_zero (l := listed.toList) (by omega) j (by simp; omega)
      rw [Array.getElem?_toList] at this
      rw [Array.getD_eq_getD_getElem?, this]; rfl
    refine ⟨?_, hend listed a w hall hI⟩
    cases hr : Region.ready .any ops listed with
    | nil => rfl
    | cons i rs =>
      exfalso
      have hi : i ∈ Region.ready .any ops listed := by rw [hr]; exact List.mem_cons_self ..
      obtain ⟨h1, o, ho, _⟩ := mem_ready.1 hi
      have hlt : i < ops.size := (Array.getElem?_eq_some_iff.1 ho).1
      have h2 := hall i hlt
      rw [Array.getD_eq_getD_getElem?, Array.getElem?_eq_getElem (show i < listed.size by omega)] at h1 h2
      simp at h1 h2
      rw [h1] at h2; cases h2
  | succ fuel ih =>
    intro listed a w hsz hc hI
    refine ⟨fun hr => hend listed a w (hready listed hsz hr) hI, fun i hi => ?_⟩
    obtain ⟨h1, o, ho, hafter⟩ := mem_ready.1 hi
    have hlt : i < ops.size := (Array.getElem?_eq_some_iff.1 ho).1
    have hlt' : i < listed.size := by omega
    have hli : listed[i]? = some false := by
      rw [Array.getD_eq_getD_getElem?, Array.getElem?_eq_getElem hlt'] at h1
      rw [Array.getElem?_eq_getElem hlt']; simpa using h1
    obtain ⟨r, hx⟩ := hget i o ho
    have hset : ∀ j, j ≠ i → (listed.setIfInBounds i true).getD j false = listed.getD j false := fun j hne => by
      rw [Array.getD_eq_getD_getElem?, Array.getD_eq_getD_getElem?, Array.getElem?_setIfInBounds, if_neg (Ne.symm hne)]
    have hseti : (listed.setIfInBounds i true).getD i false = true := by
      rw [Array.getD_eq_getD_getElem?, Array.getElem?_setIfInBounds, if_pos rfl, if_pos hlt']; rfl
    refine wpOp_step ho fun K hK => inv_step hG hD hdst hfr (fun i oi ri h => (hap i oi ri h).2) (fun j oj rj y hj he => does_touch (hD j _ hj) he) hx hI
      (by rw [Array.getD_eq_getD_getElem?, hli]; rfl) (fun q hq => ?_) hseti hset fun a' w' hI' => hK a' w' (ih _ a' w' (by simpa using hsz) ?_ hI')
    · obtain ⟨e, he, hb, h2⟩ := hA i o q ho hq
      have hl := hafter e he hb
      rcases h2 with rfl | h2
      · exact hl
      · have hel : e.on < l.length := by
          rcases Nat.lt_or_ge e.on listed.size with h | h
          · omega
          · rw [Array.getD_eq_getD_getElem?, Array.getElem?_eq_none h] at hl; cases hl
        exact hI.closed e.on hel hl q h2
    · have := cnt_set (l := listed.toList) (i := i) (by rw [Array.getElem?_toList]; exact hli)
      rw [Array.toList_setIfInBounds]; omega
end

theorem Rep.drew {w0 : Base} {G : World → Prop} {N : Nat} {β : Nat → Option Nat} {W : World} {tm : Nat → Av} {vr : Nat → Option VarSt} {a : Act} {w : World} (h : Rep w0 G N β W tm vr a w) : Rep w0 G N β W tm vr a w.drew :=
  ⟨h.defers, h.room, h.tmp, h.below.drew, h.old, h.size, h.ext, h.u32, h.glob, h.inj, h.var, h.dom, h.gro, h.sep⟩
theorem cnt_replicate : ∀ n, cnt (List.replicate n false) = n
  | 0 => rfl
  | n + 1 => by rw [List.replicate_succ]; simp [cnt, cnt_replicate n]

theorem drawnOps_sound {P : Program} {G : World → Prop} {ops : Array Oper} {w0 : Base} {Q : Exit → Act → World → Prop} {id : Nat} (hG : ∀ {w w' : World}, Below w.heap.size w w' → G w → G w') (hm : P.follows .mixedOrders = true)
    {S S' : St} {a : Act} {w : World} (h : drawnOps P ops S = some S') (hok : ∀ t ∈ S'.out, TrOk P G t) (hS : Sat w0 G S a w) (hQ : ∀ a w, Sat w0 G S' a w → Q .normal a w) : (Code.region id ops true).wp P Q a w := by
  unfold drawnOps at h
  split at h
  · rename_i S1 rs hcan
    split at h
    · rename_i hchk
      injection h with h; subst h
      obtain ⟨l, h1, h2, h3, h4, h5, h6, h7, h8⟩ := canon_spec hcan hok
      rw [List.nil_append] at h1
      subst h1
      obtain ⟨⟨β, W, hR⟩, hfr⟩ := hS
      refine wp_region_any hm (inv_any hG h3 h4 hfr (A := ancs ops.toList []) (fun i oi ri hi => ?_) (fun i o q ho hq => ?_) h2.symm (fun β' W' a' w' hR' => hQ a' w' ⟨⟨β', W', ?_⟩, fun x hx => ?_⟩) ops.size _ a _ (by simp) ?_ ⟨⟨β, W, _, _, hR.drew, fun t => ⟨0, Nat.zero_le _, fun j _ => ?_, rfl⟩, fun y => ⟨0, Nat.zero_le _, fun j _ => ?_, rfl⟩⟩, fun j _ hj => ?_⟩)
      · have := chk_spec hchk i oi ri hi
        rwa [Nat.zero_add] at this
      · have := ancs_spec ops.toList [] i o q (by rw [Array.getElem?_toList]; exact ho) (by rw [List.length_nil, Nat.zero_add]; exact hq)
        exact this
      · rw [← h5, ← h6, ← h7] at hR'; exact hR'
      · rw [h6]
        have := vrC_fresh (l := rs) hfr rs.length (Nat.le_refl _) x (by rw [h8, ← h2, List.length_map] at hx; exact hx)
        rwa [List.take_length] at this
      · simp [cnt_replicate]
      · constructor
        · intro hj; exfalso
          rw [Array.getD_eq_getD_getElem?, Array.getElem?_replicate] at hj
          split at hj <;> cases hj
        · intro hj; omega
      · constructor
        · intro hj; exfalso
          rw [Array.getD_eq_getD_getElem?, Array.getElem?_replicate] at hj
          split at hj <;> cases hj
        · intro hj; omega
      · exfalso
        rw [Array.getD_eq_getD_getElem?, Array.getElem?_replicate] at hj
        split at hj <;> cases hj
    · cases h
  · cases h
theorem drawnOps_out {P : Program} {ops : Array Oper} {S S' : St} (h : drawnOps P ops S = some S') : ∀ t ∈ S.out, t ∈ S'.out := by
  unfold drawnOps at h
  split at h
  · rename_i S1 rs hcan
    split at h
    · injection h with h; subst h; exact canon_out hcan
    · cases h
  · cases h
end Go.Proofs.YtnncfbmddpijcaaGreatDoor.AM

/- Forgetting what isn't needed any more. -/
namespace Go.Proofs.YtnncfbmddpijcaaGreatDoor.AM
open Go Go.RowKit

def varsA : Av → List Nat
  | .one s => varsS s
  | .tup l => l.flatMap varsS
def growsC : Cv → List Nat
  | .grow x _ => [x]
  | _ => []
def growsS : Sv → List Nat
  | .cel c => growsC c
  | .agg l => l.flatMap growsC
def growsA : Av → List Nat
  | .one s => growsS s
  | .tup l => l.flatMap growsS
theorem growsC_sub {c : Cv} {x : Nat} (h : x ∈ growsC c) : x ∈ varsC c := by
  cases c <;> first | exact h | cases h
theorem growsS_sub {c : Sv} {x : Nat} (h : x ∈ growsS c) : x ∈ varsS c := by
  cases c with
  | cel c => exact growsC_sub h
  | agg l => obtain ⟨c, h1, h2⟩ := List.mem_flatMap.1 h; exact List.mem_flatMap.2 ⟨c, h1, growsC_sub h2⟩
theorem growsA_sub {c : Av} {x : Nat} (h : x ∈ growsA c) : x ∈ varsA c := by
  cases c with
  | one c => exact growsS_sub h
  | tup l => obtain ⟨c, h1, h2⟩ := List.mem_flatMap.1 h; exact List.mem_flatMap.2 ⟨c, h1, growsS_sub h2⟩
def inAll (ids : List Nat) (l : List Nat) : Bool := l.all fun x => memN x ids

section
variable {β β' : Nat → Option Nat} {W W' : World}
theorem relC_restrict {v : Value} {c : Cv} (hv : ∀ x ∈ varsC c, β' x = β x) (he : ∀ e : Ent, e.holds W v → e.holds W' v) (hcu : ∀ x ∈ growsC c, ∀ g0, β x = some g0 → ∀ m u, Cur W g0 m u → Cur W' g0 m u) (h : RelC β W v c) : RelC β' W' v c := by
  cases c with
  | any => trivial
  | raw u => exact h
  | ent e => exact he e h
  | ptr x o => obtain ⟨g, h1, h2⟩ := h; exact ⟨g, (hv x (by simp [varsC])).trans h1, h2⟩
  | row x o n d => obtain ⟨g, h1, h2⟩ := h; exact ⟨g, (hv x (by simp [varsC])).trans h1, h2⟩
  | grow x n => obtain ⟨g, m, u, h1, h2, h3, h4⟩ := h; exact ⟨g, m, u, (hv x (by simp [varsC])).trans h1, hcu x (by simp [growsC]) g h1 m u h2, h3, h4⟩
theorem all2_restrict {l : List Cv} : ∀ {vs : List Value}, (∀ x ∈ l.flatMap varsC, β' x = β x) → (∀ (e : Ent) (v : Value), e.holds W v → e.holds W' v) → (∀ x ∈ l.flatMap growsC, ∀ g0, β x = some g0 → ∀ m u, Cur W g0 m u → Cur W' g0 m u) → All2 (RelC β W) vs l → All2 (RelC β' W') vs l := by
  induction l with
  | nil => intro vs _ _ _ h; cases vs with | nil => trivial | cons => exact h.elim
  | cons c l ih =>
    intro vs hv he hcu h
    cases vs with
    | nil => exact h.elim
    | cons v vs => exact ⟨relC_restrict (fun x hx => hv x (by simp [hx])) (fun e => he e v) (fun x hx => hcu x (by rw [List.flatMap_cons]; exact List.mem_append_left _ hx)) h.1, ih (fun x hx => hv x (by rw [List.flatMap_cons]; exact List.mem_append_right _ hx)) he (fun x hx => hcu x (by rw [List.flatMap_cons]; exact List.mem_append_right _ hx)) h.2⟩
theorem relS_restrict {v : Value} {s : Sv} (hv : ∀ x ∈ varsS s, β' x = β x) (he : ∀ (e : Ent) (v : Value), e.holds W v → e.holds W' v) (hcu : ∀ x ∈ growsS s, ∀ g0, β x = some g0 → ∀ m u, Cur W g0 m u → Cur W' g0 m u) (h : RelS β W v s) : RelS β' W' v s := by
  cases s with
  | cel c => exact relC_restrict hv (fun e => he e v) hcu h
  | agg l => obtain ⟨vs, h1, h2⟩ := h; exact ⟨vs, h1, all2_restrict hv he hcu h2⟩
theorem all2S_restrict {l : List Sv} : ∀ {vs : List Value}, (∀ x ∈ l.flatMap varsS, β' x = β x) → (∀ (e : Ent) (v : Value), e.holds W v → e.holds W' v) → (∀ x ∈ l.flatMap growsS, ∀ g0, β x = some g0 → ∀ m u, Cur W g0 m u → Cur W' g0 m u) → All2 (RelS β W) vs l → All2 (RelS β' W') vs l := by
  induction l with
  | nil => intro vs _ _ _ h; cases vs with | nil => trivial | cons => exact h.elim
  | cons c l ih =>
    intro vs hv he hcu h
    cases vs with
    | nil => exact h.elim
    | cons v vs => exact ⟨relS_restrict (fun x hx => hv x (by simp [hx])) he (fun x hx => hcu x (by rw [List.flatMap_cons]; exact List.mem_append_left _ hx)) h.1, ih (fun x hx => hv x (by rw [List.flatMap_cons]; exact List.mem_append_right _ hx)) he (fun x hx => hcu x (by rw [List.flatMap_cons]; exact List.mem_append_right _ hx)) h.2⟩
theorem relA_restrict {v : Value} {s : Av} (hv : ∀ x ∈ varsA s, β' x = β x) (he : ∀ (e : Ent) (v : Value), e.holds W v → e.holds W' v) (hcu : ∀ x ∈ growsA s, ∀ g0, β x = some g0 → ∀ m u, Cur W g0 m u → Cur W' g0 m u) (h : RelA β W v s) : RelA β' W' v s := by
  cases s with
  | one s => exact relS_restrict hv he hcu h
  | tup l => obtain ⟨vs, h1, h2⟩ := h; exact ⟨vs, h1, all2S_restrict hv he hcu h2⟩
end
theorem look_mem {l : List (Nat × VarSt)} {x : Nat} {s : VarSt} (h : look l x = some s) : (x, s) ∈ l := by
  induction l with
  | nil => cases h
  | cons m l ih =>
    obtain ⟨y, s'⟩ := m
    unfold look at h
    split at h
    · rename_i hb
      injection h with h; subst h
      rw [Nat.eq_of_beq_eq_true hb]; exact List.mem_cons_self ..
    · exact List.mem_cons_of_mem _ (ih h)
theorem look_some {l : List (Nat × VarSt)} {x : Nat} (h : x ∈ l.map (·.1)) : ∃ s, look l x = some s := by
  induction l with
  | nil => cases h
  | cons m l ih =>
    obtain ⟨y, s'⟩ := m
    unfold look
    split
    · exact ⟨_, rfl⟩
    · rename_i hb
      rcases List.mem_cons.1 h with rfl | h
      · rw [Nat.beq_refl] at hb; cases hb
      · exact ih h
theorem inAll_spec {ids l : List Nat} (h : inAll ids l = true) : ∀ x ∈ l, x ∈ ids := fun x hx => memN_iff.1 (List.all_eq_true.1 h x hx)

def anyA : Av := .one (.cel .any)
def forgetT (keep : List Nat) : Nat → List Av → List Av
  | _, [] => []
  | i, a :: l => (match memN i keep with | true => a | false => anyA) :: forgetT keep (i + 1) l
def forgetV (vr : List (Nat × VarSt)) : List Nat → List (Nat × VarSt)
  | [] => []
  | x :: l => match look vr x with | some s => (x, s) :: forgetV vr l | none => forgetV vr l
def closedIds (ids : List Nat) (tm : List Av) (vr : List (Nat × VarSt)) : Bool := (tm.all fun a => inAll ids (varsA a)) && (vr.all fun m => inAll ids (varsV m.2))
/-- A list of temporaries, few of which are told. -/
def mkT (n : Nat) (l : List (Nat × Av)) : List Av := (List.range n).map fun i => match l.find? (fun p => Nat.beq p.1 i) with | some p => p.2 | none => anyA

theorem forgetT_length (keep : List Nat) : ∀ (i : Nat) (l : List Av), (forgetT keep i l).length = l.length
  | _, [] => rfl
  | i, a :: l => by unfold forgetT; rw [List.length_cons, List.length_cons, forgetT_length keep (i + 1) l]
theorem forgetT_get (keep : List Nat) : ∀ (i : Nat) (l : List Av) (t : Nat), tmF (forgetT keep i l) t = (if t < l.length ∧ memN (i + t) keep = false then anyA else tmF l t)
  | i, [], t => by simp [forgetT, tmF]
  | i, a :: l, 0 => by
    unfold forgetT
    rw [Nat.add_zero]
    cases h : memN i keep <;> simp [tmF]
  | i, a :: l, t + 1 => by
    unfold forgetT
    have ih := forgetT_get keep (i + 1) l t
    rw [show i + 1 + t = i + (t + 1) by omega] at ih
    have e1 : ∀ x (l : List Av), tmF (x :: l) (t + 1) = tmF l t := fun x l => by simp [tmF]
    rw [e1, e1, ih]
    simp
theorem forgetV_look (vr : List (Nat × VarSt)) : ∀ (ids : List Nat) (x : Nat), look (forgetV vr ids) x = if memN x ids = true then look vr x else none
  | [], x => rfl
  | y :: l, x => by
    unfold forgetV memN
    have ih := forgetV_look vr l x
    by_cases e : x = y
    · subst e
      rw [Nat.beq_refl]
      dsimp only
      rw [if_pos rfl]
      cases h : look vr x with
      | none =>
        dsimp only
        rw [ih, h]; split <;> rfl
      | some s =>
        show (match Nat.beq x x with | true => _ | false => _) = _
        rw [Nat.beq_refl]
    · have e1 : Nat.beq x y = false := by rw [Bool.eq_false_iff]; intro h; exact e (Nat.eq_of_beq_eq_true h)
      have e2 : Nat.beq y x = false := by rw [Bool.eq_false_iff]; intro h; exact e (Nat.eq_of_beq_eq_true h).symm
      rw [e1]
      dsimp only
      cases h : look vr y with
      | none => exact ih
      | some s =>
        show (match Nat.beq y x with | true => _ | false => _) = _
        rw [e2]; exact ih
theorem tmF_mem {tm : List Av} {t : Nat} : tmF tm t = undefA ∨ tmF tm t ∈ tm := by
  unfold tmF
  rw [List.getD_eq_getElem?_getD]
  cases h : tm[t]? with
  | none => exact .inl rfl
  | some a => exact .inr (List.mem_of_getElem? h)
/-- What isn't needed is forgotten. -/
theorem Is.forget {w0 : Base} {G : World → Prop} {tm : List Av} {vr : List (Nat × VarSt)} {a : Act} {w : World} (keep ids : List Nat) (hc : closedIds ids (forgetT keep 0 tm) (forgetV vr ids) = true) (h : Is w0 G tm vr a w) : Is w0 G (forgetT keep 0 tm) (forgetV vr ids) a w := by
  obtain ⟨β, W, hR⟩ := h
  unfold closedIds at hc
  rw [Bool.and_eq_true] at hc
  have hβ : ∀ x, x ∈ ids → (fun x => if memN x ids = true then β x else none) x = β x := fun x hx => if_pos (memN_iff.2 hx)
  refine ⟨fun x => if memN x ids = true then β x else none, W, hR.defers, by rw [forgetT_length]; exact hR.room, fun t => ?_, hR.below, hR.old, hR.size, hR.ext, hR.u32, hR.glob, fun x y g hx hy hg => ?_, fun x s hx hgs => ?_, fun x g hx => ?_, fun x s n es hx hg => ?_, fun x s g0 c g ab hx hs hb hc y s' hy => ?_⟩
  · have hin : ∀ x ∈ varsA (tmF (forgetT keep 0 tm) t), x ∈ ids := fun x hx => by
      rcases tmF_mem (tm := forgetT keep 0 tm) (t := t) with e | e
      · rw [e] at hx; cases hx
      · exact inAll_spec (List.all_eq_true.1 hc.1 _ e) x hx
    have hr : RelA β W (a.tmps.getD t undef) (tmF (forgetT keep 0 tm) t) := by
      rw [forgetT_get]
      split
      · exact trivial
      · exact hR.tmp t
    exact relA_restrict (fun x hx => hβ x (hin x hx)) (fun _ _ h => h) (fun _ _ _ _ _ _ h => h) hr
  · try dsimp only at hx hy
    split at hx
    · split at hy
      · exact hR.inj x y g hx hy hg
      · cases hy
    · cases hx
  · have hmem := look_mem hx
    rw [forgetV_look] at hx
    split at hx
    · rename_i hm
      obtain ⟨g, cs, b1, b2, b3, b4, b5⟩ := hR.var x s hx hgs
      have hin : ∀ y ∈ s.cs.flatMap varsC, y ∈ ids := fun y hy => inAll_spec (List.all_eq_true.1 hc.2 _ hmem) y (varsV_spec hy)
      exact ⟨g, cs, (hβ x (memN_iff.1 hm)).trans b1, b2, b3, all2_restrict (fun y hy => hβ y (hin y hy)) (fun _ _ h => h) (fun _ _ _ _ _ _ h => h) b4, b5⟩
    · cases hx
  · try dsimp only at hx
    split at hx
    · rename_i hm
      obtain ⟨⟨s, hs⟩, h2⟩ := hR.dom x g hx
      exact ⟨⟨s, by rw [forgetV_look, if_pos hm]; exact hs⟩, h2⟩
    · cases hx
  · rw [forgetV_look] at hx
    split at hx
    · rename_i hm
      obtain ⟨g0, k1, k2⟩ := hR.gro x s n es hx hg
      exact ⟨g0, (hβ x (memN_iff.1 hm)).trans k1, k2⟩
    · cases hx
  · rw [forgetV_look] at hx hy
    try dsimp only at hb
    split at hx
    · rename_i hm
      rw [if_pos hm] at hb
      split at hy
      · rename_i hm2
        obtain ⟨j1, j2⟩ := hR.sep x s g0 c g ab hx hs hb hc y s' hy
        try dsimp only
        rw [if_pos hm2]
        exact ⟨j1, j2⟩
      · cases hy
    · cases hx
end Go.Proofs.YtnncfbmddpijcaaGreatDoor.AM

/- A variable that isn't written any more. -/
namespace Go.Proofs.YtnncfbmddpijcaaGreatDoor.AM
open Go Go.RowKit

def frzC (x : Nat) (cs : List Cv) : Cv → Cv
  | .ptr y o => (match Nat.beq y x with | true => .ent (ptrTo (cs.drop o)) | false => .ptr y o)
  | .row y o n d => (match Nat.beq y x with | true => .ent (rowOf n (cs.drop o)) | false => .row y o n d)
  | .grow y n => (match Nat.beq y x with | true => .any | false => .grow y n)
  | c => c
def frzS (x : Nat) (cs : List Cv) : Sv → Sv
  | .cel c => .cel (frzC x cs c)
  | .agg l => .agg (l.map (frzC x cs))
def frzA (x : Nat) (cs : List Cv) : Av → Av
  | .one s => .one (frzS x cs s)
  | .tup l => .tup (l.map (frzS x cs))
def frzW (x : Nat) (cs : List Cv) (s : VarSt) : VarSt := match s.sy with | .no => ⟨s.t, s.cs.map (frzC x cs), s.own, .no⟩ | _ => s
def frzV (x : Nat) (cs : List Cv) : List (Nat × VarSt) → List (Nat × VarSt)
  | [] => []
  | (y, s) :: l => match Nat.beq y x with | true => frzV x cs l | false => (y, frzW x cs s) :: frzV x cs l
def thaw (k : Nat) : List Tr → List Av → List (Nat × VarSt) → List Tr → Option St
  | .freeze x _ :: tr, tm, vr, out => (match look vr x with
    | some s => (match s.own, notGro s with | true, true => thaw k tr (tm.map (frzA x s.cs)) (frzV x s.cs vr) (.freeze x s.cs :: out) | _, _ => none)
    | none => none)
  | .settle t _ _ :: tr, tm, vr, out => (match dstOk tm.length (some t), tmF tm t with
    | true, .one (.cel (.grow x n)) => (match look vr x with
      | some ⟨_, cs, _, .gro m _ _⟩ => thaw k tr (setT tm (some t) (.one (.cel (.ent (rowOf n cs))))) vr (.settle t n m :: out)
      | _ => none)
    | _, _ => none)
  | tr, tm, vr, out => some ⟨tm, vr, k, tr, out⟩
theorem look_frzV (x : Nat) (cs : List Cv) : ∀ (vr : List (Nat × VarSt)) (y : Nat), look (frzV x cs vr) y = if y = x then none else (look vr y).map (frzW x cs)
  | [], y => by unfold frzV look; split <;> rfl
  | (z, s) :: l, y => by
    have ih := look_frzV x cs l y
    unfold frzV
    cases hz : Nat.beq z x with
    | true =>
      have e := Nat.eq_of_beq_eq_true hz
      dsimp only
      rw [ih]
      by_cases h : y = x
      · rw [if_pos h, if_pos h]
      · rw [if_neg h, if_neg h]
        conv => rhs; unfold look
        rw [show Nat.beq z y = false by rw [Bool.eq_false_iff]; intro h2; have := Nat.eq_of_beq_eq_true h2; omega]
    | false =>
      dsimp only
      conv => lhs; unfold look
      cases hy : Nat.beq z y with
      | true =>
        have e := Nat.eq_of_beq_eq_true hy
        dsimp only
        have hne : ¬ y = x := fun h => by rw [e, h, Nat.beq_refl] at hz; cases hz
        rw [if_neg hne]
        conv => rhs; unfold look
        rw [hy]; rfl
      | false =>
        dsimp only
        rw [ih]
        conv => rhs; unfold look
        rw [hy]
theorem tmF_map (f : Av → Av) (hu : f undefA = undefA) (tm : List Av) (t : Nat) : tmF (tm.map f) t = f (tmF tm t) := by
  unfold tmF
  rw [List.getD_eq_getElem?_getD, List.getD_eq_getElem?_getD, List.getElem?_map]
  cases tm[t]? with
  | none => exact hu.symm
  | some a => rfl
section
variable {P : Program} {w0 : Base} {G : World → Prop} {N : Nat} {β : Nat → Option Nat} {W w : World} {tm : List Av} {vr : List (Nat × VarSt)} {a : Act}
theorem frz_gro (x : Nat) (cs : List Cv) (s : VarSt) : groOf (frzW x cs s) = groOf s := by
  obtain ⟨t, cs0, o, sy⟩ := s
  cases sy <;> rfl
theorem frz_same (x : Nat) (cs : List Cv) (s : VarSt) (h : groOf s ≠ none) : frzW x cs s = s := by
  obtain ⟨t, cs0, o, sy⟩ := s
  cases sy with
  | no => exact absurd rfl h
  | yes _ => rfl
  | gro _ _ _ => rfl
theorem look_frz_some {x : Nat} {cs : List Cv} {vr : List (Nat × VarSt)} {y : Nat} {st : VarSt} (h : look (frzV x cs vr) y = some st) : y ≠ x ∧ ∃ s0, look vr y = some s0 ∧ st = frzW x cs s0 := by
  rw [look_frzV] at h
  split at h
  · cases h
  · rename_i hne
    cases hl : look vr y with
    | none => rw [hl] at h; cases h
    | some s0 => rw [hl] at h; injection h with h; exact ⟨hne, s0, rfl, h.symm⟩
theorem Rep.freeze {x : Nat} {s : VarSt} (h : Rep w0 G N β W (tmF tm) (look vr) a w) (hs : look vr x = some s) (hgs : groOf s = none) (ho : s.own = true) (hc : ∀ c ∈ s.cs, varsC c = []) :
    ∃ β' W', Rep w0 G N β' W' (tmF (tm.map (frzA x s.cs))) (look (frzV x s.cs vr)) a w := by
  obtain ⟨g, cells, b1, b2, b3, b4, b5⟩ := h.var x s hs hgs
  obtain ⟨a1, a2, a3⟩ := b5 ho
  have hgW : g < W.heap.size := by rw [h.size]; exact b2
  have hcell : ∀ p, ({ W with heap := W.heap.setIfInBounds g (.cells cells s.t (0, 0)) } : World).cell? p = if p.block = g then w.cell? p else W.cell? p := fun p => by
    unfold World.cell?
    dsimp only
    by_cases e : p.block = g
    · rw [if_pos e, e, b3, Array.getElem?_setIfInBounds, if_pos rfl, if_pos hgW]
    · rw [if_neg e, Array.getElem?_setIfInBounds, if_neg (Ne.symm e)]
  generalize hW : ({ W with heap := W.heap.setIfInBounds g (.cells cells s.t (0, 0)) } : World) = W' at hcell
  have hsz : W'.heap.size = W.heap.size := by rw [← hW]; simp
  have hheap : ∀ i, i ≠ g → W'.heap[i]? = W.heap[i]? := fun i hi => by
    rw [← hW]
    dsimp only
    rw [Array.getElem?_setIfInBounds, if_neg (Ne.symm hi)]
  have hext : Ext W W' := fun p u hp => by
    rw [hcell]
    by_cases e : p.block = g
    · exact absurd hp (a2 p u e)
    · rw [if_neg e]; exact hp
  have hle : W.heap.size ≤ W'.heap.size := by rw [hsz]; exact Nat.le_refl _
  have hat : ∀ o, CellsAt W' g o (s.cs.drop o) := fun o i c hi => by
    rw [List.getElem?_drop] at hi
    obtain ⟨u, hu, hr⟩ := b4.get hi
    refine ⟨u, ?_, (hr.shut (hc c (List.mem_of_getElem? hi))).mono hext hle⟩
    rw [hcell, if_pos rfl, Lib.cell_of_heap b3]
    simpa using hu
  have hβ : ∀ y, y ≠ x → (fun y => if y = x then none else β y) y = β y := fun y hy => if_neg hy
  have hC : ∀ (v : Value) (c : Cv), RelC β W v c → RelC (fun y => if y = x then none else β y) W' v (frzC x s.cs c) := by
    intro v c hr
    cases c with
    | any => trivial
    | raw u => exact hr
    | ent e => exact e.mono hext hle hr
    | ptr y o =>
      obtain ⟨g1, h1, h2⟩ := hr
      rw [show frzC x s.cs (.ptr y o) = (match Nat.beq y x with | true => .ent (ptrTo (s.cs.drop o)) | false => .ptr y o) from rfl]
      split
      · rename_i hb
        have e := Nat.eq_of_beq_eq_true hb
        subst e
        rw [b1] at h1; injection h1 with h1; subst h1
        exact ⟨_, _, h2, hat o⟩
      · rename_i hb
        exact ⟨g1, (hβ y (by rintro rfl; rw [Nat.beq_refl] at hb; cases hb)).trans h1, h2⟩
    | row y o n d =>
      obtain ⟨g1, h1, h2⟩ := hr
      rw [show frzC x s.cs (.row y o n d) = (match Nat.beq y x with | true => .ent (rowOf n (s.cs.drop o)) | false => .row y o n d) from rfl]
      split
      · rename_i hb
        have e := Nat.eq_of_beq_eq_true hb
        subst e
        rw [b1] at h1; injection h1 with h1; subst h1
        exact ⟨_, _, h2, .inr ⟨_, _, rfl, hat o⟩⟩
      · rename_i hb
        exact ⟨g1, (hβ y (by rintro rfl; rw [Nat.beq_refl] at hb; cases hb)).trans h1, h2⟩
    | grow y n =>
      obtain ⟨g1, m, u, h1, h2, h3, h4⟩ := hr
      rw [show frzC x s.cs (.grow y n) = (match Nat.beq y x with | true => .any | false => .grow y n) from rfl]
      split
      · trivial
      · rename_i hb
        have hne : y ≠ x := by rintro rfl; rw [Nat.beq_refl] at hb; cases hb
        have hg1 : g1 ≠ g := fun e => by subst e; exact hne (h.inj y x g1 h1 b1 a1)
        obtain ⟨c', g', b', e1, e2⟩ := h2
        exact ⟨g1, m, u, (hβ y hne).trans h1, ⟨c', g', b', (hheap g1 hg1).trans e1, e2⟩, h3, h4⟩
  have hCs : ∀ (l : List Cv) (vs : List Value), All2 (RelC β W) vs l → All2 (RelC (fun y => if y = x then none else β y) W') vs (l.map (frzC x s.cs)) := fun l vs hl => All2.mapR (R := RelC _ W') (frzC x s.cs) (hl.mono fun v c hr => hC v c hr)
  have hS : ∀ (v : Value) (c : Sv), RelS β W v c → RelS (fun y => if y = x then none else β y) W' v (frzS x s.cs c) := by
    intro v c hr
    cases c with
    | cel c => exact hC v c hr
    | agg l => obtain ⟨vs, h1, h2⟩ := hr; exact ⟨vs, h1, hCs l vs h2⟩
  have hA : ∀ (v : Value) (c : Av), RelA β W v c → RelA (fun y => if y = x then none else β y) W' v (frzA x s.cs c) := by
    intro v c hr
    cases c with
    | one c => exact hS v c hr
    | tup l => obtain ⟨vs, h1, h2⟩ := hr; exact ⟨vs, h1, All2.mapR (R := RelS _ W') (frzS x s.cs) (h2.mono fun v c hr => hS v c hr)⟩
  refine ⟨fun y => if y = x then none else β y, W', h.defers, h.room, fun t => by rw [tmF_map _ rfl]; exact hA _ _ (h.tmp t), h.below, fun p u hp hq => ?_, by rw [hsz]; exact h.size, fun p u hp => ?_, fun p k z hk hp => hext _ _ (h.u32 p k z hk hp), h.glob, fun y z g1 hy hz hg => ?_, fun y st hy hgy => ?_, fun y g1 hy => ?_, fun y st n es hy hgy => ?_, fun x1 s1 gx c gc ab hx1 hs1 hb1 hc y s2 hy => ?_⟩
  · rw [hcell, if_neg (by omega)] at hq; exact h.old p u hp hq
  · rw [hcell] at hp
    split at hp
    · exact hp
    · exact h.ext p u hp
  · try dsimp only at hy hz
    split at hy
    · cases hy
    · split at hz
      · cases hz
      · exact h.inj y z g1 hy hz hg
  · rw [look_frzV] at hy
    split at hy
    · cases hy
    · rename_i hne
      cases hl : look vr y with
      | none => rw [hl] at hy; cases hy
      | some s0 =>
        rw [hl] at hy
        injection hy with hy
        obtain ⟨g1, cells1, c1, c2, c3, c4, c5⟩ := h.var y s0 hl (by rw [← frz_gro x s.cs, hy]; exact hgy)
        have hown : (frzW x s.cs s0).own = s0.own := by unfold frzW; split <;> rfl
        have ht : (frzW x s.cs s0).t = s0.t := by unfold frzW; split <;> rfl
        have hcs : All2 (RelC (fun y => if y = x then none else β y) W') cells1.toList (frzW x s.cs s0).cs := by
          obtain ⟨t0, cs0, o0, sy0⟩ := s0
          have hcl : ∀ (hcc : ∀ c ∈ cs0, varsC c = []), All2 (RelC (fun y => if y = x then none else β y) W') cells1.toList cs0 := fun hcc =>
            all2_restrict (fun z hz => by obtain ⟨c, e1, e2⟩ := List.mem_flatMap.1 hz; rw [hcc c e1] at e2; cases e2) (fun e v hh => e.mono hext hle hh) (fun z hz => by obtain ⟨c, e1, e2⟩ := List.mem_flatMap.1 hz; have := growsC_sub e2; rw [hcc c e1] at this; cases this) c4
          cases sy0 with
          | no => exact hCs _ _ c4
          | yes hcc => exact hcl hcc
          | gro n es hcc => exact hcl hcc
        subst hy
        refine ⟨g1, cells1, (hβ y hne).trans c1, c2, by rw [ht]; exact c3, hcs, fun hw => ?_⟩
        rw [hown] at hw
        obtain ⟨d1, d2, d3⟩ := c5 hw
        refine ⟨d1, fun p u hp hq => ?_, d3⟩
        have : g1 ≠ g := by rintro rfl; exact hne (h.inj y x g1 c1 b1 d1)
        rw [hcell, if_neg (by omega)] at hq
        exact d2 p u hp hq
  · try dsimp only at hy
    split at hy
    · cases hy
    · rename_i hne
      obtain ⟨⟨s0, h1⟩, h2⟩ := h.dom y g1 hy
      exact ⟨⟨_, by rw [look_frzV, if_neg hne, h1]; rfl⟩, h2⟩
  · obtain ⟨hne, s0, hl, rfl⟩ := look_frz_some hy
    rw [frz_gro] at hgy
    obtain ⟨g0, k1, k2⟩ := h.gro y s0 n es hl hgy
    have hg0 : g0 ≠ g := fun e => by subst e; exact hne (h.inj y x g0 k1 b1 a1)
    rw [frz_same x s.cs s0 (by rw [hgy]; intro e; cases e)]
    refine ⟨g0, (hβ y hne).trans k1, k2.keep (fun c g ab hc => ⟨c, (hheap g0 hg0).trans hc⟩) (fun gd _ _ hu _ => ⟨rfl, fun p hp => ?_⟩) hext hle (Nat.le_refl _)⟩
    obtain ⟨u, hu⟩ := hu
    rw [hcell, if_neg (by rintro e; rw [hp] at e; subst e; exact a2 ⟨gd, 0, none⟩ u rfl hu)]
  · obtain ⟨hne, s0, hl, rfl⟩ := look_frz_some hx1
    obtain ⟨hne2, s3, hl2, rfl⟩ := look_frz_some hy
    rw [frz_gro] at hs1 ⊢
    have e1 := hβ x1 hne
    have e2 := hβ y hne2
    try dsimp only at e1 e2 hb1
    rw [e1] at hb1
    have hgx : gx ≠ g := fun e => by subst e; exact hne (h.inj x1 x gx hb1 b1 a1)
    rw [hheap gx hgx] at hc
    obtain ⟨j1, j2⟩ := h.sep x1 s0 gx c gc ab hl hs1 hb1 hc y s3 hl2
    try dsimp only
    rw [e2]
    refine ⟨j1, fun hn g0' c' ab' hby hcy => j2 hn g0' c' ab' hby ?_⟩
    rw [hheap g0' (fun e => by subst e; exact hne2 (h.inj y x g0' hby b1 a1))] at hcy
    exact hcy
theorem Rep.settle {x t n m es : Nat} {s : VarSt} (h : Rep w0 G N β W (tmF tm) (look vr) a w) (hd : dstOk tm.length (some t) = true) (ht : tmF tm t = .one (.cel (.grow x n))) (hs : look vr x = some s) (hg : groOf s = some (m, es)) (he : n = m) :
    Rep w0 G N β W (tmF (setT tm (some t) (.one (.cel (.ent (rowOf n s.cs)))))) (look vr) a w := by
  subst he
  refine ⟨h.defers, h.room, fun u => ?_, h.below, h.old, h.size, h.ext, h.u32, h.glob, h.inj, h.var, h.dom, h.gro, h.sep⟩
  rw [tmF_setT _ _ _ hd]
  unfold updT
  dsimp only
  by_cases e : u = t
  · subst e
    rw [if_pos rfl]
    have := h.tmp u
    rw [ht] at this
    exact h.grow_val hs hg this
  · rw [if_neg e]; exact h.tmp u
theorem thaw_out {k : Nat} : ∀ {tr : List Tr} {tm : List Av} {vr : List (Nat × VarSt)} {out : List Tr} {S : St}, thaw k tr tm vr out = some S → ∀ t ∈ out, t ∈ S.out := by
  intro tr
  induction tr with
  | nil => intro tm vr out S h; unfold thaw at h; injection h with h; subst h; exact fun t ht => ht
  | cons t tr ih =>
    intro tm vr out S h
    unfold thaw at h
    split at h
    · rename_i heq
      injection heq with _ heq; subst heq
      split at h
      · split at h
        · exact fun t ht => ih h t (List.mem_cons_of_mem _ ht)
        · cases h
      · cases h
    · rename_i heq
      injection heq with _ heq; subst heq
      split at h
      · split at h
        · exact fun t ht => ih h t (List.mem_cons_of_mem _ ht)
        · cases h
      · cases h
    · injection h with h; subst h; exact fun t ht => ht
theorem thaw_sound {k : Nat} : ∀ {tr : List Tr} {tm : List Av} {vr : List (Nat × VarSt)} {out : List Tr} {S : St}, thaw k tr tm vr out = some S → (∀ t ∈ S.out, TrOk P G t) → ∀ {tr0 : List Tr} {out0 : List Tr}, Sat w0 G ⟨tm, vr, k, tr0, out0⟩ a w → Sat w0 G S a w := by
  intro tr
  induction tr with
  | nil => intro tm vr out S h _ tr0 out0 hs; unfold thaw at h; injection h with h; subst h; exact hs
  | cons t tr ih =>
    intro tm vr out S h hok tr0 out0 hs
    unfold thaw at h
    split at h
    · rename_i heq
      injection heq with heq0 heq; subst heq; subst heq0
      split at h
      · rename_i s hl
        split at h
        · rename_i ho hng
          have hc : ∀ c ∈ s.cs, varsC c = [] := hok (.freeze _ s.cs) (thaw_out h _ (List.mem_cons_self ..))
          refine ih h hok (tr0 := tr0) (out0 := out0) ?_
          obtain ⟨⟨β, W, hR⟩, hf⟩ := hs
          obtain ⟨β', W', hR'⟩ := hR.freeze hl (notGro_spec hng) ho hc
          refine ⟨⟨β', W', ?_⟩, fun z hz => ?_⟩
          · dsimp only
            rw [List.length_map]
            exact hR'
          · show look (frzV _ s.cs _) z = none
            rw [look_frzV]
            split
            · rfl
            · have hz' := hf z hz
              dsimp only at hz'
              rw [hz']; rfl
        · cases h
      · cases h
    · rename_i heq
      injection heq with heq0 heq; subst heq; subst heq0
      split at h
      · rename_i hd ht
        split at h
        · rename_i T cs ow m es hsh hl
          have hc := hok _ (thaw_out h _ (List.mem_cons_self ..))
          refine ih h hok (tr0 := tr0) (out0 := out0) ?_
          obtain ⟨⟨β, W, hR⟩, hf⟩ := hs
          refine ⟨⟨β, W, ?_⟩, hf⟩
          dsimp only
          rw [setT_length]
          exact hR.settle (s := ⟨T, cs, ow, .gro m es hsh⟩) hd ht hl rfl hc
        · cases h
      · cases h
    · injection h with h; subst h; exact hs
end
end Go.Proofs.YtnncfbmddpijcaaGreatDoor.AM
